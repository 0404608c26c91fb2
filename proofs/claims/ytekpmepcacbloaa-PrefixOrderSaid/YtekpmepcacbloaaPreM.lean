/- Plain facts on trees of nodes: what leads to a node, ways down, what is found, what is put in; no conditions but those that each names. -/
import Derived.Test.YtekpmepcacbloaaPreO
namespace Go.Proofs.Ytekpmepcacbloaa.Wd
open Go Go.RowKit
set_option linter.unusedVariables false

/-- What is left of a text behind its first n bytes. -/
def cutB (s : ByteArray) (n : Nat) : ByteArray := s.extract n s.size
theorem lb_ext (s : ByteArray) (i j : Nat) : lb (s.extract i j) = ((lb s).drop i).take (j - i) := by
  show (s.extract i j).data.toList = _
  rw [ByteArray.data_extract, Array.toList_extract]
theorem lb_cut (s : ByteArray) (n : Nat) : lb (cutB s n) = (lb s).drop n := by
  unfold cutB
  rw [lb_ext, List.take_of_length_le]
  rw [List.length_drop, list_size]; exact Nat.le_refl _
theorem lb_front (s : ByteArray) (n : Nat) : lb (s.extract 0 n) = (lb s).take n := by rw [lb_ext]; simp
theorem lb_len (s : ByteArray) : (lb s).length = s.size := list_size s
theorem cut_size (s : ByteArray) (n : Nat) : (cutB s n).size = s.size - n := by rw [← lb_len, lb_cut, List.length_drop, lb_len]
theorem front_size (s : ByteArray) (n : Nat) (h : n ≤ s.size) : (s.extract 0 n).size = n := by rw [← lb_len, lb_front, List.length_take, lb_len]; omega
theorem lb_inj {a b : ByteArray} (h : lb a = lb b) : a = b := by
  cases a; cases b; simp only [lb] at h; rw [Array.toList_inj.1 h]
/-- A text's first byte. -/
def hdB (s : ByteArray) : UInt8 := (lb s).headD 0
theorem hd_some {s : ByteArray} (h : 0 < s.size) : (lb s).head? = some (hdB s) := by
  have : (lb s).length = s.size := list_size s
  unfold hdB
  cases e : lb s with
  | nil => rw [e] at this; simp at this; omega
  | cons a l => rfl
theorem hd_of {s : ByteArray} {c : UInt8} (h : (lb s).head? = some c) : hdB s = c ∧ 0 < s.size := by
  have : (lb s).length = s.size := list_size s
  unfold hdB
  cases e : lb s with
  | nil => rw [e] at h; cases h
  | cons a l => rw [e] at h this; simp at h this; exact ⟨h, by omega⟩
theorem hd_at {s : ByteArray} (h : 0 < s.size) : s[0] = hdB s := by
  have hl : 0 < (lb s).length := by rw [list_size]; exact h
  rw [← list_at s 0 h hl]
  unfold hdB
  cases e : lb s with
  | nil => rw [e] at hl; simp at hl
  | cons a l => simp [e]

/-! ### Nodes -/
/-- A node: what leads to it, its step, its map's block, the nodes below by bytes, its rule. -/
structure Nd where
  path : List UInt8
  step : ByteArray
  mp : Option Nat
  dn : List (UInt8 × Nat)
  rule : Option Rl
def look : List (UInt8 × Nat) → UInt8 → Option Nat
  | [], _ => none
  | e :: d, c => if e.1 = c then some e.2 else look d c
def putD : List (UInt8 × Nat) → UInt8 → Nat → List (UInt8 × Nat)
  | [], c, b => [(c, b)]
  | e :: d, c, b => if e.1 = c then (c, b) :: d else e :: putD d c b
theorem look_put : ∀ (d : List (UInt8 × Nat)) (c : UInt8) (b : Nat) (c' : UInt8), look (putD d c b) c' = if c = c' then some b else look d c'
  | [], c, b, c' => by
    by_cases h : c = c'
    · simp [putD, look, h]
    · simp [putD, look, h]
  | e :: d, c, b, c' => by
    have ih := look_put d c b c'
    by_cases h : e.1 = c
    · by_cases h' : c = c'
      · simp [putD, look, h, h']
      · simp [putD, look, h, h']
    · by_cases h' : e.1 = c'
      · have : ¬ c = c' := fun g => h (h'.trans g.symm)
        rw [putD, if_neg h, look, if_pos h', look, if_pos h', if_neg this]
      · rw [putD, if_neg h, look, if_neg h', look, if_neg h', ih]

/-- A wood: nodes by their blocks. -/
structure Wood (F : Nat → Option Nd) (R : Nat) : Prop where
  root : ∃ nd, F R = some nd ∧ nd.path = [] ∧ nd.step.size = 0
  down : ∀ b nd c b', F b = some nd → look nd.dn c = some b' → ∃ nd', F b' = some nd' ∧ nd'.path = nd.path ++ lb nd'.step ∧ (lb nd'.step).head? = some c
  up : ∀ b nd, F b = some nd → b ≠ R → ∃ p np c, F p = some np ∧ look np.dn c = some b
  one : ∀ b p np c q nq d, F p = some np → look np.dn c = some b → F q = some nq → look nq.dn d = some b → p = q
def upd (F : Nat → Option Nd) (b : Nat) (nd : Nd) : Nat → Option Nd := fun x => if x = b then some nd else F x
theorem upd_same (F : Nat → Option Nd) (b : Nat) (nd : Nd) : upd F b nd b = some nd := if_pos rfl
theorem upd_other (F : Nat → Option Nd) {b x : Nat} (nd : Nd) (h : x ≠ b) : upd F b nd x = F x := if_neg h

theorem Wood.notRoot {F : Nat → Option Nd} {R : Nat} (h : Wood F R) {b : Nat} {nd : Nd} {c : UInt8} (hb : F b = some nd) : look nd.dn c ≠ some R := fun e => by
  obtain ⟨nd', e1, e2, e3⟩ := h.down b nd c R hb e
  obtain ⟨r, f1, f2, f3⟩ := h.root
  rw [f1] at e1
  cases e1
  have := (hd_of e3).2
  omega
/-- A node is longer than the one above it. -/
theorem Wood.longer {F : Nat → Option Nd} {R : Nat} (h : Wood F R) {b b' : Nat} {nd nd' : Nd} {c : UInt8} (hb : F b = some nd) (hc : look nd.dn c = some b') (hb' : F b' = some nd') : nd'.path = nd.path ++ lb nd'.step ∧ (lb nd'.step).head? = some c ∧ nd.path.length < nd'.path.length := by
  obtain ⟨x, e1, e2, e3⟩ := h.down b nd c b' hb hc
  rw [hb'] at e1
  cases e1
  refine ⟨e2, e3, ?_⟩
  have := (hd_of e3).2
  rw [e2, List.length_append, lb_len]
  omega

/-! ### Ways -/
/-- The way of a text from a node down: the nodes that it comes by, and what is left behind each. -/
inductive Way (F : Nat → Option Nd) : Option Nat → ByteArray → List (Nat × ByteArray) → Prop
  | none {l} : Way F none l []
  | off {b nd l} : F b = some nd → ¬ lb nd.step <+: lb l → Way F (some b) l []
  | last {b nd l} : F b = some nd → lb nd.step <+: lb l → (cutB l nd.step.size).size = 0 → Way F (some b) l [(b, cutB l nd.step.size)]
  | on {b nd l xs} : F b = some nd → lb nd.step <+: lb l → 0 < (cutB l nd.step.size).size → Way F (look nd.dn (hdB (cutB l nd.step.size))) (cutB l nd.step.size) xs → Way F (some b) l ((b, cutB l nd.step.size) :: xs)

theorem pre_size {a b : ByteArray} (h : lb a <+: lb b) : a.size ≤ b.size := by have := h.length_le; rwa [list_size, list_size] at this
theorem pre_cut {a b : ByteArray} (h : lb a <+: lb b) : lb b = lb a ++ lb (cutB b a.size) := by
  rw [lb_cut]
  obtain ⟨t, e⟩ := h
  rw [← e, ← list_size, List.drop_left]
theorem cut_cut (s : ByteArray) (m n : Nat) : cutB (cutB s m) n = cutB s (m + n) := lb_inj (by rw [lb_cut, lb_cut, lb_cut, List.drop_drop])

/-- What is left is what is left of the text behind what led there. -/
theorem Way.parts {F : Nat → Option Nd} {R : Nat} (W : Wood F R) {K : ByteArray} : ∀ {o l xs}, Way F o l xs → (∀ b nd, o = some b → F b = some nd → ∃ np, nd.path = np ++ lb nd.step ∧ lb K = np ++ lb l) →
    ∀ x ∈ xs, ∃ nd, F x.1 = some nd ∧ lb K = nd.path ++ lb x.2 := by
  intro o l xs h
  induction h with
  | none => intro _ x hx; cases hx
  | off _ _ => intro _ x hx; cases hx
  | @last b nd l hb hp h0 =>
    intro hk x hx
    simp only [List.mem_cons, List.not_mem_nil, or_false] at hx
    subst hx
    obtain ⟨np, e1, e2⟩ := hk b nd rfl hb
    exact ⟨nd, hb, by rw [e1, e2, List.append_assoc, ← pre_cut hp]⟩
  | @on b nd l xs hb hp h0 hw ih =>
    intro hk x hx
    obtain ⟨np, e1, e2⟩ := hk b nd rfl hb
    have e3 : lb K = nd.path ++ lb (cutB l nd.step.size) := by rw [e1, e2, List.append_assoc, ← pre_cut hp]
    rcases List.mem_cons.1 hx with rfl | hx
    · exact ⟨nd, hb, e3⟩
    · refine ih (fun b' nd' ho hb' => ?_) x hx
      exact ⟨nd.path, (W.longer hb ho hb').1, e3⟩
theorem Way.ofRoot {F : Nat → Option Nd} {R : Nat} (W : Wood F R) {K : ByteArray} {xs} (h : Way F (some R) K xs) : ∀ x ∈ xs, ∃ nd, F x.1 = some nd ∧ lb K = nd.path ++ lb x.2 := by
  refine h.parts W (fun b nd e hb => ?_)
  cases e
  obtain ⟨r, f1, f2, f3⟩ := W.root
  rw [hb] at f1
  cases f1
  have : lb nd.step = [] := List.eq_nil_of_length_eq_zero (by rw [list_size]; exact f3)
  exact ⟨[], by rw [f2, this]; rfl, rfl⟩
/-- What is left gets less. -/
theorem Way.less {F : Nat → Option Nd} {R : Nat} (W : Wood F R) : ∀ {o l xs}, Way F o l xs → (∀ x ∈ xs, x.2.size ≤ l.size ∧ ((∀ b nd, o = some b → F b = some nd → 0 < nd.step.size) → 0 < l.size → x.2.size < l.size)) ∧ xs.Pairwise (fun x y => y.2.size < x.2.size) := by
  intro o l xs h
  induction h with
  | none => exact ⟨fun x hx => (by cases hx), List.Pairwise.nil⟩
  | off _ _ => exact ⟨fun x hx => (by cases hx), List.Pairwise.nil⟩
  | @last b nd l hb hp h0 =>
    refine ⟨fun x hx => ?_, List.pairwise_singleton _ _⟩
    simp only [List.mem_cons, List.not_mem_nil, or_false] at hx
    subst hx
    exact ⟨by show (cutB l _).size ≤ _; omega, fun _ _ => by show (cutB l _).size < _; omega⟩
  | @on b nd l xs hb hp h0 hw ih =>
    have hsz := cut_size l nd.step.size
    have hst : ∀ b' nd', look nd.dn (hdB (cutB l nd.step.size)) = some b' → F b' = some nd' → 0 < nd'.step.size := fun b' nd' e hb' => (hd_of (W.longer hb e hb').2.1).2
    refine ⟨fun x hx => ?_, List.pairwise_cons.2 ⟨fun y hy => (ih.1 y hy).2 hst h0, ih.2⟩⟩
    rcases List.mem_cons.1 hx with rfl | hx
    · exact ⟨by show (cutB l _).size ≤ _; omega, fun g _ => by have := g b nd rfl hb; show (cutB l _).size < _; omega⟩
    · have := (ih.1 x hx).2 hst h0
      exact ⟨by omega, fun _ _ => by omega⟩
/-- From a node on the way to the next one. -/
theorem Way.next {F : Nat → Option Nd} : ∀ {o l xs}, Way F o l xs → ∀ {p l1 np b' nd'}, (p, l1) ∈ xs → F p = some np → 0 < l1.size → look np.dn (hdB l1) = some b' → F b' = some nd' → lb nd'.step <+: lb l1 → (b', cutB l1 nd'.step.size) ∈ xs := by
  intro o l xs h
  induction h with
  | none => intro p l1 np b' nd' hx; cases hx
  | off _ _ => intro p l1 np b' nd' hx; cases hx
  | @last b nd l hb hp h0 =>
    intro p l1 np b' nd' hx _ h1
    simp only [List.mem_cons, List.not_mem_nil, or_false, Prod.mk.injEq] at hx
    obtain ⟨rfl, rfl⟩ := hx
    omega
  | @on b nd l xs hb hp h0 hw ih =>
    intro p l1 np b' nd' hx hF h1 hl hb' hpre
    rcases List.mem_cons.1 hx with e | hx
    · simp only [Prod.mk.injEq] at e
      obtain ⟨rfl, rfl⟩ := e
      rw [hb] at hF
      cases hF
      rw [hl] at hw
      refine List.mem_cons_of_mem _ ?_
      cases hw with
      | off g1 g2 => rw [hb'] at g1; cases g1; exact absurd hpre g2
      | last g1 g2 g3 => rw [hb'] at g1; cases g1; exact List.mem_cons_self
      | on g1 g2 g3 g4 => rw [hb'] at g1; cases g1; exact List.mem_cons_self
    · exact List.mem_cons_of_mem _ (ih hx hF h1 hl hb' hpre)
/-- Where a way ends. -/
theorem Way.ends {F : Nat → Option Nd} : ∀ {o l xs}, Way F o l xs → ∀ {ys p l1 np}, xs = ys ++ [(p, l1)] → F p = some np → l1.size = 0 ∨ Way F (look np.dn (hdB l1)) l1 [] := by
  intro o l xs h
  induction h with
  | none => intro ys p l1 np e; simp at e
  | off _ _ => intro ys p l1 np e; simp at e
  | @last b nd l hb hp h0 =>
    intro ys p l1 np e hF
    left
    cases ys with
    | nil => simp at e; rw [← e.2]; exact h0
    | cons a ys => simp at e
  | @on b nd l xs hb hp h0 hw ih =>
    intro ys p l1 np e hF
    cases ys with
    | nil =>
      simp at e
      obtain ⟨⟨rfl, rfl⟩, rfl⟩ := e
      rw [hb] at hF
      cases hF
      exact .inr hw
    | cons a ys =>
      simp only [List.cons_append, List.cons.injEq] at e
      exact ih e.2 hF
/-- There is a way. -/
theorem Wood.way {F : Nat → Option Nd} {R : Nat} (W : Wood F R) : ∀ (n : Nat) (o : Option Nat) (l : ByteArray), l.size ≤ n → (∀ b, o = some b → ∃ nd, F b = some nd ∧ 0 < nd.step.size) → ∃ xs, Way F o l xs
  | n, none, l, _, _ => ⟨[], .none⟩
  | n, some b, l, hn, ho => by
    obtain ⟨nd, hb, h0⟩ := ho b rfl
    by_cases hp : lb nd.step <+: lb l
    · by_cases hz : (cutB l nd.step.size).size = 0
      · exact ⟨_, .last hb hp hz⟩
      · have hc := cut_size l nd.step.size
        match n, hn with
        | 0, hn => omega
        | n + 1, hn =>
          obtain ⟨xs, hxs⟩ := W.way n (look nd.dn (hdB (cutB l nd.step.size))) (cutB l nd.step.size) (by omega) (fun b' e => by
            obtain ⟨nd', e1, e2, e3⟩ := W.down b nd _ b' hb e
            exact ⟨nd', e1, (hd_of e3).2⟩)
          exact ⟨_, .on hb hp (by omega) hxs⟩
    · exact ⟨_, .off hb hp⟩
theorem Wood.rootWay {F : Nat → Option Nd} {R : Nat} (W : Wood F R) (K : ByteArray) : ∃ xs, Way F (some R) K xs := by
  obtain ⟨r, f1, f2, f3⟩ := W.root
  have hp : lb r.step <+: lb K := by
    have : lb r.step = [] := List.eq_nil_of_length_eq_zero (by rw [list_size]; exact f3)
    rw [this]; exact List.nil_prefix
  by_cases hz : (cutB K r.step.size).size = 0
  · exact ⟨_, .last f1 hp hz⟩
  · obtain ⟨xs, hxs⟩ := W.way _ (look r.dn (hdB (cutB K r.step.size))) (cutB K r.step.size) (Nat.le_refl _) (fun b' e => by
      obtain ⟨nd', e1, e2, e3⟩ := W.down R r _ b' f1 e
      exact ⟨nd', e1, (hd_of e3).2⟩)
    exact ⟨_, .on f1 hp (by omega) hxs⟩
theorem Way.head {F : Nat → Option Nd} {R : Nat} (W : Wood F R) {K : ByteArray} {xs} (h : Way F (some R) K xs) : (R, K) ∈ xs := by
  obtain ⟨r, f1, f2, f3⟩ := W.root
  have e : cutB K r.step.size = K := lb_inj (by rw [lb_cut, f3]; rfl)
  have hp : lb r.step <+: lb K := by
    have : lb r.step = [] := List.eq_nil_of_length_eq_zero (by rw [list_size]; exact f3)
    rw [this]; exact List.nil_prefix
  cases h with
  | off g1 g2 => rw [f1] at g1; cases g1; exact absurd hp g2
  | last g1 g2 g3 => rw [f1] at g1; cases g1; rw [e]; exact List.mem_cons_self
  | on g1 g2 g3 g4 => rw [f1] at g1; cases g1; rw [e]; exact List.mem_cons_self
/-- Whoever leads to the text's front is on its way. -/
theorem Way.full {F : Nat → Option Nd} {R : Nat} (W : Wood F R) {K : ByteArray} {xs} (h : Way F (some R) K xs) : ∀ (n : Nat) (b : Nat) (nd : Nd), nd.path.length ≤ n → F b = some nd → nd.path <+: lb K → (b, cutB K nd.path.length) ∈ xs
  | n, b, nd, hn, hb, hp => by
    by_cases hR : b = R
    · subst hR
      obtain ⟨r, f1, f2, f3⟩ := W.root
      rw [hb] at f1
      cases f1
      rw [f2]
      have e : cutB K ([] : List UInt8).length = K := lb_inj (by rw [lb_cut]; rfl)
      rw [e]
      exact h.head W
    · obtain ⟨p, np, c, e1, e2⟩ := W.up b nd hb hR
      obtain ⟨g1, g2, g3⟩ := W.longer e1 e2 hb
      match n, hn with
      | 0, hn => omega
      | n + 1, hn =>
        have hpp : np.path <+: lb K := List.IsPrefix.trans ⟨lb nd.step, g1.symm⟩ hp
        have ih := Way.full W h n p np (by omega) e1 hpp
        have hk : lb (cutB K np.path.length) = (lb K).drop np.path.length := lb_cut _ _
        have hpre : lb nd.step <+: lb (cutB K np.path.length) := by
          rw [hk]
          obtain ⟨t, ht⟩ := hp
          refine ⟨t, ?_⟩
          rw [← ht, g1, List.append_assoc, List.drop_left]
        have hh := hd_of g2
        have h1 : (lb (cutB K np.path.length)).head? = some c := by
          obtain ⟨t, ht⟩ := hpre
          rw [← ht, List.head?_append, g2]; rfl
        have h2 := hd_of h1
        have := h.next ih e1 h2.2 (by rw [h2.1]; exact e2) hb hpre
        rw [cut_cut, ← list_size nd.step, ← List.length_append, ← g1] at this
        exact this
theorem Wood.inj {F : Nat → Option Nd} {R : Nat} (W : Wood F R) {b b' : Nat} {nd nd' : Nd} (hb : F b = some nd) (hb' : F b' = some nd') (e : nd.path = nd'.path) : b = b' := by
  obtain ⟨xs, hx⟩ := W.rootWay ⟨nd.path.toArray⟩
  have h1 := hx.full W _ b nd (Nat.le_refl _) hb (List.prefix_rfl)
  have h2 := hx.full W _ b' nd' (Nat.le_refl _) hb' (by rw [← e]; exact List.prefix_rfl)
  rw [← e] at h2
  have hs := (hx.less W).2
  obtain ⟨i, hi, e1⟩ := List.getElem_of_mem h1
  obtain ⟨j, hj, e2⟩ := List.getElem_of_mem h2
  rw [List.pairwise_iff_getElem] at hs
  rcases Nat.lt_trichotomy i j with g | g | g
  · have := hs i j hi hj g; rw [e1, e2] at this; exact absurd this (Nat.lt_irrefl _)
  · subst g; rw [e1] at e2; exact (Prod.mk.inj e2).1
  · have := hs j i hj hi g; rw [e1, e2] at this; exact absurd this (Nat.lt_irrefl _)
end Go.Proofs.Ytekpmepcacbloaa.Wd
