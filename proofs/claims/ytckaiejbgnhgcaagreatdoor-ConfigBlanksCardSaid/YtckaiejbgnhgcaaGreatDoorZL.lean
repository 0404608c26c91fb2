/- Rows of rules: how they lie in memory, and by their prefixes; plain facts; no conditions but those that each names. What config.Order answers, for any rules; no conditions but those that each names. What config.has, may, texts, prefixes and prefixAt answer, for any rules and words; no conditions but those that each names. What config.texts and config.prefixes answer, for any words and rules; no conditions but those that each names. What config.Right answers, for any policy; no conditions but those that each names. What rule.Print answers, and that its row is a new one; no conditions but those that each names. What config.Print answers, for any policy; no conditions but those that each names. -/
import Derived.Test.YtckaiejbgnhgcaaGreatDoorZK
import Derived.Test.YtckaiejbgnhgcaaGreatDoorZE
import Derived.OwnWalk
import Derived.Laws.OwnMore
import Derived.Test.YtckaiejbgnhgcaaGreatDoorZH
import Derived.Test.YtckaiejbgnhgcaaGreatDoorZD
namespace Go.Proofs.YtckaiejbgnhgcaaGreatDoor.Wd
open Go Go.RowKit
set_option linter.unusedVariables false
set_option maxRecDepth 100000

abbrev rl0 : Rl := ⟨⟨#[]⟩, 0, 0, 0⟩
/-- A rule that can be handed on. -/
structure Okr (r : Rl) : Prop where
  p : r.p.size ≤ 281474976710656
  e : U r.e
  b : U r.b
  k : 0 ≤ r.k ∧ r.k ≤ 255
theorem okr0 : Okr rl0 := ⟨by decide, ⟨by decide, by decide⟩, ⟨by decide, by decide⟩, by decide, by decide⟩
abbrev fnOf (rs : List Rl) : Nat → Rl := fun k => rs.getD k rl0
theorem fn_at {rs : List Rl} {k : Nat} (h : k < rs.length) : fnOf rs k = rs[k] := by simp [fnOf, List.getD_eq_getElem?_getD, List.getElem?_eq_getElem h]
theorem fn_mem {rs : List Rl} {k : Nat} (h : k < rs.length) : fnOf rs k ∈ rs := by rw [fn_at h]; exact List.getElem_mem h
theorem fn_out {rs : List Rl} {k : Nat} (h : rs.length ≤ k) : fnOf rs k = rl0 := by simp [fnOf, List.getD_eq_getElem?_getD, List.getElem?_eq_none h]
theorem fn_ok {rs : List Rl} (h : ∀ r ∈ rs, Okr r) (k : Nat) : Okr (fnOf rs k) := by
  by_cases c : k < rs.length
  · exact h _ (fn_mem c)
  · rw [fn_out (by omega)]; exact okr0
theorem fn_ext {a b : List Rl} (hl : a.length = b.length) (h : ∀ k, k < a.length → fnOf a k = fnOf b k) : a = b := by
  refine List.ext_getElem hl fun i h1 h2 => ?_
  have := h i h1
  rwa [fn_at h1, fn_at h2] at this
theorem fn_take {rs : List Rl} {k j : Nat} (h : j < k) : fnOf (rs.take k) j = fnOf rs j := by
  simp [fnOf, List.getD_eq_getElem?_getD, List.getElem?_take, if_pos h]
theorem fn_drop {rs : List Rl} {k j : Nat} : fnOf (rs.drop k) j = fnOf rs (k + j) := by
  simp [fnOf, List.getD_eq_getElem?_getD, List.getElem?_drop]
theorem fn_app1 {a b : List Rl} {k : Nat} (h : k < a.length) : fnOf (a ++ b) k = fnOf a k := by
  simp [fnOf, List.getD_eq_getElem?_getD, List.getElem?_append_left h]
theorem fn_app2 {a b : List Rl} {k : Nat} (h : a.length ≤ k) : fnOf (a ++ b) k = fnOf b (k - a.length) := by
  simp [fnOf, List.getD_eq_getElem?_getD, List.getElem?_append_right h]

/-! ### In memory -/
def Rls (w : World) (A : Option Addr) (n : Nat) (rs : List Rl) : Prop :=
  rs.length = n ∧ (∀ r ∈ rs, Okr r) ∧ (0 < n → ∃ b off, A = some ⟨b, off, none⟩ ∧ b < w.heap.size ∧ ∀ k, k < n → R4 w b (off + k * 4) (fnOf rs k))
theorem Rls.below {w w' : World} {A : Option Addr} {n : Nat} {rs : List Rl} (h : Rls w A n rs) (k : Below w.heap.size w w') : Rls w' A n rs :=
  ⟨h.1, h.2.1, fun hn => by
    obtain ⟨b, off, e, hb, hc⟩ := h.2.2 hn
    exact ⟨b, off, e, Nat.lt_of_lt_of_le hb k.size, fun j hj => (hc j hj).of_block (k.block _ hb)⟩⟩
theorem Rls.nil (w : World) (A : Option Addr) : Rls w A 0 [] := ⟨rfl, (fun _ h => nomatch h), fun h => absurd h (Nat.lt_irrefl _)⟩
theorem Rls.front {w : World} {A : Option Addr} {n k : Nat} {rs : List Rl} (h : Rls w A n rs) (hk : k ≤ n) : Rls w A k (rs.take k) :=
  ⟨by rw [List.length_take, h.1]; omega, fun x hx => h.2.1 x (List.mem_of_mem_take hx), fun hn => by
    obtain ⟨b, off, e, hb, hc⟩ := h.2.2 (by omega)
    exact ⟨b, off, e, hb, fun j hj => by rw [fn_take hj]; exact hc j (by omega)⟩⟩
theorem Rls.cut {w : World} {b off n k : Nat} {rs : List Rl} (h : Rls w (some ⟨b, off, none⟩) n rs) (hk : k ≤ n) : Rls w (some ⟨b, off + k * 4, none⟩) (n - k) (rs.drop k) :=
  ⟨by rw [List.length_drop, h.1], fun x hx => h.2.1 x (List.mem_of_mem_drop hx), fun hn => by
    obtain ⟨b', off', e, hb, hc⟩ := h.2.2 (by omega)
    simp only [Option.some.injEq, Addr.mk.injEq] at e
    obtain ⟨rfl, rfl, _⟩ := e
    refine ⟨b, off + k * 4, rfl, hb, fun j hj => ?_⟩
    rw [fn_drop, show off + k * 4 + j * 4 = off + (k + j) * 4 by omega]
    exact hc (k + j) (by omega)⟩
theorem Rls.ok {w : World} {A : Option Addr} {n : Nat} {rs : List Rl} (h : Rls w A n rs) (k : Nat) : Okr (fnOf rs k) := fn_ok h.2.1 k

/-! ### A row that a call owns -/
def flatR : List Rl → List Value
  | [] => []
  | r :: l => r.cs ++ flatR l
theorem flatR_append (a b : List Rl) : flatR (a ++ b) = flatR a ++ flatR b := by
  induction a with
  | nil => rfl
  | cons x a ih => simp [flatR, ih]
theorem flatR_length (a : List Rl) : (flatR a).length = a.length * 4 := by
  induction a with
  | nil => rfl
  | cons x a ih => simp [flatR, ih]; omega
theorem flatR_at : ∀ (rs : List Rl) (k : Nat), k < rs.length → (flatR rs)[k * 4]? = some (.string (fnOf rs k).p) ∧ (flatR rs)[k * 4 + 1]? = some (.int .u64 (fnOf rs k).e) ∧ (flatR rs)[k * 4 + 2]? = some (.int .u64 (fnOf rs k).b) ∧ (flatR rs)[k * 4 + 3]? = some (.int .u8 (fnOf rs k).k)
  | [], k, h => by simp at h
  | r :: l, 0, h => by simp [flatR, fnOf]
  | r :: l, k + 1, h => by
    have ih := flatR_at l k (by simpa using h)
    have e : fnOf (r :: l) (k + 1) = fnOf l k := by simp [fnOf]
    rw [e]
    have s : ∀ j, (flatR (r :: l))[(k + 1) * 4 + j]? = (flatR l)[k * 4 + j]? := by
      intro j
      rw [show (k + 1) * 4 + j = (k * 4 + j) + 4 by omega, flatR, List.getElem?_append_right (by simp)]
      simp
    exact ⟨(s 0).trans ih.1, (s 1).trans ih.2.1, (s 2).trans ih.2.2.1, (s 3).trans ih.2.2.2⟩
theorem flatR_one (rs : List Rl) : ∀ u ∈ flatR rs, u.oneCell' = true := by
  induction rs with
  | nil => intro u hu; cases hu
  | cons r l ih =>
    intro u hu
    rw [flatR, List.mem_append] at hu
    rcases hu with hu | hu
    · simp only [List.mem_cons, List.not_mem_nil, or_false] at hu
      rcases hu with rfl | rfl | rfl | rfl <;> rfl
    · exact ih u hu
def ORls (w : World) (base : Nat) (v : Value) (rs : List Rl) : Prop := w.ownsRow base 37 4 v rs.length (flatR rs)
theorem ORls.nil (w : World) (base : Nat) : ORls w base (.slice none 0 0) [] := World.ownsRow_nil _ _ _ _
theorem r4_of_block {w : World} {B o : Nat} {cs : Array Value} {t : TypeId} {fr : Nat × Nat} {r : Rl} (h : w.heap[B]? = some (.cells cs t fr)) (h0 : cs[o]? = some (.string r.p)) (h1 : cs[o + 1]? = some (.int .u64 r.e)) (h2 : cs[o + 2]? = some (.int .u64 r.b)) (h3 : cs[o + 3]? = some (.int .u8 r.k)) : R4 w B o r := by
  refine ⟨?_, ?_, ?_, ?_⟩ <;> (unfold World.cell?; simp [h, h0, h1, h2, h3])
theorem s4_of_block {w : World} {B o : Nat} {cs : Array Value} {t : TypeId} (h : w.heap[B]? = some (.cells cs t (0, 0))) : S4 w B o := by
  refine ⟨?_, ?_, ?_, ?_⟩ <;> (unfold World.frozen?; simp [h])
theorem ORls.rls {w : World} {base : Nat} {v : Value} {rs : List Rl} (h : ORls w base v rs) (hx : ∀ r ∈ rs, Okr r) :
    ∃ A c, v = .slice A rs.length c ∧ rs.length ≤ c ∧ c ≤ 9223372036854775807 ∧ Rls w A rs.length rs := by
  obtain ⟨h1, h2⟩ := h
  rcases h2 with ⟨rfl, h0⟩ | ⟨g, cap, cur, rfl, hb, hg, hc1, hc2, hsz, htk⟩
  · have : rs = [] := List.eq_nil_of_length_eq_zero h0
    subst this
    exact ⟨none, 0, rfl, by simp, by omega, Rls.nil _ _⟩
  · refine ⟨_, cap, rfl, hc1, hc2, rfl, hx, fun hn => ⟨g, 0, rfl, lt_heap hg, fun k hk => ?_⟩⟩
    have at_ : ∀ j, j < 4 → cur[0 + k * 4 + j]? = (flatR rs)[k * 4 + j]? := by
      intro j hj
      have e : (cur.toList.take (rs.length * 4))[k * 4 + j]? = (flatR rs)[k * 4 + j]? := by rw [htk]
      rw [List.getElem?_take, if_pos (by omega)] at e
      rw [Nat.zero_add, ← e]; simp
    obtain ⟨f0, f1, f2, f3⟩ := flatR_at rs k hk
    exact r4_of_block hg ((at_ 0 (by omega)).trans f0) ((at_ 1 (by omega)).trans f1) ((at_ 2 (by omega)).trans f2) ((at_ 3 (by omega)).trans f3)
theorem ownR_low {w : World} {base base' : Nat} {v : Value} {rs : List Rl} (h : ORls w base v rs) (hb : base' ≤ base) : ORls w base' v rs := own_low h hb
theorem ownR_below {w w' : World} {base : Nat} {v : Value} {rs : List Rl} (h : ORls w base v rs) (g : Below w.heap.size w w') : ORls w' base v rs := by
  obtain ⟨h1, h2⟩ := h
  rcases h2 with h2 | ⟨b, cap, cur, hv, hb, hg, h3⟩
  · exact ⟨h1, .inl h2⟩
  · exact ⟨h1, .inr ⟨b, cap, cur, hv, hb, (g.block _ (lt_heap hg)).trans hg, h3⟩⟩

/-! ### By prefixes -/
/-- The first m rules, in order. -/
def OrdK (rs : List Rl) (m : Nat) (L : List Rl) : Prop :=
  L.length = m ∧ ∃ h : Nat → Nat, Mv 0 m id h ∧ Srt (lessR (fnOf rs)) 0 m h ∧ ∀ k, k < m → fnOf L k = fnOf rs (h k)
theorem OrdK.nil (rs : List Rl) : OrdK rs 0 [] := ⟨rfl, id, .refl, fun i j _ _ h => absurd h (Nat.not_lt_zero _), fun k h => absurd h (Nat.not_lt_zero _)⟩
theorem Mv.onto {a b : Nat} {f g : Nat → Nat} (x : Mv a b f g) : ∀ k, a ≤ k → k < b → ∃ j, a ≤ j ∧ j < b ∧ g j = f k := by
  induction x with
  | refl => exact fun k h1 h2 => ⟨k, h1, h2, rfl⟩
  | xch i j _ hi hib hj hjb ih =>
    intro k h1 h2
    obtain ⟨q, q1, q2, q3⟩ := ih k h1 h2
    by_cases c : q = i
    · refine ⟨j, hj, hjb, ?_⟩
      unfold Wd.xch
      by_cases d : j = i
      · rw [if_pos d, ← q3, c, d]
      · rw [if_neg d, if_pos rfl, ← q3, c]
    · by_cases d : q = j
      · refine ⟨i, hi, hib, ?_⟩
        unfold Wd.xch
        rw [if_pos rfl, ← q3, d]
      · refine ⟨q, q1, q2, ?_⟩
        unfold Wd.xch
        rw [if_neg c, if_neg d, q3]
theorem id_inj : Inj id := fun i j h => h
theorem srt_uniq {lt : Nat → Nat → Bool} (O : Swo lt) {n : Nat} {f g : Nat → Nat} (mf : Mv 0 n id f) (mg : Mv 0 n id g) (sf : Srt lt 0 n f) (sg : Srt lt 0 n g) : ∀ k, k < n → f k = g k := by
  intro k
  induction k using Nat.strongRecOn with
  | ind k ih =>
    intro hk
    obtain ⟨i0, a1, a2, a3⟩ := mf.back k (Nat.zero_le _) hk
    obtain ⟨j, b1, b2, b3⟩ := mg.onto i0 a1 a2
    have e1 : g j = f k := b3.trans a3.symm
    obtain ⟨i1, c1, c2, c3⟩ := mg.back k (Nat.zero_le _) hk
    obtain ⟨i, d1, d2, d3⟩ := mf.onto i1 c1 c2
    have e2 : f i = g k := d3.trans c3.symm
    have hj : k ≤ j := by
      by_cases h : j < k
      · have := ih j h (by omega)
        have := mf.inj id_inj j k (this.trans e1)
        omega
      · omega
    have hi : k ≤ i := by
      by_cases h : i < k
      · have := ih i h (by omega)
        have := mg.inj id_inj i k (this.symm.trans e2)
        omega
      · omega
    by_cases h1 : j = k
    · rw [← e1, h1]
    · by_cases h2 : i = k
      · rw [← e2, h2]
      · have x1 := sg k j (Nat.zero_le _) (by omega) b2
        have x2 := sf k i (Nat.zero_le _) (by omega) d2
        rw [e1] at x1
        rw [e2] at x2
        exact absurd x2 (fun x2 => x1.asy O x2)
theorem OrdK.uniq {rs L L' : List Rl} {m : Nat} (a : OrdK rs m L) (b : OrdK rs m L') : L = L' := by
  obtain ⟨a1, f, mf, sf, ef⟩ := a
  obtain ⟨b1, g, mg, sg, eg⟩ := b
  refine fn_ext (by omega) fun k hk => ?_
  rw [ef k (by omega), eg k (by omega), srt_uniq (lessR_swo _) mf mg sf sg k (by omega)]
theorem OrdK.step {rs L : List Rl} {m i : Nat} (h : OrdK rs m L) (hm : m < rs.length) (hi : i ≤ m) (hlow : ∀ k, i ≤ k → k < m → ls (lb (fnOf rs m).p) (lb (fnOf L k).p) = true) (hup : i = 0 ∨ ls (lb (fnOf rs m).p) (lb (fnOf L (i - 1)).p) = false) :
    OrdK rs (m + 1) (L.take i ++ fnOf rs m :: L.drop i) := by
  obtain ⟨a1, f, mf, sf, ef⟩ := h
  have fm : f m = m := mf.out m (.inr (Nat.le_refl _))
  refine ⟨by simp; omega, ins f m i, ?_, ?_, ?_⟩
  · have mv : ∀ d, d ≤ m - i → Mv 0 (m + 1) id (ins f m (m - d)) := by
      intro d
      induction d with
      | zero => intro _; rw [Nat.sub_zero, ins_start]; exact mf.mono (Nat.le_refl _) (by omega)
      | succ d ih =>
        intro hd
        have := ins_step f m (m - d) (by omega) (by omega)
        rw [show m - (d + 1) = m - d - 1 by omega, ← this]
        exact .xch _ _ (ih (by omega)) (Nat.zero_le _) (by omega) (Nat.zero_le _) (by omega)
    have := mv (m - i) (Nat.le_refl _)
    rwa [show m - (m - i) = i by omega] at this
  · refine ins_srt (lessR_swo _) sf (Nat.zero_le _) hi (fun k h1 h2 => ?_) ?_
    · show ls (lb (fnOf rs (f m)).p) (lb (fnOf rs (f k)).p) = true
      rw [fm, ← ef k h2]; exact hlow k h1 h2
    · by_cases c : i = 0
      · exact .inl (by omega)
      · rcases hup with h | h
        · omega
        · refine .inr ⟨?_, ?_⟩
          · show ls (lb (fnOf rs (f m)).p) (lb (fnOf rs (f (i - 1))).p) = false
            rw [fm, ← ef (i - 1) (by omega)]; exact h
          · obtain ⟨j, x, y, z⟩ := mf.back (i - 1) (Nat.zero_le _) (by omega)
            rw [fm, z]; exact y
  · intro k hk
    unfold ins
    by_cases c : k < i
    · rw [if_pos c, fn_app1 (by simp; omega), fn_take c]; exact ef k (by omega)
    · rw [if_neg c]
      by_cases d : k = i
      · rw [if_pos d, fn_app2 (by simp; omega), fm]
        simp [fnOf, d, a1, Nat.min_eq_left hi]
      · rw [if_neg d, if_pos (by omega), fn_app2 (by simp; omega)]
        have e : k - (L.take i).length = (k - 1 - i) + 1 := by simp; omega
        rw [e]
        have e2 : fnOf (fnOf rs m :: L.drop i) (k - 1 - i + 1) = fnOf (L.drop i) (k - 1 - i) := by simp [fnOf]
        rw [e2, fn_drop, show i + (k - 1 - i) = k - 1 by omega]
        exact ef (k - 1) (by omega)

/-- Where one is put among those in order: behind the last one that is not greater. -/
def posL (x : Rl) (l : List Rl) : Nat → Nat
  | 0 => 0
  | k + 1 => if ls (lb x.p) (lb (fnOf l k).p) = true then posL x l k else k + 1
theorem posL_le (x : Rl) (l : List Rl) : ∀ k, posL x l k ≤ k
  | 0 => Nat.le_refl _
  | k + 1 => by
    unfold posL
    split
    · have := posL_le x l k; omega
    · exact Nat.le_refl _
theorem posL_low (x : Rl) (l : List Rl) : ∀ k j, posL x l k ≤ j → j < k → ls (lb x.p) (lb (fnOf l j).p) = true
  | 0, j, _, h => absurd h (Nat.not_lt_zero _)
  | k + 1, j, h1, h2 => by
    unfold posL at h1
    split at h1
    · rename_i c
      by_cases e : j = k
      · rw [e]; exact c
      · exact posL_low x l k j h1 (by omega)
    · omega
theorem posL_up (x : Rl) (l : List Rl) : ∀ k, posL x l k = 0 ∨ ls (lb x.p) (lb (fnOf l (posL x l k - 1)).p) = false
  | 0 => .inl rfl
  | k + 1 => by
    unfold posL
    split
    · exact posL_up x l k
    · rename_i c
      exact .inr (by simpa using c)
def insL (x : Rl) (l : List Rl) : List Rl := l.take (posL x l l.length) ++ x :: l.drop (posL x l l.length)
/-- By their prefixes; those of one prefix as they stood. -/
def ordL (rs : List Rl) : List Rl := rs.foldl (fun l x => insL x l) []
theorem ordL_snoc (rs : List Rl) (x : Rl) : ordL (rs ++ [x]) = insL x (ordL rs) := by simp [ordL]
theorem ordK_take (rs : List Rl) : ∀ m, m ≤ rs.length → OrdK rs m (ordL (rs.take m)) := by
  intro m
  induction m with
  | zero => intro _; exact OrdK.nil rs
  | succ m ih =>
    intro h
    have e : rs.take (m + 1) = rs.take m ++ [fnOf rs m] := by
      rw [List.take_add_one, fn_at (by omega), List.getElem?_eq_getElem (by omega)]; rfl
    rw [e, ordL_snoc]
    have H := ih (by omega)
    have hl := H.1
    unfold insL
    rw [hl]
    exact H.step (by omega) (posL_le _ _ _) (posL_low _ _ _) (posL_up _ _ _)
theorem ordL_ord (rs : List Rl) : OrdK rs rs.length (ordL rs) := by
  have := ordK_take rs rs.length (Nat.le_refl _)
  rwa [List.take_length] at this
theorem ordL_is {rs L : List Rl} (h : OrdK rs rs.length L) : L = ordL rs := h.uniq (ordL_ord rs)
theorem ordL_length (rs : List Rl) : (ordL rs).length = rs.length := (ordL_ord rs).1
theorem ordL_mem (rs : List Rl) (x : Rl) : x ∈ ordL rs ↔ x ∈ rs := by
  obtain ⟨h1, f, mf, sf, ef⟩ := ordL_ord rs
  constructor
  · intro h
    obtain ⟨k, hk, e⟩ := List.getElem_of_mem h
    obtain ⟨j, _, b, c⟩ := mf.back k (Nat.zero_le _) (by omega)
    rw [← e, ← fn_at hk, ef k (by omega), c]
    exact fn_mem b
  · intro h
    obtain ⟨k, hk, e⟩ := List.getElem_of_mem h
    obtain ⟨j, _, b, c⟩ := mf.onto k (Nat.zero_le _) hk
    rw [← e, ← fn_at hk, show fnOf rs k = fnOf rs (f j) from by rw [c]; rfl, ← ef j b]
    exact fn_mem (by omega)
theorem ordL_ok {rs : List Rl} (h : ∀ r ∈ rs, Okr r) : ∀ r ∈ ordL rs, Okr r := fun r hr => h r ((ordL_mem rs r).1 hr)
theorem ordL_sorted (rs : List Rl) : ∀ i j, i < j → j < rs.length → ls (lb (fnOf (ordL rs) j).p) (lb (fnOf (ordL rs) i).p) = false := by
  obtain ⟨h1, f, mf, sf, ef⟩ := ordL_ord rs
  intro i j hij hj
  rw [ef i (by omega), ef j hj]
  exact no_of_ah (lessR_swo (fnOf rs)) (sf i j (Nat.zero_le _) hij hj)
theorem ordL_same {rs : List Rl} (h : ∀ i j, i < j → j < rs.length → ls (lb (fnOf rs j).p) (lb (fnOf rs i).p) = false) : ordL rs = rs := by
  refine (ordL_is (L := rs) ⟨rfl, id, .refl, fun i j _ h1 h2 => ?_, fun k _ => rfl⟩).symm
  exact .inr ⟨h i j h1 h2, h1⟩
theorem ordL_again (rs : List Rl) : ordL (ordL rs) = ordL rs := ordL_same (fun i j h1 h2 => ordL_sorted rs i j h1 (by rwa [ordL_length] at h2))
/-- No two have one prefix. -/
def Dst (rs : List Rl) : Prop := ∀ i j, i < j → j < rs.length → (fnOf rs i).p ≠ (fnOf rs j).p
theorem lb_inj {a b : ByteArray} (h : lb a = lb b) : a = b := by cases a; cases b; simpa using h
theorem ordL_dst (rs : List Rl) : Dst (ordL rs) ↔ Dst rs := by
  obtain ⟨h1, f, mf, sf, ef⟩ := ordL_ord rs
  constructor
  · intro H i j hij hj e
    obtain ⟨a, _, a2, a3⟩ := mf.onto i (Nat.zero_le _) (by omega)
    obtain ⟨b, _, b2, b3⟩ := mf.onto j (Nat.zero_le _) hj
    have ne : a ≠ b := by
      intro c
      rw [c, b3] at a3
      have : j = i := a3
      omega
    have e2 : (fnOf (ordL rs) a).p = (fnOf (ordL rs) b).p := by rw [ef a a2, ef b b2, a3, b3]; exact e
    rcases Nat.lt_or_gt_of_ne ne with c | c
    · exact H a b c (by omega) e2
    · exact H b a c (by omega) e2.symm
  · intro H i j hij hj e
    have hj' : j < rs.length := by omega
    rw [ef i (by omega), ef j hj'] at e
    have bi := mf.bound (Nat.le_refl _) (fun i h => h) i (by omega)
    have bj := mf.bound (Nat.le_refl _) (fun i h => h) j hj'
    have ne : f i ≠ f j := fun c => by have := mf.inj id_inj i j c; omega
    rcases Nat.lt_or_gt_of_ne ne with c | c
    · exact H _ _ c bj e
    · exact H _ _ c bi e.symm
theorem getD_map (rs : List Rl) (k : Nat) : (rs.map Rl.p).getD k nob = (fnOf rs k).p := by
  by_cases h : k < rs.length
  · rw [fn_at h]; simp [List.getD_eq_getElem?_getD, List.getElem?_eq_getElem h]
  · rw [fn_out (by omega)]; simp [List.getD_eq_getElem?_getD, List.getElem?_eq_none (Nat.le_of_not_lt h)]
theorem ordL_so (rs : List Rl) : soB ((ordL rs).map Rl.p) = true ↔ Dst rs := by
  rw [← ordL_dst]
  constructor
  · intro H i j hij hj e
    have := so_less H hij (by simpa using hj)
    rw [getD_map, getD_map, e, ls_irrefl] at this
    cases this
  · intro H
    rw [soB_iff]
    intro i hi
    rw [List.length_map] at hi
    rw [getD_map, getD_map]
    have s := ordL_sorted rs i (i + 1) (by omega) (by rwa [ordL_length] at hi)
    have t := ls_total (lb (fnOf (ordL rs) i).p) (lb (fnOf (ordL rs) (i + 1)).p)
    rw [s] at t
    have ne : (lb (fnOf (ordL rs) i).p == lb (fnOf (ordL rs) (i + 1)).p) = false := by
      rw [← Bool.not_eq_true, beq_iff_eq]
      exact fun c => H i (i + 1) (by omega) hi (lb_inj c)
    rw [ne] at t
    simpa using t
/-- Two that rise and have the same rules are the same. -/
theorem rise_uniq : ∀ (a b : List Rl), (∀ i j, i < j → j < a.length → ls (lb (fnOf a i).p) (lb (fnOf a j).p) = true) → (∀ i j, i < j → j < b.length → ls (lb (fnOf b i).p) (lb (fnOf b j).p) = true) → (∀ x, x ∈ a ↔ x ∈ b) → a = b
  | [], [], _, _, _ => rfl
  | [], y :: b, _, _, h => by have := (h y).2 (by simp); cases this
  | x :: a, [], _, _, h => by have := (h x).1 (by simp); cases this
  | x :: a, y :: b, ha, hb, h => by
    have low : ∀ {z : Rl} {l : List Rl}, (∀ i j, i < j → j < (z :: l).length → ls (lb (fnOf (z :: l) i).p) (lb (fnOf (z :: l) j).p) = true) → ∀ u ∈ l, ls (lb z.p) (lb u.p) = true := by
      intro z l hl u hu
      obtain ⟨k, hk, e⟩ := List.getElem_of_mem hu
      have := hl 0 (k + 1) (by omega) (by simpa using hk)
      rw [fn_at (by simp), fn_at (by simpa using hk)] at this
      simpa [e] using this
    have tl : ∀ {z : Rl} {l : List Rl}, (∀ i j, i < j → j < (z :: l).length → ls (lb (fnOf (z :: l) i).p) (lb (fnOf (z :: l) j).p) = true) → ∀ i j, i < j → j < l.length → ls (lb (fnOf l i).p) (lb (fnOf l j).p) = true := by
      intro z l hl i j hij hj
      have := hl (i + 1) (j + 1) (by omega) (by simpa using hj)
      simpa [fnOf] using this
    have exy : x = y := by
      have h1 := (h x).1 (by simp)
      have h2 := (h y).2 (by simp)
      rcases List.mem_cons.1 h1 with e | e
      · exact e
      · rcases List.mem_cons.1 h2 with e2 | e2
        · exact e2.symm
        · have a1 := low hb x e
          have a2 := low ha y e2
          rw [ls_asymm _ _ a1] at a2; cases a2
    subst exy
    have : a = b := by
      refine rise_uniq a b (tl ha) (tl hb) fun u => ⟨fun hu => ?_, fun hu => ?_⟩
      · rcases List.mem_cons.1 ((h u).1 (List.mem_cons_of_mem _ hu)) with e | e
        · have := low ha u hu; rw [e, ls_irrefl] at this; cases this
        · exact e
      · rcases List.mem_cons.1 ((h u).2 (List.mem_cons_of_mem _ hu)) with e | e
        · have := low hb u hu; rw [e, ls_irrefl] at this; cases this
        · exact e
    rw [this]
theorem ordL_rise {rs : List Rl} (h : Dst rs) : ∀ i j, i < j → j < (ordL rs).length → ls (lb (fnOf (ordL rs) i).p) (lb (fnOf (ordL rs) j).p) = true := by
  intro i j hij hj
  have := so_less ((ordL_so rs).2 h) hij (by simpa using hj)
  rwa [getD_map, getD_map] at this
theorem ordL_perm {a b : List Rl} (ha : Dst a) (hb : Dst b) (h : ∀ x, x ∈ a ↔ x ∈ b) : ordL a = ordL b :=
  rise_uniq _ _ (ordL_rise ha) (ordL_rise hb) fun x => by rw [ordL_mem, ordL_mem]; exact h x
end Go.Proofs.YtckaiejbgnhgcaaGreatDoor.Wd
namespace Go.Proofs.YtckaiejbgnhgcaaGreatDoor.Wd
open Go Go.RowKit
set_option linter.unusedVariables false
set_option maxRecDepth 100000

theorem zeroRule : (Tryz.prog.info? 37).map (fun i => (i.zero, i.size, i.bytes)) = some (some (.agg #[.string ⟨#[]⟩, .int .u64 0, .int .u64 0, .int .u8 0]), 4, 40) := by kernel_rfl
theorem made_so {w : World} {base g n : Nat} (h : w.ownsRow base 37 4 (.slice (some ⟨g, 0, none⟩) n n) n (madeCells (Value.agg #[.string ⟨#[]⟩, .int .u64 0, .int .u64 0, .int .u8 0]).cells (n * 4)).toList) :
    g < w.heap.size ∧ ∀ k, k < n → R4 w g (k * 4) rl0 ∧ S4 w g (k * 4) := by
  obtain ⟨h1, h2⟩ := h
  rcases h2 with ⟨e, _⟩ | ⟨g', cap, cur, e, hb, hg, hc1, hc2, hsz, htk⟩
  · cases e
  · simp only [Value.slice.injEq, Option.some.injEq, Addr.mk.injEq, and_true, true_and] at e
    obtain ⟨rfl, rfl⟩ := e
    refine ⟨lt_heap hg, fun k hk => ⟨?_, s4_of_block hg⟩⟩
    have at_ : ∀ j, j < 4 → cur[k * 4 + j]? = some ((Value.agg #[.string ⟨#[]⟩, .int .u64 0, .int .u64 0, .int .u8 0]).cells[j]!) := by
      intro j hj
      have e : (cur.toList.take (n * 4))[k * 4 + j]? = (madeCells (Value.agg #[.string ⟨#[]⟩, .int .u64 0, .int .u64 0, .int .u8 0]).cells (n * 4)).toList[k * 4 + j]? := by rw [htk]
      rw [List.getElem?_take, if_pos (by omega)] at e
      have e2 : cur[k * 4 + j]? = cur.toList[k * 4 + j]? := by simp
      rw [e2, e]
      unfold madeCells
      have hlt : k * 4 + j < n * 4 := by omega
      simp [hlt]
      have : (k * 4 + j) % 4 = j := by omega
      simp [Value.cells, this]
    exact r4_of_block hg (at_ 0 (by omega)) (at_ 1 (by omega)) (at_ 2 (by omega)) (at_ 3 (by omega))
/-- Rules so far. -/
abbrev upTo (rs : List Rl) (k : Nat) : Nat → Rl := fun j => if j < k then fnOf rs j else rl0
theorem SoW.put {W : World} {RB RX n : Nat} {r : Nat → Rl} (h : SoW W RB RX n r id) (k : Nat) (hk : k < n) (x : Rl) : SoW (W.setCells RB (k * 4) x.cs) RB RX n (fun j => if j = k then x else r j) id := by
  have g := gb_sets W RB (k * 4) x
  refine ⟨Nat.lt_of_lt_of_le h.lt g.size, h.ne, gb_cell g h.ne h.var, fun j hj => ⟨?_, s4_put (h.rows j hj).2⟩⟩
  by_cases c : j = k
  · subst c
    simp only [id, if_true]
    exact r4_put (h.rows j hj).1 _
  · simp only [id, if_neg c]
    exact r4_far (h.rows j hj).1 (by omega)
theorem upTo_put (rs : List Rl) (k : Nat) : (fun j => if j = k then fnOf rs k else upTo rs k j) = upTo rs (k + 1) := by
  funext j
  unfold upTo
  by_cases c : j = k
  · subst c; rw [if_pos rfl, if_pos (by omega)]
  · rw [if_neg c]
    by_cases d : j < k
    · rw [if_pos d, if_pos (by omega)]
    · rw [if_neg d, if_neg (by omega)]
theorem SoW.cong {W : World} {RB RX n : Nat} {r s : Nat → Rl} {f : Nat → Nat} (h : SoW W RB RX n r f) (e : ∀ k, k < n → s (f k) = r (f k)) : SoW W RB RX n s f :=
  ⟨h.lt, h.ne, h.var, fun k hk => by rw [e k hk]; exact h.rows k hk⟩

theorem gn_below {w w' : World} (g : w.grownBy w' none) : Below w.heap.size w w' := ⟨g.os, g.tape, g.output, g.size, fun k hk => g.block k hk (fun e => by cases e)⟩
theorem gb_soft {w W : World} {B : Nat} (h : w.grownBy W (some B)) {b o : Nat} {v : Value} (hb : b ≠ B) (c : w.cell? ⟨b, o, none⟩ = some v) (f : w.frozen? ⟨b, o, none⟩ = false) : W.frozen? ⟨b, o, none⟩ = false :=
  (World.frozen?_of_block (w := w) (h.block b (cell_lt c) (fun e => hb (by injection e)))).trans f
theorem Rls.gb {w W : World} {B n : Nat} {A : Option Addr} {rs : List Rl} (h : Rls w A n rs) (g : Below w.heap.size w W) : Rls W A n rs := h.below g

theorem ordL_at {rs : List Rl} {g : Nat → Nat} (hm : Mv 0 rs.length id g) (hs : Srt (lessR (fnOf rs)) 0 rs.length g) : ∀ k, k < rs.length → fnOf (ordL rs) k = fnOf rs (g k) := by
  obtain ⟨h1, f, mf, sf, ef⟩ := ordL_ord rs
  intro k hk
  rw [ef k hk, srt_uniq (lessR_swo _) mf hm sf hs k hk]
theorem put_but (W : World) (b : Nat) (x y : Value) : W.grownBy ((W.setCell ⟨b, 0, none⟩ x).setCell ⟨b, 1, none⟩ y) (some b) := by
  refine ⟨rfl, rfl, rfl, ?_, fun k hk hn => ?_⟩
  · simp only [World.size_setCell]; exact Nat.le_refl _
  · have hk' : k ≠ b := fun e => hn (by rw [e])
    rw [Below.heap_setCell _ _ _ _ (fun e => hk' e), Below.heap_setCell _ _ _ _ (fun e => hk' e)]

set_option maxHeartbeats 1000000 in
theorem order_new (most : Int) (A : Option Addr) (n cap : Nat) (rs : List Rl) (w : World) (h : Rls w A n rs) (hn : n ≤ 1099511627776) :
    Calls Tryz.prog 19 #[.agg #[.int .i64 most, .slice A n cap]] w fun e w' => (∃ B, e = .returned (.agg #[.int .i64 most, .slice (some ⟨B, 0, none⟩) n n]) ∧ w.heap.size ≤ B ∧ Rls w' (some ⟨B, 0, none⟩) n (ordL rs)) ∧ Below w.heap.size w w' := by
  obtain ⟨i0, hi, hy0, hy1, hy2⟩ := info_parts zeroRule
  have H := Lib.hid h
  have hl := h.1
  clear h
  go_enter Tryz.func19, Tryz.ntmps19
  go_wp2_with (refine wpList_make_full _ rfl _ _ 26 rfl (w.heap.size + 2) 37 i0 _ 4 Tryz.underlying26 hi hy0 hy1 .i64 .i64 _ _ n rfl rfl rfl rfl (by rw [hy2]; omega) (by unfold maxLen; omega) (by simp) ?_; intro w1 hO1 g1; refine stopHere ?_)
  unfold Stop
  have k1 := gn_below g1
  have hM := Lib.hid (made_so hO1)
  have z1 : w.heap.size + 2 < w1.heap.size := by have := hM.out.1; simpa using this
  have bx0 : w1.cell? ⟨w.heap.size, 0, none⟩ = some (.int .i64 most) := celln k1 (by simp)
  have bx1 : w1.cell? ⟨w.heap.size, 1, none⟩ = some (.slice A n cap) := celln k1 (by simp)
  have rc0 : w1.cell? ⟨w.heap.size + 1, 0, none⟩ = some (.int .i64 0) := celln k1 (by simp)
  have rc1 : w1.cell? ⟨w.heap.size + 1, 1, none⟩ = some (.slice none 0 0) := celln k1 (by simp)
  have rf0 : w1.frozen? ⟨w.heap.size + 1, 0, none⟩ = false := (k1.frozen (p := ⟨w.heap.size + 1, 0, none⟩) (by simp)).trans (by simp)
  have rf1 : w1.frozen? ⟨w.heap.size + 1, 1, none⟩ = false := (k1.frozen (p := ⟨w.heap.size + 1, 1, none⟩) (by simp)).trans (by simp)
  have lt0 : w.heap.size < w1.heap.size := by omega
  have lt1 : w.heap.size + 1 < w1.heap.size := by omega
  go_wp2
  have kw : Below w.heap.size w w1 := (((Below.refl w.heap.size w).alloc (Nat.le_refl _) (.cells #[.int .i64 most, .slice A n cap] 28)).alloc (by simp) (.cells #[.int .i64 0, .slice none 0 0] 28)).trans (k1.mono (by simp; omega))
  have ka := (Below.refl w1.heap.size w1).alloc (Nat.le_refl _) (.cells #[.slice (some ⟨w.heap.size + 1 + 1, 0, none⟩) n n] 26)
  have S0 : SoW (w1.alloc (.cells #[.slice (some ⟨w.heap.size + 1 + 1, 0, none⟩) n n] 26)) (w.heap.size + 1 + 1) w1.heap.size n (upTo rs 0) id := by
    have hm := hM.out
    simp only [World.size_alloc] at hm
    refine ⟨by simp; omega, by omega, by simp, fun k hk => ?_⟩
    have e : upTo rs 0 (id k) = rl0 := by unfold upTo; rw [if_neg (Nat.not_lt_zero _)]
    rw [e]
    exact ⟨(hm.2 k hk).1.of_block (ka.block _ hm.1), (hm.2 k hk).2.of_block (ka.block _ hm.1)⟩
  replace bx0 := celln ka bx0
  replace bx1 := celln ka bx1
  replace rf0 := (ka.frozen (p := ⟨w.heap.size + 1, 0, none⟩) lt1).trans rf0
  replace rf1 := (ka.frozen (p := ⟨w.heap.size + 1, 1, none⟩) lt1).trans rf1
  replace rc0 := celln ka rc0
  replace rc1 := celln ka rc1
  replace kw := kw.alloc kw.size (.cells #[.slice (some ⟨w.heap.size + 1 + 1, 0, none⟩) n n] 26)
  have hRX : w.heap.size + 2 < w1.heap.size := z1
  generalize w1.heap.size = RX at *
  generalize hW : w1.alloc (.cells #[.slice (some ⟨w.heap.size + 1 + 1, 0, none⟩) n n] 26) = W1 at *
  clear hW hO1 g1 k1 hM ka lt0 lt1 z1 hi hy0 hy1 hy2
  go_loopw [13] (fun i wr => ∃ k : Nat, i = .int .i64 (k : Int) ∧ k ≤ n ∧ SoW wr (w.heap.size + 1 + 1) RX n (upTo rs k) id ∧ W1.grownBy wr (some (w.heap.size + 1 + 1))) (fun i _ => n - (intOf i).toNat)
  case atStart => exact ⟨0, rfl, Nat.zero_le _, S0, gb_refl _ _⟩
  case round =>
    obtain ⟨k, rfl, hk, hS, hg⟩ := hrel
    have q0 := gb_cell hg (by omega) bx0
    have q1 := gb_cell hg (by omega) bx1
    have hkw : Below w.heap.size w wr := kw.trans (gb_below hg (by omega) S0.lt)
    by_cases hkn : k < n
    · obtain ⟨b, off, rfl, hb, hc⟩ := H.out.2.2 (by omega)
      have ok := H.out.ok k
      obtain ⟨x0, x1, x2, x3⟩ := (hc k hkn).of_block (hkw.block b hb)
      have ku := upTo_put rs k
      generalize hX : fnOf rs k = x at *
      have HX := Lib.hid hX
      have i0 : (0 : Int) ≤ (k : Int) := by omega
      have i1 : (k : Int) < (n : Int) := by omega
      clear hc S0 bx0 bx1 rc0 rc1 rf0 rf1 kw hX
      go_wp2_with (go_at_call 34; refine stopHere ?_)
      unfold Stop
      refine (clone_any _ _ ok.p).mono ?_
      rintro e w2 ⟨rfl, kb⟩
      have y0 : w2.cell? ⟨wr.heap.size, 0, none⟩ = some (.string x.p) := celln kb (by simp)
      have y1 : w2.cell? ⟨wr.heap.size, 1, none⟩ = some (.int .u64 x.e) := celln kb (by simp)
      have y2 : w2.cell? ⟨wr.heap.size, 2, none⟩ = some (.int .u64 x.b) := celln kb (by simp)
      have y3 : w2.cell? ⟨wr.heap.size, 3, none⟩ = some (.int .u8 x.k) := celln kb (by simp)
      have f0 : w2.frozen? ⟨wr.heap.size, 0, none⟩ = false := (kb.frozen (p := ⟨wr.heap.size, 0, none⟩) (by simp)).trans (by simp)
      have B3 : Below wr.heap.size wr (w2.setCell ⟨wr.heap.size, 0, none⟩ (.string x.p)) := (((Below.refl _ wr).alloc (Nat.le_refl _) _).trans (kb.mono (by simp))).setCell (Nat.le_refl _) _
      go_upto_region 6 with fail
      replace y0 : (w2.setCell ⟨wr.heap.size, 0, none⟩ (.string x.p)).cell? ⟨wr.heap.size, 0, none⟩ = some (.string x.p) := World.cell?_setCell_same _ _ _ y0
      replace y1 := (cs_other w2 wr.heap.size 0 (.string x.p) wr.heap.size 1 (.inr (by omega))).trans y1
      replace y2 := (cs_other w2 wr.heap.size 0 (.string x.p) wr.heap.size 2 (.inr (by omega))).trans y2
      replace y3 := (cs_other w2 wr.heap.size 0 (.string x.p) wr.heap.size 3 (.inr (by omega))).trans y3
      generalize w2.setCell ⟨wr.heap.size, 0, none⟩ (.string x.p) = w3 at *
      have S3 := hS.below B3
      have v3 := S3.var
      obtain ⟨⟨c0, c1, c2, c3⟩, ⟨e0, e1, e2, e3⟩⟩ := S3.rows k hkn
      have P3 := Lib.hid (S3.put k hkn x)
      have G3 := Lib.hid (gb_trans (gb_trans hg (gb_of B3)) (gb_sets w3 (w.heap.size + 1 + 1) (k * 4) x))
      rw [ku] at P3
      clear f0 kb hS hg q0 q1 B3 hkw x0 x1 x2 x3
      go_wp2
      go_roundw
      case rel => exact ⟨k + 1, by go_num, hkn, P3.out, G3.out⟩
      case measure => simp [intOf]; omega
    · obtain rfl : k = n := by omega
      have S1 : SoW wr (w.heap.size + 1 + 1) RX k (fnOf rs) id := hS.cong (fun j hj => by unfold upTo; rw [if_pos (show id j < k from hj)])
      have C := ssl_any (w.heap.size + 1 + 1) RX k (fnOf rs) hn (fun x => by have := (H.out.ok x).p; omega) wr id S1 (fun i j h _ => h)
      have v1 := S1.var
      have B1 := kw.trans (gb_below hg (by omega) S0.lt)
      have t0 := gb_soft hg (by omega) rc0 rf0
      have t1 := gb_soft hg (by omega) rc1 rf1
      replace rc0 := gb_cell hg (by omega) rc0
      replace rc1 := gb_cell hg (by omega) rc1
      clear S0 hS
      go_wp2_with (go_at_call 35; refine stopHere ?_)
      unfold Stop
      refine C.mono ?_
      rintro e w2 ⟨rfl, ⟨g, hS2, hm2, hs2⟩, hg2⟩
      have v2 := hS2.var
      have d0 := gb_cell hg2 (by omega) q0
      have d1 := gb_cell hg2 (by omega) q1
      have s0 := gb_cell hg2 (by omega) rc0
      have s1 := gb_cell hg2 (by omega) rc1
      replace t0 := gb_soft hg2 (by omega) rc0 t0
      replace t1 := gb_soft hg2 (by omega) rc1 t1
      have BF := Lib.hid (((B1.trans (gb_below hg2 (by omega) S1.lt)).setCell (p := ⟨w.heap.size + 1, 0, none⟩) (by simp) (.int .i64 most)).setCell (p := ⟨w.heap.size + 1, 1, none⟩) (by simp) (.slice (some ⟨w.heap.size + 1 + 1, 0, none⟩) k k))
      have BG := Lib.hid ((put_but w2 (w.heap.size + 1) (.int .i64 most) (.slice (some ⟨w.heap.size + 1 + 1, 0, none⟩) k k)))
      clear C rc0 rc1 hg hg2 rf0 rf1 bx0 bx1 q0 q1 kw hkw B1
      go_wp2
      have r0 : ((w2.setCell ⟨w.heap.size + 1, 0, none⟩ (.int .i64 most)).setCell ⟨w.heap.size + 1, 1, none⟩ (.slice (some ⟨w.heap.size + 1 + 1, 0, none⟩) k k)).cell? ⟨w.heap.size + 1, 0, none⟩ = some (.int .i64 most) :=
        (cs_other _ _ _ _ _ _ (.inr (by omega))).trans (World.cell?_setCell_same _ _ _ s0)
      have r1 : ((w2.setCell ⟨w.heap.size + 1, 0, none⟩ (.int .i64 most)).setCell ⟨w.heap.size + 1, 1, none⟩ (.slice (some ⟨w.heap.size + 1 + 1, 0, none⟩) k k)).cell? ⟨w.heap.size + 1, 1, none⟩ = some (.slice (some ⟨w.heap.size + 1 + 1, 0, none⟩) k k) :=
        World.cell?_setCell_same _ _ _ ((cs_other _ _ _ _ _ _ (.inr (by omega))).trans s1)
      have hR : Rls ((w2.setCell ⟨w.heap.size + 1, 0, none⟩ (.int .i64 most)).setCell ⟨w.heap.size + 1, 1, none⟩ (.slice (some ⟨w.heap.size + 1 + 1, 0, none⟩) k k)) (some ⟨w.heap.size + 1 + 1, 0, none⟩) k (ordL rs) := by
        have hlt := hS2.lt
        have hb := BG.out.block (w.heap.size + 1 + 1) hlt (fun e => by injection e; omega)
        refine ⟨by rw [ordL_length]; exact hl, ordL_ok H.out.2.1, fun _ => ⟨_, 0, rfl, Nat.lt_of_lt_of_le hlt BG.out.size, fun j hj => ?_⟩⟩
        rw [Nat.zero_add, ordL_at (by rw [hl]; exact hm2) (by rw [hl]; exact hs2) j (by omega)]
        exact (hS2.rows j hj).1.of_block hb
      have hB := BF.out
      generalize (w2.setCell ⟨w.heap.size + 1, 0, none⟩ (.int .i64 most)).setCell ⟨w.heap.size + 1, 1, none⟩ (.slice (some ⟨w.heap.size + 1 + 1, 0, none⟩) k k) = w9 at *
      refine bodyPost_ret (v := .agg #[.int .i64 most, .slice (some ⟨w.heap.size + 1 + 1, 0, none⟩) k k]) ?_ rfl ⟨⟨_, rfl, by omega, hR⟩, hB⟩
      simp [results, Tryz.results19, go_sem, r0, r1]
theorem order_any (most : Int) (A : Option Addr) (n cap : Nat) (rs : List Rl) (w : World) (h : Rls w A n rs) (hn : n ≤ 1099511627776) :
    Calls Tryz.prog 19 #[.agg #[.int .i64 most, .slice A n cap]] w fun e w' => (∃ B, e = .returned (.agg #[.int .i64 most, .slice (some ⟨B, 0, none⟩) n n]) ∧ Rls w' (some ⟨B, 0, none⟩) n (ordL rs)) ∧ Below w.heap.size w w' :=
  (order_new most A n cap rs w h hn).mono fun e w' ⟨⟨B, h1, _, h2⟩, h3⟩ => ⟨⟨B, h1, h2⟩, h3⟩
end Go.Proofs.YtckaiejbgnhgcaaGreatDoor.Wd
namespace Go.Proofs.YtckaiejbgnhgcaaGreatDoor.Wd
open Go Go.RowKit
set_option linter.unusedVariables false
set_option maxRecDepth 100000

/-- The first rule with a prefix; below 0: there is none. -/
def fdI (rs : List Rl) (p : ByteArray) : Int := match rs.findIdx? (fun r => decide (r.p = p)) with | some i => (i : Int) | none => -1
theorem fd_at {rs : List Rl} {p : ByteArray} (k : Nat) (hk : k < rs.length) (h : (fnOf rs k).p = p) (g : ∀ j, j < k → (fnOf rs j).p ≠ p) : fdI rs p = k := by
  have e : rs.findIdx? (fun r => decide (r.p = p)) = some k := by
    rw [List.findIdx?_eq_some_iff_getElem]
    refine ⟨hk, by rw [← fn_at hk]; exact decide_eq_true h, fun j hj => ?_⟩
    rw [← fn_at (by omega)]
    simpa using g j hj
  unfold fdI
  rw [e]
theorem fd_none {rs : List Rl} {p : ByteArray} (g : ∀ j, j < rs.length → (fnOf rs j).p ≠ p) : fdI rs p = -1 := by
  have e : rs.findIdx? (fun r => decide (r.p = p)) = none := by
    rw [List.findIdx?_eq_none_iff]
    intro x hx
    obtain ⟨j, hj, e⟩ := List.getElem_of_mem hx
    have := g j hj
    rw [fn_at hj, e] at this
    simpa using this
  unfold fdI
  rw [e]
theorem fd_ways (rs : List Rl) (p : ByteArray) : (∃ k, k < rs.length ∧ (fnOf rs k).p = p ∧ (∀ j, j < k → (fnOf rs j).p ≠ p) ∧ fdI rs p = k) ∨ ((∀ j, j < rs.length → (fnOf rs j).p ≠ p) ∧ fdI rs p = -1) := by
  by_cases h : ∃ k, k < rs.length ∧ (fnOf rs k).p = p
  · have : ∀ n, (∃ k, k < n ∧ k < rs.length ∧ (fnOf rs k).p = p) → ∃ k, k < rs.length ∧ (fnOf rs k).p = p ∧ (∀ j, j < k → (fnOf rs j).p ≠ p) := by
      intro n
      induction n with
      | zero => rintro ⟨k, hk, _⟩; omega
      | succ n ih =>
        rintro ⟨k, hk, hl, e⟩
        by_cases c : ∃ j, j < n ∧ j < rs.length ∧ (fnOf rs j).p = p
        · exact ih c
        · by_cases d : k = n
          · exact ⟨k, hl, e, fun j hj he => c ⟨j, by omega, by omega, he⟩⟩
          · exact absurd ⟨k, by omega, hl, e⟩ c
    obtain ⟨k, hk, e⟩ := h
    obtain ⟨k, hk, e, g⟩ := this (k + 1) ⟨k, by omega, hk, e⟩
    exact .inl ⟨k, hk, e, g, fd_at k hk e g⟩
  · have g : ∀ j, j < rs.length → (fnOf rs j).p ≠ p := fun j hj e => h ⟨j, hj, e⟩
    exact .inr ⟨g, fd_none g⟩
def hasB (rs : List Rl) (p : ByteArray) : Bool := decide (0 ≤ fdI rs p)

theorem has1_core (x p : ByteArray) (e b k : Int) (PB : Nat) (w : World) (hc : w.cell? ⟨PB, 0, none⟩ = some (.string p)) :
    Calls Tryz.prog 66 #[rul x e b k, .pointer (some ⟨PB, 0, none⟩)] w fun e w' => e = .returned (.bool (decide (x = p))) ∧ Below w.heap.size w w' := by
  have hb := cell_lt hc
  have B := (Below.refl _ w).alloc (Nat.le_refl _) (.cells #[.string x, .int .u64 e, .int .u64 b, .int .u8 k] 37)
  have ts := text_same (a := x) (b := p)
  cases hd : decide (x = p) with
  | true =>
    rw [hd] at ts
    clear hd
    go_enter Tryz.func66, Tryz.ntmps66
    go_wp2
    go_ret
    exact ⟨rfl, B⟩
  | false =>
    rw [hd] at ts
    clear hd
    go_enter Tryz.func66, Tryz.ntmps66
    go_wp2
    go_ret
    exact ⟨rfl, B⟩
theorem has1_any (r : Rl) (p : ByteArray) (PB : Nat) (w : World) (hc : w.cell? ⟨PB, 0, none⟩ = some (.string p)) :
    Calls Tryz.prog 66 #[r.v, .pointer (some ⟨PB, 0, none⟩)] w fun e w' => e = .returned (.bool (decide (r.p = p))) ∧ Below w.heap.size w w' := has1_core r.p p r.e r.b r.k PB w hc

theorem indexF_any (A : Option Addr) (n cap : Nat) (rs : List Rl) (p : ByteArray) (PB : Nat) (w : World) (h : Rls w A n rs) (hc : w.cell? ⟨PB, 0, none⟩ = some (.string p)) (hn : n ≤ 9223372036854775807) :
    Calls Tryz.prog 95 #[.slice A n cap, .func (Fn.func 66) #[] #[.pointer (some ⟨PB, 0, none⟩)]] w fun e w' => e = .returned (.int .i64 (fdI rs p)) ∧ Below w.heap.size w w' := by
  have H := Lib.hid h
  have hl := h.1
  have FW := Lib.hid (fun (k : Nat) (hk : k < n) (e : (fnOf rs k).p = p) (g : ∀ j, j < k → (fnOf rs j).p ≠ p) => fd_at (rs := rs) k (by omega) e g)
  have FN := Lib.hid (fun (g : ∀ j, j < n → (fnOf rs j).p ≠ p) => fd_none (rs := rs) (p := p) (fun j hj => g j (by omega)))
  generalize fdI rs p = F at *
  clear h hl
  go_enter Tryz.func95, Tryz.ntmps95
  go_wp2
  go_loopw [8] (fun i wr => ∃ k : Nat, i = .int .i64 (k : Int) ∧ k ≤ n ∧ Hid (∀ j, j < k → (fnOf rs j).p ≠ p) ∧ Below w.heap.size w wr) (fun i _ => n - (intOf i).toNat)
  case atStart => exact ⟨0, rfl, Nat.zero_le _, Lib.hid (fun j hj => absurd hj (Nat.not_lt_zero _)), Below.refl _ _⟩
  case round =>
    obtain ⟨k, rfl, hk, D, hB⟩ := hrel
    by_cases hkn : k < n
    · obtain ⟨b, off, rfl, hb, hcl⟩ := H.out.2.2 (by omega)
      obtain ⟨x0, x1, x2, x3⟩ := (hcl k hkn).of_block (hB.block b hb)
      have C := has1_any (fnOf rs k) p PB wr (celln hB hc)
      have FWk := Lib.hid (FW.out k hkn)
      have i0 : (0 : Int) ≤ (k : Int) := by omega
      have i1 : (k : Int) < (n : Int) := by omega
      unfold Rl.v at C
      cases hd : decide ((fnOf rs k).p = p) with
      | true =>
        rw [hd] at C
        have e := FWk.out (of_decide_eq_true hd) D.out
        subst e
        generalize fnOf rs k = x at *
        clear hcl hd FW FWk
        go_wp2_with (go_at_call 66; refine C.mono ?_; rintro e w2 ⟨rfl, kb⟩)
        go_ret
        exact ⟨rfl, kbq hB kb⟩
      | false =>
        rw [hd] at C
        have E := Lib.hid (of_decide_eq_false hd)
        generalize hX : fnOf rs k = x at *
        have HX := Lib.hid hX
        clear hcl hd FW FWk hX
        go_wp2_with (go_at_call 66; refine C.mono ?_; rintro e w2 ⟨rfl, kb⟩)
        go_roundw
        case rel =>
          refine ⟨k + 1, by go_num, hkn, Lib.hid (fun j hj => ?_), kbq hB kb⟩
          by_cases c : j = k
          · rw [c, HX.out]; exact E.out
          · exact D.out j (by omega)
        case measure => simp [intOf]; omega
    · obtain rfl : k = n := by omega
      have e := FN.out D.out
      subst e
      go_wp2
      go_ret
      exact ⟨rfl, hB⟩

theorem has_any (A : Option Addr) (n cap : Nat) (rs : List Rl) (p : ByteArray) (w : World) (h : Rls w A n rs) (hn : n ≤ 9223372036854775807) :
    Calls Tryz.prog 42 #[.slice A n cap, .string p] w fun e w' => e = .returned (.bool (hasB rs p)) ∧ Below w.heap.size w w' := by
  have B := (Below.refl _ w).alloc (Nat.le_refl _) (.cells #[.string p] 9)
  have C0 := indexF_any A n cap rs p w.heap.size (w.alloc (.cells #[.string p] 9)) (h.below B) (by simp) hn
  have C : Calls Tryz.prog 65 #[.slice A n cap, .func (Fn.func 66) #[] #[.pointer (some ⟨w.heap.size, 0, none⟩)]] (w.alloc (.cells #[.string p] 9)) fun e w' => e = .returned (.bool (hasB rs p)) ∧ Below (w.alloc (.cells #[.string p] 9)).heap.size (w.alloc (.cells #[.string p] 9)) w' := by
    unfold hasB
    generalize fdI rs p = F at *
    generalize w.alloc (.cells #[.string p] 9) = W at *
    clear B
    go_enter Tryz.func65, Tryz.ntmps65
    go_wp2_with (go_at_call 95; refine C0.mono ?_; rintro e w2 ⟨rfl, kb⟩)
    go_ret
    exact ⟨rfl, kb⟩
  clear C0 h
  go_enter Tryz.func42, Tryz.ntmps42
  go_wp2_with (go_at_call 65; refine C.mono ?_; rintro e w2 ⟨rfl, kb⟩)
  go_ret
  exact ⟨rfl, kbq B kb⟩

theorem may_any (m : Int) (w : World) (hm : U m) :
    Calls Tryz.prog 40 #[.int .u64 m] w fun e w' => e = .returned (.bool (decide (1 ≤ m ∧ m ≤ 1000000))) ∧ w = w' := by
  by_cases h1 : 1 ≤ m
  · by_cases h2 : m ≤ 1000000
    · rw [decide_eq_true ⟨h1, h2⟩]
      go_enter Tryz.func40, Tryz.ntmps40
      go_wp2
      go_ret
      exact ⟨rfl, rfl⟩
    · rw [decide_eq_false (fun g => h2 g.2)]
      go_enter Tryz.func40, Tryz.ntmps40
      go_wp2
      go_ret
      exact ⟨rfl, rfl⟩
  · rw [decide_eq_false (fun g => h1 g.1)]
    go_enter Tryz.func40, Tryz.ntmps40
    go_wp2
    go_ret
    exact ⟨rfl, rfl⟩

theorem prefixAt_any (p : ByteArray) (e b k : Int) (w : World) :
    Calls Tryz.prog 104 #[rul p e b k] w fun r w' => r = .returned (.int .i64 (if p.size = 0 then 0 else 1)) ∧ Below w.heap.size w w' := by
  by_cases h : p.size = 0
  · rw [if_pos h]
    have hz := toList_none p h
    clear h
    go_enter Tryz.func104, Tryz.ntmps104
    go_wp2
    go_ret
    exact ⟨rfl, (Below.refl _ w).alloc (Nat.le_refl _) _⟩
  · rw [if_neg h]
    have hz := toList_ne p (by omega)
    clear h
    go_enter Tryz.func104, Tryz.ntmps104
    go_wp2
    go_ret
    exact ⟨rfl, (Below.refl _ w).alloc (Nat.le_refl _) _⟩
end Go.Proofs.YtckaiejbgnhgcaaGreatDoor.Wd
namespace Go.Proofs.YtckaiejbgnhgcaaGreatDoor.Wd
open Go Go.RowKit
set_option linter.unusedVariables false
set_option maxRecDepth 100000

abbrev wo0 : Ws.Wo := ([], 0, 0)
abbrev fnW (ws : List Ws.Wo) (k : Nat) : Ws.Wo := ws.getD k wo0
/-- A line of words lies in memory. -/
def WLn (w : World) (A : Option Addr) (n : Nat) (ws : List Ws.Wo) : Prop :=
  ws.length = n ∧ (∀ x ∈ ws, Ws.BdW 1048577 x) ∧ (0 < n → ∃ b off, A = some ⟨b, off, none⟩ ∧ b < w.heap.size ∧ ∀ k, k < n → w.cell? ⟨b, off + k * 3, none⟩ = some (.string (str (fnW ws k).1)) ∧ w.cell? ⟨b, off + k * 3 + 1, none⟩ = some (.int .i64 ((fnW ws k).2.1 : Int)) ∧ w.cell? ⟨b, off + k * 3 + 2, none⟩ = some (.int .i64 ((fnW ws k).2.2 : Int)))
theorem WLn.below {w w' : World} {A : Option Addr} {n : Nat} {ws : List Ws.Wo} (h : WLn w A n ws) (k : Below w.heap.size w w') : WLn w' A n ws :=
  ⟨h.1, h.2.1, fun hn => by
    obtain ⟨b, off, e, hb, hc⟩ := h.2.2 hn
    exact ⟨b, off, e, Nat.lt_of_lt_of_le hb k.size, fun j hj => ⟨celln k (hc j hj).1, celln k (hc j hj).2.1, celln k (hc j hj).2.2⟩⟩⟩
theorem WLn.of {w : World} {base : Nat} {u : Value} {ws : List Ws.Wo} (h : Ws.WRow w base u ws) (hb : ∀ x ∈ ws, Ws.BdW 1048577 x) : ∃ A c, u = .slice A ws.length c ∧ WLn w A ws.length ws := by
  by_cases h0 : 0 < ws.length
  · obtain ⟨g, c, e, hg, hc⟩ := h.form h0
    refine ⟨_, c, e, rfl, hb, fun _ => ⟨g, 0, rfl, hg, fun k hk => ?_⟩⟩
    have := hc k (fnW ws k) (by simp [fnW, List.getD_eq_getElem?_getD, List.getElem?_eq_getElem hk])
    rw [Nat.zero_add]
    exact this
  · obtain ⟨A, c, e⟩ := h.slice
    exact ⟨A, c, e, rfl, hb, fun x => absurd x h0⟩
/-- The texts of words. -/
abbrev txs (ws : List Ws.Wo) : List ByteArray := ws.map fun x => str x.1
theorem txs_at (ws : List Ws.Wo) (k : Nat) (h : k < ws.length) : (txs ws).getD k nob = str (fnW ws k).1 := by
  simp [txs, fnW, List.getD_eq_getElem?_getD, List.getElem?_eq_getElem h]
theorem fnW_mem {ws : List Ws.Wo} {k : Nat} (h : k < ws.length) : fnW ws k ∈ ws := by
  simp [fnW, List.getD_eq_getElem?_getD, List.getElem?_eq_getElem h]
theorem txs_lim {ws : List Ws.Wo} (hb : ∀ x ∈ ws, Ws.BdW 1048577 x) : Lim (txs ws) := by
  intro x hx
  obtain ⟨y, hy, rfl⟩ := List.mem_map.1 hx
  have := (hb y hy).1
  rw [str_size]; omega
theorem txs_take (ws : List Ws.Wo) (k : Nat) (h : k < ws.length) : (txs ws).take (k + 1) = (txs ws).take k ++ [str (fnW ws k).1] := by
  rw [List.take_add_one, List.getElem?_eq_getElem (by simpa using h)]
  simp [fnW, List.getD_eq_getElem?_getD, List.getElem?_eq_getElem h]

theorem one_sts (W : World) (x : ByteArray) (B : Nat) (hB : W.heap.size = B) (hx : x.size ≤ 9223372036854775807) : Sts (W.alloc (.cells #[.string x] 9)) (some ⟨B, 0, none⟩) 1 [x] := by
  subst hB
  exact ⟨rfl, fun y hy => by simp only [List.mem_cons, List.not_mem_nil, or_false] at hy; subst hy; exact hx, fun _ => ⟨W.heap.size, 0, rfl, by simp, fun k hk => by
    obtain rfl : k = 0 := by omega
    simp⟩⟩
theorem wpList_app_txt (w : World) {ops : Array Oper} {rest : List Oper} {o : Oper} {a : Act} {Q : Exit → Act → World → Prop} (hgd : o.guard = none) (s x : Operand)
    (ho : o.op = .call { callee := .builtin .append, args := #[s, x], argTypes := #[32, 32] })
    (base : Nat) (v : Value) (acc : List ByteArray) (hs : a.eval s = v) (hown : ORow w base v acc) (b off c : Nat) (t : ByteArray) (hx : a.eval x = .slice (some ⟨b, off, none⟩) 1 c) (hT : Sts w (some ⟨b, off, none⟩) 1 [t])
    (hsz : acc.length ≤ 1099511627776) (hbase : base ≤ w.heap.size)
    (h : ∀ g cap w', ORow w' base (.slice (some ⟨g, 0, none⟩) (acc.length + 1) cap) (acc ++ [t]) → Below base w w' → wpList Tryz.prog ops Q rest (a.put o.dst (.slice (some ⟨g, 0, none⟩) (acc.length + 1) cap)) w') : wpList Tryz.prog ops Q (o :: rest) a w := by
  obtain ⟨i0, hi, hy0, hy1, hy2⟩ := info_parts infoStr
  refine wpList_append_lies w hgd s x 32 ho base 9 i0 (.string ⟨#[]⟩) 1 16 Tryz.underlying32 hi hy0 hy1 hy2 rfl (by decide) v acc.length (tvs acc) hs hown ⟨b, off, none⟩ 1 c (tvs [t]) hx rfl (sts_news hT (by omega)) (tvs_one [t]) (by omega) (by unfold maxLen; omega) (by omega) hbase w.heap.size rfl ?_
  intro g cap w' own grow _ _
  refine h g cap w' ?_ ((Below.refl base w).grown grow hbase (own_lt hown))
  unfold ORow tvs
  rw [List.map_append, List.length_append]
  exact own

theorem texts_any (A : Option Addr) (n cap : Nat) (ws : List Ws.Wo) (w : World) (h : WLn w A n ws) (hn : n ≤ 1099511627776) :
    Calls Tryz.prog 103 #[.slice A n cap] w fun e w' => (∃ v, e = .returned v ∧ ORow w' w.heap.size v (txs ws)) ∧ Below w.heap.size w w' := by
  have H := Lib.hid h
  have hl := h.1
  clear h
  go_enter Tryz.func103, Tryz.ntmps103
  go_wp2
  go_loopw [3, 8] (fun v i wr => ∃ k : Nat, i = .int .i64 (k : Int) ∧ k ≤ n ∧ ORow wr w.heap.size v ((txs ws).take k) ∧ Below w.heap.size w wr) (fun _ i _ => n - (intOf i).toNat)
  case atStart => exact ⟨0, rfl, Nat.zero_le _, ORow.nil _ _, Below.refl _ _⟩
  case round =>
    obtain ⟨k, rfl, hk, hO, hB⟩ := hrel
    by_cases hkn : k < n
    · obtain ⟨b, off, rfl, hb, hcl⟩ := H.out.2.2 (by omega)
      have x0 := (World.cell?_of_block (w := w) (a := ⟨b, off + k * 3, none⟩) (hB.block b hb)).trans (hcl k hkn).1
      have x1 := (World.cell?_of_block (w := w) (a := ⟨b, off + k * 3 + 1, none⟩) (hB.block b hb)).trans (hcl k hkn).2.1
      have x2 := (World.cell?_of_block (w := w) (a := ⟨b, off + k * 3 + 2, none⟩) (hB.block b hb)).trans (hcl k hkn).2.2
      have i0 : (0 : Int) ≤ (k : Int) := by omega
      have i1 : (k : Int) < (n : Int) := by omega
      have hsz : (str (fnW ws k).1).size ≤ 9223372036854775807 := by have := (H.out.2.1 _ (fnW_mem (by omega : k < ws.length))).1; rw [str_size]; omega
      have ht := txs_take ws k (by omega)
      have hacc : ((txs ws).take k).length = k := by simp; omega
      generalize str (fnW ws k).1 = t at *
      generalize ((fnW ws k).2.1 : Int) = p at *
      generalize ((fnW ws k).2.2 : Int) = q at *
      generalize (txs ws).take k = acc at *
      have B2 := ((Below.refl _ wr).alloc (Nat.le_refl _) (.cells #[.string t, .int .i64 p, .int .i64 q] 88)).alloc (by simp) (.cells #[.string t] 9)
      have T2 := one_sts (wr.alloc (.cells #[.string t, .int .i64 p, .int .i64 q] 88)) t (wr.heap.size + 1) (by simp) hsz
      clear hcl hsz
      go_wp2_with (refine wpList_app_txt _ rfl _ _ rfl w.heap.size _ acc rfl (hO.below B2) _ _ _ t rfl T2 (by omega) (by have := hB.size; have := B2.size; omega) ?_; intro g cp w2 hO2 kb)
      go_roundw
      case rel => exact ⟨k + 1, by go_num, hkn, by rw [ht]; rw [← hacc]; rw [hacc] at hO2 ⊢; exact hO2, (hB.trans (B2.mono hB.size)).trans kb⟩
      case measure => simp [intOf]; omega
    · obtain rfl : k = n := by omega
      rw [show (txs ws).take k = txs ws from List.take_of_length_le (by simp; omega)] at hO
      go_wp2
      go_ret
      exact ⟨⟨_, rfl, hO⟩, hB⟩

theorem pfs_take (rs : List Rl) (k : Nat) (h : k < rs.length) : (rs.map Rl.p).take (k + 1) = (rs.map Rl.p).take k ++ [(fnOf rs k).p] := by
  rw [List.take_add_one, List.getElem?_eq_getElem (by simpa using h), fn_at h]
  simp
theorem prefixes_any (A : Option Addr) (n cap : Nat) (rs : List Rl) (w : World) (h : Rls w A n rs) (hn : n ≤ 1099511627776) :
    Calls Tryz.prog 44 #[.slice A n cap] w fun e w' => (∃ v, e = .returned v ∧ ORow w' w.heap.size v (rs.map Rl.p)) ∧ Below w.heap.size w w' := by
  have H := Lib.hid h
  have hl := h.1
  clear h
  go_enter Tryz.func44, Tryz.ntmps44
  go_wp2
  go_loopw [3, 8] (fun v i wr => ∃ k : Nat, i = .int .i64 (k : Int) ∧ k ≤ n ∧ ORow wr w.heap.size v ((rs.map Rl.p).take k) ∧ Below w.heap.size w wr) (fun _ i _ => n - (intOf i).toNat)
  case atStart => exact ⟨0, rfl, Nat.zero_le _, ORow.nil _ _, Below.refl _ _⟩
  case round =>
    obtain ⟨k, rfl, hk, hO, hB⟩ := hrel
    by_cases hkn : k < n
    · obtain ⟨b, off, rfl, hb, hcl⟩ := H.out.2.2 (by omega)
      obtain ⟨x0, x1, x2, x3⟩ := (hcl k hkn).of_block (hB.block b hb)
      have i0 : (0 : Int) ≤ (k : Int) := by omega
      have i1 : (k : Int) < (n : Int) := by omega
      have hsz : (fnOf rs k).p.size ≤ 9223372036854775807 := by have := (H.out.ok k).p; omega
      have ht := pfs_take rs k (by omega)
      have hacc : ((rs.map Rl.p).take k).length = k := by simp; omega
      generalize (fnOf rs k).p = t at *
      generalize (fnOf rs k).e = p at *
      generalize (fnOf rs k).b = q at *
      generalize (fnOf rs k).k = u at *
      generalize (rs.map Rl.p).take k = acc at *
      have B2 := ((Below.refl _ wr).alloc (Nat.le_refl _) (.cells #[.string t, .int .u64 p, .int .u64 q, .int .u8 u] 37)).alloc (by simp) (.cells #[.string t] 9)
      have T2 := one_sts (wr.alloc (.cells #[.string t, .int .u64 p, .int .u64 q, .int .u8 u] 37)) t (wr.heap.size + 1) (by simp) hsz
      clear hcl hsz
      go_wp2_with (refine wpList_app_txt _ rfl _ _ rfl w.heap.size _ acc rfl (hO.below B2) _ _ _ t rfl T2 (by omega) (by have := hB.size; have := B2.size; omega) ?_; intro g cp w2 hO2 kb)
      go_roundw
      case rel => exact ⟨k + 1, by go_num, hkn, by rw [ht]; rw [← hacc]; rw [hacc] at hO2 ⊢; exact hO2, (hB.trans (B2.mono hB.size)).trans kb⟩
      case measure => simp [intOf]; omega
    · obtain rfl : k = n := by omega
      rw [show (rs.map Rl.p).take k = rs.map Rl.p from List.take_of_length_le (by simp; omega)] at hO
      go_wp2
      go_ret
      exact ⟨⟨_, rfl, hO⟩, hB⟩
end Go.Proofs.YtckaiejbgnhgcaaGreatDoor.Wd
namespace Go.Proofs.YtckaiejbgnhgcaaGreatDoor.Wd
open Go Go.RowKit
set_option linter.unusedVariables false
set_option maxRecDepth 100000

abbrev Rl.er (r : Rl) : Int := ruE r.p r.e r.b r.k
/-- The first error of a rule. -/
def frE : List Rl → Int
  | [] => 0
  | r :: l => if r.er ≠ 0 then r.er else frE l
theorem frE_at : ∀ {rs : List Rl} (k : Nat), k < rs.length → (∀ j, j < k → (fnOf rs j).er = 0) → (fnOf rs k).er ≠ 0 → frE rs = (fnOf rs k).er
  | [], k, h, _, _ => by simp at h
  | r :: l, 0, h, g, e => by
    have e' : r.er ≠ 0 := e
    unfold frE
    rw [if_pos e']; rfl
  | r :: l, k + 1, h, g, e => by
    have e0 : r.er = 0 := g 0 (by omega)
    have s : ∀ j, fnOf (r :: l) (j + 1) = fnOf l j := fun j => by simp [fnOf]
    rw [s] at e ⊢
    unfold frE
    rw [if_neg (by simp [e0])]
    exact frE_at k (by simpa using h) (fun j hj => by rw [← s]; exact g (j + 1) (by omega)) e
theorem frE_none : ∀ {rs : List Rl}, (∀ j, j < rs.length → (fnOf rs j).er = 0) → frE rs = 0
  | [], _ => rfl
  | r :: l, g => by
    have e0 : r.er = 0 := g 0 (by simp)
    have s : ∀ j, fnOf (r :: l) (j + 1) = fnOf l j := fun j => by simp [fnOf]
    unfold frE
    rw [if_neg (by simp [e0])]
    exact frE_none (fun j hj => by rw [← s]; exact g (j + 1) (by simpa using hj))
theorem frE_U (rs : List Rl) : 0 ≤ frE rs ∧ frE rs ≤ 27 := by
  induction rs with
  | nil => exact ⟨by decide, by decide⟩
  | cons r l ih =>
    unfold frE
    split
    · exact wr_U _ _ _ _ _
    · exact ih
/-- What is wrong with a policy. -/
def riE (m : Int) (rs : List Rl) : Int :=
  if ¬ (1 ≤ m ∧ m ≤ 1000000) then 29 else if 1000 < rs.length then 32 else if frE rs ≠ 0 then frE rs else if hasB rs nob = false then 31 else if soB ((ordL rs).map Rl.p) = false then 28 else 0

theorem field1_run (m : Int) (A : Option Addr) (n c : Nat) (W : World) : (Instr.field 28 (.agg #[.int .i64 m, .slice A n c]) 1).run Tryz.prog W = .ok (.slice A n c) W := by kernel_rfl

set_option maxHeartbeats 1000000 in
theorem cright_any (m : Int) (A : Option Addr) (n cap : Nat) (rs : List Rl) (w : World) (h : Rls w A n rs) (hn : n ≤ 1099511627776) (hm : -9223372036854775808 ≤ m ∧ m ≤ 9223372036854775807) :
    Calls Tryz.prog 23 #[.agg #[.int .i64 m, .slice A n cap]] w fun e w' => e = .returned (.int .u16 (riE m rs)) ∧ Below w.heap.size w w' := by
  have hu : U (IntKind.u64.wrap m) := by rw [IntKind.wrap_u64]; unfold U; omega
  have MA := fun W => may_any (IntKind.u64.wrap m) W hu
  have emay : decide (1 ≤ IntKind.u64.wrap m ∧ IntKind.u64.wrap m ≤ 1000000) = decide (1 ≤ m ∧ m ≤ 1000000) := by
    rw [IntKind.wrap_u64]
    by_cases c : 1 ≤ m ∧ m ≤ 1000000
    · rw [decide_eq_true c, decide_eq_true (by omega)]
    · rw [decide_eq_false c, decide_eq_false (by omega)]
  rw [emay] at MA
  clear hu emay
  generalize hmu : IntKind.u64.wrap m = mu at *
  have H := Lib.hid h
  have hl := h.1
  clear h
  by_cases c1 : 1 ≤ m ∧ m ≤ 1000000
  · rw [decide_eq_true c1] at MA
    by_cases c2 : 1000 < n
    · have e : riE m rs = 32 := by unfold riE; rw [if_neg (by simp [c1]), if_pos (by omega)]
      rw [e]
      have c2' : (1000 : Int) < (n : Int) := by omega
      go_enter Tryz.func23, Tryz.ntmps23
      go_wp2_with (go_at_call 40; refine (MA _).mono ?_; rintro e w2 ⟨rfl, rfl⟩)
      go_ret
      exact ⟨rfl, (Below.refl _ w).alloc (Nat.le_refl _) _⟩
    · have e : riE m rs = if frE rs ≠ 0 then frE rs else if hasB rs nob = false then 31 else if soB ((ordL rs).map Rl.p) = false then 28 else 0 := by unfold riE; rw [if_neg (by simp [c1]), if_neg (by omega)]
      have c2' : ¬ (1000 : Int) < (n : Int) := by omega
      have B0 := (Below.refl _ w).alloc (Nat.le_refl _) (.cells #[.int .i64 m, .slice A n cap] 28)
      have b0 : (w.alloc (.cells #[.int .i64 m, .slice A n cap] 28)).cell? ⟨w.heap.size, 0, none⟩ = some (.int .i64 m) := by simp
      have b1 : (w.alloc (.cells #[.int .i64 m, .slice A n cap] 28)).cell? ⟨w.heap.size, 1, none⟩ = some (.slice A n cap) := by simp
      have HF := Lib.hid (fun (k : Nat) (hk : k < n) (g : ∀ j, j < k → (fnOf rs j).er = 0) (e1 : (fnOf rs k).er ≠ 0) => e.trans (by rw [frE_at k (by omega) g e1, if_pos e1]))
      have HN := Lib.hid (fun (g : ∀ j, j < n → (fnOf rs j).er = 0) => e.trans (by rw [frE_none (fun j hj => g j (by omega)), if_neg (by simp)]))
      generalize riE m rs = R at *
      clear e
      go_enter Tryz.func23, Tryz.ntmps23
      go_wp2_with (go_at_call 40; refine (MA _).mono ?_; rintro e w2 ⟨rfl, rfl⟩)
      have hw : w.heap.size < (w.alloc (.cells #[.int .i64 m, .slice A n cap] 28)).heap.size := by simp
      generalize hW : w.alloc (.cells #[.int .i64 m, .slice A n cap] 28) = W1 at *
      clear hW
      go_loopw [18] (fun i wr => ∃ k : Nat, i = .int .i64 (k : Int) ∧ k ≤ n ∧ Hid (∀ j, j < k → (fnOf rs j).er = 0) ∧ Below W1.heap.size W1 wr) (fun i _ => n - (intOf i).toNat)
      case atStart => exact ⟨0, rfl, Nat.zero_le _, Lib.hid (fun j hj => absurd hj (Nat.not_lt_zero _)), Below.refl _ _⟩
      case round =>
        obtain ⟨k, rfl, hk, D, hB⟩ := hrel
        have hBw : Below w.heap.size w wr := B0.trans (hB.mono (by omega))
        have d0 := celln hB b0
        have d1 := celln hB b1
        by_cases hkn : k < n
        · obtain ⟨b, off, rfl, hb, hcl⟩ := H.out.2.2 (by omega)
          obtain ⟨x0, x1, x2, x3⟩ := (hcl k hkn).of_block (hBw.block b hb)
          have ok := H.out.ok k
          have C := fun W => right_any (fnOf rs k).p (fnOf rs k).e (fnOf rs k).b (fnOf rs k).k W (by have := ok.p; omega) ok.e ok.b
          have FF := Lib.hid (HF.out k hkn D.out)
          have i0 : (0 : Int) ≤ (k : Int) := by omega
          have i1 : (k : Int) < (n : Int) := by omega
          have hE : Hid ((fnOf rs k).er = ruE (fnOf rs k).p (fnOf rs k).e (fnOf rs k).b (fnOf rs k).k) := Lib.hid rfl
          generalize ruE (fnOf rs k).p (fnOf rs k).e (fnOf rs k).b (fnOf rs k).k = E at *
          generalize (fnOf rs k).p = t at *
          generalize (fnOf rs k).e = p at *
          generalize (fnOf rs k).b = q at *
          generalize (fnOf rs k).k = u at *
          clear hcl HF HN ok
          by_cases hz : E = 0
          · have t1 : (E != 0) = false := by simp [hz]
            have t2 : (E == 0) = true := by simp [hz]
            go_wp2_with (go_at_call 41; refine (C _).mono ?_; rintro e w2 ⟨rfl, kk⟩)
            go_roundw
            case rel =>
              refine ⟨k + 1, by go_num, hkn, Lib.hid (fun j hj => ?_), kbq hB (((Below.refl _ wr).alloc (Nat.le_refl _) _).trans (kk.2.mono (by simp)))⟩
              by_cases g : j = k
              · rw [g, hE.out]; exact hz
              · exact D.out j (by omega)
            case measure => simp [intOf]; omega
          · have t1 : (E != 0) = true := by simp [hz]
            have t2 : (E == 0) = false := by simp [hz]
            have FE := FF.out (by rw [hE.out]; exact hz)
            rw [hE.out] at FE
            subst FE
            go_wp2_with (go_at_call 41; refine (C _).mono ?_; rintro e w2 ⟨rfl, kk⟩)
            go_ret
            exact ⟨rfl, hBw.trans ((((Below.refl _ wr).alloc (Nat.le_refl _) _).trans (kk.2.mono (by simp))).mono hBw.size)⟩
        · obtain rfl : k = n := by omega
          have HH := HN.out D.out
          have C := has_any A k cap rs nob wr (H.out.below hBw) (by omega)
          have CO := fun W (g : Below w.heap.size w W) => order_any m A k cap rs W (H.out.below g) hn
          clear HN HF
          cases ch : hasB rs nob with
          | false =>
            rw [ch] at C HH
            rw [if_pos rfl] at HH
            subst HH
            go_wp2_with (go_at_call 42; refine C.mono ?_; rintro e w2 ⟨rfl, kb⟩)
            go_ret
            exact ⟨rfl, kbq hBw kb⟩
          | true =>
            rw [ch] at C HH
            rw [if_neg (by simp)] at HH
            have lim : ∀ x ∈ (ordL rs).map Rl.p, x.size ≤ 9223372036854775807 := fun x hx => by
              obtain ⟨y, hy, rfl⟩ := List.mem_map.1 hx
              have := (ordL_ok H.out.2.1 y hy).p
              omega
            have HL := Lib.hid lim
            clear lim
            have FR := fun B W => field1_run m (some ⟨B, 0, none⟩) k k W
            have hlen : ((ordL rs).map Rl.p).length = k := by rw [List.length_map, ordL_length]; exact hl
            cases hso : soB ((ordL rs).map Rl.p)
            all_goals
              rw [hso] at HH
              first | rw [if_pos rfl] at HH | rw [if_neg (by decide)] at HH
              subst HH
              go_wp2_with (first
                | (go_at_call 42; refine C.mono ?_; rintro e w2 ⟨rfl, kb⟩; replace d0 := celln kb d0; replace d1 := celln kb d1; have hB2 := kbq hBw kb; have CO2 := CO w2 hB2)
                | (go_at_call 19; refine CO2.mono ?_; rintro e w3 ⟨⟨BB, rfl, hR⟩, kb3⟩; have CP := prefixes_any _ _ k (ordL rs) w3 hR hn; have hB3 := kbq hB2 kb3)
                | (go_at_call 44; refine CP.mono ?_; rintro e w4 ⟨⟨v, rfl, hO⟩, kb4⟩; have hB4 := kbq hB3 kb4; obtain ⟨A4, c4, rfl, hc1, hc2, hS⟩ := hO.sts HL.out; have CS := sorted_any A4 _ c4 _ w4 hS (by rw [hlen]; omega); rw [hlen, hso] at CS; rw [hlen])
                | (go_at_call 43; refine CS.mono ?_; rintro e w5 ⟨rfl, kb5⟩))
              go_ret
              exact ⟨rfl, kbq hB4 kb5⟩
  · have e : riE m rs = 29 := by unfold riE; rw [if_pos c1]
    rw [e]
    rw [decide_eq_false c1] at MA
    go_enter Tryz.func23, Tryz.ntmps23
    go_wp2_with (go_at_call 40; refine (MA _).mono ?_; rintro e w2 ⟨rfl, rfl⟩)
    go_ret
    exact ⟨rfl, (Below.refl _ w).alloc (Nat.le_refl _) _⟩
end Go.Proofs.YtckaiejbgnhgcaaGreatDoor.Wd
namespace Go.Proofs.YtckaiejbgnhgcaaGreatDoor.Wd
open Go Go.RowKit
set_option linter.unusedVariables false

set_option maxRecDepth 100000 in
set_option maxHeartbeats 1000000 in
theorem rprint_new (p : ByteArray) (e b : Nat) (k : Int) (w : World) (hN : Nam w) (hs : p.size ≤ 281474976710656) (he : e < 18446744073709551616) (hb : b < 18446744073709551616) (hk : 0 ≤ k ∧ k ≤ 255) :
    Calls Tryz.prog 30 #[rul p e b k] w fun r w' => (∃ (A : Option Addr) (n : Nat), r = .returned (.slice A n n) ∧ n ≤ 5 ∧ (∀ bb oo, A = some ⟨bb, oo, none⟩ → w.heap.size ≤ bb) ∧ Sts w' A n (prW p e b k)) ∧ Below w.heap.size w w' := by
  have RA := fun W => right_any p e b k W (by omega) (UN e he) (UN b hb)
  by_cases h : ruE p e b k = 0
  · have e0 : prW p e b k = if p.size = 0 then [defS, dig e, dig b, namS k] else [rulS, p, dig e, dig b, namS k] := by unfold prW; rw [if_neg (by simp [h])]
    rw [e0]
    rw [h] at RA
    clear e0 h
    go_enter Tryz.func30, Tryz.ntmps30
    go_wp2_with (go_at_call 41; refine (RA _).mono ?_; rintro r w1 ⟨rfl, k1⟩)
    have kW : Kept w w1 := ((Kept.refl w).alloc _ _).trans k1
    have b0 : w1.cell? ⟨w.heap.size, 0, none⟩ = some (.string p) := k1.cell (by simp)
    have b1 : w1.cell? ⟨w.heap.size, 1, none⟩ = some (.int .u64 e) := k1.cell (by simp)
    have b2 : w1.cell? ⟨w.heap.size, 2, none⟩ = some (.int .u64 b) := k1.cell (by simp)
    have b3 : w1.cell? ⟨w.heap.size, 3, none⟩ = some (.int .u8 k) := k1.cell (by simp)
    clear k1
    go_region_held3 (fun w' => Kept w w' ∧ w'.cell? ⟨w.heap.size, 0, none⟩ = some (.string p) ∧ w'.cell? ⟨w.heap.size, 1, none⟩ = some (.int .u64 e) ∧ w'.cell? ⟨w.heap.size, 2, none⟩ = some (.int .u64 b) ∧ w'.cell? ⟨w.heap.size, 3, none⟩ = some (.int .u8 k))
      (first | with_reducible exact ⟨kW, b0, b1, b2, b3⟩ | with_reducible exact ⟨kW.drew, dcell b0, dcell b1, dcell b2, dcell b3⟩)
      (first
      | (go_at_call 29; ((with_reducible refine (print_any _ _ (by first | exact he | exact hb)).mono ?_); rintro r w2 ⟨rfl, g⟩; (first | with_reducible (replace kW := kW.trans g; replace b0 := g.cell b0; replace b1 := g.cell b1; replace b2 := g.cell b2; replace b3 := g.cell b3) | with_reducible (replace kW := kW.drew.trans g; replace b0 := g.cell (dcell b0); replace b1 := g.cell (dcell b1); replace b2 := g.cell (dcell b2); replace b3 := g.cell (dcell b3))); clear g))
      | (go_at_call 51; ((with_reducible refine (name_any _ _ (hN.kept (by first | exact kW | exact kW.drew)) hk).mono ?_); rintro r w2 ⟨rfl, rfl⟩)))
    all_goals
      rename_i hH
      obtain ⟨kF, f0, f1, f2, f3⟩ := hH
      have dz1 := dig_size e he
      have dz2 := dig_size b hb
      have dz3 := nam_size k
      by_cases hp : p.size = 0
      · have hz := toList_none p hp
        have HP := Lib.hid hp
        clear hp
        go_wp2
        go_ret
        refine ⟨⟨_, 4, rfl, by omega, fun bb oo e => by (injection e with e; injection e with e1 e2; have := kF.2.size; omega), ?_⟩, (kF.alloc _ _).2⟩
        try rw [if_pos HP.out]
        refine sts_alloc _ [defS, dig e, dig b, namS k] 9 ?_
        intro x hx
        simp only [List.mem_cons, List.not_mem_nil, or_false] at hx
        rcases hx with rfl | rfl | rfl | rfl
        · decide
        · omega
        · omega
        · omega
      · have hz := toList_ne p (by omega)
        have HP := Lib.hid hp
        clear hp
        go_wp2_with (go_at_call 34; refine (clone_any _ _ hs).mono ?_; rintro r w3 ⟨rfl, g3⟩)
        go_ret
        refine ⟨⟨_, 5, rfl, by omega, fun bb oo e => by (injection e with e; injection e with e1 e2; have := (kbq kF.2 g3).size; omega), ?_⟩, (kbq kF.2 g3).alloc (kbq kF.2 g3).size _⟩
        try rw [if_neg HP.out]
        refine sts_alloc _ [rulS, p, dig e, dig b, namS k] 9 ?_
        intro x hx
        simp only [List.mem_cons, List.not_mem_nil, or_false] at hx
        rcases hx with rfl | rfl | rfl | rfl | rfl
        · decide
        · omega
        · omega
        · omega
        · omega
  · have e0 : prW p e b k = [] := by unfold prW; rw [if_pos (by simpa using h)]
    rw [e0]
    have c1 : (ruE p e b k != 0) = true := by simpa using h
    have c2 : (ruE p e b k == 0) = false := by simpa using h
    generalize ruE p e b k = E at *
    clear e0 h
    go_enter Tryz.func30, Tryz.ntmps30
    go_wp2_with (go_at_call 41; refine (RA _).mono ?_; rintro r w1 ⟨rfl, k1⟩)
    go_ret
    exact ⟨⟨none, 0, rfl, by omega, fun bb oo e => (by cases e), Sts.nil _ _⟩, (((Kept.refl w).alloc _ _).trans k1).2⟩
end Go.Proofs.YtckaiejbgnhgcaaGreatDoor.Wd
namespace Go.Proofs.YtckaiejbgnhgcaaGreatDoor.Wd
open Go Go.RowKit
set_option linter.unusedVariables false
set_option maxRecDepth 100000

/-! ### Lines that are built -/
theorem Rls.grown {w w' : World} {B n : Nat} {rs : List Rl} {row : Option Nat} (h : Rls w (some ⟨B, 0, none⟩) n rs) (g : w.grownBy w' row) (hne : row ≠ some B) : Rls w' (some ⟨B, 0, none⟩) n rs :=
  ⟨h.1, h.2.1, fun hn => by
    obtain ⟨b, off, e, hb, hc⟩ := h.2.2 hn
    injection e with e
    injection e with e1 e2
    subst e1 e2
    exact ⟨_, _, rfl, Nat.lt_of_lt_of_le hb g.size, fun j hj => (hc j hj).of_block (g.block _ hb (fun e => hne e.symm))⟩⟩
theorem infoStrs : (Tryz.prog.info? 32).map (fun i => (i.zero, i.size, i.bytes)) = some (some (.slice none 0 0), 1, 24) := by kernel_rfl
abbrev lin (lss : List (List ByteArray)) (k : Nat) : List ByteArray := lss.getD k []
def OLn (w : World) (base : Nat) (v : Value) (lss : List (List ByteArray)) : Prop :=
  ∃ us, w.ownsRow base 32 1 v lss.length us ∧ ∀ k, k < lss.length → ∃ A c, us[k]? = some (.slice A (lin lss k).length c) ∧ Sts w A (lin lss k).length (lin lss k) ∧ ∀ b off, A = some ⟨b, off, none⟩ → 0 < (lin lss k).length → v.ownBlock ≠ some b
theorem own_under {w w' : World} {base : Nat} {e : TypeId} {size n : Nat} {v : Value} {xs : List Value} (h : w.ownsRow base e size v n xs) (g : Below w.heap.size w w') : w'.ownsRow base e size v n xs := by
  obtain ⟨h1, h2⟩ := h
  refine ⟨h1, ?_⟩
  rcases h2 with h2 | ⟨gb, cap, cur, hv, hb, hg, h3⟩
  · exact .inl h2
  · exact .inr ⟨gb, cap, cur, hv, hb, (g.block _ (lt_heap hg)).trans hg, h3⟩
theorem OLn.below {w w' : World} {base : Nat} {v : Value} {lss : List (List ByteArray)} (h : OLn w base v lss) (g : Below w.heap.size w w') : OLn w' base v lss := by
  obtain ⟨us, h1, h2⟩ := h
  refine ⟨us, own_under h1 g, fun k hk => ?_⟩
  obtain ⟨A, c, a1, a2, a3⟩ := h2 k hk
  exact ⟨A, c, a1, a2.below g, a3⟩
theorem OLn.low {w : World} {base base' : Nat} {v : Value} {lss : List (List ByteArray)} (h : OLn w base v lss) (hb : base' ≤ base) : OLn w base' v lss := by
  obtain ⟨us, h1, h2⟩ := h
  exact ⟨us, own_low h1 hb, h2⟩
theorem str_lb (x : ByteArray) : Ws.str (lb x) = x := by cases x; rfl
theorem sts_ws {w : World} {A : Option Addr} {n : Nat} {xs : List ByteArray} (h : Sts w A n xs) : Ws.Sts w A n (xs.map lb) := by
  refine ⟨by rw [List.length_map]; exact h.1, fun y hy => ?_, fun hn => ?_⟩
  · obtain ⟨x, hx, rfl⟩ := List.mem_map.1 hy
    rw [list_size]; exact h.2.1 x hx
  · obtain ⟨b, off, e, hb, hc⟩ := h.2.2 hn
    refine ⟨b, off, e, hb, fun k hk => ?_⟩
    have hk' : k < xs.length := by rw [h.1]; exact hk
    have e2 : (xs.map lb).getD k [] = lb (xs.getD k nob) := by simp [List.getD_eq_getElem?_getD, List.getElem?_eq_getElem hk']
    rw [e2, str_lb]
    exact hc k hk
/-- Lines, as bytes. -/
abbrev lbs (lss : List (List ByteArray)) : List (List (List UInt8)) := lss.map fun l => l.map lb
theorem lbs_at (lss : List (List ByteArray)) (k : Nat) : (lbs lss).getD k [] = (lin lss k).map lb := by
  by_cases h : k < lss.length
  · simp [lbs, lin, List.getD_eq_getElem?_getD, List.getElem?_eq_getElem h]
  · simp [lbs, lin, List.getD_eq_getElem?_getD, List.getElem?_eq_none (Nat.le_of_not_lt h)]
theorem OLn.lrows {w : World} {base : Nat} {v : Value} {lss : List (List ByteArray)} (h : OLn w base v lss) (hl : ∀ l ∈ lss, l.length ≤ 9223372036854775807) :
    ∃ A c, v = .slice A lss.length c ∧ lss.length ≤ c ∧ c ≤ 9223372036854775807 ∧ Ws.LRows w A lss.length (lbs lss) := by
  obtain ⟨us, ⟨h1, h2⟩, h3⟩ := h
  rcases h2 with ⟨rfl, h0⟩ | ⟨g, cap, cur, rfl, hb, hg, hc1, hc2, hsz, htk⟩
  · have : lss = [] := List.eq_nil_of_length_eq_zero h0
    subst this
    exact ⟨none, 0, rfl, by simp, by omega, rfl, fun x => absurd x (Nat.lt_irrefl _)⟩
  · refine ⟨_, cap, rfl, hc1, hc2, by rw [List.length_map], fun hn => ⟨g, 0, rfl, lt_heap hg, fun k hk => ?_⟩⟩
    obtain ⟨A, c, a1, a2, a3⟩ := h3 k hk
    have hlen : (lin lss k).length ≤ 9223372036854775807 := hl _ (by simp [lin, List.getD_eq_getElem?_getD, List.getElem?_eq_getElem hk])
    rw [lbs_at, List.length_map]
    refine ⟨A, c, ?_, hlen, sts_ws a2⟩
    rw [Nat.zero_add, cell_of_row w g k cur 32 (0, 0) hg, ← a1]
    have e : (cur.toList.take (lss.length * 1))[k]? = us[k]? := by rw [htk]
    rw [List.getElem?_take, if_pos (by omega)] at e
    rw [← e]; simp
theorem OLn.lit {w : World} {base B : Nat} {A : Option Addr} {m c : Nat} {l : List ByteArray} (hb : base ≤ w.heap.size) (hB : w.heap.size = B) (h : Sts w A m l) (hA : ∀ b off, A = some ⟨b, off, none⟩ → 0 < m → b < w.heap.size) : OLn (w.alloc (.cells #[.slice A m c] 32)) base (.slice (some ⟨B, 0, none⟩) 1 1) [l] := by
  subst hB
  have hm := h.1
  subst hm
  have g := (Below.refl _ w).alloc (Nat.le_refl _) (.cells #[.slice A l.length c] 32)
  refine ⟨[.slice A l.length c], ?_, fun k hk => ?_⟩
  · exact World.ownsRow_lit (base := base) (e := 32) (size := 1) w #[.slice A l.length c] 1 hb (by unfold maxLen; omega) rfl
  · obtain rfl : k = 0 := by simp at hk; omega
    refine ⟨A, c, rfl, h.below g, fun b off e h0 => ?_⟩
    intro e2
    simp only [Value.ownBlock, Option.some.injEq] at e2
    have := hA b off e h0
    omega
theorem wpList_app_line (w : World) {ops : Array Oper} {rest : List Oper} {o : Oper} {a : Act} {Q : Exit → Act → World → Prop} (hgd : o.guard = none) (s x : Operand)
    (ho : o.op = .call { callee := .builtin .append, args := #[s, x], argTypes := #[67, 67] })
    (base : Nat) (v : Value) (acc : List (List ByteArray)) (hs : a.eval s = v) (hown : OLn w base v acc) (b c : Nat) (hx : a.eval x = .slice (some ⟨b, 0, none⟩) 1 c) (A' : Option Addr) (m c' : Nat) (l : List ByteArray) (hc : w.cell? ⟨b, 0, none⟩ = some (.slice A' m c')) (hT : Sts w A' m l)
    (hA : ∀ b off, A' = some ⟨b, off, none⟩ → 0 < m → v.ownBlock ≠ some b) (hsz : acc.length ≤ 1099511627776) (hbase : base ≤ w.heap.size)
    (h : ∀ g cap w', OLn w' base (.slice (some ⟨g, 0, none⟩) (acc.length + 1) cap) (acc ++ [l]) → Below base w w' → w.grownBy w' v.ownBlock → (v.ownBlock = some g ∨ g = w.heap.size) → wpList Tryz.prog ops Q rest (a.put o.dst (.slice (some ⟨g, 0, none⟩) (acc.length + 1) cap)) w') : wpList Tryz.prog ops Q (o :: rest) a w := by
  obtain ⟨i0, hi, hy0, hy1, hy2⟩ := info_parts infoStrs
  obtain ⟨us, h1, h2⟩ := hown
  have hm := hT.1
  subst hm
  refine wpList_append_lies w hgd s x 67 ho base 32 i0 (.slice none 0 0) 1 24 Tryz.underlying67 hi hy0 hy1 hy2 rfl (by decide) v acc.length us hs h1 ⟨b, 0, none⟩ 1 c [.slice A' l.length c'] hx rfl (fun j u hu => ?_) (fun u hu => ?_) (by omega) (by unfold maxLen; omega) (by omega) hbase w.heap.size rfl ?_
  · match j, hu with
    | 0, hu => simp at hu; subst hu; simpa [Go.WideShapes.add_plain] using hc
    | j + 1, hu => simp at hu
  · simp only [List.mem_cons, List.not_mem_nil, or_false] at hu; subst hu; rfl
  · intro g cap w' own grow hg hgs
    have oth : ∀ {A : Option Addr} {n : Nat} {xs : List ByteArray}, Sts w A n xs → (∀ b off, A = some ⟨b, off, none⟩ → 0 < n → v.ownBlock ≠ some b) → Sts w' A n xs ∧ ∀ b off, A = some ⟨b, off, none⟩ → 0 < n → (Value.slice (some ⟨g, 0, none⟩) (acc.length + 1) cap).ownBlock ≠ some b := by
      intro A n xs hS hA
      refine ⟨⟨hS.1, hS.2.1, fun hn => ?_⟩, fun b off e h0 => ?_⟩
      · obtain ⟨b, off, e, hb, hcl⟩ := hS.2.2 hn
        have hbk := grow.block b hb (fun e2 => hA b off e hn e2.symm)
        exact ⟨b, off, e, Nat.lt_of_lt_of_le hb grow.size, fun k hk => (World.cell?_of_block (w := w) hbk).trans (hcl k hk)⟩
      · obtain ⟨b', off', e', hb, _⟩ := hS.2.2 h0
        rw [e] at e'
        injection e' with e'
        injection e' with e1
        subst e1
        intro e2
        simp only [Value.ownBlock, Option.some.injEq] at e2
        subst e2
        rcases hg with hg | hg
        · exact hA _ off e h0 hg
        · omega
    refine h g cap w' ⟨us ++ [.slice A' l.length c'], by rw [List.length_append]; exact own, fun k hk => ?_⟩ ((Below.refl base w).grown grow hbase (fun k hk => (h1.lt k hk).1)) grow hg
    have hlen : us.length = acc.length := by have := h1.1; omega
    by_cases hka : k < acc.length
    · obtain ⟨A, cc, a1, a2, a3⟩ := h2 k hka
      have e1 : lin (acc ++ [l]) k = lin acc k := by simp [lin, List.getD_eq_getElem?_getD, List.getElem?_append_left hka]
      rw [e1]
      obtain ⟨s1, s2⟩ := oth a2 a3
      exact ⟨A, cc, by rw [List.getElem?_append_left (by omega)]; exact a1, s1, s2⟩
    · have hk2 : k = acc.length := by simp at hk; omega
      have e1 : lin (acc ++ [l]) k = l := by rw [hk2]; simp [lin, List.getD_eq_getElem?_getD]
      rw [e1]
      obtain ⟨s1, s2⟩ := oth hT hA
      exact ⟨A', c', by rw [hk2, ← hlen]; simp, s1, s2⟩

/-! ### The lines of a policy -/
abbrev sizS : ByteArray := ⟨#[115, 105, 122, 101]⟩
abbrev rlW (r : Rl) : List ByteArray := prW r.p r.e.toNat r.b.toNat r.k
def prLb (m : Int) (rs : List Rl) : List (List ByteArray) := [sizS, dig m.toNat] :: (ordL rs).map rlW
theorem prLb_len (m : Int) (rs : List Rl) : (prLb m rs).length = rs.length + 1 := by simp [prLb, ordL_length]
theorem prLb_take (m : Int) (rs : List Rl) (k : Nat) (h : k < rs.length) : (prLb m rs).take (k + 2) = (prLb m rs).take (k + 1) ++ [rlW (fnOf (ordL rs) k)] := by
  have h' : k < (ordL rs).length := by rw [ordL_length]; exact h
  rw [show k + 2 = (k + 1) + 1 from rfl, List.take_add_one, List.getElem?_eq_getElem (by rw [prLb_len]; omega), fn_at h']
  simp [prLb]
/-- The text of a policy. -/
def prTx (m : Int) (rs : List Rl) : List UInt8 := Ws.jn (lbs (prLb m rs))

theorem jw_len (b : Nat) : ∀ (s : Bool) (l : List (List UInt8)), (∀ x ∈ l, x.length ≤ b) → (Ws.jw s l).length ≤ l.length * (b + 1)
  | s, [], _ => by simp [Ws.jw]
  | s, x :: l, h => by
    have h1 := h x (by simp)
    have h2 := jw_len b true l (fun y hy => h y (List.mem_cons_of_mem _ hy))
    unfold Ws.jw
    simp only [List.length_append, List.length_cons, Nat.add_mul, Nat.one_mul]
    split <;> simp <;> omega
theorem jn_len (a b : Nat) : ∀ (lss : List (List (List UInt8))), (∀ l ∈ lss, l.length ≤ a ∧ ∀ x ∈ l, x.length ≤ b) → (Ws.jn lss).length ≤ lss.length * (a * (b + 1) + 1)
  | [], _ => by simp [Ws.jn]
  | l :: lss, h => by
    have h1 := h l (by simp)
    have h2 := jn_len a b lss (fun y hy => h y (List.mem_cons_of_mem _ hy))
    have h3 := jw_len b false l h1.2
    have h4 := Nat.mul_le_mul_right (b + 1) h1.1
    unfold Ws.jn at h2 ⊢
    simp only [List.flatMap_cons, List.length_append, List.length_cons, List.length_nil, Nat.add_mul, Nat.one_mul]
    omega

theorem er_short {r : Rl} (h : r.er = 0) : r.p.size ≤ 128 := by
  have h : ruE r.p r.e r.b r.k = 0 := h
  rw [ru_is] at h
  by_cases c0 : pfB r.p = false
  · rw [if_pos c0] at h; cases h
  · have c : pfB r.p = true := by simpa using c0
    unfold pfB at c
    rw [Bool.or_eq_true] at c
    rcases c with c | c
    · have := of_decide_eq_true c; omega
    · unfold rtB at c
      rw [Bool.and_eq_true] at c
      have := of_decide_eq_true c.1
      rw [list_size] at this
      omega
theorem rlW_len (r : Rl) : (rlW r).length ≤ 5 := by
  unfold rlW prW
  split
  · simp
  · split <;> simp
theorem rlW_size {r : Rl} (h : Okr r) (hs : r.p.size ≤ 128) : ∀ x ∈ rlW r, x.size ≤ 128 := by
  have he : r.e.toNat < 18446744073709551616 := by have := h.e.2; have := h.e.1; omega
  have hb : r.b.toNat < 18446744073709551616 := by have := h.b.2; have := h.b.1; omega
  have dz1 := dig_size _ he
  have dz2 := dig_size _ hb
  have dz3 := nam_size r.k
  have d4 : defS.size = 7 := rfl
  have d5 : rulS.size = 4 := rfl
  intro x hx
  unfold rlW prW at hx
  split at hx
  · cases hx
  · split at hx
    · simp only [List.mem_cons, List.not_mem_nil, or_false] at hx
      rcases hx with rfl | rfl | rfl | rfl <;> omega
    · simp only [List.mem_cons, List.not_mem_nil, or_false] at hx
      rcases hx with rfl | rfl | rfl | rfl | rfl <;> omega
theorem riE_0 {m : Int} {rs : List Rl} (h : riE m rs = 0) : (1 ≤ m ∧ m ≤ 1000000) ∧ rs.length ≤ 1000 ∧ frE rs = 0 ∧ hasB rs nob = true ∧ Dst rs := by
  unfold riE at h
  by_cases c1 : 1 ≤ m ∧ m ≤ 1000000
  · rw [if_neg (by simp [c1])] at h
    by_cases c2 : 1000 < rs.length
    · rw [if_pos c2] at h; cases h
    · rw [if_neg c2] at h
      by_cases c3 : frE rs = 0
      · rw [if_neg (by simp [c3])] at h
        by_cases c4 : hasB rs nob = false
        · rw [if_pos c4] at h; cases h
        · rw [if_neg c4] at h
          by_cases c5 : soB ((ordL rs).map Rl.p) = false
          · rw [if_pos c5] at h; cases h
          · exact ⟨c1, by omega, c3, by simpa using c4, (ordL_so rs).1 (by simpa using c5)⟩
      · rw [if_pos c3] at h; exact absurd h c3
  · rw [if_pos c1] at h; cases h
theorem frE_all : ∀ {rs : List Rl}, frE rs = 0 → ∀ r ∈ rs, r.er = 0
  | [], _, r, h => nomatch h
  | x :: l, h, r, hr => by
    unfold frE at h
    by_cases c : x.er = 0
    · rw [if_neg (by simp [c])] at h
      rcases List.mem_cons.1 hr with rfl | hr
      · exact c
      · exact frE_all h r hr
    · rw [if_pos c] at h; exact absurd h c
theorem prTx_len {m : Int} {rs : List Rl} (h : riE m rs = 0) (ok : ∀ r ∈ rs, Okr r) : (prTx m rs).length ≤ 647000 := by
  obtain ⟨h1, h2, h3, h4, h5⟩ := riE_0 h
  have := jn_len 5 128 (lbs (prLb m rs)) (fun l hl => by
    obtain ⟨l', hl', rfl⟩ := List.mem_map.1 hl
    unfold prLb at hl'
    rcases List.mem_cons.1 hl' with rfl | hl'
    · refine ⟨by simp, fun x hx => ?_⟩
      have := dig_size m.toNat (by omega)
      have e0 : sizS.size = 4 := rfl
      simp only [List.map_cons, List.map_nil, List.mem_cons, List.not_mem_nil, or_false] at hx
      rcases hx with rfl | rfl <;> rw [list_size] <;> omega
    · obtain ⟨r, hr, rfl⟩ := List.mem_map.1 hl'
      have hr := (ordL_mem rs r).1 hr
      refine ⟨by rw [List.length_map]; exact rlW_len r, fun x hx => ?_⟩
      obtain ⟨y, hy, rfl⟩ := List.mem_map.1 hx
      rw [list_size]
      exact rlW_size (ok r hr) (er_short (frE_all h3 r hr)) y hy)
  have hl : (lbs (prLb m rs)).length = rs.length + 1 := by rw [List.length_map, prLb_len]
  unfold prTx
  rw [hl] at this
  omega

set_option maxHeartbeats 2000000 in
theorem cprint_any (m : Int) (A : Option Addr) (n cap : Nat) (rs : List Rl) (w : World) (hN : Nam w) (h : Rls w A n rs) (hn : n ≤ 1099511627776) (hm : -9223372036854775808 ≤ m ∧ m ≤ 9223372036854775807) :
    Calls Tryz.prog 16 #[.agg #[.int .i64 m, .slice A n cap]] w fun e w' => (∃ v, e = .returned (.tuple #[v, .int .u16 (riE m rs)]) ∧ Ws.BRow w' w.heap.size v (if riE m rs = 0 then prTx m rs else [])) ∧ Below w.heap.size w w' := by
  have H := Lib.hid h
  have hl := h.1
  have B0 := (Below.refl _ w).alloc (Nat.le_refl _) (.cells #[.int .i64 m, .slice A n cap] 28)
  have CR := fun W (g : Below w.heap.size w W) => cright_any m A n cap rs W (h.below g) hn hm
  have CO := fun W (g : Below w.heap.size w W) => order_new m A n cap rs W (h.below g) hn
  clear h
  by_cases hr : riE m rs = 0
  · obtain ⟨⟨m1, m2⟩, hlen, r3, r4, r5⟩ := riE_0 hr
    have HSZ := Lib.hid (prTx_len hr H.out.2.1)
    have HA := Lib.hid (fun r (hr : r ∈ rs) => frE_all r3 r hr)
    obtain ⟨M, rfl⟩ : ∃ M : Nat, m = (M : Int) := ⟨m.toNat, by omega⟩
    rw [if_pos hr]
    rw [hr] at CR ⊢
    have hw : IntKind.u64.wrap (M : Int) = (M : Int) := by rw [IntKind.wrap_u64]; omega
    clear r3 r4 r5 hr
    go_enter Tryz.func16, Tryz.ntmps16
    go_wp2_with (first
      | (go_at_call 23; refine (CR _ B0).mono ?_; rintro e w1 ⟨rfl, k1⟩; have d0 : w1.cell? ⟨w.heap.size, 0, none⟩ = some (.int .i64 (M : Int)) := celln k1 (by simp); have d1 : w1.cell? ⟨w.heap.size, 1, none⟩ = some (.slice A n cap) := celln k1 (by simp); have B1 := kbq B0 k1)
      | (go_at_call 29; refine (print_any _ _ (by omega)).mono ?_; rintro e w2 ⟨rfl, k2⟩; replace d0 := celln k2.2 d0; replace d1 := celln k2.2 d1; have B2 := kbq B1 k2.2; refine stopHere ?_))
    unfold Stop
    have hdz := dig_size M (by omega)
    have T0 : Sts (w2.alloc (.cells #[.string sizS, .string (str (Lib.decDigits M))] 9)) (some ⟨w2.heap.size, 0, none⟩) 2 [sizS, dig M] := sts_alloc w2 [sizS, dig M] 9 (fun x hx => by
      have e0 : sizS.size = 4 := rfl
      simp only [List.mem_cons, List.not_mem_nil, or_false] at hx
      rcases hx with rfl | rfl <;> omega)
    have O0 := OLn.lit (w := w2.alloc (.cells #[.string sizS, .string (str (Lib.decDigits M))] 9)) (base := w.heap.size) (B := w2.heap.size + 1) (c := 2) (by have := B2.size; simp; omega) (by simp) T0 (fun b off e _ => by injection e with e; injection e with e1; simp; omega)
    have B3 := (B2.alloc B2.size (.cells #[.string sizS, .string (str (Lib.decDigits M))] 9)).alloc (by have := B2.size; simp; omega) (.cells #[.slice (some ⟨w2.heap.size, 0, none⟩) 2 2] 32)
    have g2 := ((Below.refl _ w2).alloc (Nat.le_refl _) (.cells #[.string sizS, .string (str (Lib.decDigits M))] 9)).alloc (by simp) (.cells #[.slice (some ⟨w2.heap.size, 0, none⟩) 2 2] 32)
    have hlt0 := cell_lt d0
    have CO3 := CO _ B3
    clear CR CO T0
    go_wp2_with (go_at_call 19; refine stopHere ?_)
    unfold Stop
    refine CO3.mono ?_
    rintro e w4 ⟨⟨BB, rfl, hBB, hR⟩, k4⟩
    have FR := fun W => field1_run (M : Int) (some ⟨BB, 0, none⟩) n n W
    have O4 := O0.below k4
    have B4 := kbq B3 k4
    clear O0 k4 CO3 g2
    replace hBB : w2.heap.size + 1 < BB := by simp at hBB; omega
    have hR0 := hR
    have HLEN := hR.1
    have HOK := Lib.hid hR.2.1
    clear hR
    go_wp2
    clear FR
    go_loopw [5, 23] (fun v i wr => ∃ k : Nat, i = .int .i64 (k : Int) ∧ k ≤ n ∧ OLn wr w.heap.size v ((prLb M rs).take (k + 1)) ∧ Rls wr (some ⟨BB, 0, none⟩) n (ordL rs) ∧ v.ownBlock ≠ some BB ∧ Below w.heap.size w wr) (fun _ i _ => n - (intOf i).toNat)
    case atStart => exact ⟨0, rfl, Nat.zero_le _, by simpa [prLb] using O4, hR0, by simp [Value.ownBlock]; omega, B4⟩
    case round =>
      clear hR0 O4 B4
      obtain ⟨k, rfl, hk, hO, hR, hne, hBw⟩ := hrel
      by_cases hkn : k < n
      · obtain ⟨b, off, e, hb, hc⟩ := hR.2.2 (by omega)
        injection e with e
        injection e with e1 e2
        subst e1 e2
        obtain ⟨x0, x1, x2, x3⟩ := hc k hkn
        rw [Nat.zero_add] at x0 x1 x2 x3
        have ok := hR.ok k
        have ht := prLb_take M rs k (by omega)
        have hacc : ((prLb M rs).take (k + 1)).length = k + 1 := by rw [List.length_take, prLb_len]; omega
        have i0 : (0 : Int) ≤ (k : Int) := by omega
        have i1 : (k : Int) < (n : Int) := by omega
        have hown : ∀ bb, u5.ownBlock = some bb → bb < wr.heap.size := by
          obtain ⟨us, h1, _⟩ := hO
          exact fun bb hb => (h1.lt bb hb).2
        have hOW := Lib.hid hown
        generalize hX : fnOf (ordL rs) k = x at *
        obtain ⟨tp, te, tb, tk⟩ := x
        obtain ⟨ok1, ok2, ok3, ok4⟩ := ok
        dsimp only at x0 x1 x2 x3 ok1 ok2 ok3 ok4
        obtain ⟨E, rfl⟩ : ∃ E : Nat, te = (E : Int) := ⟨te.toNat, by have := ok2.1; omega⟩
        obtain ⟨F, rfl⟩ : ∃ F : Nat, tb = (F : Int) := ⟨tb.toNat, by have := ok3.1; omega⟩
        have ht2 : (prLb M rs).take (k + 2) = (prLb M rs).take (k + 1) ++ [prW tp E F tk] := ht
        have C := fun W (g : Below w.heap.size w W) => rprint_new tp E F tk W (hN.below g) ok1 (by have := ok2.2; omega) (by have := ok3.2; omega) ok4
        have Bx := hBw.alloc hBw.size (.cells #[.string tp, .int .u64 (E : Int), .int .u64 (F : Int), .int .u8 tk] 37)
        have By := (Below.refl _ wr).alloc (Nat.le_refl _) (.cells #[.string tp, .int .u64 (E : Int), .int .u64 (F : Int), .int .u8 tk] 37)
        have Cx := C _ Bx
        generalize (prLb M rs).take (k + 1) = acc at *
        have hsz := HSZ
        clear hX ht hc C ok2 ok3 ok4 hown HSZ HA hN
        go_wp2_with (go_at_call 30; refine stopHere ?_)
        unfold Stop
        refine Cx.mono ?_
        rintro e w5 ⟨⟨A5, n5, rfl, h5, fr, hS5⟩, k5⟩
        have g5 := By.trans (k5.mono By.size)
        have hO5 := hO.below g5
        have B5 := kbq Bx k5
        have Bz := (Below.refl _ w5).alloc (Nat.le_refl _) (.cells #[.slice A5 n5 n5] 32)
        have sz5 := B5.size
        have frr : ∀ b off, A5 = some ⟨b, off, none⟩ → 0 < n5 → u5.ownBlock ≠ some b := fun b off e _ h => by have := fr b off e; have := hOW.out b h; have := By.size; omega
        clear Cx
        go_wp2_with (refine wpList_app_line _ rfl _ _ rfl w.heap.size _ acc rfl (hO5.below Bz) w5.heap.size 1 rfl A5 n5 n5 (prW tp E F tk) (by simp) (hS5.below Bz) frr (by omega) (by have := Bz.size; omega) ?_; intro g cp w6 hO6 kb gw gg)
        go_roundw
        case rel =>
          have R6 := ((hR.below g5).below Bz).grown gw hne
          refine ⟨k + 1, by go_num, hkn, ?_, R6, ?_, (B5.trans (Bz.mono sz5)).trans kb⟩
          · rw [show k + 1 + 1 = k + 2 from rfl, ht2]
            rw [hacc] at hO6
            exact hO6
          · simp only [Value.ownBlock, ne_eq, Option.some.injEq]
            rcases gg with gg | gg
            · exact fun e => hne (e ▸ gg)
            · have := g5.size; have := Bz.size; omega
        case measure => simp [intOf]; omega
      · obtain rfl : k = n := by omega
        rw [show (prLb M rs).take (k + 1) = prLb M rs from List.take_of_length_le (by rw [prLb_len]; omega)] at hO
        obtain ⟨A6, c6, e6, hc1, hc2, hLR⟩ := hO.lrows (fun l hl => by
          unfold prLb at hl
          rcases List.mem_cons.1 hl with rfl | hl
          · simp only [List.length_cons, List.length_nil]; omega
          · obtain ⟨r, _, rfl⟩ := List.mem_map.1 hl
            have := rlW_len r; omega)
        have CJ := Ws.join_any A6 (prLb M rs).length c6 (lbs (prLb M rs)) wr hLR (by rw [prLb_len]; omega) (by have := HSZ.out; unfold prTx at this; omega)
        subst e6
        rw [show Ws.jn (lbs (prLb M rs)) = prTx M rs from rfl] at CJ
        generalize (prLb M rs).length = N at *
        clear HSZ hO hR hLR
        go_wp2_with (go_at_call 31; refine CJ.mono ?_; rintro e w6 ⟨v6, rfl, hv, k6⟩)
        refine bodyPost_ret (v := .tuple #[v6, .int .u16 0]) ?_ rfl ⟨⟨_, rfl, own_low hv hBw.size⟩, kbq hBw k6⟩
        simp [results, Tryz.results16, go_sem]
  · rw [if_neg hr]
    have c1 : (riE m rs != 0) = true := by simpa using hr
    have c2 : (riE m rs == 0) = false := by simpa using hr
    generalize riE m rs = R at *
    clear hr CO
    go_enter Tryz.func16, Tryz.ntmps16
    go_wp2_with (go_at_call 23; refine (CR _ B0).mono ?_; rintro e w1 ⟨rfl, k1⟩)
    refine bodyPost_ret (v := .tuple #[.slice none 0 0, .int .u16 R]) ?_ rfl ⟨⟨_, rfl, Ws.BRow.nil _ _⟩, kbq B0 k1⟩
    simp [results, Tryz.results16, go_sem]
end Go.Proofs.YtckaiejbgnhgcaaGreatDoor.Wd
