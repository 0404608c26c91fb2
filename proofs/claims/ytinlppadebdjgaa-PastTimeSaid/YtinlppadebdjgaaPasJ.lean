/- Rows of events as histories; what past's joined and Decide, and the document's Decide, answer; no conditions but those that each names. -/
import Derived.Test.YtinlppadebdjgaaPasC
import Derived.Deep.DeepAppendWide
import Derived.OwnWalk
namespace Go.Proofs.Ytinlppadebdjgaa.Wd
open Go Go.RowKit
set_option linter.unusedVariables false

/-- A row's cells. -/
def flat : List (Int × Int) → List Value
  | [] => []
  | e :: es => .int .u64 e.1 :: .int .u64 e.2 :: flat es
theorem flat_append (es fs : List (Int × Int)) : flat (es ++ fs) = flat es ++ flat fs := by
  induction es with
  | nil => rfl
  | cons e es ih => simp only [List.cons_append, flat, ih]
theorem flat_length (es : List (Int × Int)) : (flat es).length = es.length * 2 := by
  induction es with
  | nil => rfl
  | cons e es ih => simp only [flat, List.length_cons, ih]; omega
theorem flat_one (es : List (Int × Int)) : ∀ u ∈ flat es, u.oneCell' = true := by
  induction es with
  | nil => intro u hu; cases hu
  | cons e es ih => intro u hu; simp only [flat, List.mem_cons] at hu; rcases hu with rfl | rfl | h; rfl; rfl; exact ih u h
theorem flat_get (es : List (Int × Int)) : ∀ j u, (flat es)[j]? = some u → ∃ i e, es[i]? = some e ∧ ((j = i * 2 ∧ u = .int .u64 e.1) ∨ (j = i * 2 + 1 ∧ u = .int .u64 e.2)) := by
  induction es with
  | nil => intro j u h; simp [flat] at h
  | cons x xs ih =>
    intro j u h
    match j, h with
    | 0, h => simp [flat] at h; exact ⟨0, x, rfl, .inl ⟨rfl, h.symm⟩⟩
    | 1, h => simp [flat] at h; exact ⟨0, x, rfl, .inr ⟨rfl, h.symm⟩⟩
    | j + 2, h =>
      simp [flat] at h
      obtain ⟨i, e, he, h1 | h1⟩ := ih j u h
      · exact ⟨i + 1, e, by simpa using he, .inl ⟨by omega, h1.2⟩⟩
      · exact ⟨i + 1, e, by simpa using he, .inr ⟨by omega, h1.2⟩⟩
theorem flat_at (es : List (Int × Int)) : ∀ i e, es[i]? = some e → (flat es)[i * 2]? = some (.int .u64 e.1) ∧ (flat es)[i * 2 + 1]? = some (.int .u64 e.2) := by
  induction es with
  | nil => intro i e h; simp at h
  | cons x xs ih =>
    intro i e h
    cases i with
    | zero => simp at h; subst h; simp [flat]
    | succ i =>
      simp at h
      obtain ⟨h1, h2⟩ := ih i e h
      rw [show (i + 1) * 2 = i * 2 + 2 by omega, show i * 2 + 2 + 1 = (i * 2 + 1) + 2 by omega]
      simp only [flat, List.getElem?_cons_succ]
      exact ⟨h1, h2⟩
theorem evs_flat {n₀ : Nat} {w : World} {ad : Addr} {es : List (Int × Int)} (h : EvsIn n₀ w (some ad) es) : ∀ j u, (flat es)[j]? = some u → w.cell? (ad.add j) = some u := by
  intro j u hj
  obtain ⟨i, e, he, h1⟩ := flat_get es j u hj
  obtain ⟨b, off, h2, _, h3, h4⟩ := h i e he
  cases h2
  rw [Go.WideShapes.add_plain]
  rcases h1 with ⟨rfl, rfl⟩ | ⟨rfl, rfl⟩
  · exact h3
  · rw [← Nat.add_assoc]; exact h4
theorem own_evs {w : World} {base g cap n : Nat} {es : List (Int × Int)} (hl : es.length = n) (h : w.ownsRow base 29 2 (.slice (some ⟨g, 0, none⟩) n cap) n (flat es)) : EvsIn w.heap.size w (some ⟨g, 0, none⟩) es := by
  intro i e he
  have hi := (List.getElem?_eq_some_iff.1 he).1
  obtain ⟨f1, f2⟩ := flat_at es i e he
  have c1 := h.cellAt (i * 2) (by omega)
  have c2 := h.cellAt (i * 2 + 1) (by omega)
  rw [f1] at c1
  rw [f2] at c2
  refine ⟨g, 0, rfl, block_of_cell c1, ?_, ?_⟩
  · rw [Nat.zero_add]; exact c1
  · rw [Nat.zero_add]; exact c2

/-- A history that lies in memory. -/
def Hist (w : World) (v : Value) (es : List (Int × Int)) : Prop := ∃ a cap, v = .slice a es.length cap ∧ es.length ≤ cap ∧ (a = none → cap = 0) ∧ EvsIn w.heap.size w a es
theorem Hist.below {w w' : World} {v : Value} {es : List (Int × Int)} (h : Hist w v es) (g : Below w.heap.size w w') : Hist w' v es := by
  obtain ⟨a, cap, h1, h2, h3, h4⟩ := h
  exact ⟨a, cap, h1, h2, h3, below_evs g h4⟩
theorem own_hist {w : World} {base n : Nat} {v : Value} {es : List (Int × Int)} (hl : es.length = n) (h : w.ownsRow base 29 2 v n (flat es)) : Hist w v es := by
  have h' := h
  rcases h.2 with ⟨rfl, rfl⟩ | ⟨g, cap, cur, rfl, _, _, hc, _⟩
  · refine ⟨none, 0, by rw [hl], by omega, fun _ => rfl, fun i e he => ?_⟩
    have := (List.getElem?_eq_some_iff.1 he).1
    omega
  · exact ⟨some ⟨g, 0, none⟩, cap, by rw [hl], by omega, fun h => (by cases h), own_evs hl h'⟩
theorem own_below {w w' : World} {base : Nat} {e : TypeId} {size : Nat} {v : Value} {n : Nat} {xs : List Value} (h : w.ownsRow base e size v n xs) (g : Below w.heap.size w w') : w'.ownsRow base e size v n xs := by
  refine ⟨h.1, ?_⟩
  rcases h.2 with h0 | ⟨b, cap, cur, h1, h2, h3, h4⟩
  · exact .inl h0
  · exact .inr ⟨b, cap, cur, h1, h2, (g.block b (Array.getElem?_eq_some_iff.1 h3).1).trans h3, h4⟩
theorem own_mono {w : World} {base base' : Nat} {e : TypeId} {size : Nat} {v : Value} {n : Nat} {xs : List Value} (h : w.ownsRow base e size v n xs) (g : base' ≤ base) : w.ownsRow base' e size v n xs := by
  refine ⟨h.1, ?_⟩
  rcases h.2 with h0 | ⟨b, cap, cur, h1, h2, h3, h4⟩
  · exact .inl h0
  · exact .inr ⟨b, cap, cur, h1, Nat.le_trans g h2, h3, h4⟩
theorem own_block {w : World} {base : Nat} {e : TypeId} {size : Nat} {v : Value} {n : Nat} {xs : List Value} (h : w.ownsRow base e size v n xs) : ∀ k, v.ownBlock = some k → base ≤ k := fun k hk => (h.lt k hk).1

theorem infoEvent : (Try.prog.info? 29).map (fun i => (i.zero, i.size, i.bytes)) = some (some (evt (0, 0)), 2, 16) := by kernel_rfl

set_option maxRecDepth 100000 in
set_option maxHeartbeats 1000000 in
theorem joined_any (v u : Value) (es fs : List (Int × Int)) (w : World) (hv : Hist w v es) (hu : Hist w u fs) (hl : es.length + fs.length ≤ 100) :
    Calls Try.prog 26 #[v, u] w fun e w' => ∃ v', e = .returned v' ∧ w'.ownsRow w.heap.size 29 2 v' (es.length + fs.length) (flat (es ++ fs)) ∧ Below w.heap.size w w' := by
  obtain ⟨a, cap, rfl, h1, h2, h3⟩ := hv
  obtain ⟨a', cap', rfl, g1, g2, g3⟩ := hu
  obtain ⟨i0, hi, hz0, hz1, hz2⟩ := info_parts infoEvent
  generalize hn : es.length = n at *
  generalize hm : fs.length = m at *
  have hsum : IntKind.i64.wrap ((n : Int) + (m : Int)) = ((n + m : Nat) : Int) := by rw [IntKind.wrap_i64]; omega
  have HE := Lib.hid h3
  have HF := Lib.hid g3
  have H2 := Lib.hid h2
  have G2 := Lib.hid g2
  have HN := Lib.hid hn
  have HM := Lib.hid hm
  clear h3 g3 h2 g2 hn hm
  go_enter Try.func26, Try.ntmps26
  go_wp2_with (first
    | (refine wpList_make_own _ rfl _ _ 22 rfl w.heap.size 29 i0 (evt (0, 0)) 2 Try.underlying22 hi hz0 hz1 .i64 .i64 _ (n + m) rfl rfl (by simp) (by rw [hz2]; omega) (by unfold maxLen; omega) (Nat.le_refl _) ?_; intro w1 own1 grow1)
    | (at_builtin; refine wpList_append_fits_any _ rfl _ _ 22 rfl w.heap.size 29 i0 2 Try.underlying22 hi hz1 _ _ _ _ rfl own1 _ _ _ (flat es) rfl ?c1 ?c2 ?c3 ?c4 ?c5 ?_))
  case c1 => rw [flat_length, HN.out]
  case c2 => intro e; have := H2.out e; omega
  case c3 =>
    intro ad e
    subst e
    have b1 : Below w.heap.size w w1 := (Below.refl _ _).grown grow1 (Nat.le_refl _) (fun k e => by cases e)
    exact evs_flat (HE.out.below b1)
  case c4 => exact flat_one es
  case c5 => omega
  · intro w2 own2 grow2
    have b1 : Below w.heap.size w w1 := (Below.refl _ _).grown grow1 (Nat.le_refl _) (fun k e => by cases e)
    have b2 : Below w.heap.size w w2 := b1.grown grow2 b1.size (fun k e => by cases e; exact Nat.le_refl _)
    try simp only [Nat.zero_add, List.nil_append] at own2
    go_wp2_with (at_builtin; refine wpList_append_fits_any _ rfl _ _ 22 rfl w.heap.size 29 i0 2 Try.underlying22 hi hz1 _ _ _ _ rfl own2 _ _ _ (flat fs) rfl ?d1 ?d2 ?d3 ?d4 ?d5 ?_)
    case d1 => rw [flat_length, HM.out]
    case d2 => intro e; have := G2.out e; omega
    case d3 =>
      intro ad e
      subst e
      exact evs_flat (HF.out.below b2)
    case d4 => exact flat_one fs
    case d5 => omega
    · intro w3 own3 grow3
      have b3 : Below w.heap.size w w3 := b2.grown grow3 b2.size (fun k e => by cases e; exact Nat.le_refl _)
      rw [← flat_append] at own3
      go_wp2
      go_ret
      exact ⟨_, rfl, own3, b3⟩

/-- The history behind a decision. -/
def dcL (es : List (Int × Int)) (now c x : Int) : List (Int × Int) := if cfB (es ++ [(now, x)]) c = true then es ++ [(now, x)] else es
theorem eu_snoc {es : List (Int × Int)} (h : EU es) {now x : Int} (h1 : U now) (h2 : U x) : EU (es ++ [(now, x)]) := by
  intro e he
  simp only [List.mem_append, List.mem_singleton] at he
  rcases he with he | rfl
  · exact h e he
  · exact ⟨h1, h2⟩
theorem eu_dcL {es : List (Int × Int)} (h : EU es) {now x : Int} (h1 : U now) (h2 : U x) (c : Int) : EU (dcL es now c x) := by
  unfold dcL; split
  · exact eu_snoc h h1 h2
  · exact h

theorem one_hist (w : World) (x y : Int) : Hist (w.alloc (.cells #[.int .u64 x, .int .u64 y] 29)) (.slice (some ⟨w.heap.size, 0, none⟩) 1 1) [(x, y)] := by
  refine ⟨_, _, rfl, by simp, fun h => (by cases h), fun i e he => ?_⟩
  have hi := (List.getElem?_eq_some_iff.1 he).1
  obtain rfl : i = 0 := by simpa using hi
  simp at he
  subst he
  exact ⟨_, _, rfl, by simp, by simp, by simp⟩
theorem nil_hist (w : World) : Hist w (.slice none 0 0) [] := ⟨none, 0, rfl, Nat.le_refl _, fun _ => rfl, fun i e he => by simp at he⟩

theorem Hist.conf {w : World} {v : Value} {es : List (Int × Int)} (h : Hist w v es) (hU : EU es) (hl : es.length ≤ 100) {c : Int} (hc : U c) :
    Calls Try.prog 17 #[v, .int .u64 c] w fun e w' => e = .returned (.bool (cfB es c)) ∧ Below w.heap.size w w' := by
  obtain ⟨a, cap, rfl, h1, h2, h3⟩ := h
  exact pconf_any a es.length cap es c w rfl h1 hU hc (by omega) h3
theorem Hist.fill {w : World} {v : Value} {es : List (Int × Int)} (h : Hist w v es) (hU : EU es) (hl : es.length ≤ 100) {now : Int} (hc : U now) :
    Calls Try.prog 15 #[v, .int .u64 now] w fun e w' => e = .returned (.int .u64 (flL es now)) ∧ Below w.heap.size w w' := by
  obtain ⟨a, cap, rfl, h1, h2, h3⟩ := h
  exact pfill_any a cap es now w hU hc (by omega) h3
theorem Hist.rises {w : World} {v : Value} {es : List (Int × Int)} (h : Hist w v es) (hl : es.length ≤ 100) :
    Calls Try.prog 18 #[v] w fun e w' => e = .returned (.bool (rsB es)) ∧ Below w.heap.size w w' := by
  obtain ⟨a, cap, rfl, h1, h2, h3⟩ := h
  exact (prise_any a es.length cap es w rfl (by omega) h3).mono fun _ _ k => ⟨k.1, k.2.kept.2⟩
theorem Hist.rconf {w : World} {v : Value} {es : List (Int × Int)} (h : Hist w v es) (hU : EU es) (hl : es.length ≤ 100) {c : Int} (hc : U c) :
    Calls Try.prog 24 #[v, .int .u64 c] w fun e w' => e = .returned (.bool (cfB es c)) ∧ Below w.heap.size w w' := by
  obtain ⟨a, cap, rfl, h1, h2, h3⟩ := h
  exact (rconf_any a es.length cap es c w rfl h1 hU hc (by omega) h3).mono fun _ _ k => ⟨k.1, k.2.kept.2⟩
theorem Hist.rfill {w : World} {v : Value} {es : List (Int × Int)} (h : Hist w v es) (hU : EU es) (hl : es.length ≤ 100) {now : Int} (hc : U now) :
    Calls Try.prog 23 #[v, .int .u64 now] w fun e w' => e = .returned (.int .u64 (flL es now)) ∧ Below w.heap.size w w' := by
  obtain ⟨a, cap, rfl, h1, h2, h3⟩ := h
  exact (rfill_any a es.length cap es now w rfl h1 hU hc (by omega) h3).mono fun _ _ k => ⟨k.1, k.2.kept.2⟩
theorem Hist.rrises {w : World} {v : Value} {es : List (Int × Int)} (h : Hist w v es) (hl : es.length ≤ 100) :
    Calls Try.prog 25 #[v] w fun e w' => e = .returned (.bool (rsB es)) ∧ Below w.heap.size w w' := by
  obtain ⟨a, cap, rfl, h1, h2, h3⟩ := h
  exact (rrise_any a es.length cap es w rfl (by omega) h3).mono fun _ _ k => ⟨k.1, k.2.kept.2⟩
theorem Hist.same {w : World} {v u : Value} {es : List (Int × Int)} (h : Hist w v es) (h' : Hist w u es) (hl : es.length ≤ 100) :
    Calls Try.prog 21 #[v, u] w fun e w' => e = .returned (.bool true) ∧ Below w.heap.size w w' := by
  obtain ⟨a, cap, rfl, h1, h2, h3⟩ := h
  obtain ⟨a', cap', rfl, g1, g2, g3⟩ := h'
  exact (rsame_eq a a' es.length cap cap' es w rfl (by omega) h3 g3).mono fun _ _ k => ⟨k.1, k.2.kept.2⟩

set_option maxRecDepth 100000 in
set_option maxHeartbeats 1000000 in
theorem pdec_any (v : Value) (es : List (Int × Int)) (now c x : Int) (w : World) (hv : Hist w v es) (hU : EU es) (hl : es.length ≤ 60) (h1 : U now) (h2 : U c) (h3 : U x) :
    Calls Try.prog 13 #[v, .int .u64 now, .int .u64 c, .int .u64 x] w fun e w' => ∃ v', e = .returned (.tuple #[v', .bool (cfB (es ++ [(now, x)]) c)]) ∧ w'.ownsRow w.heap.size 29 2 v' (dcL es now c x).length (flat (dcL es now c x)) ∧ Below w.heap.size w w' := by
  have J1 := Lib.hid (joined_any v _ es [(now, x)] _ (hv.below ((Below.refl _ w).alloc (Nat.le_refl _) (.cells #[.int .u64 now, .int .u64 x] 29))) (one_hist w now x) (by simp; omega))
  have hU2 := eu_snoc hU h1 h3
  have hlen : (es ++ [(now, x)]).length = es.length + [(now, x)].length := by simp
  have b0 : Below w.heap.size w (w.alloc (.cells #[.int .u64 now, .int .u64 x] 29)) := (Below.refl _ w).alloc (Nat.le_refl _) _
  have CC (w1 : World) (v1 : Value) (own1 : w1.ownsRow (w.alloc (.cells #[.int .u64 now, .int .u64 x] 29)).heap.size 29 2 v1 (es.length + [(now, x)].length) (flat (es ++ [(now, x)]))) := (own_hist hlen own1).conf hU2 (by simp; omega) h2
  by_cases hc : cfB (es ++ [(now, x)]) c = true
  · have hd : dcL es now c x = es ++ [(now, x)] := by unfold dcL; rw [if_pos hc]
    rw [hc, hd]
    rw [hc] at CC
    have C1 := Lib.hid CC
    clear CC hc hd
    go_enter Try.func13, Try.ntmps13
    go_wp2_with (first
      | (go_at_call 26; ((with_reducible refine J1.out.mono ?_); rintro e w1 ⟨v1, rfl, own1, b1⟩))
      | (go_at_call 17; ((with_reducible refine (C1.out _ _ own1).mono ?_); rintro e w2 ⟨rfl, b2⟩)))
    go_ret2
    have b1' : Below w.heap.size w w1 := b0.trans (b1.mono (by simp))
    exact ⟨_, rfl, by rw [hlen]; exact own_mono (own_below own1 b2) (by simp), b1'.trans (b2.mono b1'.size)⟩
  · have hd : dcL es now c x = es := by unfold dcL; rw [if_neg hc]
    rw [cfB_false _ _ hc, hd]
    rw [cfB_false _ _ hc] at CC
    have C1 := Lib.hid CC
    have J2 := Lib.hid (fun (w' : World) (b : Below w.heap.size w w') => joined_any v (.slice none 0 0) es [] w' (hv.below b) (nil_hist w') (by simp; omega))
    clear CC hc hd hv
    go_enter Try.func13, Try.ntmps13
    go_wp2_with (first
      | (go_at_call 26; ((with_reducible refine J1.out.mono ?_); rintro e w1 ⟨v1, rfl, own1, b1⟩))
      | (go_at_call 17; ((with_reducible refine (C1.out _ _ own1).mono ?_); rintro e w2 ⟨rfl, b2⟩; have b3 : Below w.heap.size w w2 := by (have b1' : Below w.heap.size w w1 := b0.trans (b1.mono (by simp)); exact b1'.trans (b2.mono b1'.size))))
      | (go_at_call 26; ((with_reducible refine (J2.out _ b3).mono ?_); rintro e w4 ⟨v4, rfl, own4, b4⟩)))
    go_ret2
    refine ⟨_, rfl, ?_, b3.trans (b4.mono b3.size)⟩
    have := own_mono own4 b3.size
    simpa using this

def Stop (p : Prop) : Prop := p
theorem stopHere {p : Prop} (h : Stop p) : p := h
/-- .. in a world that has just got a block. -/
theorem stop2 {P : Program} {ops : Array Oper} {a : Act} {Q : Exit → Act → World → Prop} (w : World) (o : Obj) (os : List Oper) (h : Stop (wpList P ops Q os a (w.alloc o))) : wpList P ops Q os a (w.alloc o) := h
theorem two_cells (w : World) (x y : Int) (t : TypeId) : ∀ j u, [Value.int .u64 x, Value.int .u64 y][j]? = some u → (w.alloc (.cells #[.int .u64 x, .int .u64 y] t)).cell? ((⟨w.heap.size, 0, none⟩ : Addr).add j) = some u := by
  intro j u h
  match j, h with
  | 0, h => simp at h; subst h; simp [Addr.add]
  | 1, h => simp at h; subst h; simp [Addr.add]

set_option maxRecDepth 100000 in
set_option maxHeartbeats 1000000 in
theorem rdec_nil  (now c x : Int) (w : World) (hv : Hist w (.slice none 0 0) []) (hU : EU []) (hl : ([] : List (Int × Int)).length ≤ 60) (h1 : U now) (h2 : U c) (h3 : U x) :
    Calls Try.prog 22 #[.slice none 0 0, .int .u64 now, .int .u64 c, .int .u64 x] w fun e w' => ∃ v', e = .returned (.tuple #[v', .bool (cfB ([] ++ [(now, x)]) c)]) ∧ Hist w' v' (dcL [] now c x) ∧ Below w.heap.size w w' := by
  have hU2 := eu_snoc hU h1 h3
  obtain ⟨i0, hi, hz0, hz1, hz2⟩ := info_parts infoEvent
  have CC (w1 : World) (v1 : Value) (h : Hist w1 v1 ([] ++ [(now, x)])) := h.rconf hU2 (by simp at hl ⊢ <;> omega) h2
  obtain ⟨fs, hfs⟩ : ∃ fs, [] ++ [(now, x)] = fs := ⟨_, rfl⟩
  have hlen : fs.length = (0 + 1) := by rw [← hfs]; simp
  have hfl : flat fs = [] ++ [.int .u64 now, .int .u64 x] := by rw [← hfs, flat_append]; rfl
  obtain ⟨q, hq⟩ : ∃ q, cfB fs c = q := ⟨_, rfl⟩
  have hd : dcL [] now c x = if q = true then fs else [] := by unfold dcL; rw [hfs, hq]
  rw [hfs] at CC ⊢
  rw [hq] at CC ⊢
  rw [hd]
  have C1 := Lib.hid CC
  have HV := Lib.hid hv
  have HLN := Lib.hid hlen
  have HFL := Lib.hid hfl
  clear CC hq hd hv hlen hfl hfs
  have hown := World.ownsRow_nil w w.heap.size 29 2
  have T (w1 : World) := two_cells w1 now x 29
  have TT := Lib.hid T
  clear T
  go_enter Try.func22, Try.ntmps22
  go_wp2_with (at_builtin; refine stop2 w _ _ ?_)
  unfold Stop
  refine wpList_append_own_wide _ rfl _ _ 22 rfl w.heap.size 29 i0 (evt (0, 0)) 2 16 Try.underlying22 hi hz0 hz1 hz2 rfl (by decide) (.slice none 0 0) 0 [] rfl (World.ownsRow_nil _ _ _ _) ⟨w.heap.size, 0, none⟩ 1 1 [.int .u64 now, .int .u64 x] rfl rfl (TT.out _) (by simp [Value.oneCell']) (by unfold maxLen; omega) (by omega) (by simp) ?_
  intro v2 w2 own2 grow2 nil2
  have b2 : Below w.heap.size w w2 := by exact ((Below.refl _ w).alloc (Nat.le_refl _) _).grown grow2 (by simp) (fun k e => by simp [Value.ownBlock] at e)
  rw [← HFL.out] at own2
  have hh := own_hist HLN.out own2
  clear grow2 nil2 own2
  obtain ⟨q1, q2, q3⟩ : ∃ q', q = q' ∧ True := ⟨q, rfl, trivial⟩
  clear q1 q2 q3
  cases q
  · go_wp2_with (go_at_call 24; ((with_reducible refine (C1.out _ _ hh).mono ?_); rintro e w5 ⟨rfl, b5⟩))
    go_ret2
    exact ⟨_, rfl, HV.out.below (b2.trans (b5.mono b2.size)), b2.trans (b5.mono b2.size)⟩
  · go_wp2_with (go_at_call 24; ((with_reducible refine (C1.out _ _ hh).mono ?_); rintro e w5 ⟨rfl, b5⟩))
    go_ret2
    exact ⟨_, rfl, hh.below b5, b2.trans (b5.mono b2.size)⟩

set_option maxRecDepth 100000 in
set_option maxHeartbeats 1000000 in
theorem rdec_some (ad : Addr) (cap : Nat) (es : List (Int × Int)) (now c x : Int) (w : World) (hv : Hist w (.slice (some ad) es.length cap) es) (hU : EU es) (hl : (es : List (Int × Int)).length ≤ 60) (h1 : U now) (h2 : U c) (h3 : U x) :
    Calls Try.prog 22 #[.slice (some ad) es.length cap, .int .u64 now, .int .u64 c, .int .u64 x] w fun e w' => ∃ v', e = .returned (.tuple #[v', .bool (cfB (es ++ [(now, x)]) c)]) ∧ Hist w' v' (dcL es now c x) ∧ Below w.heap.size w w' := by
  have hU2 := eu_snoc hU h1 h3
  obtain ⟨i0, hi, hz0, hz1, hz2⟩ := info_parts infoEvent
  have CC (w1 : World) (v1 : Value) (h : Hist w1 v1 (es ++ [(now, x)])) := h.rconf hU2 (by simp at hl ⊢ <;> omega) h2
  obtain ⟨fs, hfs⟩ : ∃ fs, es ++ [(now, x)] = fs := ⟨_, rfl⟩
  have hlen : fs.length = (es.length + 1) := by rw [← hfs]; simp
  have hfl : flat fs = flat es ++ [.int .u64 now, .int .u64 x] := by rw [← hfs, flat_append]; rfl
  obtain ⟨q, hq⟩ : ∃ q, cfB fs c = q := ⟨_, rfl⟩
  have hd : dcL es now c x = if q = true then fs else es := by unfold dcL; rw [hfs, hq]
  rw [hfs] at CC ⊢
  rw [hq] at CC ⊢
  rw [hd]
  have C1 := Lib.hid CC
  have HV := Lib.hid hv
  have HLN := Lib.hid hlen
  have HFL := Lib.hid hfl
  clear CC hq hd hv hlen hfl hfs
  have hown := World.ownsRow_nil w w.heap.size 29 2
  have hcells : ∀ j u, (flat es)[j]? = some u → w.cell? (ad.add j) = some u := by
    obtain ⟨a, cap', h1, h2, h3, h4⟩ := HV.out
    simp only [Value.slice.injEq] at h1
    obtain ⟨rfl, -, rfl⟩ := h1
    exact evs_flat h4
  have HCL := Lib.hid hcells
  clear hcells
  have T (w1 : World) := two_cells w1 now x 29
  have TT := Lib.hid T
  clear T
  go_enter Try.func22, Try.ntmps22
  go_wp2_with (first | (at_builtin; have Z := own1; refine stopHere ?_) | (at_builtin; refine wpList_append_own_wide _ rfl _ _ 22 rfl w.heap.size 29 i0 (evt (0, 0)) 2 16 Try.underlying22 hi hz0 hz1 hz2 rfl (by decide) (.slice none 0 0) 0 [] rfl hown ad es.length cap (flat es) rfl (flat_length es) HCL.out (flat_one es) (by unfold maxLen; omega) (by omega) (Nat.le_refl _) ?_; intro v1 w1 own1 grow1 nil1; have b1 : Below w.heap.size w w1 := (Below.refl _ w).grown grow1 (Nat.le_refl _) (fun k e => by simp [Value.ownBlock] at e); rw [Nat.zero_add, List.nil_append] at own1))
  unfold Stop
  refine wpList_append_own_wide _ rfl _ _ 22 rfl w.heap.size 29 i0 (evt (0, 0)) 2 16 Try.underlying22 hi hz0 hz1 hz2 rfl (by decide) v1 _ _ rfl (own1.alloc (.cells #[.int .u64 now, .int .u64 x] 29)) ⟨w1.heap.size, 0, none⟩ 1 1 [.int .u64 now, .int .u64 x] rfl rfl (TT.out _) (by simp [Value.oneCell']) (by unfold maxLen; omega) (by omega) (by have := b1.size; simp; omega) ?_
  intro v2 w2 own2 grow2 nil2
  have b2 : Below w.heap.size w w2 := by exact (b1.alloc b1.size _).grown grow2 (by have := b1.size; simp; omega) (own_block own1)
  rw [← HFL.out] at own2
  have hh := own_hist HLN.out own2
  clear grow2 nil2 own2
  obtain ⟨q1, q2, q3⟩ : ∃ q', q = q' ∧ True := ⟨q, rfl, trivial⟩
  clear q1 q2 q3
  cases q
  · go_wp2_with (go_at_call 24; ((with_reducible refine (C1.out _ _ hh).mono ?_); rintro e w5 ⟨rfl, b5⟩))
    go_ret2
    exact ⟨_, rfl, HV.out.below (b2.trans (b5.mono b2.size)), b2.trans (b5.mono b2.size)⟩
  · go_wp2_with (go_at_call 24; ((with_reducible refine (C1.out _ _ hh).mono ?_); rintro e w5 ⟨rfl, b5⟩))
    go_ret2
    exact ⟨_, rfl, hh.below b5, b2.trans (b5.mono b2.size)⟩

theorem rdec_any (v : Value) (es : List (Int × Int)) (now c x : Int) (w : World) (hv : Hist w v es) (hU : EU es) (hl : es.length ≤ 60) (h1 : U now) (h2 : U c) (h3 : U x) :
    Calls Try.prog 22 #[v, .int .u64 now, .int .u64 c, .int .u64 x] w fun e w' => ∃ v', e = .returned (.tuple #[v', .bool (cfB (es ++ [(now, x)]) c)]) ∧ Hist w' v' (dcL es now c x) ∧ Below w.heap.size w w' := by
  have hv' := hv
  obtain ⟨a, cap, rfl, g1, g2, g3⟩ := hv
  cases a with
  | none =>
    have hc := g2 rfl
    subst hc
    obtain rfl : es = [] := List.eq_nil_of_length_eq_zero (by omega)
    exact rdec_nil now c x w hv' hU hl h1 h2 h3
  | some ad => exact rdec_some ad cap es now c x w hv' hU hl h1 h2 h3
end Go.Proofs.Ytinlppadebdjgaa.Wd
