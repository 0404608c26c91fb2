/- What words.Split answers; no conditions but those that each names. -/
import Derived.Test.YtdjeehnjodbmaaaWrdS
namespace Go.Proofs.Ytdjeehnjodbmaaa.Wd
open Go Go.RowKit
set_option linter.unusedVariables false

theorem drop_at {bs : List UInt8} {i : Nat} (h : i < bs.length) : bs.drop i = bs.getD i 0 :: bs.drop (i + 1) := by
  rw [List.drop_eq_getElem_cons h, List.getD_eq_getElem?_getD, List.getElem?_eq_getElem h]; rfl
/-- How far a word goes. -/
theorem while_len : ∀ r : List UInt8, r.take (r.takeWhile vs).length = r.takeWhile vs ∧ r.drop (r.takeWhile vs).length = r.dropWhile vs ∧ (∀ k, k < (r.takeWhile vs).length → vs (r.getD k 0) = true) ∧ ((r.takeWhile vs).length < r.length → vs (r.getD (r.takeWhile vs).length 0) = false)
  | [] => by simp
  | b :: t => by
    obtain ⟨h1, h2, h3, h4⟩ := while_len t
    cases h : vs b with
    | true =>
      rw [List.takeWhile_cons, List.dropWhile_cons, if_pos h, if_pos h]
      simp only [List.length_cons, List.take_succ_cons, List.drop_succ_cons, h1, h2, true_and]
      refine ⟨fun k hk => ?_, fun hk => ?_⟩
      · cases k with
        | zero => simpa using h
        | succ k => have := h3 k (by omega); simpa using this
      · have := h4 (by omega); simpa using this
    | false =>
      rw [List.takeWhile_cons, List.dropWhile_cons, if_neg (by rw [h]; decide), if_neg (by rw [h]; decide)]
      simp only [List.length_nil, List.take_zero, List.drop_zero, true_and]
      exact ⟨fun k hk => by omega, fun _ => by simpa using h⟩
theorem kat_vs {bs : List UInt8} {j : Nat} (hj : j < bs.length) : (4 ≤ kat bs j ↔ vs (bs.getD j 0) = true) := by
  unfold kat vs
  rw [if_pos hj, decide_eq_true_iff]
theorem kat_at {bs : List UInt8} {j : Nat} (hj : j < bs.length) : kat bs j = kd (bs.getD j 0) := if_pos hj
theorem kat_end {bs : List UInt8} {j : Nat} (hj : bs.length ≤ j) : kat bs j = 0 := if_neg (by omega)
theorem kat_lt {bs : List UInt8} {j : Nat} (h : kat bs j ≠ 0) : j < bs.length := by
  by_cases hj : j < bs.length
  · exact hj
  · exact absurd (kat_end (by omega)) h
theorem kat_cases (bs : List UInt8) (j : Nat) : kat bs j = 0 ∨ kat bs j = 1 ∨ kat bs j = 2 ∨ kat bs j = 3 ∨ kat bs j = 4 ∨ kat bs j = 5 := by
  unfold kat
  split
  · have := kd_cases (bs.getD j 0); omega
  · omega
/-- A word of a text, and what is behind it. -/
theorem word_len {bs : List UInt8} {i : Nat} (h : 4 ≤ kat bs i) : ∃ L, 0 < L ∧ i + L ≤ bs.length ∧ (∀ k, 1 ≤ k → k < L → 4 ≤ kat bs (i + k)) ∧ kat bs (i + L) < 4 ∧
    ∀ n c line lines, (kat bs i = 4 → line ≠ []) → aut (bs.drop i) .gap n c line lines = aut (bs.drop (i + L)) .gap n (c + L) (line ++ [((bs.drop i).take L, n, c)]) lines := by
  have hi : i < bs.length := kat_lt (by omega)
  obtain ⟨h1, h2, h3, h4⟩ := while_len (bs.drop (i + 1))
  have hl : ((bs.drop (i + 1)).takeWhile vs).length ≤ bs.length - (i + 1) := by
    have := congrArg List.length h1
    rw [List.length_take, List.length_drop] at this
    omega
  have gd : ∀ k, (bs.drop (i + 1)).getD k 0 = bs.getD (i + 1 + k) 0 := fun k => by simp [List.getD_eq_getElem?_getD]
  generalize hq : ((bs.drop (i + 1)).takeWhile vs).length = q at *
  refine ⟨q + 1, by omega, by omega, fun k hk1 hk2 => ?_, ?_, fun n c line lines h4' => ?_⟩
  · have hv := h3 (k - 1) (by omega)
    rw [gd, show i + 1 + (k - 1) = i + k by omega] at hv
    exact (kat_vs (by omega)).2 hv
  · by_cases he : i + (q + 1) < bs.length
    · have hv := h4 (by rw [List.length_drop]; omega)
      rw [gd, show i + 1 + q = i + (q + 1) by omega] at hv
      have := (kat_vs he).1
      rw [hv] at this
      by_cases hk : 4 ≤ kat bs (i + (q + 1))
      · cases this hk
      · omega
    · rw [kat_end (by omega)]; omega
  · rw [drop_at hi, aut_begin ((kat_vs hi).1 h) (by rw [← kat_at hi]; exact h4')]
    rw [hq, ← h2, List.drop_drop, List.take_succ_cons, h1, show i + 1 + q = i + (q + 1) by omega, show c + 1 + q = c + (q + 1) by omega]

section
variable {bs : List UInt8} {i n c : Nat} {line : List Wo} {lines : List (List Wo)}
theorem step_2 {m : Mo} (h : kat bs i = 2) : aut (bs.drop i) m n c line lines = aut (bs.drop (i + 1)) (blanked m) n (c + 1) (shutL m n line) lines := by
  have hi := kat_lt (bs := bs) (j := i) (by omega)
  rw [drop_at hi, aut_2 (by rw [← kat_at hi]; exact h)]
theorem step_3 (h : kat bs i = 3) : aut (bs.drop i) .gap n c line lines = aut (bs.drop (i + 1)) .gap (n + 1) 1 [] (flush line lines) := by
  have hi := kat_lt (bs := bs) (j := i) (by omega)
  rw [drop_at hi, aut_3 (by rw [← kat_at hi]; exact h)]; rfl
theorem step_1 {m : Mo} (h : kat bs i = 1) : aut (bs.drop i) m n c line lines = .bad n c := by
  have hi := kat_lt (bs := bs) (j := i) (by omega)
  rw [drop_at hi, aut_1 (by rw [← kat_at hi]; exact h)]
theorem step_0 (h : kat bs i = 0) : aut (bs.drop i) .gap n c line lines = .ok (flush line lines) := by
  have hi : bs.length ≤ i := by
    by_cases hi : i < bs.length
    · rw [kat_at hi] at h; have := kd_cases (bs.getD i 0); omega
    · omega
  rw [List.drop_eq_nil_of_le hi]; rfl
theorem step_hash (h : kat bs i = 4) : aut (bs.drop i) .gap n c [] lines = aut (bs.drop i) .rem n c [] lines := by
  have hi := kat_lt (bs := bs) (j := i) (by omega)
  have hv := (kat_vs hi).1 (by omega)
  rw [drop_at hi, aut_v hv, aut_v hv]
  have e : seen (bs.getD i 0) .gap c [] = .rem := if_pos ⟨by rw [← kat_at hi]; exact h, rfl⟩
  rw [e]; rfl
theorem step_rem (h : 4 ≤ kat bs i) : aut (bs.drop i) .rem n c [] lines = aut (bs.drop (i + 1)) .rem n (c + 1) [] lines := by
  have hi := kat_lt (bs := bs) (j := i) (by omega)
  have hv := (kat_vs hi).1 (by omega)
  rw [drop_at hi, aut_v hv]; rfl
theorem step_out (h : kat bs i < 4) (h2 : kat bs i ≠ 2) : aut (bs.drop i) .rem n c [] lines = aut (bs.drop i) .gap n c [] lines := by
  refine aut_rem fun b t e => ?_
  have hi : i < bs.length := by
    by_cases hi : i < bs.length
    · exact hi
    · rw [List.drop_eq_nil_of_le (by omega)] at e; cases e
  rw [drop_at hi] at e
  injection e with e1 e2
  rw [kat_at hi, e1] at h h2
  have := kd_cases b
  omega
end

/-- What holds at a label besides. -/
def LabC (bs : List UInt8) (i : Nat) (line : List Wo) (l : Nat) : Prop :=
  (l = 1 → line = []) ∧ (l = 2 → 4 ≤ kat bs i ∧ (kat bs i = 4 → line ≠ [])) ∧ (l = 3 → kat bs i < 4 ∧ kat bs i ≠ 2)

/-- What Split hands back. -/
def SplitPost (w : World) (R : Res) (e : Ending) (w' : World) : Prop :=
  ∃ v, e = .returned (.tuple #[v, .int .u16 (R.er : Int), .agg #[.int .i64 (R.ln : Int), .int .i64 (R.cl : Int)]]) ∧ WRows w' v R.rows ∧ Below w.heap.size w w'

theorem split_long (A : Option Addr) (N cap : Nat) (bs : List UInt8) (w : World) (hT : Txt w A N bs) (hN : 1048576 < N) (hN2 : N ≤ 9223372036854775807) :
    Calls Try.prog 14 #[.slice A N cap] w (SplitPost w (spl bs)) := by
  have e : spl bs = .long := if_pos (by rw [hT.1]; exact hN)
  rw [e]
  have hN' : (1048576 : Int) < (N : Int) := by omega
  go_enter Try.func14, Try.ntmps14
  go_wp2
  go_step3
  go_wp2
  rw [Exit.noGoto_ret]
  refine bodyPost_ret (v := .tuple #[.slice none 0 0, .int .u16 21, .agg #[.int .i64 0, .int .i64 0]]) ?_ rfl ⟨_, rfl, WRows.nil _, ?_⟩
  · simp [results, Try.results14, go_sem]
  · go_grown

theorem one_word (W : World) (X : List UInt8) (n c : Nat) : ∀ j u, (wcl (X, n, c))[j]? = some u → (W.alloc (.cells #[.string (str X), .int .i64 (n : Int), .int .i64 (c : Int)] 39)).cell? ((⟨W.heap.size, 0, none⟩ : Addr).add j) = some u := by
  intro j u hu
  rw [Go.WideShapes.add_plain]
  match j, hu with
  | 0, hu => simp [wcl] at hu; subst hu; simp
  | 1, hu => simp [wcl] at hu; subst hu; simp
  | 2, hu => simp [wcl] at hu; subst hu; simp
  | j + 3, hu => simp [wcl] at hu
theorem one_cell (W : World) (v : Value) (t : TypeId) : ∀ j u, [v][j]? = some u → (W.alloc (.cells #[v] t)).cell? ((⟨W.heap.size, 0, none⟩ : Addr).add j) = some u := by
  intro j u hu
  obtain rfl : j = 0 := by
    cases j with
    | zero => rfl
    | succ j => simp at hu
  simp at hu
  subst hu
  simp [Addr.add]
theorem put_place (W : World) (b : Nat) (x y : Value) : W.grownBy ((W.setCell ⟨b, 0, none⟩ x).setCell ⟨b, 1, none⟩ y) (some b) := by
  refine ⟨rfl, rfl, rfl, ?_, fun k hk hn => ?_⟩
  · simp only [World.size_setCell]; exact Nat.le_refl _
  · have hk' : k ≠ b := fun e => hn (by rw [e])
    rw [Below.heap_setCell _ _ _ _ (fun e => hk' e), Below.heap_setCell _ _ _ _ (fun e => hk' e)]
theorem Inv.out {w0 W W' : World} {T : Value} {i n c : Nat} {line : List Wo} {lines : List (List Wo)} {vL vLs : Value} (h : Inv w0 W T i n c line lines vL vLs) (g : W.grownBy W' (some w0.heap.size)) : WRows W' vLs lines := by
  obtain ⟨top, us, h1, h2, h3, h4, h5⟩ := h.rows
  exact ⟨us, own_mono (own_but h3 g (by omega)) (Nat.zero_le _), h5.imp fun u ws hu hk => ⟨own_mono (own_but hu g (by omega)) (Nat.zero_le _), fun k e => by have := hk k e; have := g.size; omega⟩⟩
attribute [local go_sem] put_cpx

set_option maxHeartbeats 2000000 in
theorem split_short (A : Option Addr) (N cap : Nat) (bs : List UInt8) (w : World) (hT : Txt w A N bs) (hN : N ≤ 1048576) (hcap : N ≤ cap) (hcm : cap ≤ 9223372036854775807) :
    Calls Try.prog 14 #[.slice A N cap] w (SplitPost w (spl bs)) := by
  have e : spl bs = aut bs .gap 1 1 [] [] := if_neg (by rw [hT.1]; omega)
  rw [e]
  obtain ⟨R, hR⟩ : ∃ R, aut bs .gap 1 1 [] [] = R := ⟨_, rfl⟩
  rw [hR]
  have hN' : ¬ (1048576 : Int) < (N : Int) := by omega
  have C1 := Lib.hid (fun (W : World) (i n c : Nat) (line : List Wo) (lines : List (List Wo)) (vL vLs : Value) (hI : Inv w W (.slice A N cap) i n c line lines vL vLs) (hi : i ≤ N) => met_any (w.heap.size + 1) A N cap i n c bs W hI.walk (hT.below hI.below) hi)
  have C2 := Lib.hid (fun (W : World) (i n c : Nat) (line : List Wo) (lines : List (List Wo)) (vL vLs : Value) (hI : Inv w W (.slice A N cap) i n c line lines vL vLs) (hi : i ≤ N) => on_any (w.heap.size + 1) (.slice A N cap) i n c W hI.walk (by omega) (by have := hI.bounds; omega) (by have := hI.bounds; omega) (by have := hI.bounds; omega) (by have := hI.bounds; omega))
  have C3 := Lib.hid (fun (W : World) (i n c : Nat) (line : List Wo) (lines : List (List Wo)) (vL vLs : Value) (hI : Inv w W (.slice A N cap) i n c line lines vL vLs) (hi : i ≤ N) => down_any (w.heap.size + 1) (.slice A N cap) i n c W hI.walk (by omega) (by have := hI.bounds; omega) (by have := hI.bounds; omega))
  have C4 := Lib.hid (fun (W : World) (i n c : Nat) (line : List Wo) (lines : List (List Wo)) (vL vLs : Value) (hI : Inv w W (.slice A N cap) i n c line lines vL vLs) (hi : i ≤ N) => place_any (w.heap.size + 1) (.slice A N cap) i n c W hI.walk (by have := hI.bounds; omega) (by have := hI.bounds; omega) (by have := hI.bounds; omega) (by have := hI.bounds; omega))
  obtain ⟨i0, hz, hz0, hz1, hz2⟩ := info_parts infoWord
  obtain ⟨j0, jz, jz0, jz1, jz2⟩ := info_parts infoRow
  have HT := Lib.hid hT
  have HR := Lib.hid hR
  clear hT e hR
  go_enter Try.func14, Try.ntmps14
  go_wp2
  refine wp_scope_four rfl rfl rfl rfl (fun l m a W => ∃ (i n c : Nat) (line : List Wo) (lines : List (List Wo)) (vL vLs u1 u8 u9 u10 u11 u12 u13 u14 u15 u16 u17 u18 u19 u20 u21 u22 u23 u24 u25 u26 u27 u28 u29 u30 u31 u32 u33 u34 u35 u36 u37 u38 u39 u40 u41 u42 u43 u44 u45 u46 u47 u48 u49 u50 : Value), i ≤ N ∧ m = 2 * (N - i) + (if l = 0 then 1 else 0) ∧
    a = { tmps := #[(.slice A N cap), u1, .slice none 0 0, .int .u16 0, .pointer (some ⟨w.heap.size, 0, none⟩), vLs, vL, .pointer (some ⟨w.heap.size + 1, 0, none⟩), u8, u9, u10, u11, u12, u13, u14, u15, u16, u17, u18, u19, u20, u21, u22, u23, u24, u25, u26, u27, u28, u29, u30, u31, u32, u33, u34, u35, u36, u37, u38, u39, u40, u41, u42, u43, u44, u45, u46, u47, u48, u49, u50], defers := [] } ∧ Inv w W (.slice A N cap) i n c line lines vL vLs ∧ aut (bs.drop i) (if l = 1 then .rem else .gap) n c line lines = R ∧ LabC bs i line l) ?pass3 ?pass0 ?pass1 ?pass2 ?first
  case pass3 =>
    rintro m a W ⟨i, n, c, line, lines, vL, vLs, u1, u8, u9, u10, u11, u12, u13, u14, u15, u16, u17, u18, u19, u20, u21, u22, u23, u24, u25, u26, u27, u28, u29, u30, u31, u32, u33, u34, u35, u36, u37, u38, u39, u40, u41, u42, u43, u44, u45, u46, u47, u48, u49, u50, hi, rfl, rfl, hI, hA, hC⟩
    replace hA : aut (bs.drop i) .gap n c line lines = R := hA
    replace hC := hC.2.2 rfl
    obtain ⟨top, us, r1, r2, r3, r4, r5⟩ := hI.rows
    obtain ⟨A', c', rfl⟩ := own_slice r2
    by_cases hne : line = []
    · subst hne
      have hfl : flush [] lines = lines := rfl
      clear r1 r2 r3 r4 r5
      have M1 := Lib.hid (C1.out _ _ _ _ _ _ _ _ hI hi)
      have HI := Lib.hid hI
      clear hI
      go_wp2_with ((go_at_call 20; (with_reducible refine M1.out.mono ?_); rintro e w1 ⟨rfl, g1⟩; refine stopHere ?_))
      unfold Stop
      have hI := HI.out.grow (drew_below g1)
      clear g1 M1 HI
      rcases kat_cases bs i with hk | hk | hk | hk | hk | hk
      · have hA' := (step_0 hk).symm.trans hA
        rw [hfl] at hA'
        subst hA'
        have HJ := Lib.hid hI
        obtain ⟨⟨p0, p1⟩, p2, p3⟩ := hI.place
        clear hI hA C1 C2 C3 C4
        rw [hk]
        go_wp2
        simp only [Exit.jumps]
        change bodyPost _ _ _ _ _ _
        have gp := put_place w1 w.heap.size (.int .i64 0) (.int .i64 0)
        refine bodyPost_ret (v := .tuple #[_, .int .u16 0, .agg #[.int .i64 0, .int .i64 0]]) ?_ rfl ⟨_, rfl, HJ.out.out gp, HJ.out.below.trans (but_below' gp (by have := HJ.out.walk.lt; omega))⟩
        simp [results, Try.results14, go_sem, p0, p1, cell_set]
      · have O1 := Lib.hid (C4.out _ _ _ _ _ _ _ _ hI hi)
        have hA' := (step_1 hk).symm.trans hA
        subst hA'
        have HJ := Lib.hid hI
        clear hI hA C1 C2 C3 C4
        rw [hk]
        go_wp2_with ((go_at_call 24; (with_reducible refine O1.out.mono ?_); rintro e w2 ⟨rfl, g2⟩; obtain ⟨⟨p0, p1⟩, p2, p3⟩ := HJ.out.place.below g2 (by have := HJ.out.walk.lt; omega)))
        simp only [Exit.jumps]
        change bodyPost _ _ _ _ _ _
        have gp := put_place w2 w.heap.size (.int .i64 (n : Int)) (.int .i64 (c : Int))
        refine bodyPost_ret (v := .tuple #[.slice none 0 0, .int .u16 20, .agg #[.int .i64 (n : Int), .int .i64 (c : Int)]]) ?_ rfl ⟨_, rfl, WRows.nil _, (kbq HJ.out.below g2).trans (but_below' gp (by have := HJ.out.walk.lt; have := g2.size; omega))⟩
        simp [results, Try.results14, go_sem, p0, p1, cell_set]
      · exact absurd hk hC.2
      · have hiN : i < N := by rw [← HT.out.1]; exact kat_lt (by rw [hk]; omega)
        have O1 := Lib.hid (C3.out _ _ _ _ _ _ _ _ hI hi)
        have hA' := (step_3 hk).symm.trans hA
        rw [hfl] at hA'
        have HJ := Lib.hid (And.intro hI hA')
        clear hI hA hA'
        rw [hk]
        go_wp2_with ((go_at_call 23; (with_reducible refine O1.out.mono ?_); rintro e w2 ⟨rfl, rfl⟩))
        go_step3
        obtain ⟨hI, hA'⟩ := HJ.out
        exact ⟨by decide, _, (by simp; omega), ⟨i + 1, n + 1, 1, [], _, _, _, _, _, _, _, _, _, _, _, _, _, _, _, _, _, _, _, _, _, _, _, _, _, _, _, _, _, _, _, _, _, _, _, _, _, _, _, _, _, _, _, _, _, _, _, (by omega), rfl, rfl, hI.moved (but_gon (World.grownBy.refl w1 _) (i + 1) (n + 1) 1) (hI.walk.go (i + 1) (n + 1) 1) (by omega) (by have := hI.bounds; omega) (by omega), hA', ⟨fun h => by omega, fun h => by omega, fun h => by omega⟩⟩⟩
      · exact absurd hC.1 (by omega)
      · exact absurd hC.1 (by omega)
    · have hfl : flush line lines = lines ++ [line] := if_neg hne
      have hlen : (0 : Int) < (line.length : Int) := by have := List.length_pos_iff.2 hne; omega
      have hbd := hI.bounds
      have HI0 := Lib.hid hI
      have HR2 := Lib.hid r2
      have HR3 := Lib.hid r3
      have HR5 := Lib.hid r5
      clear hI r2 r3 r5
      go_wp2_with ((at_builtin; refine stopHere ?_))
      unfold Stop
      have g0 := (Below.refl _ W).alloc (Nat.le_refl _) (.cells #[.slice A' line.length c'] 37)
      refine wpList_append_own _ rfl _ _ 30 rfl (w.heap.size + 2) 37 j0 (.slice none 0 0) 1 24 Try.underlying30 jz jz0 jz1 jz2 rfl (by decide) _ lines.length _ rfl (own_below HR3.out g0) ⟨W.heap.size, 0, none⟩ 1 1 [.slice A' line.length c'] rfl rfl (one_cell W _ _) (by simp [Value.oneCell']) (by unfold maxLen; omega) (by omega) (by have := g0.size; omega) ?_
      intro vLs' W' own grow _
      have hI := (HI0.out.grow g0).stop hne top us ⟨r1.1, Nat.le_trans r1.2 g0.size⟩ (own_below HR2.out g0) (own_below HR3.out g0) r4 (HR5.out.imp fun u ws hu hk => ⟨own_below hu g0, hk⟩) own grow
      clear HI0 HR2 HR3 HR5 own grow g0 r1 r4
      have M1 := Lib.hid (C1.out _ _ _ _ _ _ _ _ hI hi)
      have HI := Lib.hid hI
      clear hI
      go_wp2_with ((go_at_call 20; (with_reducible refine M1.out.mono ?_); rintro e w1 ⟨rfl, g1⟩; refine stopHere ?_))
      unfold Stop
      have hI := HI.out.grow (drew_below g1)
      clear g1 M1 HI
      rcases kat_cases bs i with hk | hk | hk | hk | hk | hk
      · have hA' := (step_0 hk).symm.trans hA
        rw [hfl] at hA'
        subst hA'
        have HJ := Lib.hid hI
        obtain ⟨⟨p0, p1⟩, p2, p3⟩ := hI.place
        clear hI hA C1 C2 C3 C4
        rw [hk]
        go_wp2
        simp only [Exit.jumps]
        change bodyPost _ _ _ _ _ _
        have gp := put_place w1 w.heap.size (.int .i64 0) (.int .i64 0)
        refine bodyPost_ret (v := .tuple #[_, .int .u16 0, .agg #[.int .i64 0, .int .i64 0]]) ?_ rfl ⟨_, rfl, HJ.out.out gp, HJ.out.below.trans (but_below' gp (by have := HJ.out.walk.lt; omega))⟩
        simp [results, Try.results14, go_sem, p0, p1, cell_set]
      · have O1 := Lib.hid (C4.out _ _ _ _ _ _ _ _ hI hi)
        have hA' := (step_1 hk).symm.trans hA
        subst hA'
        have HJ := Lib.hid hI
        clear hI hA C1 C2 C3 C4
        rw [hk]
        go_wp2_with ((go_at_call 24; (with_reducible refine O1.out.mono ?_); rintro e w2 ⟨rfl, g2⟩; obtain ⟨⟨p0, p1⟩, p2, p3⟩ := HJ.out.place.below g2 (by have := HJ.out.walk.lt; omega)))
        simp only [Exit.jumps]
        change bodyPost _ _ _ _ _ _
        have gp := put_place w2 w.heap.size (.int .i64 (n : Int)) (.int .i64 (c : Int))
        refine bodyPost_ret (v := .tuple #[.slice none 0 0, .int .u16 20, .agg #[.int .i64 (n : Int), .int .i64 (c : Int)]]) ?_ rfl ⟨_, rfl, WRows.nil _, (kbq HJ.out.below g2).trans (but_below' gp (by have := HJ.out.walk.lt; have := g2.size; omega))⟩
        simp [results, Try.results14, go_sem, p0, p1, cell_set]
      · exact absurd hk hC.2
      · have hiN : i < N := by rw [← HT.out.1]; exact kat_lt (by rw [hk]; omega)
        have O1 := Lib.hid (C3.out _ _ _ _ _ _ _ _ hI hi)
        have hA' := (step_3 hk).symm.trans hA
        rw [hfl] at hA'
        have HJ := Lib.hid (And.intro hI hA')
        clear hI hA hA'
        rw [hk]
        go_wp2_with ((go_at_call 23; (with_reducible refine O1.out.mono ?_); rintro e w2 ⟨rfl, rfl⟩))
        go_step3
        obtain ⟨hI, hA'⟩ := HJ.out
        exact ⟨by decide, _, (by simp; omega), ⟨i + 1, n + 1, 1, [], _, _, _, _, _, _, _, _, _, _, _, _, _, _, _, _, _, _, _, _, _, _, _, _, _, _, _, _, _, _, _, _, _, _, _, _, _, _, _, _, _, _, _, _, _, _, _, (by omega), rfl, rfl, hI.moved (but_gon (World.grownBy.refl w1 _) (i + 1) (n + 1) 1) (hI.walk.go (i + 1) (n + 1) 1) (by omega) (by have := hI.bounds; omega) (by omega), hA', ⟨fun h => by omega, fun h => by omega, fun h => by omega⟩⟩⟩
      · exact absurd hC.1 (by omega)
      · exact absurd hC.1 (by omega)
  case pass0 =>
    rintro m a W ⟨i, n, c, line, lines, vL, vLs, u1, u8, u9, u10, u11, u12, u13, u14, u15, u16, u17, u18, u19, u20, u21, u22, u23, u24, u25, u26, u27, u28, u29, u30, u31, u32, u33, u34, u35, u36, u37, u38, u39, u40, u41, u42, u43, u44, u45, u46, u47, u48, u49, u50, hi, rfl, rfl, hI, hA, hC⟩
    replace hA : aut (bs.drop i) .gap n c line lines = R := hA
    have M1 := Lib.hid (C1.out _ _ _ _ _ _ _ _ hI hi)
    go_wp2_with ((go_at_call 20; (with_reducible refine M1.out.mono ?_); rintro e w1 ⟨rfl, g1⟩; refine stopHere ?_))
    unfold Stop
    replace hI := hI.grow (drew_below g1)
    clear g1 M1
    rcases kat_cases bs i with hk | hk | hk | hk | hk | hk
    · have hiN : i ≤ N := hi
      have HJ := Lib.hid hI
      have hA' := hA
      clear hI hA
      rw [hk]
      go_wp2
      go_step3
      exact ⟨by decide, _, (by simp), ⟨i, n, c, line, lines, _, _, _, _, _, _, _, _, _, _, _, _, _, _, _, _, _, _, _, _, _, _, _, _, _, _, _, _, _, _, _, _, _, _, _, _, _, _, _, _, _, _, _, _, _, _, hi, rfl, rfl, HJ.out, hA', ⟨fun h => by omega, fun h => by omega, fun _ => ⟨by rw [hk]; omega, by rw [hk]; omega⟩⟩⟩⟩
    · have hiN : i ≤ N := hi
      have HJ := Lib.hid hI
      have hA' := hA
      clear hI hA
      rw [hk]
      go_wp2
      go_step3
      exact ⟨by decide, _, (by simp), ⟨i, n, c, line, lines, _, _, _, _, _, _, _, _, _, _, _, _, _, _, _, _, _, _, _, _, _, _, _, _, _, _, _, _, _, _, _, _, _, _, _, _, _, _, _, _, _, _, _, _, _, _, hi, rfl, rfl, HJ.out, hA', ⟨fun h => by omega, fun h => by omega, fun _ => ⟨by rw [hk]; omega, by rw [hk]; omega⟩⟩⟩⟩
    · have hiN : i < N := by rw [← HT.out.1]; exact kat_lt (by rw [hk]; omega)
      have O1 := Lib.hid (C2.out _ _ _ _ _ _ _ _ hI hi)
      have hA' := (step_2 hk).symm.trans hA
      have HJ := Lib.hid (And.intro hI hA')
      clear hI hA hA'
      rw [hk]
      go_wp2_with ((go_at_call 21; (with_reducible refine O1.out.mono ?_); rintro e w2 ⟨rfl, rfl⟩))
      go_step3
      obtain ⟨hI, hA'⟩ := HJ.out
      exact ⟨by decide, _, (by simp; omega), ⟨i + 1, n, c + 1, line, lines, _, _, _, _, _, _, _, _, _, _, _, _, _, _, _, _, _, _, _, _, _, _, _, _, _, _, _, _, _, _, _, _, _, _, _, _, _, _, _, _, _, _, _, _, _, _, (by omega), rfl, rfl, hI.moved (but_gon (World.grownBy.refl w1 _) (i + 1) n (c + 1)) (hI.walk.go (i + 1) n (c + 1)) (by omega) (by have := hI.bounds; omega) (by have := hI.bounds; omega), hA', ⟨fun h => by omega, fun h => by omega, fun h => by omega⟩⟩⟩
    · have hiN : i ≤ N := hi
      have HJ := Lib.hid hI
      have hA' := hA
      clear hI hA
      rw [hk]
      go_wp2
      go_step3
      exact ⟨by decide, _, (by simp), ⟨i, n, c, line, lines, _, _, _, _, _, _, _, _, _, _, _, _, _, _, _, _, _, _, _, _, _, _, _, _, _, _, _, _, _, _, _, _, _, _, _, _, _, _, _, _, _, _, _, _, _, _, hi, rfl, rfl, HJ.out, hA', ⟨fun h => by omega, fun h => by omega, fun _ => ⟨by rw [hk]; omega, by rw [hk]; omega⟩⟩⟩⟩
    · obtain ⟨top, us, r1, r2, r3, r4, r5⟩ := hI.rows
      obtain ⟨A', c', rfl⟩ := own_slice r2
      clear r1 r2 r3 r4 r5
      by_cases hne : line = []
      · subst hne
        have hiN : i ≤ N := hi
        have HJ := Lib.hid hI
        have hA' := (step_hash hk).symm.trans hA
        clear hI hA
        rw [hk]
        go_wp2
        go_step3
        exact ⟨by decide, _, (by simp), ⟨i, n, c, [], lines, _, _, _, _, _, _, _, _, _, _, _, _, _, _, _, _, _, _, _, _, _, _, _, _, _, _, _, _, _, _, _, _, _, _, _, _, _, _, _, _, _, _, _, _, _, _, hi, rfl, rfl, HJ.out, hA', ⟨fun _ => rfl, fun h => by omega, fun h => by omega⟩⟩⟩
      · have hlen : ((line.length : Int) == 0) = false := beq_eq_false_iff_ne.2 (by have := List.length_pos_iff.2 hne; omega)
        have hiN : i ≤ N := hi
        have HJ := Lib.hid hI
        have hA' := hA
        clear hI hA
        rw [hk]
        go_wp2
        go_step3
        exact ⟨by decide, _, (by simp), ⟨i, n, c, line, lines, _, _, _, _, _, _, _, _, _, _, _, _, _, _, _, _, _, _, _, _, _, _, _, _, _, _, _, _, _, _, _, _, _, _, _, _, _, _, _, _, _, _, _, _, _, _, hi, rfl, rfl, HJ.out, hA', ⟨fun h => by omega, fun _ => ⟨by rw [hk]; omega, fun _ => hne⟩, fun h => by omega⟩⟩⟩
    · have hiN : i ≤ N := hi
      have HJ := Lib.hid hI
      have hA' := hA
      clear hI hA
      rw [hk]
      go_wp2
      go_step3
      exact ⟨by decide, _, (by simp), ⟨i, n, c, line, lines, _, _, _, _, _, _, _, _, _, _, _, _, _, _, _, _, _, _, _, _, _, _, _, _, _, _, _, _, _, _, _, _, _, _, _, _, _, _, _, _, _, _, _, _, _, _, hi, rfl, rfl, HJ.out, hA', ⟨fun h => by omega, fun _ => ⟨by rw [hk]; omega, fun h => by rw [hk] at h; omega⟩, fun h => by omega⟩⟩⟩
  case pass1 =>
    rintro m st a W ⟨i, n, c, line, lines, vL, vLs, u1, u8, u9, u10, u11, u12, u13, u14, u15, u16, u17, u18, u19, u20, u21, u22, u23, u24, u25, u26, u27, u28, u29, u30, u31, u32, u33, u34, u35, u36, u37, u38, u39, u40, u41, u42, u43, u44, u45, u46, u47, u48, u49, u50, hi, rfl, rfl, hI, hA, hC⟩
    obtain rfl := hC.1 rfl
    replace hA : aut (bs.drop i) .rem n c [] lines = R := hA
    have M1 := Lib.hid (C1.out _ _ _ _ _ _ _ _ hI hi)
    go_wp2_with ((go_at_call 20; (with_reducible refine M1.out.mono ?_); rintro e w1 ⟨rfl, g1⟩; refine stopHere ?_))
    unfold Stop
    replace hI := hI.grow (drew_below g1)
    clear g1 M1
    rcases kat_cases bs i with hk | hk | hk | hk | hk | hk
    · have hA' := (step_out (by rw [hk]; omega) (by rw [hk]; omega)).symm.trans hA
      have HJ := Lib.hid (And.intro hI hA')
      clear hI hA hA'
      rw [hk]
      go_wp2
      go_step3
      rename_i hK
      obtain ⟨hI, hA'⟩ := HJ.out
      exact hK _ _ (st _ _ ⟨i, n, c, [], lines, _, _, _, _, _, _, _, _, _, _, _, _, _, _, _, _, _, _, _, _, _, _, _, _, _, _, _, _, _, _, _, _, _, _, _, _, _, _, _, _, _, _, _, _, _, _, hi, rfl, rfl, hI, hA', ⟨fun h => by omega, fun h => by omega, fun _ => ⟨by rw [hk]; omega, by rw [hk]; omega⟩⟩⟩)
    · have hA' := (step_out (by rw [hk]; omega) (by rw [hk]; omega)).symm.trans hA
      have HJ := Lib.hid (And.intro hI hA')
      clear hI hA hA'
      rw [hk]
      go_wp2
      go_step3
      rename_i hK
      obtain ⟨hI, hA'⟩ := HJ.out
      exact hK _ _ (st _ _ ⟨i, n, c, [], lines, _, _, _, _, _, _, _, _, _, _, _, _, _, _, _, _, _, _, _, _, _, _, _, _, _, _, _, _, _, _, _, _, _, _, _, _, _, _, _, _, _, _, _, _, _, _, hi, rfl, rfl, hI, hA', ⟨fun h => by omega, fun h => by omega, fun _ => ⟨by rw [hk]; omega, by rw [hk]; omega⟩⟩⟩)
    · have hiN : i < N := by rw [← HT.out.1]; exact kat_lt (by rw [hk]; omega)
      have O1 := Lib.hid (C2.out _ _ _ _ _ _ _ _ hI hi)
      have hA' := (step_2 hk).symm.trans hA
      have HJ := Lib.hid (And.intro hI hA')
      clear hI hA hA'
      rw [hk]
      go_wp2_with ((go_at_call 21; (with_reducible refine O1.out.mono ?_); rintro e w2 ⟨rfl, rfl⟩))
      go_step3
      obtain ⟨hI, hA'⟩ := HJ.out
      exact ⟨by decide, _, (by simp; omega), ⟨i + 1, n, c + 1, [], lines, _, _, _, _, _, _, _, _, _, _, _, _, _, _, _, _, _, _, _, _, _, _, _, _, _, _, _, _, _, _, _, _, _, _, _, _, _, _, _, _, _, _, _, _, _, _, (by omega), rfl, rfl, hI.moved (but_gon (World.grownBy.refl w1 _) (i + 1) n (c + 1)) (hI.walk.go (i + 1) n (c + 1)) (by omega) (by have := hI.bounds; omega) (by have := hI.bounds; omega), hA', ⟨fun _ => rfl, fun h => by omega, fun h => by omega⟩⟩⟩
    · have hA' := (step_out (by rw [hk]; omega) (by rw [hk]; omega)).symm.trans hA
      have HJ := Lib.hid (And.intro hI hA')
      clear hI hA hA'
      rw [hk]
      go_wp2
      go_step3
      rename_i hK
      obtain ⟨hI, hA'⟩ := HJ.out
      exact hK _ _ (st _ _ ⟨i, n, c, [], lines, _, _, _, _, _, _, _, _, _, _, _, _, _, _, _, _, _, _, _, _, _, _, _, _, _, _, _, _, _, _, _, _, _, _, _, _, _, _, _, _, _, _, _, _, _, _, hi, rfl, rfl, hI, hA', ⟨fun h => by omega, fun h => by omega, fun _ => ⟨by rw [hk]; omega, by rw [hk]; omega⟩⟩⟩)
    · have hiN : i < N := by rw [← HT.out.1]; exact kat_lt (by rw [hk]; omega)
      have O1 := Lib.hid (C2.out _ _ _ _ _ _ _ _ hI hi)
      have hA' := (step_rem (by rw [hk]; omega)).symm.trans hA
      have HJ := Lib.hid (And.intro hI hA')
      clear hI hA hA'
      rw [hk]
      go_wp2_with ((go_at_call 21; (with_reducible refine O1.out.mono ?_); rintro e w2 ⟨rfl, rfl⟩))
      go_step3
      obtain ⟨hI, hA'⟩ := HJ.out
      exact ⟨by decide, _, (by simp; omega), ⟨i + 1, n, c + 1, [], lines, _, _, _, _, _, _, _, _, _, _, _, _, _, _, _, _, _, _, _, _, _, _, _, _, _, _, _, _, _, _, _, _, _, _, _, _, _, _, _, _, _, _, _, _, _, _, (by omega), rfl, rfl, hI.moved (but_gon (World.grownBy.refl w1 _) (i + 1) n (c + 1)) (hI.walk.go (i + 1) n (c + 1)) (by omega) (by have := hI.bounds; omega) (by have := hI.bounds; omega), hA', ⟨fun _ => rfl, fun h => by omega, fun h => by omega⟩⟩⟩
    · have hiN : i < N := by rw [← HT.out.1]; exact kat_lt (by rw [hk]; omega)
      have O1 := Lib.hid (C2.out _ _ _ _ _ _ _ _ hI hi)
      have hA' := (step_rem (by rw [hk]; omega)).symm.trans hA
      have HJ := Lib.hid (And.intro hI hA')
      clear hI hA hA'
      rw [hk]
      go_wp2_with ((go_at_call 21; (with_reducible refine O1.out.mono ?_); rintro e w2 ⟨rfl, rfl⟩))
      go_step3
      obtain ⟨hI, hA'⟩ := HJ.out
      exact ⟨by decide, _, (by simp; omega), ⟨i + 1, n, c + 1, [], lines, _, _, _, _, _, _, _, _, _, _, _, _, _, _, _, _, _, _, _, _, _, _, _, _, _, _, _, _, _, _, _, _, _, _, _, _, _, _, _, _, _, _, _, _, _, _, (by omega), rfl, rfl, hI.moved (but_gon (World.grownBy.refl w1 _) (i + 1) n (c + 1)) (hI.walk.go (i + 1) n (c + 1)) (by omega) (by have := hI.bounds; omega) (by have := hI.bounds; omega), hA', ⟨fun _ => rfl, fun h => by omega, fun h => by omega⟩⟩⟩
  case pass2 =>
    rintro m a W ⟨i, n, c, line, lines, vL, vLs, u1, u8, u9, u10, u11, u12, u13, u14, u15, u16, u17, u18, u19, u20, u21, u22, u23, u24, u25, u26, u27, u28, u29, u30, u31, u32, u33, u34, u35, u36, u37, u38, u39, u40, u41, u42, u43, u44, u45, u46, u47, u48, u49, u50, hi, rfl, rfl, hI, hA, hC⟩
    replace hA : aut (bs.drop i) .gap n c line lines = R := hA
    obtain ⟨hk4, hkl⟩ := hC.2.1 rfl
    have hiN : i < N := by rw [← HT.out.1]; exact kat_lt (by omega)
    obtain ⟨L, hL0, hL1, hL2, hL3, hL4⟩ := word_len hk4
    rw [HT.out.1] at hL1
    obtain ⟨b, off, rfl, hb, _⟩ := (HT.out.2 (by omega))
    have O1 := Lib.hid (word_any (w.heap.size + 1) b off N cap i n c L bs W hI.walk (HT.out.below hI.below) (by omega) hN hcap hcm (by have := hI.bounds; omega) (by have := hI.bounds; omega) (by have := hI.bounds; omega) (by have := hI.bounds; omega) hL0 hL1 hL2 hL3)
    have HA := Lib.hid ((hL4 n c line lines hkl).symm.trans hA)
    have HI := Lib.hid hI
    clear hA hL4 hL2 hL3 hk4 hkl hI hC
    generalize (bs.drop i).take L = X at *
    go_wp2_with (first
      | (go_at_call 22; (with_reducible refine O1.out.mono ?_); rintro e w2 ⟨rfl, hw2, g2⟩)
      | (at_builtin; refine stopHere ?_))
    unfold Stop
    have hb := HI.out.bounds
    have hI2 := (HI.out.moved g2 hw2 (by omega) (by omega) (by omega)).grow ((Below.refl _ w2).alloc (Nat.le_refl _) (.cells #[.string (str X), .int .i64 (n : Int), .int .i64 (c : Int)] 39))
    obtain ⟨top, us, r1, r2, r3, r4, r5⟩ := hI2.rows
    refine wpList_append_own _ rfl _ _ 37 rfl top 39 i0 (.agg #[.string ⟨#[]⟩, .int .i64 0, .int .i64 0]) 3 32 Try.underlying37 hz hz0 hz1 hz2 rfl (by decide) _ line.length _ rfl r2 ⟨w2.heap.size, 0, none⟩ 1 1 (wcl (X, n, c)) rfl rfl (one_word w2 X n c) (flatW_one [(X, n, c)]) (by unfold maxLen; omega) (by omega) r1.2 ?_
    intro vL' W' own grow _
    have hI3 := hI2.word (x := (X, n, c)) (i0 := 0) (by omega) top us r1 r2 r3 r4 r5 own grow
    have HJ := Lib.hid hI3
    clear hI2 hI3 r1 r2 r3 r4 r5 own grow O1 HI hw2 g2 hb
    go_wp2
    go_step3
    exact ⟨by decide, _, (by simp; omega), ⟨i + L, n, c + L, _, lines, _, _, _, _, _, _, _, _, _, _, _, _, _, _, _, _, _, _, _, _, _, _, _, _, _, _, _, _, _, _, _, _, _, _, _, _, _, _, _, _, _, _, _, _, _, _, (by omega), rfl, rfl, HJ.out, HA.out, ⟨fun h => by omega, fun h => by omega, fun h => by omega⟩⟩⟩
  case first =>
    intro pass
    go_wp2
    go_step3
    rename_i hK
    refine hK _ _ (pass _ _ _ ⟨0, 1, 1, [], [], _, _, _, _, _, _, _, _, _, _, _, _, _, _, _, _, _, _, _, _, _, _, _, _, _, _, _, _, _, _, _, _, _, _, _, _, _, _, _, _, _, _, _, _, _, _, (Nat.zero_le _), rfl, rfl, ?_, HR.out, ⟨fun h => by omega, fun h => by omega, fun h => by omega⟩⟩)
    refine ⟨by go_grown, ⟨⟨by simp, by simp, by simp [fb_one]⟩, by simp, by simp, by simp⟩, ⟨⟨by simp, by simp⟩, by simp, by simp⟩, ⟨by omega, by omega, by simp⟩, w.heap.size + 2, [], ⟨Nat.le_refl _, by simp⟩, WRow.nil _ _, World.ownsRow_nil _ _ _ _, fun k e => by simp [Value.ownBlock] at e, trivial⟩
end Go.Proofs.Ytdjeehnjodbmaaa.Wd
