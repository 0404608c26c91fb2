/- What words.Split answers; no conditions but those that each names. What a text of choices is (tollerlaw10.Text): its bytes, in memory; no conditions but those that each names. The chapter's example stands (tollerlaw10.known); rows of words read cell by cell; no conditions but those that each names. Rows of bytes behind one another, and parts of them; what is told of a byte that may not be; no conditions but those that each names. Plain facts on the words of a text: what is told of two texts, one behind the other; that no line told is without words; how great places are; no conditions but those that each names. Plain facts on the words of a text, line by line: where each word of a line stands; no conditions but those that each names. What words.Join answers: the words of each line, a blank between, an end of a line behind each; no conditions but those that each names. Plain facts on the words of a text: more blanks change no words; no conditions but those that each names. -/
import Derived.Test.YtckaiejbgnhgcaaGreatDoorZF
import Derived.Lib.SlBytesConst
import Derived.Lib.SmallJoins
import Derived.Laws.AppendOwnNone
import Derived.Laws.MakeOwn
import Derived.Lib.AppendStr
namespace Go.Proofs.YtckaiejbgnhgcaaGreatDoor.Wd.Ws
open Go Go.RowKit
set_option linter.unusedVariables false
set_option maxRecDepth 100000

theorem drop_at {bs : List UInt8} {i : Nat} (h : i < bs.length) : bs.drop i = bs.getD i 0 :: bs.drop (i + 1) := by
  rw [List.drop_eq_getElem_cons h, List.getD_eq_getElem?_getD, List.getElem?_eq_getElem h]; rfl
/-- How far a word goes. -/
theorem while_len : ∀ r : List UInt8, r.take (r.takeWhile vs).length = r.takeWhile vs ∧ r.drop (r.takeWhile vs).length = r.dropWhile vs ∧ (∀ k, k < (r.takeWhile vs).length → vs (r.getD k 0) = true) ∧ ((r.takeWhile vs).length < r.length → vs (r.getD (r.takeWhile vs).length 0) = false)
  | [] => by simp
  | b :: t => by
    obtain ⟨h1, h2, h3, h4⟩ := while_len t
    cases h : vs b with
    | true =>
      rw [List.takeWhile_cons, List.dropWhile_cons, if_pos h, if_pos h]
      simp only [List.length_cons, List.take_succ_cons, List.drop_succ_cons, h1, h2, true_and]
      refine ⟨fun k hk => ?_, fun hk => ?_⟩
      · cases k with
        | zero => simpa using h
        | succ k => have := h3 k (by omega); simpa using this
      · have := h4 (by omega); simpa using this
    | false =>
      rw [List.takeWhile_cons, List.dropWhile_cons, if_neg (by rw [h]; decide), if_neg (by rw [h]; decide)]
      simp only [List.length_nil, List.take_zero, List.drop_zero, true_and]
      exact ⟨fun k hk => by omega, fun _ => by simpa using h⟩
theorem kat_vs {bs : List UInt8} {j : Nat} (hj : j < bs.length) : (4 ≤ kat bs j ↔ vs (bs.getD j 0) = true) := by
  unfold kat vs
  rw [if_pos hj, decide_eq_true_iff]
theorem kat_at {bs : List UInt8} {j : Nat} (hj : j < bs.length) : kat bs j = kd (bs.getD j 0) := if_pos hj
theorem kat_end {bs : List UInt8} {j : Nat} (hj : bs.length ≤ j) : kat bs j = 0 := if_neg (by omega)
theorem kat_lt {bs : List UInt8} {j : Nat} (h : kat bs j ≠ 0) : j < bs.length := by
  by_cases hj : j < bs.length
  · exact hj
  · exact absurd (kat_end (by omega)) h
theorem kat_cases (bs : List UInt8) (j : Nat) : kat bs j = 0 ∨ kat bs j = 1 ∨ kat bs j = 2 ∨ kat bs j = 3 ∨ kat bs j = 4 ∨ kat bs j = 5 := by
  unfold kat
  split
  · have := kd_cases (bs.getD j 0); omega
  · omega
/-- A word of a text, and what is behind it. -/
theorem word_len {bs : List UInt8} {i : Nat} (h : 4 ≤ kat bs i) : ∃ L, 0 < L ∧ i + L ≤ bs.length ∧ (∀ k, 1 ≤ k → k < L → 4 ≤ kat bs (i + k)) ∧ kat bs (i + L) < 4 ∧
    ∀ n c line lines, (kat bs i = 4 → line ≠ []) → aut (bs.drop i) .gap n c line lines = aut (bs.drop (i + L)) .gap n (c + L) (line ++ [((bs.drop i).take L, n, c)]) lines := by
  have hi : i < bs.length := kat_lt (by omega)
  obtain ⟨h1, h2, h3, h4⟩ := while_len (bs.drop (i + 1))
  have hl : ((bs.drop (i + 1)).takeWhile vs).length ≤ bs.length - (i + 1) := by
    have := congrArg List.length h1
    rw [List.length_take, List.length_drop] at this
    omega
  have gd : ∀ k, (bs.drop (i + 1)).getD k 0 = bs.getD (i + 1 + k) 0 := fun k => by simp [List.getD_eq_getElem?_getD]
  generalize hq : ((bs.drop (i + 1)).takeWhile vs).length = q at *
  refine ⟨q + 1, by omega, by omega, fun k hk1 hk2 => ?_, ?_, fun n c line lines h4' => ?_⟩
  · have hv := h3 (k - 1) (by omega)
    rw [gd, show i + 1 + (k - 1) = i + k by omega] at hv
    exact (kat_vs (by omega)).2 hv
  · by_cases he : i + (q + 1) < bs.length
    · have hv := h4 (by rw [List.length_drop]; omega)
      rw [gd, show i + 1 + q = i + (q + 1) by omega] at hv
      have := (kat_vs he).1
      rw [hv] at this
      by_cases hk : 4 ≤ kat bs (i + (q + 1))
      · cases this hk
      · omega
    · rw [kat_end (by omega)]; omega
  · rw [drop_at hi, aut_begin ((kat_vs hi).1 h) (by rw [← kat_at hi]; exact h4')]
    rw [hq, ← h2, List.drop_drop, List.take_succ_cons, h1, show i + 1 + q = i + (q + 1) by omega, show c + 1 + q = c + (q + 1) by omega]

section
variable {bs : List UInt8} {i n c : Nat} {line : List Wo} {lines : List (List Wo)}
theorem step_2 {m : Mo} (h : kat bs i = 2) : aut (bs.drop i) m n c line lines = aut (bs.drop (i + 1)) (blanked m) n (c + 1) (shutL m n line) lines := by
  have hi := kat_lt (bs := bs) (j := i) (by omega)
  rw [drop_at hi, aut_2 (by rw [← kat_at hi]; exact h)]
theorem step_3 (h : kat bs i = 3) : aut (bs.drop i) .gap n c line lines = aut (bs.drop (i + 1)) .gap (n + 1) 1 [] (flush line lines) := by
  have hi := kat_lt (bs := bs) (j := i) (by omega)
  rw [drop_at hi, aut_3 (by rw [← kat_at hi]; exact h)]; rfl
theorem step_1 {m : Mo} (h : kat bs i = 1) : aut (bs.drop i) m n c line lines = .bad n c := by
  have hi := kat_lt (bs := bs) (j := i) (by omega)
  rw [drop_at hi, aut_1 (by rw [← kat_at hi]; exact h)]
theorem step_0 (h : kat bs i = 0) : aut (bs.drop i) .gap n c line lines = .ok (flush line lines) := by
  have hi : bs.length ≤ i := by
    by_cases hi : i < bs.length
    · rw [kat_at hi] at h; have := kd_cases (bs.getD i 0); omega
    · omega
  rw [List.drop_eq_nil_of_le hi]; rfl
theorem step_hash (h : kat bs i = 4) : aut (bs.drop i) .gap n c [] lines = aut (bs.drop i) .rem n c [] lines := by
  have hi := kat_lt (bs := bs) (j := i) (by omega)
  have hv := (kat_vs hi).1 (by omega)
  rw [drop_at hi, aut_v hv, aut_v hv]
  have e : seen (bs.getD i 0) .gap c [] = .rem := if_pos ⟨by rw [← kat_at hi]; exact h, rfl⟩
  rw [e]; rfl
theorem step_rem (h : 4 ≤ kat bs i) : aut (bs.drop i) .rem n c [] lines = aut (bs.drop (i + 1)) .rem n (c + 1) [] lines := by
  have hi := kat_lt (bs := bs) (j := i) (by omega)
  have hv := (kat_vs hi).1 (by omega)
  rw [drop_at hi, aut_v hv]; rfl
theorem step_out (h : kat bs i < 4) (h2 : kat bs i ≠ 2) : aut (bs.drop i) .rem n c [] lines = aut (bs.drop i) .gap n c [] lines := by
  refine aut_rem fun b t e => ?_
  have hi : i < bs.length := by
    by_cases hi : i < bs.length
    · exact hi
    · rw [List.drop_eq_nil_of_le (by omega)] at e; cases e
  rw [drop_at hi] at e
  injection e with e1 e2
  rw [kat_at hi, e1] at h h2
  have := kd_cases b
  omega
end

/-- What holds at a label besides. -/
def LabC (bs : List UInt8) (i : Nat) (line : List Wo) (l : Nat) : Prop :=
  (l = 1 → line = []) ∧ (l = 2 → 4 ≤ kat bs i ∧ (kat bs i = 4 → line ≠ [])) ∧ (l = 3 → kat bs i < 4 ∧ kat bs i ≠ 2)

/-- What Split hands back. -/
def SplitPost (w : World) (R : Res) (e : Ending) (w' : World) : Prop :=
  ∃ v, e = .returned (.tuple #[v, .int .u16 (R.er : Int), .agg #[.int .i64 (R.ln : Int), .int .i64 (R.cl : Int)]]) ∧ WRows w' v R.rows ∧ Below w.heap.size w w'

theorem split_long (A : Option Addr) (N cap : Nat) (bs : List UInt8) (w : World) (hT : Txt w A N bs) (hN : 1048576 < N) (hN2 : N ≤ 9223372036854775807) :
    Calls Tryz.prog 52 #[.slice A N cap] w (SplitPost w (spl bs)) := by
  have e : spl bs = .long := if_pos (by rw [hT.1]; exact hN)
  rw [e]
  have hN' : (1048576 : Int) < (N : Int) := by omega
  go_enter Tryz.func52, Tryz.ntmps52
  go_wp2
  go_step3
  go_wp2
  rw [Exit.noGoto_ret]
  refine bodyPost_ret (v := .tuple #[.slice none 0 0, .int .u16 21, .agg #[.int .i64 0, .int .i64 0]]) ?_ rfl ⟨_, rfl, WRows.nil _, ?_⟩
  · simp [results, Tryz.results52, go_sem]
  · go_grown

theorem one_word (W : World) (X : List UInt8) (n c : Nat) : ∀ j u, (wcl (X, n, c))[j]? = some u → (W.alloc (.cells #[.string (str X), .int .i64 (n : Int), .int .i64 (c : Int)] 88)).cell? ((⟨W.heap.size, 0, none⟩ : Addr).add j) = some u := by
  intro j u hu
  rw [Go.WideShapes.add_plain]
  match j, hu with
  | 0, hu => simp [wcl] at hu; subst hu; simp
  | 1, hu => simp [wcl] at hu; subst hu; simp
  | 2, hu => simp [wcl] at hu; subst hu; simp
  | j + 3, hu => simp [wcl] at hu
theorem one_cell (W : World) (v : Value) (t : TypeId) : ∀ j u, [v][j]? = some u → (W.alloc (.cells #[v] t)).cell? ((⟨W.heap.size, 0, none⟩ : Addr).add j) = some u := by
  intro j u hu
  obtain rfl : j = 0 := by
    cases j with
    | zero => rfl
    | succ j => simp at hu
  simp at hu
  subst hu
  simp [Addr.add]
theorem put_place (W : World) (b : Nat) (x y : Value) : W.grownBy ((W.setCell ⟨b, 0, none⟩ x).setCell ⟨b, 1, none⟩ y) (some b) := by
  refine ⟨rfl, rfl, rfl, ?_, fun k hk hn => ?_⟩
  · simp only [World.size_setCell]; exact Nat.le_refl _
  · have hk' : k ≠ b := fun e => hn (by rw [e])
    rw [Below.heap_setCell _ _ _ _ (fun e => hk' e), Below.heap_setCell _ _ _ _ (fun e => hk' e)]
theorem Inv.out {w0 W W' : World} {T : Value} {i n c : Nat} {line : List Wo} {lines : List (List Wo)} {vL vLs : Value} (h : Inv w0 W T i n c line lines vL vLs) (g : W.grownBy W' (some w0.heap.size)) : WRows W' vLs lines := by
  obtain ⟨top, us, h1, h2, h3, h4, h5⟩ := h.rows
  exact ⟨us, own_mono (own_but h3 g (by omega)) (Nat.zero_le _), h5.imp fun u ws hu hk => ⟨own_mono (own_but hu g (by omega)) (Nat.zero_le _), fun k e => by have := hk k e; have := g.size; omega⟩⟩
attribute [local go_sem] put_cpx

set_option maxHeartbeats 2000000 in
theorem split_short (A : Option Addr) (N cap : Nat) (bs : List UInt8) (w : World) (hT : Txt w A N bs) (hN : N ≤ 1048576) (hcap : N ≤ cap) (hcm : cap ≤ 9223372036854775807) :
    Calls Tryz.prog 52 #[.slice A N cap] w (SplitPost w (spl bs)) := by
  have e : spl bs = aut bs .gap 1 1 [] [] := if_neg (by rw [hT.1]; omega)
  rw [e]
  obtain ⟨R, hR⟩ : ∃ R, aut bs .gap 1 1 [] [] = R := ⟨_, rfl⟩
  rw [hR]
  have hN' : ¬ (1048576 : Int) < (N : Int) := by omega
  have C1 := Lib.hid (fun (W : World) (i n c : Nat) (line : List Wo) (lines : List (List Wo)) (vL vLs : Value) (hI : Inv w W (.slice A N cap) i n c line lines vL vLs) (hi : i ≤ N) => met_any (w.heap.size + 1) A N cap i n c bs W hI.walk (hT.below hI.below) hi)
  have C2 := Lib.hid (fun (W : World) (i n c : Nat) (line : List Wo) (lines : List (List Wo)) (vL vLs : Value) (hI : Inv w W (.slice A N cap) i n c line lines vL vLs) (hi : i ≤ N) => on_any (w.heap.size + 1) (.slice A N cap) i n c W hI.walk (by omega) (by have := hI.bounds; omega) (by have := hI.bounds; omega) (by have := hI.bounds; omega) (by have := hI.bounds; omega))
  have C3 := Lib.hid (fun (W : World) (i n c : Nat) (line : List Wo) (lines : List (List Wo)) (vL vLs : Value) (hI : Inv w W (.slice A N cap) i n c line lines vL vLs) (hi : i ≤ N) => down_any (w.heap.size + 1) (.slice A N cap) i n c W hI.walk (by omega) (by have := hI.bounds; omega) (by have := hI.bounds; omega))
  have C4 := Lib.hid (fun (W : World) (i n c : Nat) (line : List Wo) (lines : List (List Wo)) (vL vLs : Value) (hI : Inv w W (.slice A N cap) i n c line lines vL vLs) (hi : i ≤ N) => place_any (w.heap.size + 1) (.slice A N cap) i n c W hI.walk (by have := hI.bounds; omega) (by have := hI.bounds; omega) (by have := hI.bounds; omega) (by have := hI.bounds; omega))
  obtain ⟨i0, hz, hz0, hz1, hz2⟩ := info_parts infoWord
  obtain ⟨j0, jz, jz0, jz1, jz2⟩ := info_parts infoRow
  have HT := Lib.hid hT
  have HR := Lib.hid hR
  clear hT e hR
  go_enter Tryz.func52, Tryz.ntmps52
  go_wp2
  refine wp_scope_four rfl rfl rfl rfl (fun l m a W => ∃ (i n c : Nat) (line : List Wo) (lines : List (List Wo)) (vL vLs u1 u8 u9 u10 u11 u12 u13 u14 u15 u16 u17 u18 u19 u20 u21 u22 u23 u24 u25 u26 u27 u28 u29 u30 u31 u32 u33 u34 u35 u36 u37 u38 u39 u40 u41 u42 u43 u44 u45 u46 u47 u48 u49 u50 : Value), i ≤ N ∧ m = 2 * (N - i) + (if l = 0 then 1 else 0) ∧
    a = { tmps := #[(.slice A N cap), u1, .slice none 0 0, .int .u16 0, .pointer (some ⟨w.heap.size, 0, none⟩), vLs, vL, .pointer (some ⟨w.heap.size + 1, 0, none⟩), u8, u9, u10, u11, u12, u13, u14, u15, u16, u17, u18, u19, u20, u21, u22, u23, u24, u25, u26, u27, u28, u29, u30, u31, u32, u33, u34, u35, u36, u37, u38, u39, u40, u41, u42, u43, u44, u45, u46, u47, u48, u49, u50], defers := [] } ∧ Inv w W (.slice A N cap) i n c line lines vL vLs ∧ aut (bs.drop i) (if l = 1 then .rem else .gap) n c line lines = R ∧ LabC bs i line l) ?pass3 ?pass0 ?pass1 ?pass2 ?first
  case pass3 =>
    rintro m a W ⟨i, n, c, line, lines, vL, vLs, u1, u8, u9, u10, u11, u12, u13, u14, u15, u16, u17, u18, u19, u20, u21, u22, u23, u24, u25, u26, u27, u28, u29, u30, u31, u32, u33, u34, u35, u36, u37, u38, u39, u40, u41, u42, u43, u44, u45, u46, u47, u48, u49, u50, hi, rfl, rfl, hI, hA, hC⟩
    replace hA : aut (bs.drop i) .gap n c line lines = R := hA
    replace hC := hC.2.2 rfl
    obtain ⟨top, us, r1, r2, r3, r4, r5⟩ := hI.rows
    obtain ⟨A', c', rfl⟩ := own_slice r2
    by_cases hne : line = []
    · subst hne
      have hfl : flush [] lines = lines := rfl
      clear r1 r2 r3 r4 r5
      have M1 := Lib.hid (C1.out _ _ _ _ _ _ _ _ hI hi)
      have HI := Lib.hid hI
      clear hI
      go_wp2_with ((go_at_call 72; (with_reducible refine M1.out.mono ?_); rintro e w1 ⟨rfl, g1⟩; refine stopHere ?_))
      unfold Stop
      have hI := HI.out.grow (drew_below g1)
      clear g1 M1 HI
      rcases kat_cases bs i with hk | hk | hk | hk | hk | hk
      · have hA' := (step_0 hk).symm.trans hA
        rw [hfl] at hA'
        subst hA'
        have HJ := Lib.hid hI
        obtain ⟨⟨p0, p1⟩, p2, p3⟩ := hI.place
        clear hI hA C1 C2 C3 C4
        rw [hk]
        go_wp2
        simp only [Exit.jumps]
        change bodyPost _ _ _ _ _ _
        have gp := put_place w1 w.heap.size (.int .i64 0) (.int .i64 0)
        refine bodyPost_ret (v := .tuple #[_, .int .u16 0, .agg #[.int .i64 0, .int .i64 0]]) ?_ rfl ⟨_, rfl, HJ.out.out gp, HJ.out.below.trans (but_below' gp (by have := HJ.out.walk.lt; omega))⟩
        simp [results, Tryz.results52, go_sem, p0, p1, cell_set]
      · have O1 := Lib.hid (C4.out _ _ _ _ _ _ _ _ hI hi)
        have hA' := (step_1 hk).symm.trans hA
        subst hA'
        have HJ := Lib.hid hI
        clear hI hA C1 C2 C3 C4
        rw [hk]
        go_wp2_with ((go_at_call 76; (with_reducible refine O1.out.mono ?_); rintro e w2 ⟨rfl, g2⟩; obtain ⟨⟨p0, p1⟩, p2, p3⟩ := HJ.out.place.below g2 (by have := HJ.out.walk.lt; omega)))
        simp only [Exit.jumps]
        change bodyPost _ _ _ _ _ _
        have gp := put_place w2 w.heap.size (.int .i64 (n : Int)) (.int .i64 (c : Int))
        refine bodyPost_ret (v := .tuple #[.slice none 0 0, .int .u16 20, .agg #[.int .i64 (n : Int), .int .i64 (c : Int)]]) ?_ rfl ⟨_, rfl, WRows.nil _, (kbq HJ.out.below g2).trans (but_below' gp (by have := HJ.out.walk.lt; have := g2.size; omega))⟩
        simp [results, Tryz.results52, go_sem, p0, p1, cell_set]
      · exact absurd hk hC.2
      · have hiN : i < N := by rw [← HT.out.1]; exact kat_lt (by rw [hk]; omega)
        have O1 := Lib.hid (C3.out _ _ _ _ _ _ _ _ hI hi)
        have hA' := (step_3 hk).symm.trans hA
        rw [hfl] at hA'
        have HJ := Lib.hid (And.intro hI hA')
        clear hI hA hA'
        rw [hk]
        go_wp2_with ((go_at_call 75; (with_reducible refine O1.out.mono ?_); rintro e w2 ⟨rfl, rfl⟩))
        go_step3
        obtain ⟨hI, hA'⟩ := HJ.out
        exact ⟨by decide, _, (by simp; omega), ⟨i + 1, n + 1, 1, [], _, _, _, _, _, _, _, _, _, _, _, _, _, _, _, _, _, _, _, _, _, _, _, _, _, _, _, _, _, _, _, _, _, _, _, _, _, _, _, _, _, _, _, _, _, _, _, (by omega), rfl, rfl, hI.moved (but_gon (World.grownBy.refl w1 _) (i + 1) (n + 1) 1) (hI.walk.go (i + 1) (n + 1) 1) (by omega) (by have := hI.bounds; omega) (by omega), hA', ⟨fun h => by omega, fun h => by omega, fun h => by omega⟩⟩⟩
      · exact absurd hC.1 (by omega)
      · exact absurd hC.1 (by omega)
    · have hfl : flush line lines = lines ++ [line] := if_neg hne
      have hlen : (0 : Int) < (line.length : Int) := by have := List.length_pos_iff.2 hne; omega
      have hbd := hI.bounds
      have HI0 := Lib.hid hI
      have HR2 := Lib.hid r2
      have HR3 := Lib.hid r3
      have HR5 := Lib.hid r5
      clear hI r2 r3 r5
      go_wp2_with ((at_builtin; refine stopHere ?_))
      unfold Stop
      have g0 := (Below.refl _ W).alloc (Nat.le_refl _) (.cells #[.slice A' line.length c'] 86)
      refine wpList_append_own _ rfl _ _ 83 rfl (w.heap.size + 2) 86 j0 (.slice none 0 0) 1 24 Tryz.underlying83 jz jz0 jz1 jz2 rfl (by decide) _ lines.length _ rfl (own_below HR3.out g0) ⟨W.heap.size, 0, none⟩ 1 1 [.slice A' line.length c'] rfl rfl (one_cell W _ _) (by simp [Value.oneCell']) (by unfold maxLen; omega) (by omega) (by have := g0.size; omega) ?_
      intro vLs' W' own grow _
      have hI := (HI0.out.grow g0).stop hne top us ⟨r1.1, Nat.le_trans r1.2 g0.size⟩ (own_below HR2.out g0) (own_below HR3.out g0) r4 (HR5.out.imp fun u ws hu hk => ⟨own_below hu g0, hk⟩) own grow
      clear HI0 HR2 HR3 HR5 own grow g0 r1 r4
      have M1 := Lib.hid (C1.out _ _ _ _ _ _ _ _ hI hi)
      have HI := Lib.hid hI
      clear hI
      go_wp2_with ((go_at_call 72; (with_reducible refine M1.out.mono ?_); rintro e w1 ⟨rfl, g1⟩; refine stopHere ?_))
      unfold Stop
      have hI := HI.out.grow (drew_below g1)
      clear g1 M1 HI
      rcases kat_cases bs i with hk | hk | hk | hk | hk | hk
      · have hA' := (step_0 hk).symm.trans hA
        rw [hfl] at hA'
        subst hA'
        have HJ := Lib.hid hI
        obtain ⟨⟨p0, p1⟩, p2, p3⟩ := hI.place
        clear hI hA C1 C2 C3 C4
        rw [hk]
        go_wp2
        simp only [Exit.jumps]
        change bodyPost _ _ _ _ _ _
        have gp := put_place w1 w.heap.size (.int .i64 0) (.int .i64 0)
        refine bodyPost_ret (v := .tuple #[_, .int .u16 0, .agg #[.int .i64 0, .int .i64 0]]) ?_ rfl ⟨_, rfl, HJ.out.out gp, HJ.out.below.trans (but_below' gp (by have := HJ.out.walk.lt; omega))⟩
        simp [results, Tryz.results52, go_sem, p0, p1, cell_set]
      · have O1 := Lib.hid (C4.out _ _ _ _ _ _ _ _ hI hi)
        have hA' := (step_1 hk).symm.trans hA
        subst hA'
        have HJ := Lib.hid hI
        clear hI hA C1 C2 C3 C4
        rw [hk]
        go_wp2_with ((go_at_call 76; (with_reducible refine O1.out.mono ?_); rintro e w2 ⟨rfl, g2⟩; obtain ⟨⟨p0, p1⟩, p2, p3⟩ := HJ.out.place.below g2 (by have := HJ.out.walk.lt; omega)))
        simp only [Exit.jumps]
        change bodyPost _ _ _ _ _ _
        have gp := put_place w2 w.heap.size (.int .i64 (n : Int)) (.int .i64 (c : Int))
        refine bodyPost_ret (v := .tuple #[.slice none 0 0, .int .u16 20, .agg #[.int .i64 (n : Int), .int .i64 (c : Int)]]) ?_ rfl ⟨_, rfl, WRows.nil _, (kbq HJ.out.below g2).trans (but_below' gp (by have := HJ.out.walk.lt; have := g2.size; omega))⟩
        simp [results, Tryz.results52, go_sem, p0, p1, cell_set]
      · exact absurd hk hC.2
      · have hiN : i < N := by rw [← HT.out.1]; exact kat_lt (by rw [hk]; omega)
        have O1 := Lib.hid (C3.out _ _ _ _ _ _ _ _ hI hi)
        have hA' := (step_3 hk).symm.trans hA
        rw [hfl] at hA'
        have HJ := Lib.hid (And.intro hI hA')
        clear hI hA hA'
        rw [hk]
        go_wp2_with ((go_at_call 75; (with_reducible refine O1.out.mono ?_); rintro e w2 ⟨rfl, rfl⟩))
        go_step3
        obtain ⟨hI, hA'⟩ := HJ.out
        exact ⟨by decide, _, (by simp; omega), ⟨i + 1, n + 1, 1, [], _, _, _, _, _, _, _, _, _, _, _, _, _, _, _, _, _, _, _, _, _, _, _, _, _, _, _, _, _, _, _, _, _, _, _, _, _, _, _, _, _, _, _, _, _, _, _, (by omega), rfl, rfl, hI.moved (but_gon (World.grownBy.refl w1 _) (i + 1) (n + 1) 1) (hI.walk.go (i + 1) (n + 1) 1) (by omega) (by have := hI.bounds; omega) (by omega), hA', ⟨fun h => by omega, fun h => by omega, fun h => by omega⟩⟩⟩
      · exact absurd hC.1 (by omega)
      · exact absurd hC.1 (by omega)
  case pass0 =>
    rintro m a W ⟨i, n, c, line, lines, vL, vLs, u1, u8, u9, u10, u11, u12, u13, u14, u15, u16, u17, u18, u19, u20, u21, u22, u23, u24, u25, u26, u27, u28, u29, u30, u31, u32, u33, u34, u35, u36, u37, u38, u39, u40, u41, u42, u43, u44, u45, u46, u47, u48, u49, u50, hi, rfl, rfl, hI, hA, hC⟩
    replace hA : aut (bs.drop i) .gap n c line lines = R := hA
    have M1 := Lib.hid (C1.out _ _ _ _ _ _ _ _ hI hi)
    go_wp2_with ((go_at_call 72; (with_reducible refine M1.out.mono ?_); rintro e w1 ⟨rfl, g1⟩; refine stopHere ?_))
    unfold Stop
    replace hI := hI.grow (drew_below g1)
    clear g1 M1
    rcases kat_cases bs i with hk | hk | hk | hk | hk | hk
    · have hiN : i ≤ N := hi
      have HJ := Lib.hid hI
      have hA' := hA
      clear hI hA
      rw [hk]
      go_wp2
      go_step3
      exact ⟨by decide, _, (by simp), ⟨i, n, c, line, lines, _, _, _, _, _, _, _, _, _, _, _, _, _, _, _, _, _, _, _, _, _, _, _, _, _, _, _, _, _, _, _, _, _, _, _, _, _, _, _, _, _, _, _, _, _, _, hi, rfl, rfl, HJ.out, hA', ⟨fun h => by omega, fun h => by omega, fun _ => ⟨by rw [hk]; omega, by rw [hk]; omega⟩⟩⟩⟩
    · have hiN : i ≤ N := hi
      have HJ := Lib.hid hI
      have hA' := hA
      clear hI hA
      rw [hk]
      go_wp2
      go_step3
      exact ⟨by decide, _, (by simp), ⟨i, n, c, line, lines, _, _, _, _, _, _, _, _, _, _, _, _, _, _, _, _, _, _, _, _, _, _, _, _, _, _, _, _, _, _, _, _, _, _, _, _, _, _, _, _, _, _, _, _, _, _, hi, rfl, rfl, HJ.out, hA', ⟨fun h => by omega, fun h => by omega, fun _ => ⟨by rw [hk]; omega, by rw [hk]; omega⟩⟩⟩⟩
    · have hiN : i < N := by rw [← HT.out.1]; exact kat_lt (by rw [hk]; omega)
      have O1 := Lib.hid (C2.out _ _ _ _ _ _ _ _ hI hi)
      have hA' := (step_2 hk).symm.trans hA
      have HJ := Lib.hid (And.intro hI hA')
      clear hI hA hA'
      rw [hk]
      go_wp2_with ((go_at_call 73; (with_reducible refine O1.out.mono ?_); rintro e w2 ⟨rfl, rfl⟩))
      go_step3
      obtain ⟨hI, hA'⟩ := HJ.out
      exact ⟨by decide, _, (by simp; omega), ⟨i + 1, n, c + 1, line, lines, _, _, _, _, _, _, _, _, _, _, _, _, _, _, _, _, _, _, _, _, _, _, _, _, _, _, _, _, _, _, _, _, _, _, _, _, _, _, _, _, _, _, _, _, _, _, (by omega), rfl, rfl, hI.moved (but_gon (World.grownBy.refl w1 _) (i + 1) n (c + 1)) (hI.walk.go (i + 1) n (c + 1)) (by omega) (by have := hI.bounds; omega) (by have := hI.bounds; omega), hA', ⟨fun h => by omega, fun h => by omega, fun h => by omega⟩⟩⟩
    · have hiN : i ≤ N := hi
      have HJ := Lib.hid hI
      have hA' := hA
      clear hI hA
      rw [hk]
      go_wp2
      go_step3
      exact ⟨by decide, _, (by simp), ⟨i, n, c, line, lines, _, _, _, _, _, _, _, _, _, _, _, _, _, _, _, _, _, _, _, _, _, _, _, _, _, _, _, _, _, _, _, _, _, _, _, _, _, _, _, _, _, _, _, _, _, _, hi, rfl, rfl, HJ.out, hA', ⟨fun h => by omega, fun h => by omega, fun _ => ⟨by rw [hk]; omega, by rw [hk]; omega⟩⟩⟩⟩
    · obtain ⟨top, us, r1, r2, r3, r4, r5⟩ := hI.rows
      obtain ⟨A', c', rfl⟩ := own_slice r2
      clear r1 r2 r3 r4 r5
      by_cases hne : line = []
      · subst hne
        have hiN : i ≤ N := hi
        have HJ := Lib.hid hI
        have hA' := (step_hash hk).symm.trans hA
        clear hI hA
        rw [hk]
        go_wp2
        go_step3
        exact ⟨by decide, _, (by simp), ⟨i, n, c, [], lines, _, _, _, _, _, _, _, _, _, _, _, _, _, _, _, _, _, _, _, _, _, _, _, _, _, _, _, _, _, _, _, _, _, _, _, _, _, _, _, _, _, _, _, _, _, _, hi, rfl, rfl, HJ.out, hA', ⟨fun _ => rfl, fun h => by omega, fun h => by omega⟩⟩⟩
      · have hlen : ((line.length : Int) == 0) = false := beq_eq_false_iff_ne.2 (by have := List.length_pos_iff.2 hne; omega)
        have hiN : i ≤ N := hi
        have HJ := Lib.hid hI
        have hA' := hA
        clear hI hA
        rw [hk]
        go_wp2
        go_step3
        exact ⟨by decide, _, (by simp), ⟨i, n, c, line, lines, _, _, _, _, _, _, _, _, _, _, _, _, _, _, _, _, _, _, _, _, _, _, _, _, _, _, _, _, _, _, _, _, _, _, _, _, _, _, _, _, _, _, _, _, _, _, hi, rfl, rfl, HJ.out, hA', ⟨fun h => by omega, fun _ => ⟨by rw [hk]; omega, fun _ => hne⟩, fun h => by omega⟩⟩⟩
    · have hiN : i ≤ N := hi
      have HJ := Lib.hid hI
      have hA' := hA
      clear hI hA
      rw [hk]
      go_wp2
      go_step3
      exact ⟨by decide, _, (by simp), ⟨i, n, c, line, lines, _, _, _, _, _, _, _, _, _, _, _, _, _, _, _, _, _, _, _, _, _, _, _, _, _, _, _, _, _, _, _, _, _, _, _, _, _, _, _, _, _, _, _, _, _, _, hi, rfl, rfl, HJ.out, hA', ⟨fun h => by omega, fun _ => ⟨by rw [hk]; omega, fun h => by rw [hk] at h; omega⟩, fun h => by omega⟩⟩⟩
  case pass1 =>
    rintro m st a W ⟨i, n, c, line, lines, vL, vLs, u1, u8, u9, u10, u11, u12, u13, u14, u15, u16, u17, u18, u19, u20, u21, u22, u23, u24, u25, u26, u27, u28, u29, u30, u31, u32, u33, u34, u35, u36, u37, u38, u39, u40, u41, u42, u43, u44, u45, u46, u47, u48, u49, u50, hi, rfl, rfl, hI, hA, hC⟩
    obtain rfl := hC.1 rfl
    replace hA : aut (bs.drop i) .rem n c [] lines = R := hA
    have M1 := Lib.hid (C1.out _ _ _ _ _ _ _ _ hI hi)
    go_wp2_with ((go_at_call 72; (with_reducible refine M1.out.mono ?_); rintro e w1 ⟨rfl, g1⟩; refine stopHere ?_))
    unfold Stop
    replace hI := hI.grow (drew_below g1)
    clear g1 M1
    rcases kat_cases bs i with hk | hk | hk | hk | hk | hk
    · have hA' := (step_out (by rw [hk]; omega) (by rw [hk]; omega)).symm.trans hA
      have HJ := Lib.hid (And.intro hI hA')
      clear hI hA hA'
      rw [hk]
      go_wp2
      go_step3
      rename_i hK
      obtain ⟨hI, hA'⟩ := HJ.out
      exact hK _ _ (st _ _ ⟨i, n, c, [], lines, _, _, _, _, _, _, _, _, _, _, _, _, _, _, _, _, _, _, _, _, _, _, _, _, _, _, _, _, _, _, _, _, _, _, _, _, _, _, _, _, _, _, _, _, _, _, hi, rfl, rfl, hI, hA', ⟨fun h => by omega, fun h => by omega, fun _ => ⟨by rw [hk]; omega, by rw [hk]; omega⟩⟩⟩)
    · have hA' := (step_out (by rw [hk]; omega) (by rw [hk]; omega)).symm.trans hA
      have HJ := Lib.hid (And.intro hI hA')
      clear hI hA hA'
      rw [hk]
      go_wp2
      go_step3
      rename_i hK
      obtain ⟨hI, hA'⟩ := HJ.out
      exact hK _ _ (st _ _ ⟨i, n, c, [], lines, _, _, _, _, _, _, _, _, _, _, _, _, _, _, _, _, _, _, _, _, _, _, _, _, _, _, _, _, _, _, _, _, _, _, _, _, _, _, _, _, _, _, _, _, _, _, hi, rfl, rfl, hI, hA', ⟨fun h => by omega, fun h => by omega, fun _ => ⟨by rw [hk]; omega, by rw [hk]; omega⟩⟩⟩)
    · have hiN : i < N := by rw [← HT.out.1]; exact kat_lt (by rw [hk]; omega)
      have O1 := Lib.hid (C2.out _ _ _ _ _ _ _ _ hI hi)
      have hA' := (step_2 hk).symm.trans hA
      have HJ := Lib.hid (And.intro hI hA')
      clear hI hA hA'
      rw [hk]
      go_wp2_with ((go_at_call 73; (with_reducible refine O1.out.mono ?_); rintro e w2 ⟨rfl, rfl⟩))
      go_step3
      obtain ⟨hI, hA'⟩ := HJ.out
      exact ⟨by decide, _, (by simp; omega), ⟨i + 1, n, c + 1, [], lines, _, _, _, _, _, _, _, _, _, _, _, _, _, _, _, _, _, _, _, _, _, _, _, _, _, _, _, _, _, _, _, _, _, _, _, _, _, _, _, _, _, _, _, _, _, _, (by omega), rfl, rfl, hI.moved (but_gon (World.grownBy.refl w1 _) (i + 1) n (c + 1)) (hI.walk.go (i + 1) n (c + 1)) (by omega) (by have := hI.bounds; omega) (by have := hI.bounds; omega), hA', ⟨fun _ => rfl, fun h => by omega, fun h => by omega⟩⟩⟩
    · have hA' := (step_out (by rw [hk]; omega) (by rw [hk]; omega)).symm.trans hA
      have HJ := Lib.hid (And.intro hI hA')
      clear hI hA hA'
      rw [hk]
      go_wp2
      go_step3
      rename_i hK
      obtain ⟨hI, hA'⟩ := HJ.out
      exact hK _ _ (st _ _ ⟨i, n, c, [], lines, _, _, _, _, _, _, _, _, _, _, _, _, _, _, _, _, _, _, _, _, _, _, _, _, _, _, _, _, _, _, _, _, _, _, _, _, _, _, _, _, _, _, _, _, _, _, hi, rfl, rfl, hI, hA', ⟨fun h => by omega, fun h => by omega, fun _ => ⟨by rw [hk]; omega, by rw [hk]; omega⟩⟩⟩)
    · have hiN : i < N := by rw [← HT.out.1]; exact kat_lt (by rw [hk]; omega)
      have O1 := Lib.hid (C2.out _ _ _ _ _ _ _ _ hI hi)
      have hA' := (step_rem (by rw [hk]; omega)).symm.trans hA
      have HJ := Lib.hid (And.intro hI hA')
      clear hI hA hA'
      rw [hk]
      go_wp2_with ((go_at_call 73; (with_reducible refine O1.out.mono ?_); rintro e w2 ⟨rfl, rfl⟩))
      go_step3
      obtain ⟨hI, hA'⟩ := HJ.out
      exact ⟨by decide, _, (by simp; omega), ⟨i + 1, n, c + 1, [], lines, _, _, _, _, _, _, _, _, _, _, _, _, _, _, _, _, _, _, _, _, _, _, _, _, _, _, _, _, _, _, _, _, _, _, _, _, _, _, _, _, _, _, _, _, _, _, (by omega), rfl, rfl, hI.moved (but_gon (World.grownBy.refl w1 _) (i + 1) n (c + 1)) (hI.walk.go (i + 1) n (c + 1)) (by omega) (by have := hI.bounds; omega) (by have := hI.bounds; omega), hA', ⟨fun _ => rfl, fun h => by omega, fun h => by omega⟩⟩⟩
    · have hiN : i < N := by rw [← HT.out.1]; exact kat_lt (by rw [hk]; omega)
      have O1 := Lib.hid (C2.out _ _ _ _ _ _ _ _ hI hi)
      have hA' := (step_rem (by rw [hk]; omega)).symm.trans hA
      have HJ := Lib.hid (And.intro hI hA')
      clear hI hA hA'
      rw [hk]
      go_wp2_with ((go_at_call 73; (with_reducible refine O1.out.mono ?_); rintro e w2 ⟨rfl, rfl⟩))
      go_step3
      obtain ⟨hI, hA'⟩ := HJ.out
      exact ⟨by decide, _, (by simp; omega), ⟨i + 1, n, c + 1, [], lines, _, _, _, _, _, _, _, _, _, _, _, _, _, _, _, _, _, _, _, _, _, _, _, _, _, _, _, _, _, _, _, _, _, _, _, _, _, _, _, _, _, _, _, _, _, _, (by omega), rfl, rfl, hI.moved (but_gon (World.grownBy.refl w1 _) (i + 1) n (c + 1)) (hI.walk.go (i + 1) n (c + 1)) (by omega) (by have := hI.bounds; omega) (by have := hI.bounds; omega), hA', ⟨fun _ => rfl, fun h => by omega, fun h => by omega⟩⟩⟩
  case pass2 =>
    rintro m a W ⟨i, n, c, line, lines, vL, vLs, u1, u8, u9, u10, u11, u12, u13, u14, u15, u16, u17, u18, u19, u20, u21, u22, u23, u24, u25, u26, u27, u28, u29, u30, u31, u32, u33, u34, u35, u36, u37, u38, u39, u40, u41, u42, u43, u44, u45, u46, u47, u48, u49, u50, hi, rfl, rfl, hI, hA, hC⟩
    replace hA : aut (bs.drop i) .gap n c line lines = R := hA
    obtain ⟨hk4, hkl⟩ := hC.2.1 rfl
    have hiN : i < N := by rw [← HT.out.1]; exact kat_lt (by omega)
    obtain ⟨L, hL0, hL1, hL2, hL3, hL4⟩ := word_len hk4
    rw [HT.out.1] at hL1
    obtain ⟨b, off, rfl, hb, _⟩ := (HT.out.2 (by omega))
    have O1 := Lib.hid (word_any (w.heap.size + 1) b off N cap i n c L bs W hI.walk (HT.out.below hI.below) (by omega) hN hcap hcm (by have := hI.bounds; omega) (by have := hI.bounds; omega) (by have := hI.bounds; omega) (by have := hI.bounds; omega) hL0 hL1 hL2 hL3)
    have HA := Lib.hid ((hL4 n c line lines hkl).symm.trans hA)
    have HI := Lib.hid hI
    clear hA hL4 hL2 hL3 hk4 hkl hI hC
    generalize (bs.drop i).take L = X at *
    go_wp2_with (first
      | (go_at_call 74; (with_reducible refine O1.out.mono ?_); rintro e w2 ⟨rfl, hw2, g2⟩)
      | (at_builtin; refine stopHere ?_))
    unfold Stop
    have hb := HI.out.bounds
    have hI2 := (HI.out.moved g2 hw2 (by omega) (by omega) (by omega)).grow ((Below.refl _ w2).alloc (Nat.le_refl _) (.cells #[.string (str X), .int .i64 (n : Int), .int .i64 (c : Int)] 88))
    obtain ⟨top, us, r1, r2, r3, r4, r5⟩ := hI2.rows
    refine wpList_append_own _ rfl _ _ 86 rfl top 88 i0 (.agg #[.string ⟨#[]⟩, .int .i64 0, .int .i64 0]) 3 32 Tryz.underlying86 hz hz0 hz1 hz2 rfl (by decide) _ line.length _ rfl r2 ⟨w2.heap.size, 0, none⟩ 1 1 (wcl (X, n, c)) rfl rfl (one_word w2 X n c) (flatW_one [(X, n, c)]) (by unfold maxLen; omega) (by omega) r1.2 ?_
    intro vL' W' own grow _
    have hI3 := hI2.word (x := (X, n, c)) (i0 := 0) (by omega) top us r1 r2 r3 r4 r5 own grow
    have HJ := Lib.hid hI3
    clear hI2 hI3 r1 r2 r3 r4 r5 own grow O1 HI hw2 g2 hb
    go_wp2
    go_step3
    exact ⟨by decide, _, (by simp; omega), ⟨i + L, n, c + L, _, lines, _, _, _, _, _, _, _, _, _, _, _, _, _, _, _, _, _, _, _, _, _, _, _, _, _, _, _, _, _, _, _, _, _, _, _, _, _, _, _, _, _, _, _, _, _, _, (by omega), rfl, rfl, HJ.out, HA.out, ⟨fun h => by omega, fun h => by omega, fun h => by omega⟩⟩⟩
  case first =>
    intro pass
    go_wp2
    go_step3
    rename_i hK
    refine hK _ _ (pass _ _ _ ⟨0, 1, 1, [], [], _, _, _, _, _, _, _, _, _, _, _, _, _, _, _, _, _, _, _, _, _, _, _, _, _, _, _, _, _, _, _, _, _, _, _, _, _, _, _, _, _, _, _, _, _, _, (Nat.zero_le _), rfl, rfl, ?_, HR.out, ⟨fun h => by omega, fun h => by omega, fun h => by omega⟩⟩)
    refine ⟨by go_grown, ⟨⟨by simp, by simp, by simp [fb_one]⟩, by simp, by simp, by simp⟩, ⟨⟨by simp, by simp⟩, by simp, by simp⟩, ⟨by omega, by omega, by simp⟩, w.heap.size + 2, [], ⟨Nat.le_refl _, by simp⟩, WRow.nil _ _, World.ownsRow_nil _ _ _ _, fun k e => by simp [Value.ownBlock] at e, trivial⟩
end Go.Proofs.YtckaiejbgnhgcaaGreatDoor.Wd.Ws
namespace Go.Proofs.YtckaiejbgnhgcaaGreatDoor.Wd.Ws
open Go Go.RowKit
set_option linter.unusedVariables false
set_option maxRecDepth 100000

theorem split_any (A : Option Addr) (N cap : Nat) (bs : List UInt8) (w : World) (hT : Txt w A N bs) (hcap : N ≤ cap) (hcm : cap ≤ 9223372036854775807) :
    Calls Tryz.prog 52 #[.slice A N cap] w (SplitPost w (spl bs)) := by
  by_cases h : N ≤ 1048576
  · exact split_short A N cap bs w hT h hcap hcm
  · exact split_long A N cap bs w hT (by omega) (by omega)

/-! ### Rows of bytes that are built -/
/-- The cells of bytes. -/
def bvs (l : List UInt8) : List Value := l.map fun b => Value.int .u8 (b.toNat : Int)
theorem bvs_append (a b : List UInt8) : bvs (a ++ b) = bvs a ++ bvs b := List.map_append
theorem bvs_length (a : List UInt8) : (bvs a).length = a.length := List.length_map _
theorem bvs_one (l : List UInt8) : ∀ u ∈ bvs l, u.oneCell' = true := by
  intro u hu
  obtain ⟨x, _, rfl⟩ := List.mem_map.1 hu
  rfl
/-- A row of bytes that is owned. -/
def BRow (w : World) (base : Nat) (v : Value) (l : List UInt8) : Prop := w.ownsRow base 5 1 v l.length (bvs l)
theorem BRow.nil (w : World) (base : Nat) : BRow w base (.slice none 0 0) [] := World.ownsRow_nil _ _ _ _
theorem BRow.txt {w : World} {base : Nat} {v : Value} {l : List UInt8} (h : BRow w base v l) : ∃ A c, v = .slice A l.length c ∧ l.length ≤ c ∧ c ≤ 9223372036854775807 ∧ Txt w A l.length l := by
  obtain ⟨A, c, rfl⟩ := own_slice h
  have hc := own_caps h
  refine ⟨A, c, rfl, hc.1, hc.2, rfl, fun h0 => ?_⟩
  obtain ⟨g, cap, e, _, hlt⟩ := h.form (by omega)
  simp only [Value.slice.injEq] at e
  obtain ⟨rfl, _, rfl⟩ := e
  refine ⟨g, 0, rfl, hlt, fun k hk => ?_⟩
  have := h.cellAt k (by omega)
  rw [Nat.zero_add, this, bvs, List.getElem?_map, List.getD_eq_getElem?_getD, List.getElem?_eq_getElem hk]; rfl
theorem infoByte : (Tryz.prog.info? 5).map (fun i => (i.zero, i.size, i.bytes)) = some (some (.int .u8 0), 1, 1) := by kernel_rfl

/-! ### A text of choices -/
def tab : List (List UInt8) := [[97], [98, 99], [32], [9], [10], [35], [120, 49], [10], [32], [32, 32], [115, 105, 122, 101], [100, 101, 102, 97, 117, 108, 116], [114, 117, 108, 101], [55], [127], [13]]
/-- The bytes of a choice. -/
def ch (x : UInt8) : List UInt8 := if x.toNat < 128 ∧ 13 < x.toNat % 16 then [121] else tab.getD (x.toNat % 16) []
/-- The bytes of choices. -/
def tx (cs : List UInt8) : List UInt8 := (cs.take 80).flatMap ch
theorem tab_len (j : Nat) : (tab.getD j []).length ≤ 7 := by
  rw [List.getD_eq_getElem?_getD]
  by_cases h : j < 16
  · match j, h with
    | 0, _ | 1, _ | 2, _ | 3, _ | 4, _ | 5, _ | 6, _ | 7, _ | 8, _ | 9, _ | 10, _ | 11, _ | 12, _ | 13, _ | 14, _ | 15, _ => decide
    | j + 16, h => omega
  · rw [List.getElem?_eq_none (by simp [tab]; omega)]; decide
theorem ch_len (x : UInt8) : (ch x).length ≤ 7 := by
  unfold ch
  split
  · decide
  · exact tab_len _
theorem flat_len (cs : List UInt8) : (cs.flatMap ch).length ≤ 7 * cs.length := by
  induction cs with
  | nil => simp
  | cons x cs ih => have := ch_len x; simp only [List.flatMap_cons, List.length_append, List.length_cons]; omega
theorem tx_len (cs : List UInt8) : (tx cs).length ≤ 560 := by
  have := flat_len (cs.take 80)
  have h : (cs.take 80).length ≤ 80 := List.length_take_le _ _
  unfold tx
  omega
theorem take_flat (cs : List UInt8) (k : Nat) (h : k < cs.length) : (cs.take (k + 1)).flatMap ch = (cs.take k).flatMap ch ++ ch (cs.getD k 0) := by
  rw [List.take_add_one, List.flatMap_append, List.getD_eq_getElem?_getD, List.getElem?_eq_getElem h]; simp

/-- The sixteen texts. -/
def tabV : Array Value := #[.string ⟨#[97]⟩, .string ⟨#[98, 99]⟩, .string ⟨#[32]⟩, .string ⟨#[9]⟩, .string ⟨#[10]⟩, .string ⟨#[35]⟩, .string ⟨#[120, 49]⟩, .string ⟨#[10]⟩, .string ⟨#[32]⟩, .string ⟨#[32, 32]⟩, .string ⟨#[115, 105, 122, 101]⟩, .string ⟨#[100, 101, 102, 97, 117, 108, 116]⟩, .string ⟨#[114, 117, 108, 101]⟩, .string ⟨#[55]⟩, .string ⟨#[127]⟩, .string ⟨#[13]⟩]
theorem tabV_at (W : World) (j : Nat) (h : j < 16) : (W.alloc (.cells tabV 9)).cell? ⟨W.heap.size, j, none⟩ = some (.string (str (tab.getD j []))) := by
  have e : (W.alloc (.cells tabV 9)).heap[W.heap.size]? = some (.cells tabV 9) := heap_alloc_new W _
  rw [cell_of_row _ _ _ _ _ _ e]
  match j, h with
  | 0, _ | 1, _ | 2, _ | 3, _ | 4, _ | 5, _ | 6, _ | 7, _ | 8, _ | 9, _ | 10, _ | 11, _ | 12, _ | 13, _ | 14, _ | 15, _ => rfl
  | j + 16, h => omega

set_option maxRecDepth 100000 in
set_option maxHeartbeats 1000000 in
theorem text_any (A : Option Addr) (N cap : Nat) (cs : List UInt8) (w : World) (hT : Txt w A N cs) (hN : N ≤ 9223372036854775807) :
    Calls Tryz.prog 12 #[.slice A N cap] w fun e w' => ∃ v, e = .returned v ∧ BRow w' w.heap.size v (tx cs) ∧ Below w.heap.size w w' := by
  obtain ⟨i0, hz, hz0, hz1, hz2⟩ := info_parts infoByte
  have HT := Lib.hid hT
  clear hT
  go_enter Tryz.func12, Tryz.ntmps12
  go_wp2
  go_loopw [3, 4] (fun v i wr => ∃ k : Nat, i = .int .i64 (k : Int) ∧ k ≤ 80 ∧ k ≤ N ∧ BRow wr w.heap.size v ((cs.take k).flatMap ch) ∧ Below w.heap.size w wr) (fun _ i _ => 80 - (intOf i).toNat)
  case atStart => exact ⟨0, rfl, by omega, by omega, BRow.nil _ _, Below.refl _ _⟩
  case round =>
    obtain ⟨k, rfl, hk, hkN, own, hB⟩ := hrel
    by_cases c1 : k < N
    · by_cases c2 : k < 80
      · obtain ⟨b, off, rfl, hb, hc⟩ := (HT.out.below hB).2 (by omega)
        have hx := hc k c1
        clear hc
        have HF := Lib.hid (take_flat cs k (by rw [HT.out.1]; exact c1))
        generalize cs.getD k 0 = x at *
        have hxl : x.toNat < 256 := x.toNat_lt
        obtain ⟨j, hj⟩ : ∃ j : Nat, j = x.toNat % 16 := ⟨_, rfl⟩
        have hj16 : j < 16 := by omega
        have hjx : (x.toNat : Int) % 16 = (j : Int) := by omega
        have htab := tabV_at wr j hj16
        have c3 : (k : Int) < 80 := by omega
        have HO := Lib.hid own
        have HJ := Lib.hid hj
        clear own hj
        unfold tabV at htab
        by_cases c3 : x.toNat < 128
        · have d3 : decide ((x.toNat : Int) < 128) = true := decide_eq_true (by omega)
          by_cases c4 : 13 < j
          · have hS0 : ch x = [121] := if_pos ⟨c3, by rw [← HJ.out]; exact c4⟩
            have HS := Lib.hid hS0
            generalize str (tab.getD j []) = S1 at htab
            have d4 : decide ((13 : Int) < (j : Int)) = true := decide_eq_true (by omega)
            go_wp2
            rw [show (⟨#[121]⟩ : ByteArray) = str [121] from rfl]
            generalize ([121] : List UInt8) = S0 at *
            have hsz : S0.length ≤ 7 := by rw [← HS.out]; exact ch_len x
            obtain ⟨sb, hsb⟩ : ∃ sb, sb = str S0 := ⟨_, rfl⟩
            have hsl : sb.size = S0.length := by rw [hsb]; rfl
            have HSB := Lib.hid hsb
            rw [← hsb]
            clear hsb hS0 htab hjx hj16 hxl hx hb
            (try clear d3)
            (try clear c3)
            (try clear c4)
            go_loopw [3, 6] (fun v i wr2 => ∃ m : Nat, i = .int .i64 (m : Int) ∧ m ≤ S0.length ∧ BRow wr2 w.heap.size v ((cs.take k).flatMap ch ++ S0.take m) ∧ Below w.heap.size w wr2) (fun _ i _ => S0.length - (intOf i).toNat)
            case atStart => exact ⟨0, rfl, Nat.zero_le _, by rw [List.take_zero, List.append_nil]; exact own_below HO.out ((Below.refl _ wr).alloc (Nat.le_refl _) _), hB.alloc hB.size _⟩
            case round =>
              obtain ⟨m, rfl, hm, own2, hB2⟩ := hrel
              by_cases c5 : m < S0.length
              · have c6 : m < sb.size := by omega
                have ht : ((cs.take k).flatMap ch ++ S0.take m).length ≤ 1000 := by
                  rw [List.length_append, List.length_take]
                  have := flat_len (cs.take k)
                  have h2 : (cs.take k).length ≤ k := List.length_take_le _ _
                  omega
                have HO2 := Lib.hid own2
                clear own2
                generalize hacc : (cs.take k).flatMap ch ++ S0.take m = acc at *
                have HACC := Lib.hid hacc
                have hbyte : sb[m] = S0[m] := by
                  have := HSB.out
                  subst this
                  rfl
                have HBY := Lib.hid hbyte
                clear hacc hbyte
                go_wp2_with ((at_builtin; refine stopHere ?_))
                unfold Stop
                have g0 := (Below.refl _ wr).alloc (Nat.le_refl _) (.cells #[Value.int .u8 (sb[m].toNat : Int)] 5)
                refine wpList_append_own _ rfl _ _ 22 rfl w.heap.size 5 i0 (.int .u8 0) 1 1 Tryz.underlying22 hz hz0 hz1 hz2 rfl (by decide) _ acc.length _ rfl (own_below HO2.out g0) ⟨wr.heap.size, 0, none⟩ 1 1 [Value.int .u8 (sb[m].toNat : Int)] rfl rfl (one_cell wr _ _) (by simp [Value.oneCell']) (by unfold maxLen; omega) (by omega) (by have := hB2.size; have := g0.size; omega) ?_
                intro v3 w3 own3 grow3 _
                have hB3 : Below w.heap.size w w3 := (kbq hB2 g0).grown grow3 (by have := hB2.size; have := g0.size; omega) (own_block HO2.out)
                have own4 : BRow w3 w.heap.size v3 ((cs.take k).flatMap ch ++ S0.take (m + 1)) := by
                  unfold BRow
                  rw [List.take_add_one, List.getElem?_eq_getElem c5, ← List.append_assoc, HACC.out, bvs_append, List.length_append]
                  have e1 : bvs (some S0[m]).toList = [Value.int .u8 (sb[m].toNat : Int)] := by rw [HBY.out]; rfl
                  rw [e1]
                  exact own3
                clear own3 grow3 HO2 g0
                go_wp2
                go_roundw
                case rel => exact ⟨m + 1, by go_num, by omega, own4, hB3⟩
                case measure => simp [intOf]; omega
              · obtain rfl : m = S0.length := by omega
                have own4 := own2
                rw [List.take_length, ← HS.out, ← HF.out] at own4
                have c7 : ¬ ((S0.length : Int) < (sb.size : Int)) := by omega
                clear own2
                go_wp2
                go_roundw
                case rel => exact ⟨k + 1, by go_num, by omega, by omega, own4, hB2⟩
                case measure => simp [intOf]; omega
          · have hS0 : ch x = tab.getD j [] := by rw [HJ.out]; exact if_neg (by rw [← HJ.out]; omega)
            have HS := Lib.hid hS0
            generalize tab.getD j [] = S0 at *
            go_wp2
            have hsz : S0.length ≤ 7 := by rw [← HS.out]; exact ch_len x
            obtain ⟨sb, hsb⟩ : ∃ sb, sb = str S0 := ⟨_, rfl⟩
            have hsl : sb.size = S0.length := by rw [hsb]; rfl
            have HSB := Lib.hid hsb
            rw [← hsb]
            clear hsb hS0 htab hjx hj16 hxl hx hb
            (try clear d3)
            (try clear c3)
            (try clear c4)
            go_loopw [3, 6] (fun v i wr2 => ∃ m : Nat, i = .int .i64 (m : Int) ∧ m ≤ S0.length ∧ BRow wr2 w.heap.size v ((cs.take k).flatMap ch ++ S0.take m) ∧ Below w.heap.size w wr2) (fun _ i _ => S0.length - (intOf i).toNat)
            case atStart => exact ⟨0, rfl, Nat.zero_le _, by rw [List.take_zero, List.append_nil]; exact own_below HO.out ((Below.refl _ wr).alloc (Nat.le_refl _) _), hB.alloc hB.size _⟩
            case round =>
              obtain ⟨m, rfl, hm, own2, hB2⟩ := hrel
              by_cases c5 : m < S0.length
              · have c6 : m < sb.size := by omega
                have ht : ((cs.take k).flatMap ch ++ S0.take m).length ≤ 1000 := by
                  rw [List.length_append, List.length_take]
                  have := flat_len (cs.take k)
                  have h2 : (cs.take k).length ≤ k := List.length_take_le _ _
                  omega
                have HO2 := Lib.hid own2
                clear own2
                generalize hacc : (cs.take k).flatMap ch ++ S0.take m = acc at *
                have HACC := Lib.hid hacc
                have hbyte : sb[m] = S0[m] := by
                  have := HSB.out
                  subst this
                  rfl
                have HBY := Lib.hid hbyte
                clear hacc hbyte
                go_wp2_with ((at_builtin; refine stopHere ?_))
                unfold Stop
                have g0 := (Below.refl _ wr).alloc (Nat.le_refl _) (.cells #[Value.int .u8 (sb[m].toNat : Int)] 5)
                refine wpList_append_own _ rfl _ _ 22 rfl w.heap.size 5 i0 (.int .u8 0) 1 1 Tryz.underlying22 hz hz0 hz1 hz2 rfl (by decide) _ acc.length _ rfl (own_below HO2.out g0) ⟨wr.heap.size, 0, none⟩ 1 1 [Value.int .u8 (sb[m].toNat : Int)] rfl rfl (one_cell wr _ _) (by simp [Value.oneCell']) (by unfold maxLen; omega) (by omega) (by have := hB2.size; have := g0.size; omega) ?_
                intro v3 w3 own3 grow3 _
                have hB3 : Below w.heap.size w w3 := (kbq hB2 g0).grown grow3 (by have := hB2.size; have := g0.size; omega) (own_block HO2.out)
                have own4 : BRow w3 w.heap.size v3 ((cs.take k).flatMap ch ++ S0.take (m + 1)) := by
                  unfold BRow
                  rw [List.take_add_one, List.getElem?_eq_getElem c5, ← List.append_assoc, HACC.out, bvs_append, List.length_append]
                  have e1 : bvs (some S0[m]).toList = [Value.int .u8 (sb[m].toNat : Int)] := by rw [HBY.out]; rfl
                  rw [e1]
                  exact own3
                clear own3 grow3 HO2 g0
                go_wp2
                go_roundw
                case rel => exact ⟨m + 1, by go_num, by omega, own4, hB3⟩
                case measure => simp [intOf]; omega
              · obtain rfl : m = S0.length := by omega
                have own4 := own2
                rw [List.take_length, ← HS.out, ← HF.out] at own4
                have c7 : ¬ ((S0.length : Int) < (sb.size : Int)) := by omega
                clear own2
                go_wp2
                go_roundw
                case rel => exact ⟨k + 1, by go_num, by omega, by omega, own4, hB2⟩
                case measure => simp [intOf]; omega
        · have d3 : decide ((x.toNat : Int) < 128) = false := decide_eq_false (by omega)
          have hS0 : ch x = tab.getD j [] := by rw [HJ.out]; exact if_neg (by omega)
          have HS := Lib.hid hS0
          generalize tab.getD j [] = S0 at *
          go_wp2
          have hsz : S0.length ≤ 7 := by rw [← HS.out]; exact ch_len x
          obtain ⟨sb, hsb⟩ : ∃ sb, sb = str S0 := ⟨_, rfl⟩
          have hsl : sb.size = S0.length := by rw [hsb]; rfl
          have HSB := Lib.hid hsb
          rw [← hsb]
          clear hsb hS0 htab hjx hj16 hxl hx hb
          (try clear d3)
          (try clear c3)
          (try clear c4)
          go_loopw [3, 6] (fun v i wr2 => ∃ m : Nat, i = .int .i64 (m : Int) ∧ m ≤ S0.length ∧ BRow wr2 w.heap.size v ((cs.take k).flatMap ch ++ S0.take m) ∧ Below w.heap.size w wr2) (fun _ i _ => S0.length - (intOf i).toNat)
          case atStart => exact ⟨0, rfl, Nat.zero_le _, by rw [List.take_zero, List.append_nil]; exact own_below HO.out ((Below.refl _ wr).alloc (Nat.le_refl _) _), hB.alloc hB.size _⟩
          case round =>
            obtain ⟨m, rfl, hm, own2, hB2⟩ := hrel
            by_cases c5 : m < S0.length
            · have c6 : m < sb.size := by omega
              have ht : ((cs.take k).flatMap ch ++ S0.take m).length ≤ 1000 := by
                rw [List.length_append, List.length_take]
                have := flat_len (cs.take k)
                have h2 : (cs.take k).length ≤ k := List.length_take_le _ _
                omega
              have HO2 := Lib.hid own2
              clear own2
              generalize hacc : (cs.take k).flatMap ch ++ S0.take m = acc at *
              have HACC := Lib.hid hacc
              have hbyte : sb[m] = S0[m] := by
                have := HSB.out
                subst this
                rfl
              have HBY := Lib.hid hbyte
              clear hacc hbyte
              go_wp2_with ((at_builtin; refine stopHere ?_))
              unfold Stop
              have g0 := (Below.refl _ wr).alloc (Nat.le_refl _) (.cells #[Value.int .u8 (sb[m].toNat : Int)] 5)
              refine wpList_append_own _ rfl _ _ 22 rfl w.heap.size 5 i0 (.int .u8 0) 1 1 Tryz.underlying22 hz hz0 hz1 hz2 rfl (by decide) _ acc.length _ rfl (own_below HO2.out g0) ⟨wr.heap.size, 0, none⟩ 1 1 [Value.int .u8 (sb[m].toNat : Int)] rfl rfl (one_cell wr _ _) (by simp [Value.oneCell']) (by unfold maxLen; omega) (by omega) (by have := hB2.size; have := g0.size; omega) ?_
              intro v3 w3 own3 grow3 _
              have hB3 : Below w.heap.size w w3 := (kbq hB2 g0).grown grow3 (by have := hB2.size; have := g0.size; omega) (own_block HO2.out)
              have own4 : BRow w3 w.heap.size v3 ((cs.take k).flatMap ch ++ S0.take (m + 1)) := by
                unfold BRow
                rw [List.take_add_one, List.getElem?_eq_getElem c5, ← List.append_assoc, HACC.out, bvs_append, List.length_append]
                have e1 : bvs (some S0[m]).toList = [Value.int .u8 (sb[m].toNat : Int)] := by rw [HBY.out]; rfl
                rw [e1]
                exact own3
              clear own3 grow3 HO2 g0
              go_wp2
              go_roundw
              case rel => exact ⟨m + 1, by go_num, by omega, own4, hB3⟩
              case measure => simp [intOf]; omega
            · obtain rfl : m = S0.length := by omega
              have own4 := own2
              rw [List.take_length, ← HS.out, ← HF.out] at own4
              have c7 : ¬ ((S0.length : Int) < (sb.size : Int)) := by omega
              clear own2
              go_wp2
              go_roundw
              case rel => exact ⟨k + 1, by go_num, by omega, by omega, own4, hB2⟩
              case measure => simp [intOf]; omega
      · obtain rfl : k = 80 := by omega
        go_wp2
        go_ret
        exact ⟨_, rfl, own, hB⟩
    · obtain rfl : k = N := by omega
      have e : tx cs = (cs.take k).flatMap ch := by
        unfold tx
        rw [List.take_of_length_le (by rw [HT.out.1]; exact hk), List.take_of_length_le (by rw [HT.out.1]; exact Nat.le_refl _)]
      have own2 := own
      rw [← e] at own2
      clear own
      go_wp2
      go_ret
      exact ⟨_, rfl, own2, hB⟩
end Go.Proofs.YtckaiejbgnhgcaaGreatDoor.Wd.Ws
namespace Go.Proofs.YtckaiejbgnhgcaaGreatDoor.Wd.Ws
open Go Go.RowKit
set_option linter.unusedVariables false
set_option maxRecDepth 100000

theorem WRow.form {w : World} {base : Nat} {u : Value} {ws : List Wo} (h : WRow w base u ws) (h0 : 0 < ws.length) : ∃ g c, u = .slice (some ⟨g, 0, none⟩) ws.length c ∧ g < w.heap.size ∧
    ∀ k x, ws[k]? = some x → w.cell? ⟨g, k * 3, none⟩ = some (.string (str x.1)) ∧ w.cell? ⟨g, k * 3 + 1, none⟩ = some (.int .i64 (x.2.1 : Int)) ∧ w.cell? ⟨g, k * 3 + 2, none⟩ = some (.int .i64 (x.2.2 : Int)) := by
  obtain ⟨g, c, rfl, _, hlt⟩ := World.ownsRow.form h h0
  refine ⟨g, c, rfl, hlt, fun k x hx => ?_⟩
  have hk : k < ws.length := (List.getElem?_eq_some_iff.1 hx).1
  obtain ⟨e0, e1, e2⟩ := flatW_at ws k x hx
  have hc := World.ownsRow.cellAt (h : w.ownsRow base 88 3 _ ws.length (flatW ws))
  exact ⟨(hc (k * 3) (by omega)).trans e0, (hc (k * 3 + 1) (by omega)).trans e1, (hc (k * 3 + 2) (by omega)).trans e2⟩
theorem WRow.slice {w : World} {base : Nat} {u : Value} {ws : List Wo} (h : WRow w base u ws) : ∃ A c, u = .slice A ws.length c := own_slice h
theorem WRows.slice {w : World} {v : Value} {wss : List (List Wo)} (h : WRows w v wss) : ∃ A c, v = .slice A wss.length c := by
  obtain ⟨us, h1, h2⟩ := h
  exact own_slice h1
theorem WRows.form {w : World} {v : Value} {wss : List (List Wo)} (h : WRows w v wss) (h0 : 0 < wss.length) : ∃ g c, v = .slice (some ⟨g, 0, none⟩) wss.length c ∧ g < w.heap.size ∧
    ∀ k ws, wss[k]? = some ws → ∃ u, w.cell? ⟨g, k, none⟩ = some u ∧ WRow w 0 u ws := by
  obtain ⟨us, h1, h2⟩ := h
  obtain ⟨g, c, rfl, _, hlt⟩ := h1.form h0
  refine ⟨g, c, rfl, hlt, fun k ws hk => ?_⟩
  obtain ⟨u, hu, hr⟩ := Each.at k ws h2 hk
  have hk' : k < wss.length := (List.getElem?_eq_some_iff.1 hk).1
  exact ⟨u, (h1.cellAt k (by omega)).trans hu, hr⟩

theorem spl_k1 : spl [97, 32, 32, 98, 10, 35, 32, 99, 10, 10, 32, 100, 10] = .ok [[([97], 1, 1), ([98], 1, 4)], [([100], 4, 2)]] := by rfl
theorem spl_k2 : spl [97, 10, 32, 98, 255] = .bad 2 3 := by rfl

theorem txt_lit {W : World} (l : List UInt8) (cs : Array Value) (t : TypeId) (fr : Nat × Nat) (h : cs.toList = bvs l) : Txt (W.alloc (.cells cs t fr)) (some ⟨W.heap.size, 0, none⟩) l.length l := by
  refine ⟨rfl, fun _ => ⟨W.heap.size, 0, rfl, by simp, fun k hk => ?_⟩⟩
  have e : (W.alloc (.cells cs t fr)).heap[W.heap.size]? = some (.cells cs t fr) := heap_alloc_new W _
  rw [Nat.zero_add, cell_of_row _ _ _ _ _ _ e, ← Array.getElem?_toList, h, bvs, List.getElem?_map, List.getD_eq_getElem?_getD, List.getElem?_eq_getElem hk]; rfl

end Go.Proofs.YtckaiejbgnhgcaaGreatDoor.Wd.Ws
namespace Go.Proofs.YtckaiejbgnhgcaaGreatDoor.Wd.Ws
open Go Go.RowKit
set_option linter.unusedVariables false
set_option maxRecDepth 100000

theorem txt_news {w : World} {b off n : Nat} {l : List UInt8} (h : Txt w (some ⟨b, off, none⟩) n l) : ∀ j u, (bvs l)[j]? = some u → w.cell? ((⟨b, off, none⟩ : Addr).add j) = some u := by
  intro j u hu
  rw [bvs, List.getElem?_map] at hu
  have hj : j < l.length := by
    by_cases hj : j < l.length
    · exact hj
    · rw [List.getElem?_eq_none (by omega)] at hu; cases hu
  rw [List.getElem?_eq_getElem hj] at hu
  obtain ⟨b', off', e, _, hc⟩ := h.2 (by rw [← h.1]; omega)
  simp only [Option.some.injEq, Addr.mk.injEq] at e
  obtain ⟨rfl, rfl, _⟩ := e
  rw [Go.WideShapes.add_plain, hc j (by rw [← h.1]; exact hj), List.getD_eq_getElem?_getD, List.getElem?_eq_getElem hj]
  exact hu

/-- Bytes behind bytes. -/
theorem wpList_app_bytes (w : World) {ops : Array Oper} {rest : List Oper} {o : Oper} {a : Act} {Q : Exit → Act → World → Prop} (hgd : o.guard = none) (s x : Operand)
    (ho : o.op = .call { callee := .builtin .append, args := #[s, x], argTypes := #[22, 22] })
    (base : Nat) (v : Value) (acc : List UInt8) (hs : a.eval s = v) (hown : BRow w base v acc) (ao : Option Addr) (m c : Nat) (l : List UInt8) (hx : a.eval x = .slice ao m c) (hT : Txt w ao m l) (hn : ao = none → c = 0) (ha : ∀ ad, ao = some ad → ad.spot = none)
    (hsz : acc.length + m ≤ 140737488355328) (hbase : base ≤ w.heap.size)
    (h : ∀ v' w', BRow w' base v' (acc ++ l) → w.grownBy w' v.ownBlock → wpList Tryz.prog ops Q rest (a.put o.dst v') w') : wpList Tryz.prog ops Q (o :: rest) a w := by
  obtain ⟨i0, hz, hz0, hz1, hz2⟩ := info_parts infoByte
  cases ao with
  | none =>
    obtain rfl := hn rfl
    have hm : m = 0 := by
      by_cases hm : 0 < m
      · obtain ⟨_, _, e, _⟩ := hT.2 hm; cases e
      · omega
    subst hm
    have hl : l = [] := List.eq_nil_of_length_eq_zero hT.1
    subst hl
    exact wpList_append_own_none hgd s x 22 ho base 5 i0 1 Tryz.underlying22 hz v acc.length (bvs acc) hs hown hx (h _ w (by rw [List.append_nil]; exact hown) (World.grownBy.refl w _))
  | some ad =>
    obtain ⟨b, off, sp⟩ := ad
    obtain rfl : sp = none := ha _ rfl
    refine wpList_append_own w hgd s x 22 ho base 5 i0 (.int .u8 0) 1 1 Tryz.underlying22 hz hz0 hz1 hz2 rfl (by decide) v acc.length (bvs acc) hs hown ⟨b, off, none⟩ m c (bvs l) hx (by rw [bvs_length, hT.1]; omega) (txt_news hT) (bvs_one l) (by unfold maxLen; omega) (by omega) hbase ?_
    intro v' w' own grow _
    refine h v' w' ?_ grow
    unfold BRow
    rw [bvs_append, List.length_append, hT.1]
    exact own
theorem txt_one (W : World) (b : UInt8) : Txt (W.alloc (.cells #[.int .u8 (b.toNat : Int)] 5)) (some ⟨W.heap.size, 0, none⟩) 1 [b] := txt_lit [b] _ _ _ rfl
theorem BRow.below {w w' : World} {base : Nat} {v : Value} {l : List UInt8} (h : BRow w base v l) (g : Below w.heap.size w w') : BRow w' base v l := own_below h g
/-- A row of bytes, as it is told. -/
theorem BRow.form2 {w : World} {base : Nat} {v : Value} {l : List UInt8} (h : BRow w base v l) : ∃ A c, v = .slice A l.length c ∧ (l.length ≤ c ∧ c ≤ 9223372036854775807) ∧ Txt w A l.length l ∧ (A = none → c = 0) ∧ (∀ ad, A = some ad → ad.spot = none ∧ ad.off = 0) := by
  rcases h.2 with ⟨rfl, h0⟩ | ⟨g, cap, cur, rfl, _⟩
  · refine ⟨none, 0, by rw [h0], by omega, ⟨rfl, fun hn => by omega⟩, fun _ => rfl, fun ad e => by cases e⟩
  · obtain ⟨A, c, e, h1, h2, h3⟩ := h.txt
    simp only [Value.slice.injEq] at e
    obtain ⟨rfl, _, rfl⟩ := e
    exact ⟨_, _, rfl, ⟨h1, h2⟩, h3, (fun e => by cases e), fun ad e => by cases e; exact ⟨rfl, rfl⟩⟩
/-- The front of a row of bytes. -/
theorem Txt.front {w : World} {A : Option Addr} {n i : Nat} {l : List UInt8} (h : Txt w A n l) (hi : i ≤ n) : Txt w A i (l.take i) :=
  ⟨by rw [List.length_take, h.1]; omega, fun h0 => by
    obtain ⟨b, off, e, hb, hc⟩ := h.2 (by omega)
    refine ⟨b, off, e, hb, fun k hk => (hc k (by omega)).trans ?_⟩
    simp only [List.getD_eq_getElem?_getD, List.getElem?_take, if_pos hk]⟩
theorem bslice_front (A : Option Addr) (n cap i : Nat) (hi : i ≤ cap) (hcap : cap ≤ 9223372036854775807) (W : World) : (Instr.slice 22 (.slice A n cap) none (some (.int .i64 (i : Int))) none).run Tryz.prog W = .ok (.slice A i cap) W := by
  obtain ⟨i0, hz, hz0, hz1, hz2⟩ := info_parts infoByte
  simp [go_sem, Tryz.underlying22, sizeOf, typeInfo, hz, hz1, hi]
theorem bslice_back (A : Option Addr) (n cap i : Nat) (hi : i ≤ n) (hn : n ≤ cap) : ∃ A', (∀ W : World, (Instr.slice 22 (.slice A n cap) (some (.int .i64 (i : Int))) none none).run Tryz.prog W = .ok (.slice A' (n - i) (cap - i)) W) ∧
    (∀ (W : World) (l : List UInt8), Txt W A n l → Txt W A' (n - i) (l.drop i)) ∧ (A' = none → A = none) ∧ ((∀ ad, A = some ad → ad.spot = none) → ∀ ad, A' = some ad → ad.spot = none) := by
  obtain ⟨i0, hz, hz0, hz1, hz2⟩ := info_parts infoByte
  refine ⟨if cap = i then A else A.map (·.add (i * 1)), fun W => ?_, fun W l h => ?_, fun h => ?_, fun h ad e => ?_⟩
  · simp [go_sem, Tryz.underlying22, sizeOf, typeInfo, hz, hz1, hi, sliced]
  · refine ⟨by rw [List.length_drop, h.1], fun h0 => ?_⟩
    obtain ⟨b, off, rfl, hb, hc⟩ := h.2 (by omega)
    rw [if_neg (by omega)]
    refine ⟨b, off + i, by simp [Go.WideShapes.add_plain], hb, fun k hk => ?_⟩
    rw [Nat.add_assoc, hc (i + k) (by omega)]
    simp [List.getD_eq_getElem?_getD]
  · split at h
    · exact h
    · cases A with
      | none => rfl
      | some ad => simp at h
  · split at e
    · exact h ad e
    · cases A with
      | none => simp at e
      | some ad' =>
        have := h ad' rfl
        obtain ⟨b, off, sp⟩ := ad'
        simp at this
        subst this
        simp [Go.WideShapes.add_plain] at e
        rw [← e]

/-! ### A byte that may not be -/
def badB (l : List UInt8) : Bool := l.any fun b => decide (kd b = 1)
theorem aut_er : ∀ (l : List UInt8) (m : Mo) (n c : Nat) (line : List Wo) (lines : List (List Wo)), (aut l m n c line lines).er = if badB l = true then 20 else 0
  | [], m, n, c, line, lines => rfl
  | b :: t, m, n, c, line, lines => by
    have e : badB (b :: t) = (decide (kd b = 1) || badB t) := by simp [badB]
    rw [e]
    rcases kd_cases b with h | h | h | h
    · rw [aut_1 h, h]; rfl
    · rw [aut_2 h, aut_er t, h]; simp
    · rw [aut_3 h, aut_er t, h]; simp
    · rw [aut_v (by unfold vs; rw [decide_eq_true_iff]; omega), aut_er t]
      rw [decide_eq_false (by omega), Bool.false_or]
theorem spl_er (l : List UInt8) (h : l.length ≤ 1048576) : (spl l).er = if badB l = true then 20 else 0 := by
  unfold spl
  rw [if_neg (by omega), aut_er]
theorem kd_bad (b : UInt8) : (kd b = 1) ↔ (b.toNat < 32 ∧ b.toNat ≠ 9 ∧ b.toNat ≠ 10) ∨ 126 < b.toNat := by
  have e0 : ∀ k : UInt8, b = k ↔ b.toNat = k.toNat := fun k => ⟨fun h => by rw [h], fun h => UInt8.toNat_inj.1 h⟩
  have hk : kd b = if b.toNat = 32 ∨ b.toNat = 9 then 2 else if b.toNat = 10 then 3 else if b.toNat = 35 then 4 else if 33 ≤ b.toNat ∧ b.toNat ≤ 126 then 5 else 1 := by
    unfold kd
    simp only [e0, UInt8.le_iff_toNat_le]
    rfl
  rw [hk]
  clear hk e0
  generalize b.toNat = v
  split
  · omega
  · split
    · omega
    · split
      · omega
      · split <;> omega
end Go.Proofs.YtckaiejbgnhgcaaGreatDoor.Wd.Ws
namespace Go.Proofs.YtckaiejbgnhgcaaGreatDoor.Wd.Ws
open Go.RowKit
set_option linter.unusedVariables false
set_option maxRecDepth 100000

theorem flush_nil (L : List (List Wo)) : flush [] L = L := rfl
theorem flush_front (line : List Wo) (L lines : List (List Wo)) : flush line (L ++ lines) = L ++ flush line lines := by
  unfold flush
  split
  · rfl
  · rw [List.append_assoc]
theorem aut_nil (m : Mo) (n c : Nat) (line : List Wo) (lines : List (List Wo)) : aut [] m n c line lines = .ok (flush (shutL m n line) lines) := by rw [aut]

/-- Four ways of a byte. -/
theorem aut_ways (b : UInt8) : kd b = 1 ∨ kd b = 2 ∨ kd b = 3 ∨ vs b = true := by
  rcases kd_cases b with h | h | h | h
  · exact .inl h
  · exact .inr (.inl h)
  · exact .inr (.inr (.inl h))
  · exact .inr (.inr (.inr (by unfold vs; rw [decide_eq_true_iff]; omega)))
theorem vs_kd {b : UInt8} (h : vs b = true) : 4 ≤ kd b := of_decide_eq_true h
theorem bad_cons (b : UInt8) (t : List UInt8) : badB (b :: t) = (decide (kd b = 1) || badB t) := by simp [badB]
theorem bad_tail {b : UInt8} {t : List UInt8} (h : badB (b :: t) = false) : kd b ≠ 1 ∧ badB t = false := by
  rw [bad_cons, Bool.or_eq_false_iff] at h
  exact ⟨of_decide_eq_false h.1, h.2⟩
theorem bad_app (a b : List UInt8) : badB (a ++ b) = (badB a || badB b) := by simp [badB]

/-- How many ends of lines. -/
def cnt (l : List UInt8) : Nat := (l.filter fun b => decide (b = 10)).length
theorem cnt_cons (b : UInt8) (t : List UInt8) : cnt (b :: t) = (if b = 10 then 1 else 0) + cnt t := by
  unfold cnt
  rw [List.filter_cons]
  by_cases h : b = 10
  · simp [h]; omega
  · simp [h]
theorem cnt_app (a b : List UInt8) : cnt (a ++ b) = cnt a + cnt b := by simp [cnt]
theorem cnt_le (l : List UInt8) : cnt l ≤ l.length := List.length_filter_le _ _

/-- A text, an end of a line, and another text. -/
theorem aut_app (q : List UInt8) : ∀ (p : List UInt8) (m : Mo) (n c : Nat) (line : List Wo) (lines : List (List Wo)), badB p = false →
    aut (p ++ 10 :: q) m n c line lines = aut q .gap (n + cnt p + 1) 1 [] (aut (p ++ [10]) m n c line lines).rows
  | [], m, n, c, line, lines, _ => by
    have h : kd 10 = 3 := by decide
    rw [List.nil_append, List.nil_append, aut_3 h, aut_3 h, aut_nil]
    rfl
  | b :: t, m, n, c, line, lines, hb => by
    obtain ⟨h1, h2⟩ := bad_tail hb
    rw [List.cons_append, List.cons_append, cnt_cons]
    rcases aut_ways b with h | h | h | h
    · exact absurd h h1
    · rw [aut_2 h, aut_2 h, aut_app q t _ _ _ _ _ h2, if_neg (by intro e; rw [e] at h; revert h; decide), Nat.zero_add]
    · rw [aut_3 h, aut_3 h, aut_app q t _ _ _ _ _ h2, if_pos ((kd_three b).1 h), show n + 1 + cnt t + 1 = n + (1 + cnt t) + 1 by omega]
    · rw [aut_v h, aut_v h, aut_app q t _ _ _ _ _ h2, if_neg (by intro e; rw [e] at h; revert h; decide), Nat.zero_add]
/-- Lines ahead. -/
theorem aut_front (L : List (List Wo)) : ∀ (q : List UInt8) (m : Mo) (n c : Nat) (line : List Wo) (lines : List (List Wo)), badB q = false →
    (aut q m n c line (L ++ lines)).rows = L ++ (aut q m n c line lines).rows
  | [], m, n, c, line, lines, _ => by rw [aut_nil, aut_nil, flush_front]; rfl
  | b :: t, m, n, c, line, lines, hb => by
    obtain ⟨h1, h2⟩ := bad_tail hb
    rcases aut_ways b with h | h | h | h
    · exact absurd h h1
    · rw [aut_2 h, aut_2 h, aut_front L t _ _ _ _ _ h2]
    · rw [aut_3 h, aut_3 h, flush_front, aut_front L t _ _ _ _ _ h2]
    · rw [aut_v h, aut_v h, aut_front L t _ _ _ _ _ h2]
/-- Lines further down. -/
def shf (d : Nat) (x : Wo) : Wo := (x.1, x.2.1 + d, x.2.2)
theorem shut_shf (d : Nat) (m : Mo) (n : Nat) (line : List Wo) : shutL m (n + d) (line.map (shf d)) = (shutL m n line).map (shf d) := by
  cases m <;> simp [shutL, shf]
theorem flush_shf (d : Nat) (line : List Wo) (lines : List (List Wo)) : flush (line.map (shf d)) (lines.map fun l => l.map (shf d)) = (flush line lines).map fun l => l.map (shf d) := by
  unfold flush
  by_cases h : line = []
  · rw [if_pos h, if_pos (by rw [h]; rfl)]
  · rw [if_neg h, if_neg (by simpa using h)]; simp
theorem seen_shf (d : Nat) (b : UInt8) (m : Mo) (c : Nat) (line : List Wo) : seen b m c (line.map (shf d)) = seen b m c line := by
  cases m <;> simp [seen]
theorem aut_shf (d : Nat) : ∀ (q : List UInt8) (m : Mo) (n c : Nat) (line : List Wo) (lines : List (List Wo)), badB q = false →
    (aut q m (n + d) c (line.map (shf d)) (lines.map fun l => l.map (shf d))).rows = (aut q m n c line lines).rows.map fun l => l.map (shf d)
  | [], m, n, c, line, lines, _ => by rw [aut_nil, aut_nil, shut_shf, flush_shf]; rfl
  | b :: t, m, n, c, line, lines, hb => by
    obtain ⟨h1, h2⟩ := bad_tail hb
    rcases aut_ways b with h | h | h | h
    · exact absurd h h1
    · rw [aut_2 h, aut_2 h, shut_shf, aut_shf d t _ _ _ _ _ h2]
    · rw [aut_3 h, aut_3 h, shut_shf, flush_shf, show n + d + 1 = n + 1 + d by omega]
      exact aut_shf d t .gap (n + 1) 1 [] _ h2
    · rw [aut_v h, aut_v h, seen_shf, aut_shf d t _ _ _ _ _ h2]
/-- Two texts, an end of a line between. -/
theorem spl_parts (p q : List UInt8) (hp : badB p = false) (hq : badB q = false) (hl : (p ++ [10] ++ q).length ≤ 1048576) :
    (spl (p ++ [10] ++ q)).rows = (spl (p ++ [10])).rows ++ (spl q).rows.map fun l => l.map (shf (cnt (p ++ [10]))) := by
  have l1 : (p ++ [10]).length ≤ 1048576 := by simp at hl ⊢; omega
  have l2 : q.length ≤ 1048576 := by simp at hl; omega
  unfold spl
  rw [if_neg (by omega), if_neg (by omega), if_neg (by omega), List.append_assoc, List.singleton_append, aut_app q p _ _ _ _ _ hp]
  have e1 := aut_front (aut (p ++ [10]) .gap 1 1 [] []).rows q .gap (1 + cnt p + 1) 1 [] [] hq
  rw [List.append_nil] at e1
  rw [e1]
  have e2 := aut_shf (cnt (p ++ [10])) q .gap 1 1 [] [] hq
  rw [cnt_app, show cnt [10] = 1 by decide] at e2 ⊢
  rw [show 1 + cnt p + 1 = 1 + (cnt p + 1) by omega]
  exact congrArg _ e2

/-- No line told is without words. -/
theorem flush_ne {line : List Wo} {lines : List (List Wo)} (h : ∀ l ∈ lines, l ≠ []) : ∀ l ∈ flush line lines, l ≠ [] := by
  unfold flush
  split
  · exact h
  · rename_i hl
    intro l hm
    rcases List.mem_append.1 hm with hm | hm
    · exact h l hm
    · simp at hm; subst hm; exact hl
theorem aut_ne : ∀ (q : List UInt8) (m : Mo) (n c : Nat) (line : List Wo) (lines : List (List Wo)), (∀ l ∈ lines, l ≠ []) → ∀ l ∈ (aut q m n c line lines).rows, l ≠ []
  | [], m, n, c, line, lines, h => by rw [aut_nil]; exact flush_ne h
  | b :: t, m, n, c, line, lines, hb => by
    rcases aut_ways b with h | h | h | h
    · rw [aut_1 h]; intro l hl; cases hl
    · rw [aut_2 h]; exact aut_ne t _ _ _ _ _ hb
    · rw [aut_3 h]; exact aut_ne t _ _ _ _ _ (flush_ne hb)
    · rw [aut_v h]; exact aut_ne t _ _ _ _ _ hb
theorem spl_ne (bs : List UInt8) : ∀ l ∈ (spl bs).rows, l ≠ [] := by
  unfold spl
  split
  · intro l hl; cases hl
  · exact aut_ne bs _ _ _ _ _ (by intro l hl; cases hl)

/-! ### How great they are -/
def BdW (K : Nat) (x : Wo) : Prop := x.1.length ≤ K ∧ x.2.1 ≤ K ∧ x.2.2 ≤ K
def BdM (K s : Nat) : Mo → Prop
  | .wrd x c => x.length + s ≤ K ∧ c ≤ K
  | _ => True
theorem shut_bd {K s n : Nat} {m : Mo} {line : List Wo} (hm : BdM K s m) (hn : n ≤ K) (h : ∀ x ∈ line, BdW K x) : ∀ x ∈ shutL m n line, BdW K x := by
  cases m with
  | gap => exact h
  | rem => exact h
  | wrd x c =>
    intro y hy
    rcases List.mem_append.1 hy with hy | hy
    · exact h y hy
    · simp at hy; subst hy; exact ⟨by have := hm.1; show x.length ≤ K; omega, hn, hm.2⟩
theorem flush_bd {K : Nat} {line : List Wo} {lines : List (List Wo)} (h : ∀ x ∈ line, BdW K x) (hs : ∀ l ∈ lines, ∀ x ∈ l, BdW K x) : ∀ l ∈ flush line lines, ∀ x ∈ l, BdW K x := by
  unfold flush
  split
  · exact hs
  · intro l hm
    rcases List.mem_append.1 hm with hm | hm
    · exact hs l hm
    · simp at hm; subst hm; exact h
theorem aut_bd (K : Nat) : ∀ (q : List UInt8) (m : Mo) (n c : Nat) (line : List Wo) (lines : List (List Wo)), n + q.length ≤ K → c + q.length ≤ K → 1 + q.length ≤ K → BdM K q.length m → (∀ x ∈ line, BdW K x) → (∀ l ∈ lines, ∀ x ∈ l, BdW K x) → ∀ l ∈ (aut q m n c line lines).rows, ∀ x ∈ l, BdW K x
  | [], m, n, c, line, lines, hn, hc, h1, hm, hl, hs => by rw [aut_nil]; exact flush_bd (shut_bd hm (by simp at hn; omega) hl) hs
  | b :: t, m, n, c, line, lines, hn, hc, h1, hm, hl, hs => by
    simp only [List.length_cons] at hn hc h1
    have hm' : BdM K t.length m := by
      cases m with
      | gap => exact trivial
      | rem => exact trivial
      | wrd x c0 => exact ⟨by have := hm.1; simp at this; omega, hm.2⟩
    rcases aut_ways b with h | h | h | h
    · rw [aut_1 h]; intro l hl; cases hl
    · rw [aut_2 h]
      refine aut_bd K t _ _ _ _ _ (by omega) (by omega) (by omega) ?_ (shut_bd hm' (by omega) hl) hs
      cases m <;> exact trivial
    · rw [aut_3 h]
      exact aut_bd K t _ _ _ _ _ (by omega) (by omega) (by omega) trivial (fun x hx => nomatch hx) (flush_bd (shut_bd hm' (by omega) hl) hs)
    · rw [aut_v h]
      refine aut_bd K t _ _ _ _ _ (by omega) (by omega) (by omega) ?_ hl hs
      cases m with
      | gap =>
        by_cases hq : kd b = 4 ∧ line = []
        · have e : seen b .gap c line = .rem := if_pos hq
          rw [e]; exact trivial
        · have e : seen b .gap c line = .wrd [b] c := if_neg hq
          rw [e]; exact ⟨by show 1 + t.length ≤ K; omega, by omega⟩
      | rem => exact trivial
      | wrd x c0 => exact ⟨by have := hm.1; simp at this ⊢; omega, hm.2⟩
theorem spl_bd (bs : List UInt8) : ∀ l ∈ (spl bs).rows, ∀ x ∈ l, BdW 1048577 x := by
  unfold spl
  split
  · intro l hl; cases hl
  · exact aut_bd 1048577 bs _ _ _ _ _ (by omega) (by omega) (by omega) trivial (fun x hx => nomatch hx) (fun x hx => nomatch hx)
/-- How many lines, and words of each. -/
theorem aut_count (K : Nat) : ∀ (q : List UInt8) (m : Mo) (n c : Nat) (line : List Wo) (lines : List (List Wo)), lines.length + line.length + (match m with | .wrd _ _ => 1 | _ => 0) + q.length ≤ K → (aut q m n c line lines).rows.length ≤ K
  | [], m, n, c, line, lines, h => by
    rw [aut_nil]
    show (flush (shutL m n line) lines).length ≤ K
    unfold flush
    split
    · simp at h; omega
    · rename_i hne
      have : 0 < (shutL m n line).length := List.length_pos_iff.2 hne
      cases m <;> simp [shutL] at * <;> omega
  | b :: t, m, n, c, line, lines, hb => by
    simp only [List.length_cons] at hb
    rcases aut_ways b with h | h | h | h
    · rw [aut_1 h]; exact Nat.zero_le _
    · rw [aut_2 h]
      refine aut_count K t _ _ _ _ _ ?_
      cases m <;> simp [shutL, blanked] at * <;> omega
    · rw [aut_3 h]
      refine aut_count K t _ _ _ _ _ ?_
      show (flush (shutL m n line) lines).length + 0 + 0 + t.length ≤ K
      unfold flush
      split
      · omega
      · simp; omega
    · rw [aut_v h]
      refine aut_count K t _ _ _ _ _ ?_
      cases m with
      | gap => unfold seen; split <;> simp at * <;> omega
      | rem => simp [seen] at *; omega
      | wrd x c0 => simp [seen] at *; omega
theorem spl_count (bs : List UInt8) : (spl bs).rows.length ≤ 1048576 := by
  unfold spl
  split
  · exact Nat.zero_le _
  · exact aut_count 1048576 bs _ _ _ _ _ (by simp; omega)
end Go.Proofs.YtckaiejbgnhgcaaGreatDoor.Wd.Ws
namespace Go.Proofs.YtckaiejbgnhgcaaGreatDoor.Wd.Ws
open Go.RowKit
set_option linter.unusedVariables false
set_option maxRecDepth 100000

/-- The words of a line. -/
def lnW : List UInt8 → Mo → Nat → Nat → List Wo → List Wo
  | [], m, n, _, line => shutL m n line
  | b :: t, m, n, c, line => if kd b = 2 then lnW t (blanked m) n (c + 1) (shutL m n line) else lnW t (seen b m c line) n (c + 1) line
theorem lnW_2 {b : UInt8} (h : kd b = 2) (t : List UInt8) (m : Mo) (n c : Nat) (line : List Wo) : lnW (b :: t) m n c line = lnW t (blanked m) n (c + 1) (shutL m n line) := by rw [lnW, if_pos h]
theorem lnW_v {b : UInt8} (h : vs b = true) (t : List UInt8) (m : Mo) (n c : Nat) (line : List Wo) : lnW (b :: t) m n c line = lnW t (seen b m c line) n (c + 1) line := by
  have := vs_kd h
  rw [lnW, if_neg (by omega)]
/-- Bytes of one line. -/
def okL (s : List UInt8) : Prop := ∀ b ∈ s, kd b = 2 ∨ vs b = true
theorem aut_line : ∀ (s : List UInt8) (r : List UInt8) (m : Mo) (n c : Nat) (line : List Wo) (lines : List (List Wo)), okL s → aut (s ++ 10 :: r) m n c line lines = aut r .gap (n + 1) 1 [] (flush (lnW s m n c line) lines)
  | [], r, m, n, c, line, lines, _ => by
    rw [List.nil_append, aut_3 (by decide)]; rfl
  | b :: t, r, m, n, c, line, lines, hs => by
    have ht : okL t := fun x hx => hs x (List.mem_cons_of_mem _ hx)
    rw [List.cons_append]
    rcases hs b List.mem_cons_self with h | h
    · rw [aut_2 h, lnW_2 h, aut_line t r _ _ _ _ _ ht]
    · rw [aut_v h, lnW_v h, aut_line t r _ _ _ _ _ ht]
theorem aut_last : ∀ (s : List UInt8) (m : Mo) (n c : Nat) (line : List Wo) (lines : List (List Wo)), okL s → aut s m n c line lines = .ok (flush (lnW s m n c line) lines)
  | [], m, n, c, line, lines, _ => by rw [aut_nil]; rfl
  | b :: t, m, n, c, line, lines, hs => by
    have ht : okL t := fun x hx => hs x (List.mem_cons_of_mem _ hx)
    rcases hs b List.mem_cons_self with h | h
    · rw [aut_2 h, lnW_2 h, aut_last t _ _ _ _ _ ht]
    · rw [aut_v h, lnW_v h, aut_last t _ _ _ _ _ ht]

/-! ### Where a word stands -/
/-- A word stands in a line where it is told, between blanks or the line's ends. -/
structure Good (s : List UInt8) (n : Nat) (w : Wo) : Prop where
  line : w.2.1 = n
  col : 1 ≤ w.2.2
  some : w.1 ≠ []
  inside : w.2.2 - 1 + w.1.length ≤ s.length
  text : (s.drop (w.2.2 - 1)).take w.1.length = w.1
  ahead : 1 < w.2.2 → (s.getD (w.2.2 - 2) 0).toNat ≤ 32
  behind : w.2.2 - 1 + w.1.length < s.length → (s.getD (w.2.2 - 1 + w.1.length) 0).toNat ≤ 32
/-- The end of a word. -/
def fin (w : Wo) : Nat := w.2.2 + w.1.length
/-- Words rise, and end ahead of a place. -/
def Rise : List Wo → Nat → Prop
  | [], _ => True
  | [w], c => fin w < c
  | w :: v :: r, c => fin w < v.2.2 ∧ Rise (v :: r) c
theorem Rise.push : ∀ {l : List Wo} {w : Wo} {c : Nat}, Rise l w.2.2 → fin w < c → Rise (l ++ [w]) c
  | [], w, c, _, h => h
  | [v], w, c, g, h => ⟨g, h⟩
  | v :: u :: r, w, c, g, h => ⟨g.1, Rise.push (l := u :: r) g.2 h⟩
theorem Rise.mono : ∀ {l : List Wo} {c d : Nat}, Rise l c → c ≤ d → Rise l d
  | [], _, _, _, _ => trivial
  | [v], c, d, g, h => Nat.lt_of_lt_of_le g h
  | v :: u :: r, c, d, g, h => ⟨g.1, Rise.mono (l := u :: r) g.2 h⟩
theorem Rise.at : ∀ {l : List Wo} {c : Nat} (i : Nat) (v w : Wo), Rise l c → l[i]? = some v → l[i + 1]? = some w → fin v < w.2.2
  | [], _, i, v, w, _, h, _ => by simp at h
  | [x], _, i, v, w, _, _, h => by simp at h
  | x :: y :: r, c, 0, v, w, g, h1, h2 => by simp at h1 h2; subst h1 h2; exact g.1
  | x :: y :: r, c, i + 1, v, w, g, h1, h2 => Rise.at (l := y :: r) i v w g.2 (by simpa using h1) (by simpa using h2)
/-- What holds of a line and of where one is in it. -/
def AtM (s : List UInt8) (c : Nat) (line : List Wo) : Mo → Prop
  | .gap => (1 < c → (s.getD (c - 2) 0).toNat ≤ 32) ∧ Rise line c
  | .rem => Rise line c
  | .wrd x c0 => 1 ≤ c0 ∧ x ≠ [] ∧ c0 + x.length = c ∧ (s.drop (c0 - 1)).take x.length = x ∧ (1 < c0 → (s.getD (c0 - 2) 0).toNat ≤ 32) ∧ Rise line c0
theorem two_le (b : UInt8) (h : kd b = 2) : b.toNat ≤ 32 := by
  rcases (kd_two b).1 h with rfl | rfl <;> decide
theorem shut_good {s : List UInt8} {n c : Nat} {line : List Wo} {m : Mo} (hc : 1 ≤ c) (hi : c - 1 ≤ s.length) (hb : c - 1 < s.length → (s.getD (c - 1) 0).toNat ≤ 32) (hA : AtM s c line m) (hG : ∀ w ∈ line, Good s n w) :
    (∀ w ∈ shutL m n line, Good s n w) ∧ Rise (shutL m n line) (c + 1) := by
  cases m with
  | gap => exact ⟨hG, hA.2.mono (by omega)⟩
  | rem => exact ⟨hG, Rise.mono hA (by omega)⟩
  | wrd x c0 =>
    obtain ⟨h1, h2, h3, h4, h5, h6⟩ := hA
    refine ⟨fun w hw => ?_, Rise.push h6 (by show c0 + x.length < c + 1; omega)⟩
    rcases List.mem_append.1 hw with hw | hw
    · exact hG w hw
    · simp at hw
      subst hw
      have e : c0 - 1 + x.length = c - 1 := by omega
      exact ⟨rfl, h1, h2, by show c0 - 1 + x.length ≤ s.length; omega, h4, h5, fun h => by
        have h' : c - 1 < s.length := by rw [← e]; exact h
        show (s.getD (c0 - 1 + x.length) 0).toNat ≤ 32
        rw [e]; exact hb h'⟩
theorem lnW_good (s : List UInt8) (n : Nat) : ∀ (t : List UInt8) (m : Mo) (c : Nat) (line : List Wo), okL t → 1 ≤ c → c - 1 ≤ s.length → s.drop (c - 1) = t → AtM s c line m → (∀ w ∈ line, Good s n w) →
    (∀ w ∈ lnW t m n c line, Good s n w) ∧ ∃ d, Rise (lnW t m n c line) d
  | [], m, c, line, _, hc, hi, hd, hA, hG => by
    have hl : s.length ≤ c - 1 := by
      by_cases h : c - 1 < s.length
      · have := congrArg List.length hd; rw [List.length_drop] at this; simp at this; omega
      · omega
    have := shut_good hc hi (fun h => by omega) hA hG
    exact ⟨this.1, _, this.2⟩
  | b :: t, m, c, line, hs, hc, hi, hd, hA, hG => by
    have ht : okL t := fun x hx => hs x (List.mem_cons_of_mem _ hx)
    have hlt : c - 1 < s.length := by
      by_cases h : c - 1 < s.length
      · exact h
      · rw [List.drop_eq_nil_of_le (by omega)] at hd; cases hd
    have hb : s.getD (c - 1) 0 = b := by
      rw [List.drop_eq_getElem_cons hlt] at hd
      injection hd with e1 e2
      rw [List.getD_eq_getElem?_getD, List.getElem?_eq_getElem hlt]; exact e1
    have hd' : s.drop (c + 1 - 1) = t := by
      have e := hd
      rw [List.drop_eq_getElem_cons hlt] at e
      injection e with e1 e2
      rw [show c + 1 - 1 = c - 1 + 1 by omega]; exact e2
    rcases hs b List.mem_cons_self with h | h
    · rw [lnW_2 h]
      obtain ⟨g1, g2⟩ := shut_good hc hi (fun _ => by rw [hb]; exact two_le b h) hA hG
      refine lnW_good s n t _ _ _ ht (by omega) (by omega) hd' ?_ g1
      cases m with
      | gap => exact ⟨fun _ => by rw [show c + 1 - 2 = c - 1 by omega, hb]; exact two_le b h, g2⟩
      | rem => exact g2
      | wrd x c0 => exact ⟨fun _ => by rw [show c + 1 - 2 = c - 1 by omega, hb]; exact two_le b h, g2⟩
    · rw [lnW_v h]
      refine lnW_good s n t _ _ _ ht (by omega) (by omega) hd' ?_ hG
      cases m with
      | gap =>
        by_cases e : kd b = 4 ∧ line = []
        · have e1 : seen b .gap c line = .rem := if_pos e
          rw [e1]; exact Rise.mono hA.2 (by omega)
        · have e1 : seen b .gap c line = .wrd [b] c := if_neg e
          rw [e1]
          refine ⟨hc, by simp, by simp, ?_, hA.1, hA.2⟩
          rw [hd]; rfl
      | rem => exact Rise.mono hA (by omega)
      | wrd x c0 =>
        obtain ⟨h1, h2, h3, h4, h5, h6⟩ := hA
        refine ⟨h1, by simp, by simp; omega, ?_, h5, h6⟩
        have e : s.drop (c0 - 1) = x ++ (b :: t) := by
          have := List.take_append_drop x.length (s.drop (c0 - 1))
          rw [h4, List.drop_drop, show c0 - 1 + x.length = c - 1 by omega, hd] at this
          exact this.symm
        rw [e, show x ++ (b :: t) = (x ++ [b]) ++ t by simp]
        exact List.take_left
/-- The words of a whole line. -/
def line0 (s : List UInt8) (n : Nat) : List Wo := lnW s .gap n 1 []
theorem line_good (s : List UInt8) (n : Nat) (hs : okL s) : (∀ w ∈ line0 s n, Good s n w) ∧ ∃ d, Rise (line0 s n) d :=
  lnW_good s n s .gap 1 [] hs (by omega) (by omega) rfl ⟨fun h => by omega, trivial⟩ (fun w hw => nomatch hw)
/-- The lines of a text, from a line on. -/
def rowsN (bs : List UInt8) (n : Nat) : List (List Wo) := (aut bs .gap n 1 [] []).rows
theorem rows_line (s r : List UInt8) (n : Nat) (hs : okL s) (hr : badB r = false) : rowsN (s ++ 10 :: r) n = flush (line0 s n) [] ++ rowsN r (n + 1) := by
  unfold rowsN
  rw [aut_line s r _ _ _ _ _ hs]
  have e := aut_front (flush (line0 s n) []) r .gap (n + 1) 1 [] [] hr
  rw [List.append_nil] at e
  exact e
theorem rows_last (s : List UInt8) (n : Nat) (hs : okL s) : rowsN s n = flush (line0 s n) [] := by
  unfold rowsN
  rw [aut_last s _ _ _ _ _ hs]; rfl
/-- Words of later lines. -/
theorem aut_later (K : Nat) : ∀ (q : List UInt8) (m : Mo) (n c : Nat) (line : List Wo) (lines : List (List Wo)), K ≤ n → (∀ x ∈ line, K ≤ x.2.1) → (∀ l ∈ lines, ∀ x ∈ l, K ≤ x.2.1) → ∀ l ∈ (aut q m n c line lines).rows, ∀ x ∈ l, K ≤ x.2.1 := by
  have shutK : ∀ (m : Mo) (n : Nat) (line : List Wo), K ≤ n → (∀ x ∈ line, K ≤ x.2.1) → ∀ x ∈ shutL m n line, K ≤ x.2.1 := by
    intro m n line hn h x hx
    cases m with
    | gap => exact h x hx
    | rem => exact h x hx
    | wrd y c =>
      rcases List.mem_append.1 hx with hx | hx
      · exact h x hx
      · simp at hx; subst hx; exact hn
  have flushK : ∀ (line : List Wo) (lines : List (List Wo)), (∀ x ∈ line, K ≤ x.2.1) → (∀ l ∈ lines, ∀ x ∈ l, K ≤ x.2.1) → ∀ l ∈ flush line lines, ∀ x ∈ l, K ≤ x.2.1 := by
    intro line lines h hs l hl
    unfold flush at hl
    split at hl
    · exact hs l hl
    · rcases List.mem_append.1 hl with hl | hl
      · exact hs l hl
      · simp at hl; subst hl; exact h
  intro q
  induction q with
  | nil => intro m n c line lines hn h hs; rw [aut_nil]; exact flushK _ _ (shutK m n line hn h) hs
  | cons b t ih =>
    intro m n c line lines hn h hs
    rcases aut_ways b with hk | hk | hk | hk
    · rw [aut_1 hk]; intro l hl; cases hl
    · rw [aut_2 hk]; exact ih _ _ _ _ _ hn (shutK m n line hn h) hs
    · rw [aut_3 hk]; exact ih _ _ _ _ _ (by omega) (fun x hx => nomatch hx) (flushK _ _ (shutK m n line hn h) hs)
    · rw [aut_v hk]; exact ih _ _ _ _ _ hn h hs
theorem rows_later (bs : List UInt8) (n : Nat) : ∀ l ∈ rowsN bs n, ∀ x ∈ l, n ≤ x.2.1 := aut_later n bs _ _ _ _ _ (Nat.le_refl _) (fun x hx => nomatch hx) (fun x hx => nomatch hx)
/-- The place of a byte that may not be. -/
theorem aut_place : ∀ (q : List UInt8) (m : Mo) (n c : Nat) (line : List Wo) (lines : List (List Wo)), 1 ≤ n → 1 ≤ c → (aut q m n c line lines).er ≠ 0 → 1 ≤ (aut q m n c line lines).ln ∧ 1 ≤ (aut q m n c line lines).cl ∧ (aut q m n c line lines).rows = []
  | [], m, n, c, line, lines, _, _, h => by rw [aut_nil] at h; exact absurd rfl h
  | b :: t, m, n, c, line, lines, hn, hc, he => by
    rcases aut_ways b with h | h | h | h
    · rw [aut_1 h]; exact ⟨hn, hc, rfl⟩
    · rw [aut_2 h] at he ⊢; exact aut_place t _ _ _ _ _ hn (by omega) he
    · rw [aut_3 h] at he ⊢; exact aut_place t _ _ _ _ _ (by omega) (by omega) he
    · rw [aut_v h] at he ⊢; exact aut_place t _ _ _ _ _ hn (by omega) he
end Go.Proofs.YtckaiejbgnhgcaaGreatDoor.Wd.Ws
namespace Go.Proofs.YtckaiejbgnhgcaaGreatDoor.Wd.Ws
open Go Go.RowKit
set_option linter.unusedVariables false
set_option maxRecDepth 100000
set_option linter.unusedSimpArgs false

/-! ### Lines of texts -/
def jw (b : Bool) : List (List UInt8) → List UInt8
  | [] => []
  | x :: r => (if b then [32] else []) ++ x ++ jw true r
def jn (lss : List (List (List UInt8))) : List UInt8 := lss.flatMap fun l => jw false l ++ [10]
theorem jw_snoc : ∀ (b : Bool) (a : List (List UInt8)) (x : List UInt8), jw b (a ++ [x]) = jw b a ++ ((if b = true ∨ a ≠ [] then [32] else []) ++ x)
  | b, [], x => by cases b <;> simp [jw]
  | b, y :: a, x => by
    rw [List.cons_append, jw, jw, jw_snoc true a x]
    simp
theorem jw_app : ∀ (b : Bool) (a c : List (List UInt8)), ∃ r, jw b (a ++ c) = jw b a ++ r
  | b, [], c => ⟨_, rfl⟩
  | b, y :: a, c => by
    obtain ⟨r, hr⟩ := jw_app true a c
    exact ⟨r, by rw [List.cons_append, jw, jw, hr]; simp⟩
theorem jw_take (xs : List (List UInt8)) (i : Nat) (h : i < xs.length) : jw false (xs.take (i + 1)) = jw false (xs.take i) ++ ((if 0 < i then [32] else []) ++ xs.getD i []) := by
  rw [List.take_add_one, List.getElem?_eq_getElem h, Option.toList_some, jw_snoc, List.getD_eq_getElem?_getD, List.getElem?_eq_getElem h, Option.getD_some]
  by_cases hi : 0 < i
  · rw [if_pos hi, if_pos (.inr (by intro e; have := congrArg List.length e; rw [List.length_take, List.length_nil] at this; omega))]
  · obtain rfl : i = 0 := by omega
    simp
theorem jn_take (lss : List (List (List UInt8))) (k : Nat) (h : k < lss.length) : jn (lss.take (k + 1)) = jn (lss.take k) ++ (jw false (lss.getD k []) ++ [10]) := by
  unfold jn
  rw [List.take_add_one, List.flatMap_append, List.getD_eq_getElem?_getD, List.getElem?_eq_getElem h]; simp
theorem jn_le (lss : List (List (List UInt8))) (k i : Nat) (h : k < lss.length) (hi : i ≤ (lss.getD k []).length) : (jn (lss.take k)).length + (jw false ((lss.getD k []).take i)).length + 1 ≤ (jn lss).length := by
  have e : jn lss = jn (lss.take (k + 1)) ++ jn (lss.drop (k + 1)) := by
    unfold jn; rw [← List.flatMap_append, List.take_append_drop]
  obtain ⟨r, hr⟩ := jw_app false ((lss.getD k []).take i) ((lss.getD k []).drop i)
  rw [List.take_append_drop] at hr
  rw [e, jn_take lss k h, hr]
  simp only [List.length_append, List.length_cons, List.length_nil]
  omega

/-- A row of texts. -/
def Sts (w : World) (A : Option Addr) (n : Nat) (xs : List (List UInt8)) : Prop :=
  xs.length = n ∧ (∀ x ∈ xs, x.length ≤ 9223372036854775807) ∧ (0 < n → ∃ b off, A = some ⟨b, off, none⟩ ∧ b < w.heap.size ∧ ∀ k, k < n → w.cell? ⟨b, off + k, none⟩ = some (.string (str (xs.getD k []))))
theorem Sts.below {w w' : World} {A : Option Addr} {n : Nat} {xs : List (List UInt8)} (h : Sts w A n xs) (k : Below w.heap.size w w') : Sts w' A n xs :=
  ⟨h.1, h.2.1, fun hn => by
    obtain ⟨b, off, e, hb, hc⟩ := h.2.2 hn
    exact ⟨b, off, e, Nat.lt_of_lt_of_le hb k.size, fun j hj => (k.cell (p := ⟨b, off + j, none⟩) hb).trans (hc j hj)⟩⟩
/-- A row of rows of texts. -/
def LRows (w : World) (A : Option Addr) (n : Nat) (lss : List (List (List UInt8))) : Prop :=
  lss.length = n ∧ (0 < n → ∃ b off, A = some ⟨b, off, none⟩ ∧ b < w.heap.size ∧ ∀ k, k < n → ∃ A' c', w.cell? ⟨b, off + k, none⟩ = some (.slice A' (lss.getD k []).length c') ∧ (lss.getD k []).length ≤ 9223372036854775807 ∧ Sts w A' (lss.getD k []).length (lss.getD k []))
theorem LRows.below {w w' : World} {A : Option Addr} {n : Nat} {lss : List (List (List UInt8))} (h : LRows w A n lss) (k : Below w.heap.size w w') : LRows w' A n lss :=
  ⟨h.1, fun hn => by
    obtain ⟨b, off, e, hb, hc⟩ := h.2 hn
    refine ⟨b, off, e, Nat.lt_of_lt_of_le hb k.size, fun j hj => ?_⟩
    obtain ⟨A', c', h1, h2, h3⟩ := hc j hj
    exact ⟨A', c', (k.cell (p := ⟨b, off + j, none⟩) hb).trans h1, h2, h3.below k⟩⟩
theorem str_cells (x : List UInt8) : Lib.strCells (str x) = bvs x := rfl

/-- A text behind bytes. -/
theorem wpList_app_text (w : World) {ops : Array Oper} {rest : List Oper} {o : Oper} {a : Act} {Q : Exit → Act → World → Prop} (hgd : o.guard = none) (s x : Operand)
    (ho : o.op = .call { callee := .builtin .append, args := #[s, x], argTypes := #[22, 9] })
    (base : Nat) (v : Value) (acc : List UInt8) (hs : a.eval s = v) (hown : BRow w base v acc) (l : List UInt8) (hx : a.eval x = .string (str l)) (hsz : acc.length + l.length ≤ 140737488355328) (hbase : base ≤ w.heap.size)
    (h : ∀ v' w', BRow w' base v' (acc ++ l) → w.grownBy w' v.ownBlock → wpList Tryz.prog ops Q rest (a.put o.dst v') w') : wpList Tryz.prog ops Q (o :: rest) a w := by
  obtain ⟨i0, hz, hz0, hz1, hz2⟩ := info_parts infoByte
  have hl : (str l).size = l.length := rfl
  refine Lib.wpList_append_own_string w hgd s x 22 9 ho base 5 i0 Tryz.underlying22 Tryz.underlying9 hz hz0 hz1 hz2 v acc.length (bvs acc) hs hown (str l) hx (by rw [hl]; unfold maxLen; omega) (by rw [hl]; omega) hbase ?_
  intro v' w' own grow _
  refine h v' w' ?_ grow
  unfold BRow
  rw [bvs_append, List.length_append]
  exact own

set_option maxRecDepth 100000 in
set_option maxHeartbeats 1000000 in
theorem join_any (A : Option Addr) (n cap : Nat) (lss : List (List (List UInt8))) (w : World) (h : LRows w A n lss) (hn : n ≤ 9223372036854775807) (hsz : (jn lss).length ≤ 1099511627776) :
    Calls Tryz.prog 31 #[.slice A n cap] w fun e w' => ∃ v, e = .returned v ∧ BRow w' w.heap.size v (jn lss) ∧ Below w.heap.size w w' := by
  have H := Lib.hid h
  have HS := Lib.hid hsz
  clear h
  go_enter Tryz.func31, Tryz.ntmps31
  go_wp2
  go_loopw [3, 10] (fun v i wr => ∃ k : Nat, k ≤ n ∧ i = .int .i64 (k : Int) ∧ BRow wr w.heap.size v (jn (lss.take k)) ∧ Below w.heap.size w wr) (fun _ i _ => n - (intOf i).toNat)
  case atStart => exact ⟨0, Nat.zero_le _, rfl, BRow.nil _ _, Below.refl _ _⟩
  case round =>
    obtain ⟨k, hk, rfl, own, hB⟩ := hrel
    by_cases hlt : k < n
    · obtain ⟨b, off, rfl, hb, hrow⟩ := H.out.2 (by omega)
      obtain ⟨A', c', hc, hrl, hst⟩ := hrow k hlt
      have hcw := (hB.cell (p := ⟨b, off + k, none⟩) hb).trans hc
      have HJT := Lib.hid (jn_take lss k (by rw [H.out.1]; exact hlt))
      have HLE := Lib.hid (fun i hi => jn_le lss k i (by rw [H.out.1]; exact hlt) hi)
      have HST := Lib.hid hst
      have HO := Lib.hid own
      clear hrow own hst hc
      generalize lss.getD k [] = row at *
      generalize jn (lss.take k) = acc at *
      go_wp2
      go_loopw [3, 16] (fun v i wr2 => ∃ j : Nat, j ≤ row.length ∧ i = .int .i64 (j : Int) ∧ BRow wr2 w.heap.size v (acc ++ jw false (row.take j)) ∧ Below w.heap.size w wr2) (fun _ i _ => row.length - (intOf i).toNat)
      case atStart => exact ⟨0, Nat.zero_le _, rfl, by rw [List.take_zero]; show BRow _ _ _ (acc ++ []); rw [List.append_nil]; exact HO.out, hB⟩
      case round =>
        obtain ⟨j, hj, rfl, own2, hB2⟩ := hrel
        by_cases hjl : j < row.length
        · obtain ⟨b2, off2, rfl, hb2, hc2⟩ := (HST.out.below hB2).2.2 (by omega)
          have hx := hc2 j hjl
          have hle := HLE.out (j + 1) (by omega)
          have hjt := jw_take row j hjl
          rw [hjt] at hle
          simp only [List.length_append] at hle
          have HJW := Lib.hid hjt
          have HO2 := Lib.hid own2
          have hs := HS.out
          clear hc2 own2 hjt
          generalize row.getD j [] = x at *
          generalize jw false (row.take j) = pre at *
          by_cases hj0 : 0 < j
          · rw [if_pos hj0] at hle
            have hj0' : decide ((0 : Int) < (j : Int)) = true := decide_eq_true (by omega)
            simp only [List.length_cons, List.length_nil] at hle
            go_wp2_with (at_builtin; refine stopHere ?_)
            unfold Stop
            have e0 := (Below.refl _ wr).alloc (Nat.le_refl _) (.cells #[.int .u8 32] 5)
            refine wpList_app_bytes _ rfl _ _ rfl w.heap.size _ (acc ++ pre) rfl (HO2.out.below e0) (some ⟨wr.heap.size, 0, none⟩) 1 1 [32] rfl (txt_one wr 32) (fun e => by cases e) (fun ad e => by cases e; rfl) (by rw [List.length_append]; omega) (kbq hB2 e0).size ?_
            intro v3 w3 own3 grow3
            have hB3 : Below w.heap.size w w3 := (kbq hB2 e0).grown grow3 (kbq hB2 e0).size (own_block HO2.out)
            have HO3 := Lib.hid own3
            clear own3 grow3
            go_wp2_with (at_builtin; refine stopHere ?_)
            unfold Stop
            refine wpList_app_text _ rfl _ _ rfl w.heap.size _ (acc ++ pre ++ [32]) rfl HO3.out x rfl (by simp only [List.length_append, List.length_cons, List.length_nil]; omega) hB3.size ?_
            intro v4 w4 own4 grow4
            have hB4 : Below w.heap.size w w4 := hB3.grown grow4 hB3.size (own_block HO3.out)
            have own5 : BRow w4 w.heap.size v4 (acc ++ jw false (row.take (j + 1))) := by
              rw [HJW.out, if_pos hj0]
              simp only [List.append_assoc] at own4 ⊢
              exact own4
            clear own4 grow4 HO3 HO2
            go_wp2
            go_roundw
            case rel => exact ⟨j + 1, by omega, by go_num, own5, hB4⟩
            case measure => simp [intOf]; omega
          · have hj0' : decide ((0 : Int) < (j : Int)) = false := decide_eq_false (by omega)
            rw [if_neg (by omega)] at hle
            simp only [List.length_nil] at hle
            go_wp2_with (at_builtin; refine stopHere ?_)
            unfold Stop
            refine wpList_app_text _ rfl _ _ rfl w.heap.size _ (acc ++ pre) rfl HO2.out x rfl (by rw [List.length_append]; omega) hB2.size ?_
            intro v4 w4 own4 grow4
            have hB4 : Below w.heap.size w w4 := hB2.grown grow4 hB2.size (own_block HO2.out)
            have own5 : BRow w4 w.heap.size v4 (acc ++ jw false (row.take (j + 1))) := by
              rw [HJW.out, if_neg (by omega), List.nil_append, ← List.append_assoc]
              exact own4
            clear own4 grow4 HO2
            go_wp2
            go_roundw
            case rel => exact ⟨j + 1, by omega, by go_num, own5, hB4⟩
            case measure => simp [intOf]; omega
        · obtain rfl : j = row.length := by omega
          have hle := HLE.out row.length (Nat.le_refl _)
          rw [List.take_length] at own2 hle
          have HO2 := Lib.hid own2
          have hs := HS.out
          clear own2
          have hnl : decide ((row.length : Int) < (row.length : Int)) = false := decide_eq_false (by omega)
          go_wp2_with (at_builtin; refine stopHere ?_)
          unfold Stop
          have e0 := (Below.refl _ wr).alloc (Nat.le_refl _) (.cells #[.int .u8 10] 5)
          refine wpList_app_bytes _ rfl _ _ rfl w.heap.size _ (acc ++ jw false row) rfl (HO2.out.below e0) (some ⟨wr.heap.size, 0, none⟩) 1 1 [10] rfl (txt_one wr 10) (fun e => by cases e) (fun ad e => by cases e; rfl) (by rw [List.length_append]; omega) (kbq hB2 e0).size ?_
          intro v3 w3 own3 grow3
          have hB3 : Below w.heap.size w w3 := (kbq hB2 e0).grown grow3 (kbq hB2 e0).size (own_block HO2.out)
          have own5 : BRow w3 w.heap.size v3 (jn (lss.take (k + 1))) := by
            rw [HJT.out, ← List.append_assoc]
            exact own3
          clear own3 grow3 HO2
          go_wp2
          go_roundw
          case rel => exact ⟨k + 1, by omega, by go_num, own5, hB3⟩
          case measure => simp [intOf]; omega
    · obtain rfl : k = n := by omega
      rw [List.take_of_length_le (by rw [H.out.1]; exact Nat.le_refl _)] at own
      go_wp2
      go_ret
      exact ⟨_, rfl, own, hB⟩
end Go.Proofs.YtckaiejbgnhgcaaGreatDoor.Wd.Ws
namespace Go.Proofs.YtckaiejbgnhgcaaGreatDoor.Wd.Ws
open Go.RowKit
set_option linter.unusedVariables false
set_option maxRecDepth 100000

/-- The same word, not further left. -/
def Le1 (x y : Wo) : Prop := x.1 = y.1 ∧ x.2.1 = y.2.1 ∧ x.2.2 ≤ y.2.2
def LeL : List Wo → List Wo → Prop
  | [], [] => True
  | x :: a, y :: b => Le1 x y ∧ LeL a b
  | _, _ => False
def LeLL : List (List Wo) → List (List Wo) → Prop
  | [], [] => True
  | x :: a, y :: b => LeL x y ∧ LeLL a b
  | _, _ => False
theorem LeL.len : ∀ {a b : List Wo}, LeL a b → a.length = b.length
  | [], [], _ => rfl
  | x :: a, y :: b, h => by simp [LeL.len h.2]
  | [], _ :: _, h => h.elim
  | _ :: _, [], h => h.elim
theorem LeLL.len : ∀ {a b : List (List Wo)}, LeLL a b → a.length = b.length
  | [], [], _ => rfl
  | x :: a, y :: b, h => by simp [LeLL.len h.2]
  | [], _ :: _, h => h.elim
  | _ :: _, [], h => h.elim
theorem LeL.nil_iff {a b : List Wo} (h : LeL a b) : a = [] ↔ b = [] := by
  have := h.len
  constructor
  · rintro rfl; exact List.eq_nil_of_length_eq_zero this.symm
  · rintro rfl; exact List.eq_nil_of_length_eq_zero this
theorem LeL.push : ∀ {a b : List Wo} {x y : Wo}, LeL a b → Le1 x y → LeL (a ++ [x]) (b ++ [y])
  | [], [], _, _, _, h => ⟨h, trivial⟩
  | x :: a, y :: b, _, _, g, h => ⟨g.1, LeL.push g.2 h⟩
  | [], _ :: _, _, _, g, _ => g.elim
  | _ :: _, [], _, _, g, _ => g.elim
theorem LeLL.push : ∀ {a b : List (List Wo)} {x y : List Wo}, LeLL a b → LeL x y → LeLL (a ++ [x]) (b ++ [y])
  | [], [], _, _, _, h => ⟨h, trivial⟩
  | x :: a, y :: b, _, _, g, h => ⟨g.1, LeLL.push g.2 h⟩
  | [], _ :: _, _, _, g, _ => g.elim
  | _ :: _, [], _, _, g, _ => g.elim
theorem LeL.at : ∀ {a b : List Wo} (k : Nat) (x : Wo), LeL a b → a[k]? = some x → ∃ y, b[k]? = some y ∧ Le1 x y
  | [], [], k, x, _, h => by simp at h
  | u :: a, v :: b, 0, x, g, h => by simp at h; subst h; exact ⟨v, rfl, g.1⟩
  | u :: a, v :: b, k + 1, x, g, h => by
    obtain ⟨y, h1, h2⟩ := LeL.at k x g.2 (by simpa using h)
    exact ⟨y, by simpa using h1, h2⟩
  | [], _ :: _, _, _, h, _ => h.elim
  | _ :: _, [], _, _, h, _ => h.elim
theorem LeLL.at : ∀ {a b : List (List Wo)} (k : Nat) (x : List Wo), LeLL a b → a[k]? = some x → ∃ y, b[k]? = some y ∧ LeL x y
  | [], [], k, x, _, h => by simp at h
  | u :: a, v :: b, 0, x, g, h => by simp at h; subst h; exact ⟨v, rfl, g.1⟩
  | u :: a, v :: b, k + 1, x, g, h => by
    obtain ⟨y, h1, h2⟩ := LeLL.at k x g.2 (by simpa using h)
    exact ⟨y, by simpa using h1, h2⟩
  | [], _ :: _, _, _, h, _ => h.elim
  | _ :: _, [], _, _, h, _ => h.elim
def LeM : Mo → Mo → Prop
  | .gap, .gap => True
  | .rem, .rem => True
  | .wrd x c, .wrd y d => x = y ∧ c ≤ d
  | _, _ => False
theorem shut_le {m m' : Mo} {n : Nat} {line line' : List Wo} (hm : LeM m m') (h : LeL line line') : LeL (shutL m n line) (shutL m' n line') := by
  cases m <;> cases m' <;> first | exact h | exact hm.elim | skip
  exact h.push ⟨hm.1, rfl, hm.2⟩
theorem flush_le {line line' : List Wo} {lines lines' : List (List Wo)} (h : LeL line line') (hs : LeLL lines lines') : LeLL (flush line lines) (flush line' lines') := by
  unfold flush
  by_cases e : line = []
  · rw [if_pos e, if_pos (h.nil_iff.1 e)]; exact hs
  · rw [if_neg e, if_neg (fun e' => e (h.nil_iff.2 e'))]; exact hs.push h
theorem seen_le {b : UInt8} {m m' : Mo} {c c' : Nat} {line line' : List Wo} (hm : LeM m m') (hc : c ≤ c') (h : LeL line line') : LeM (seen b m c line) (seen b m' c' line') := by
  cases m <;> cases m' <;> first | exact hm.elim | exact trivial | skip
  · by_cases e : kd b = 4 ∧ line = []
    · have e1 : seen b .gap c line = .rem := if_pos e
      have e2 : seen b .gap c' line' = .rem := if_pos ⟨e.1, h.nil_iff.1 e.2⟩
      rw [e1, e2]; exact trivial
    · have e1 : seen b .gap c line = .wrd [b] c := if_neg e
      have e2 : seen b .gap c' line' = .wrd [b] c' := if_neg (fun g => e ⟨g.1, h.nil_iff.2 g.2⟩)
      rw [e1, e2]; exact ⟨rfl, hc⟩
  · exact ⟨by rw [hm.1], hm.2⟩
theorem blank_le {m m' : Mo} (hm : LeM m m') : LeM (blanked m) (blanked m') := by
  cases m <;> cases m' <;> first | exact hm.elim | exact trivial

/-- Blanks are gone past. -/
theorem aut_blanks {m : Mo} (hm : m = .gap ∨ m = .rem) : ∀ (z r : List UInt8) (n c : Nat) (line : List Wo) (lines : List (List Wo)), (∀ b ∈ z, kd b = 2) → aut (z ++ r) m n c line lines = aut r m n (c + z.length) line lines
  | [], r, n, c, line, lines, _ => rfl
  | b :: z, r, n, c, line, lines, hz => by
    have h := hz b (List.mem_cons_self)
    have e1 : blanked m = m := by rcases hm with rfl | rfl <;> rfl
    have e2 : shutL m n line = line := by rcases hm with rfl | rfl <;> rfl
    rw [List.cons_append, aut_2 h, e1, e2, aut_blanks hm z r _ _ _ _ (fun x hx => hz x (List.mem_cons_of_mem _ hx)), List.length_cons]
    rw [show c + 1 + z.length = c + (z.length + 1) by omega]
/-- So many blanks, of both kinds in turn. -/
def blk (k : Nat) : List UInt8 := (List.range k).map fun j => if j % 2 = 0 then 32 else 9
theorem blk_kd (k : Nat) : ∀ b ∈ blk k, kd b = 2 := by
  intro b hb
  obtain ⟨j, _, rfl⟩ := List.mem_map.1 hb
  split <;> decide
theorem blk_succ (k : Nat) : blk (k + 1) = blk k ++ [if k % 2 = 0 then 32 else 9] := by simp [blk, List.range_succ]
theorem blk_len (k : Nat) : (blk k).length = k := by simp [blk]
/-- More blanks behind each blank of one kind, and ahead of each line. -/
def ins1 (k : Nat) (b : UInt8) : List UInt8 := b :: (if b = 32 ∨ b = 10 then blk k else [])
def ins (k : Nat) (t : List UInt8) : List UInt8 := t.flatMap (ins1 k)
theorem ins_cons (k : Nat) (b : UInt8) (t : List UInt8) : ins k (b :: t) = b :: ((if b = 32 ∨ b = 10 then blk k else []) ++ ins k t) := by simp [ins, ins1]
theorem ins_len (k : Nat) (t : List UInt8) : (ins k t).length ≤ (k + 1) * t.length := by
  induction t with
  | nil => simp [ins]
  | cons b t ih =>
    rw [ins_cons, List.length_cons, List.length_append, List.length_cons, Nat.mul_add, Nat.mul_one]
    split
    · rw [blk_len]; omega
    · simp; omega
theorem aut_ins (k : Nat) : ∀ (t : List UInt8) (m m' : Mo) (n c c' : Nat) (line line' : List Wo) (lines lines' : List (List Wo)), c ≤ c' → LeM m m' → LeL line line' → LeLL lines lines' →
    (aut t m n c line lines).er = (aut (ins k t) m' n c' line' lines').er ∧ LeLL (aut t m n c line lines).rows (aut (ins k t) m' n c' line' lines').rows
  | [], m, m', n, c, c', line, line', lines, lines', hc, hm, hl, hs => ⟨rfl, flush_le (shut_le hm hl) hs⟩
  | b :: t, m, m', n, c, c', line, line', lines, lines', hc, hm, hl, hs => by
    rw [ins_cons]
    rcases aut_ways b with h | h | h | h
    · rw [aut_1 h, aut_1 h]; exact ⟨rfl, trivial⟩
    · rw [aut_2 h, aut_2 h]
      have hmm : blanked m' = .gap ∨ blanked m' = .rem := by cases m' <;> first | exact .inl rfl | exact .inr rfl
      rw [aut_blanks hmm _ _ _ _ _ _ (by split; exact blk_kd k; intro b hb; cases hb)]
      exact aut_ins k t _ _ _ _ _ _ _ _ _ (by omega) (blank_le hm) (shut_le hm hl) hs
    · rw [aut_3 h, aut_3 h, aut_blanks (.inl rfl) _ _ _ _ _ _ (by split; exact blk_kd k; intro b hb; cases hb)]
      exact aut_ins k t _ _ _ _ _ _ _ _ _ (by omega) trivial trivial (flush_le (shut_le hm hl) hs)
    · have hne : ¬ (b = 32 ∨ b = 10) := by
        intro e
        have := vs_kd h
        rcases e with rfl | rfl <;> revert this <;> decide
      rw [aut_v h, aut_v h, if_neg hne, List.nil_append]
      exact aut_ins k t _ _ _ _ _ _ _ _ _ (by omega) (seen_le hm hc hl) hl hs
theorem spl_ins (k : Nat) (t : List UInt8) (h1 : t.length ≤ 1048576) (h2 : (ins k t).length ≤ 1048576) : (spl t).er = (spl (ins k t)).er ∧ LeLL (spl t).rows (spl (ins k t)).rows := by
  unfold spl
  rw [if_neg (by omega), if_neg (by omega)]
  exact aut_ins k t _ _ _ _ _ _ _ _ _ (Nat.le_refl _) trivial trivial trivial
theorem ins_take (k : Nat) (t : List UInt8) (i : Nat) (h : i < t.length) : ins k (t.take (i + 1)) = ins k (t.take i) ++ (t.getD i 0 :: (if t.getD i 0 = 32 ∨ t.getD i 0 = 10 then blk k else [])) := by
  unfold ins
  rw [List.take_add_one, List.flatMap_append, List.getD_eq_getElem?_getD, List.getElem?_eq_getElem h]; simp [ins1]
end Go.Proofs.YtckaiejbgnhgcaaGreatDoor.Wd.Ws
