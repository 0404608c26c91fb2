/- What tollerref12.size answers, for any words; no conditions but those that each names. -/
import Derived.Test.YtckaiejbgnhgcaaGreatDoorZCfgU
import Derived.Test.YtckaiejbgnhgcaaGreatDoorZM
namespace Go.Proofs.YtckaiejbgnhgcaaGreatDoor.Wd
open Go Go.RowKit
set_option linter.unusedVariables false
set_option maxRecDepth 100000
theorem PB.two {w : World} {P : Nat} {m0 : Int} {v0 : Value} (h : PB w P m0 v0) (m : Int) (v : Value) : PB ((w.setCell ⟨P, 0, none⟩ (.int .i64 m)).setCell ⟨P, 1, none⟩ v) P m v :=
  ⟨(cs_other _ _ _ _ _ _ (.inr (by omega))).trans (World.cell?_setCell_same _ _ _ h.p0), World.cell?_setCell_same _ _ _ ((cs_other _ _ _ _ _ _ (.inr (by omega))).trans h.p1), by simp [h.f0], by simp [h.f1]⟩
theorem PB.far {w : World} {P Q o : Nat} {m : Int} {v u : Value} (h : PB w P m v) (hne : P ≠ Q) : PB (w.setCell ⟨Q, o, none⟩ u) P m v :=
  ⟨(cs_other _ _ _ _ _ _ (by first | exact .inl (by omega) | exact .inl (fun e => hne e.symm))).trans h.p0, (cs_other _ _ _ _ _ _ (by first | exact .inl (by omega) | exact .inl (fun e => hne e.symm))).trans h.p1, (World.frozen?_setCell _ _ _ _).trans h.f0, (World.frozen?_setCell _ _ _ _).trans h.f1⟩

/-- What ends tollerref12's size and one: the answer's cells. -/
theorem two_end {w W : World} {P : Nat} {m0 : Int} {v0 : Value} (h : PB W P m0 v0) (hP : w.heap.size ≤ P) (hB : Below w.heap.size w W) (m : Int) (v : Value) :
    Hid (((W.setCell ⟨P, 0, none⟩ (.int .i64 m)).setCell ⟨P, 1, none⟩ v).cell? ⟨P, 0, none⟩ = some (.int .i64 m) ∧ ((W.setCell ⟨P, 0, none⟩ (.int .i64 m)).setCell ⟨P, 1, none⟩ v).cell? ⟨P, 1, none⟩ = some v ∧ Below w.heap.size w ((W.setCell ⟨P, 0, none⟩ (.int .i64 m)).setCell ⟨P, 1, none⟩ v)) :=
  Lib.hid ⟨(h.two m v).p0, (h.two m v).p1, (hB.setCell (p := ⟨P, 0, none⟩) hP _).setCell (p := ⟨P, 1, none⟩) hP _⟩

/-- What size answers. -/
def SPost (w : World) (sl : Value) (X : LR) (r : Ending) (w' : World) : Prop :=
  (∃ M, r = .returned (.tuple #[.agg #[.int .i64 M, sl], .int .i64 X.e, .int .i64 (X.k : Int)]) ∧ (X.e = 0 → M = X.m)) ∧ Below w.heap.size w w'
theorem spost {w w' : World} {sl : Value} (M : Int) (X : LR) (h : X.e = 0 → M = X.m) (hB : Below w.heap.size w w') : SPost w sl X (.returned (.tuple #[.agg #[.int .i64 M, sl], .int .i64 X.e, .int .i64 (X.k : Int)])) w' := ⟨⟨M, rfl, h⟩, hB⟩

set_option maxHeartbeats 1000000 in
theorem rsize12_any (m : Int) (A : Option Addr) (n cap : Nat) (rs : List Rl) (B : Option Addr) (k cb : Nat) (xs : List ByteArray) (w : World) (hS : Sts w B k xs) (hf : Lim xs) (hm : 0 ≤ m ∧ m ≤ 1000000) :
    Calls Tryz.prog 69 #[.agg #[.int .i64 m, .slice A n cap], .slice B k cb] w (SPost w (.slice A n cap) (lnS m rs xs)) := by
  have kA := (Below.refl _ w).alloc (Nat.le_refl _) (.cells #[.int .i64 m, .slice A n cap] 28)
  have kB := (Below.refl _ (w.alloc (.cells #[.int .i64 m, .slice A n cap] 28))).alloc (Nat.le_refl _) (.cells #[.int .i64 0, .slice none 0 0] 28)
  have hs : (w.alloc (.cells #[.int .i64 m, .slice A n cap] 28)).heap.size = w.heap.size + 1 := by simp
  have P1 := (PB.new w m (.slice A n cap)).below kB
  have P2 := PB.new (w.alloc (.cells #[.int .i64 m, .slice A n cap] 28)) 0 (.slice none 0 0)
  have B1 := kbq kA kB
  rw [hs] at P2
  have hl := hS.1
  have hS1 := hS.below B1
  clear hs kA kB hS
  obtain ⟨X, hX⟩ : ∃ X, lnS m rs xs = X := ⟨_, rfl⟩
  rw [hX]
  go_enter Tryz.func69, Tryz.ntmps69
  go_upto_region 1 with fail
  generalize hW : (w.alloc (.cells #[.int .i64 m, .slice A n cap] 28)).alloc (.cells #[.int .i64 0, .slice none 0 0] 28) = W1 at *
  clear hW
  have HP1 := Lib.hid P1
  have HP2 := Lib.hid P2
  obtain ⟨p0, p1, f0, f1⟩ := P1
  obtain ⟨r0, r1, g0, g1⟩ := P2
  by_cases h2 : k = 2
  · subst h2
    obtain ⟨b, off, rfl, hb, hc⟩ := hS1.2.2 (by omega)
    have x1 := hc 1 (by omega)
    have hL1 := hf.at 1
    have e0 : lnS m rs xs = if m ≠ 0 then .bad 28 0 else if paE (lb (xs.getD 1 nob)) ≠ 0 then .bad (paE (lb (xs.getD 1 nob))) 1 else if ¬ (1 ≤ paN (lb (xs.getD 1 nob)) ∧ paN (lb (xs.getD 1 nob)) ≤ 1000000) then .bad 29 1 else .ok (paN (lb (xs.getD 1 nob))) rs := by
      unfold lnS; rw [if_neg (by simp [hl])]
    rw [e0] at hX
    have CN := refParse_any (xs.getD 1 nob) W1 (by omega)
    have hU := paN_U (lb (xs.getD 1 nob))
    generalize xs.getD 1 nob = x at *
    clear hc hS1 e0 hf hl
    by_cases c1 : 0 < m
    · rw [if_pos (by omega)] at hX
      subst hX
      have HZ := two_end HP2.out (by omega) B1 m (.slice A n cap)
      go_wp2
      obtain ⟨q0, q1, BZ⟩ := HZ.out
      show bodyPost Tryz.prog Tryz.f69 _ _ _ _
      refine bodyPost_ret (v := .tuple #[.agg #[.int .i64 m, .slice A n cap], .int .i64 28, .int .i64 0]) ?_ rfl (spost m _ (fun h => by cases h) BZ)
      simp [results, Tryz.results69, go_sem, q0, q1]
    · have hm0 : m = 0 := by omega
      rw [if_neg (by omega)] at hX
      have HM0 := Lib.hid hm0
      clear hm0
      generalize hE : paE (lb x) = E at *
      generalize hN : paN (lb x) = N at *
      by_cases c2 : E ≠ 0
      · rw [if_pos c2] at hX
        subst hX
        have t1 : (E != 0) = true := by simpa using c2
        have HC2 := Lib.hid c2
        clear c2
        have HZ := two_end HP2.out (by omega) B1 m (.slice A n cap)
        go_wp2_with (go_at_call 96; refine CN.mono ?_; rintro r w2 ⟨rfl, rfl⟩)
        obtain ⟨q0, q1, BZ⟩ := HZ.out
        show bodyPost Tryz.prog Tryz.f69 _ _ _ _
        refine bodyPost_ret (v := .tuple #[.agg #[.int .i64 m, .slice A n cap], .int .i64 E, .int .i64 1]) ?_ rfl (spost m _ (fun h => absurd h HC2.out) BZ)
        simp [results, Tryz.results69, go_sem, q0, q1]
      · have c2' : E = 0 := by simpa using c2
        rw [if_neg c2] at hX
        subst c2'
        clear c2
        by_cases d1 : N < 1
        · have d1' : decide (N < 1) = true := decide_eq_true d1
          rw [if_pos (by omega)] at hX
          subst hX
          have HZ := two_end HP2.out (by omega) B1 m (.slice A n cap)
          go_wp2_with (go_at_call 96; refine CN.mono ?_; rintro r w2 ⟨rfl, rfl⟩)
          obtain ⟨q0, q1, BZ⟩ := HZ.out
          show bodyPost Tryz.prog Tryz.f69 _ _ _ _
          refine bodyPost_ret (v := .tuple #[.agg #[.int .i64 m, .slice A n cap], .int .i64 29, .int .i64 1]) ?_ rfl (spost m _ (fun h => by cases h) BZ)
          simp [results, Tryz.results69, go_sem, q0, q1]
        · have d1' : decide (N < 1) = false := decide_eq_false d1
          by_cases d2 : 1000000 < N
          · have d2' : decide (1000000 < N) = true := decide_eq_true d2
            rw [if_pos (by omega)] at hX
            subst hX
            have HZ := two_end HP2.out (by omega) B1 m (.slice A n cap)
            go_wp2_with (go_at_call 96; refine CN.mono ?_; rintro r w2 ⟨rfl, rfl⟩)
            obtain ⟨q0, q1, BZ⟩ := HZ.out
            show bodyPost Tryz.prog Tryz.f69 _ _ _ _
            refine bodyPost_ret (v := .tuple #[.agg #[.int .i64 m, .slice A n cap], .int .i64 29, .int .i64 1]) ?_ rfl (spost m _ (fun h => by cases h) BZ)
            simp [results, Tryz.results69, go_sem, q0, q1]
          · have d2' : decide (1000000 < N) = false := decide_eq_false d2
            rw [if_neg (by omega)] at hX
            subst hX
            have hw : IntKind.i64.wrap N = N := IntWalk.i64_in _ (by omega)
            have HZ := two_end (HP2.out.far (Q := w.heap.size) (o := 0) (u := .int .i64 N) (by omega)) (by omega) (B1.setCell (p := ⟨w.heap.size, 0, none⟩) (Nat.le_refl _) (.int .i64 N)) N (.slice A n cap)
            have HR := HP2.out.far (Q := w.heap.size) (o := 0) (u := .int .i64 N) (by omega)
            have z0 : (W1.setCell ⟨w.heap.size, 0, none⟩ (.int .i64 N)).cell? ⟨w.heap.size, 0, none⟩ = some (.int .i64 N) := World.cell?_setCell_same _ _ _ p0
            have z1 : (W1.setCell ⟨w.heap.size, 0, none⟩ (.int .i64 N)).cell? ⟨w.heap.size, 1, none⟩ = some (.slice A n cap) := (cs_other _ _ _ _ _ _ (.inr (by omega))).trans p1
            obtain ⟨y0, y1, y2, y3⟩ := HR
            go_wp2_with (go_at_call 96; refine CN.mono ?_; rintro r w2 ⟨rfl, rfl⟩)
            obtain ⟨q0, q1, BZ⟩ := HZ.out
            show bodyPost Tryz.prog Tryz.f69 _ _ _ _
            refine bodyPost_ret (v := .tuple #[.agg #[.int .i64 N, .slice A n cap], .int .i64 0, .int .i64 0]) ?_ rfl (spost N _ (fun h => rfl) BZ)
            simp [results, Tryz.results69, go_sem, q0, q1]
  · have e : lnS m rs xs = .bad 22 0 := by unfold lnS; rw [if_pos (by omega)]
    rw [e] at hX
    subst hX
    have t1 : ((k : Int) != 2) = true := by rw [bne_iff_ne]; omega
    have t2 : ((k : Int) == 2) = false := by rw [← Bool.not_eq_true, beq_iff_eq]; omega
    have HZ := two_end HP2.out (by omega) B1 m (.slice A n cap)
    go_wp2
    obtain ⟨q0, q1, BZ⟩ := HZ.out
    show bodyPost Tryz.prog Tryz.f69 _ _ _ _
    refine bodyPost_ret (v := .tuple #[.agg #[.int .i64 m, .slice A n cap], .int .i64 22, .int .i64 0]) ?_ rfl (spost m _ (fun h => by cases h) BZ)
    simp [results, Tryz.results69, go_sem, q0, q1]
end Go.Proofs.YtckaiejbgnhgcaaGreatDoor.Wd
