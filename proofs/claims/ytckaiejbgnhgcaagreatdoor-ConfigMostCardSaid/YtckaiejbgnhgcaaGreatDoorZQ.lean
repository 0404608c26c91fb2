/- Parts of a row of rules, and ConfigLacks; no conditions but those that each names. A text and its lines, where each begins: plain facts; no conditions but those that each names. ConfigTwice; no conditions but those that each names. A thousand rules, and one more: plain facts; no conditions but those that each names. ConfigMost; no conditions but those that each names. -/
import Derived.Test.YtckaiejbgnhgcaaGreatDoorZO
import Derived.Deep.AppendLies
import Derived.OneCell
namespace Go.Proofs.YtckaiejbgnhgcaaGreatDoor.Wd
open Go Go.RowKit
set_option linter.unusedVariables false
set_option maxRecDepth 100000
theorem fnx_drop (rs : List Rl) (i k : Nat) : fnOf (rs.drop i) k = fnOf rs (i + k) := by simp [fnOf, List.getD_eq_getElem?_getD]
/-- What is left of a row of rules. -/
theorem rslice_back (A : Option Addr) (n cap i : Nat) (hi : i ≤ n) (hn : n ≤ cap) : ∃ A', (∀ W : World, (Instr.slice 26 (.slice A n cap) (some (.int .i64 (i : Int))) none none).run Tryz.prog W = .ok (.slice A' (n - i) (cap - i)) W) ∧
    (∀ (W : World) (l : List Rl), Rls W A n l → Rls W A' (n - i) (l.drop i)) := by
  obtain ⟨i0, hz, hz0, hz1, hz2⟩ := info_parts zeroRule
  refine ⟨if cap = i then A else A.map (·.add (i * 4)), fun W => ?_, fun W l h => ?_⟩
  · simp [go_sem, Tryz.underlying26, sizeOf, typeInfo, hz, hz1, hi, sliced]
  · refine ⟨by rw [List.length_drop, h.1], fun r hr => h.2.1 r (List.mem_of_mem_drop hr), fun h0 => ?_⟩
    obtain ⟨b, off, rfl, hb, hc⟩ := h.2.2 (by omega)
    rw [if_neg (by omega)]
    refine ⟨b, off + i * 4, by simp [Go.WideShapes.add_plain], hb, fun k hk => ?_⟩
    rw [fnx_drop, Nat.add_assoc, ← Nat.add_mul]
    exact hc (i + k) (by omega)

theorem b10_yes {b : UInt8} (h : b = 10) : ((b.toNat : Int) == 10) = true := by subst h; rfl
theorem b10_no {b : UInt8} (h : b ≠ 10) : ((b.toNat : Int) == 10) = false := by
  rw [← Bool.not_eq_true, beq_iff_eq]
  intro e
  refine h (UInt8.toNat_inj.1 ?_)
  show b.toNat = 10
  omega

set_option maxHeartbeats 2000000 in
theorem lacks_walk (most : Int) (A : Option Addr) (n cap : Nat) (w : World) (hN : Nam w) (hm : 0 ≤ most ∧ most ≤ 65535) (h : Nmr w A n) (hn : n ≤ 9223372036854775807) :
    Calls Tryz.prog 9 #[.int .u16 most, .slice A n cap] w fun r w' => r = .returned (.bool true) ∧ Below w.heap.size w w' := by
  have CP := policy_any most A n cap w hm h hn
  clear h
  go_enter Tryz.func9, Tryz.ntmps9
  go_wp2_with (go_at_call 11; (with_reducible refine CP.mono ?_); rintro r w1 ⟨⟨m, rs, v, rfl, hO, hl, hP⟩, k1⟩; refine stopHere ?_)
  unfold Stop
  obtain ⟨A1, c1, rfl, hc1, hc2, hR1⟩ := hO.rls hP.out.ok
  have h0 := polr_ri hP.out hl
  have h31 := polr_tail hP.out hl
  have m1 := hP.out.m1
  have m2 := hP.out.m2
  have hpos : 1 ≤ rs.length := by obtain ⟨k, rest, e⟩ := hP.out.hd; rw [e]; simp
  have kA := (Below.refl _ w1).alloc (Nat.le_refl _) (.cells #[.int .i64 m, .slice A1 rs.length c1] 28)
  have CR := cprint_any m A1 rs.length c1 rs _ (hN.below (kbq k1 kA)) (hR1.below kA) (by omega) (by omega)
  rw [h0, if_pos rfl] at CR
  go_wp2_with (go_at_call 16; (with_reducible refine CR.mono ?_); rintro r w2 ⟨⟨v2, rfl, hB2⟩, k2⟩; refine stopHere ?_)
  unfold Stop
  obtain ⟨A2, c2, rfl, ⟨hc3, hc4⟩, hT, _, _⟩ := hB2.form2
  have p0 : w2.cell? ⟨w1.heap.size, 0, none⟩ = some (.int .i64 m) := celln k2 (by simp)
  have p1 : w2.cell? ⟨w1.heap.size, 1, none⟩ = some (.slice A1 rs.length c1) := celln k2 (by simp)
  obtain ⟨A3, hS, hS2⟩ := rslice_back A1 rs.length c1 1 hpos hc1
  have hS1 : ∀ W : World, (Instr.slice 26 (.slice A1 rs.length c1) (some (.int .i64 1)) none none).run Tryz.prog W = .ok (.slice A3 (rs.length - 1) (c1 - 1)) W := hS
  have kB := (Below.refl _ w2).alloc (Nat.le_refl _) (.cells #[.int .i64 m, .slice A3 (rs.length - 1) (c1 - 1)] 28)
  have B3 := kbq (kbq (kbq k1 kA) k2) kB
  have hR3 := hS2 _ _ (((hR1.below kA).below k2).below kB)
  have hT3 := hT.below kB
  have hN3 := hN.below B3
  have hrp := hP.out.ok
  obtain ⟨g1, g2, g3⟩ := jn_short h0 hrp
  obtain ⟨hL0, hL1, hL2⟩ := line_end ([sizS, dig m.toNat].map lb) (Ws.jn (lbs ((ordL rs).map rlW))) (size_line _)
  have hM0 : 0 < (Ws.jn (lbs [[sizS, dig m.toNat]])).length := hL0
  have hM1 : ∀ k, k + 1 < (Ws.jn (lbs [[sizS, dig m.toNat]])).length → (prTx m rs).getD k 0 ≠ 10 := fun k hk => by rw [g3]; exact hL1 k hk
  have hM2 : (prTx m rs).getD ((Ws.jn (lbs [[sizS, dig m.toNat]])).length - 1) 0 = 10 := by rw [g3]; exact hL2
  have hM3 : (prTx m rs).take (Ws.jn (lbs [[sizS, dig m.toNat]])).length = Ws.jn (lbs [[sizS, dig m.toNat]]) := by rw [g3]; exact List.take_left
  have hM4 : (prTx m rs).drop (Ws.jn (lbs [[sizS, dig m.toNat]])).length = Ws.jn (lbs ((ordL rs).map rlW)) := by rw [g3]; exact List.drop_left
  have hM5 : (Ws.jn (lbs [[sizS, dig m.toNat]])).length ≤ (prTx m rs).length := by rw [g3, List.length_append]; omega
  have hM3 := Lib.hid hM3
  have hM4 := Lib.hid hM4
  clear hL0 hL1 hL2 g3
  have hlt := cell_lt p0
  have q0 := celln kB p0
  have q1 := celln kB p1
  have n0 : (w2.alloc (.cells #[.int .i64 m, .slice A3 (rs.length - 1) (c1 - 1)] 28)).cell? ⟨w2.heap.size, 0, none⟩ = some (.int .i64 m) := by simp
  have n1 : (w2.alloc (.cells #[.int .i64 m, .slice A3 (rs.length - 1) (c1 - 1)] 28)).cell? ⟨w2.heap.size, 1, none⟩ = some (.slice A3 (rs.length - 1) (c1 - 1)) := by simp
  have hR3 := Lib.hid hR3
  have hT3 := Lib.hid hT3
  have hN3 := Lib.hid hN3
  have B3 := Lib.hid B3
  have h0 := Lib.hid h0
  have h31 := Lib.hid h31
  have hrp := Lib.hid hrp
  have ls := Lib.hid (lacks_size h0.out hrp.out)
  have ld := Lib.hid (lacks_def (m := m) ⟨by omega, by omega⟩ g2)
  clear CP CR kA kB k1 k2 hT hO hR1 hS hS2 hB2 hP
  go_upto_region 7 with fail
  generalize hW3 : w2.alloc (.cells #[.int .i64 m, .slice A3 (rs.length - 1) (c1 - 1)] 28) = W3 at *
  clear p0 p1 hW3
  rw [← hM4.out] at ls
  rw [← hM3.out] at ld
  clear hM3 hM4 g1 g2
  generalize (Ws.jn (lbs [[sizS, dig m.toNat]])).length = L at *
  generalize prTx m rs = tx at *
  go_loopw [9, 10] (fun e i wr => ∃ k : Nat, i = .int .i64 (k : Int) ∧ e = .int .i64 ((if L ≤ k then L else 0 : Nat) : Int) ∧ k ≤ tx.length ∧ wr = W3) (fun _ i _ => tx.length - (intOf i).toNat)
  case atStart => exact ⟨0, rfl, by rw [if_neg (by omega)]; rfl, Nat.zero_le _, rfl⟩
  case round =>
    obtain ⟨k, rfl, he, hk, rfl⟩ := hrel
    have i0 : (0 : Int) ≤ (k : Int) := Int.natCast_nonneg _
    by_cases hkn : k < tx.length
    · have i1 : (k : Int) < (tx.length : Int) := by omega
      obtain ⟨b2, o2, rfl, hb2, hc5⟩ := hT3.out.2 (by omega)
      have y0 := hc5 k hkn
      have hby : k + 1 < L → tx.getD k 0 ≠ 10 := hM1 k
      have hby2 : k + 1 = L → tx.getD k 0 = 10 := fun e => by rw [show k = L - 1 by omega]; exact hM2
      generalize tx.getD k 0 = bt at y0 hby hby2
      clear hc5
      by_cases ca : k + 1 < L
      · have t1 := b10_no (hby ca)
        rw [if_neg (by omega)] at he
        subst he
        go_wp2
        go_roundw
        case rel => exact ⟨k + 1, by go_num, by rw [if_neg (by omega)], by omega, trivial⟩
        case measure => simp [intOf]; omega
      · by_cases cb : k + 1 = L
        · have t1 := b10_yes (hby2 cb)
          rw [if_neg (by omega)] at he
          subst he
          go_wp2
          go_roundw
          case rel => exact ⟨k + 1, by go_num, by rw [if_pos (by omega), show L = k + 1 by omega]; go_num, by omega, trivial⟩
          case measure => simp [intOf]; omega
        · rw [if_pos (by omega)] at he
          subst he
          have t2 : ((L : Int) == 0) = false := by rw [← Bool.not_eq_true, beq_iff_eq]; omega
          by_cases cc : bt = 10
          · have t1 := b10_yes cc
            go_wp2
            go_roundw
            case rel => exact ⟨k + 1, by go_num, by rw [if_pos (by omega)], by omega, trivial⟩
            case measure => simp [intOf]; omega
          · have t1 := b10_no cc
            go_wp2
            go_roundw
            case rel => exact ⟨k + 1, by go_num, by rw [if_pos (by omega)], by omega, trivial⟩
            case measure => simp [intOf]; omega
    · have i1 : ¬ (k : Int) < (tx.length : Int) := by omega
      have hkk : k = tx.length := by omega
      rw [if_pos (by omega)] at he
      subst he
      subst hkk
      have hlen : L ≤ tx.length := hM5
      obtain ⟨A4, hD, hD2⟩ := Ws.bslice_back A2 tx.length c2 L hM5 hc3
      have hT4 := Lib.hid (hD2.1 wr tx hT3.out)
      have hF := Ws.bslice_front A2 tx.length c2 L (by omega) hc4
      have hT5 := Lib.hid (hT3.out.front hM5)
      have C1 := cparse_any A4 (tx.length - L) (c2 - L) (tx.drop L) wr hN3.out hT4.out (by omega) (by omega)
      rw [ls.out] at C1
      have hDz := hD
      clear hD2 hDz
      go_wp2_with (go_at_call 17; (with_reducible refine C1.mono ?_); rintro r w4 ⟨⟨A5, rfl, _⟩, k4⟩; refine stopHere ?_)
      unfold Stop
      have aA := (Below.refl _ w4).alloc (Nat.le_refl _) (.cells #[.int .i64 0, .slice A5 0 0] 28)
      have aB := (Below.refl _ (w4.alloc (.cells #[.int .i64 0, .slice A5 0 0] 28))).alloc (Nat.le_refl _) (.cells #[.int .i64 0, .int .i64 0] 44)
      have a2 := kbq k4 (kbq aA aB)
      have s0 : ((w4.alloc (.cells #[.int .i64 0, .slice A5 0 0] 28)).alloc (.cells #[.int .i64 0, .int .i64 0] 44)).cell? ⟨w4.heap.size + 1, 0, none⟩ = some (.int .i64 0) := by simp
      have s1 : ((w4.alloc (.cells #[.int .i64 0, .slice A5 0 0] 28)).alloc (.cells #[.int .i64 0, .int .i64 0] 44)).cell? ⟨w4.heap.size + 1, 1, none⟩ = some (.int .i64 0) := by simp
      have C2 := cparse_any A2 L c2 (tx.take L) _ (hN3.out.below a2) (hT5.out.below a2) (by omega) hc4
      rw [ld.out] at C2
      clear C1 aA aB
      go_wp2_with (go_at_call 17; (with_reducible refine C2.mono ?_); rintro r w6 ⟨⟨A6, rfl, _⟩, k6⟩; refine stopHere ?_)
      unfold Stop
      replace s0 := celln k6 s0
      replace s1 := celln k6 s1
      have a3 := kbq a2 k6
      have aA := (Below.refl _ w6).alloc (Nat.le_refl _) (.cells #[.int .i64 0, .slice A6 0 0] 28)
      have aB := (Below.refl _ (w6.alloc (.cells #[.int .i64 0, .slice A6 0 0] 28))).alloc (Nat.le_refl _) (.cells #[.int .i64 0, .int .i64 0] 44)
      have ab := kbq aA aB
      have a4 := kbq a3 ab
      replace s0 := celln ab s0
      replace s1 := celln ab s1
      have z0 : ((w6.alloc (.cells #[.int .i64 0, .slice A6 0 0] 28)).alloc (.cells #[.int .i64 0, .int .i64 0] 44)).cell? ⟨w6.heap.size + 1, 0, none⟩ = some (.int .i64 0) := by simp
      have z1 : ((w6.alloc (.cells #[.int .i64 0, .slice A6 0 0] 28)).alloc (.cells #[.int .i64 0, .int .i64 0] 44)).cell? ⟨w6.heap.size + 1, 1, none⟩ = some (.int .i64 0) := by simp
      have C3 := cparse_any none 0 0 [] _ (hN3.out.below a4) ⟨rfl, fun h => absurd h (by omega)⟩ (by omega) (by omega)
      rw [cfgP_nil] at C3
      clear C2 aA aB ab k6 a3
      go_wp2_with (go_at_call 17; (with_reducible refine C3.mono ?_); rintro r w8 ⟨⟨A8, rfl, _⟩, k8⟩; refine stopHere ?_)
      unfold Stop
      replace s0 := celln k8 s0
      replace s1 := celln k8 s1
      replace z0 := celln k8 z0
      replace z1 := celln k8 z1
      have a5 := kbq a4 k8
      have aA := (Below.refl _ w8).alloc (Nat.le_refl _) (.cells #[.int .i64 0, .slice A8 0 0] 28)
      have aB := (Below.refl _ (w8.alloc (.cells #[.int .i64 0, .slice A8 0 0] 28))).alloc (Nat.le_refl _) (.cells #[.int .i64 0, .int .i64 0] 44)
      have ab := kbq aA aB
      have a6 := kbq a5 ab
      replace s0 := celln ab s0
      replace s1 := celln ab s1
      replace z0 := celln ab z0
      replace z1 := celln ab z1
      replace n0 := celln a6 n0
      replace n1 := celln a6 n1
      have hN9 := hN3.out.below a6
      have hR9 := Lib.hid (hR3.out.below a6)
      have BB := kbq B3.out a6
      have hL0i : (0 : Int) < (L : Int) := by omega
      have KN := known_any _ hN9
      clear C3 aA aB ab k8 a4 a5 k4 a2 hN9
      go_wp2_with fail
      generalize hW9 : (w8.alloc (.cells #[.int .i64 0, .slice A8 0 0] 28)).alloc (.cells #[.int .i64 0, .int .i64 0] 44) = W9 at *
      go_wp2_with (go_at_call 10; (with_reducible refine KN.mono ?_); rintro r w10 ⟨rfl, k10⟩; refine stopHere ?_)
      unfold Stop
      replace s0 := celln k10 s0
      replace s1 := celln k10 s1
      replace z0 := celln k10 z0
      replace z1 := celln k10 z1
      replace n0 := celln k10 n0
      replace n1 := celln k10 n1
      have CRt := cright_any m A3 (rs.length - 1) (c1 - 1) (rs.drop 1) w10 (hR9.out.below k10) (by omega) (by omega)
      rw [h31.out] at CRt
      have BZ := kbq BB k10
      clear KN k10
      go_wp2_with (go_at_call 23; (with_reducible refine CRt.mono ?_); rintro r w11 ⟨rfl, k11⟩)
      go_ret
      exact ⟨rfl, kbq BZ k11⟩
end Go.Proofs.YtckaiejbgnhgcaaGreatDoor.Wd
namespace Go.Proofs.YtckaiejbgnhgcaaGreatDoor.Wd
open Go Go.RowKit
set_option linter.unusedVariables false
set_option maxRecDepth 100000
/-- The lines of a text, each with its end. -/
def lnz (lss : List (List (List UInt8))) : List (List UInt8) := lss.map fun l => Ws.jw false l ++ [10]
theorem jn_lnz (lss : List (List (List UInt8))) : Ws.jn lss = (lnz lss).flatten := by
  unfold Ws.jn lnz
  rw [List.flatMap_def]
theorem lnz_len (lss : List (List (List UInt8))) : (lnz lss).length = lss.length := List.length_map _
/-- Where a line begins. -/
def stA (R : List (List UInt8)) (j : Nat) : Nat := (R.take j).flatten.length
theorem stA_0 (R : List (List UInt8)) : stA R 0 = 0 := rfl
theorem stA_succ (R : List (List UInt8)) (j : Nat) (h : j < R.length) : stA R (j + 1) = stA R j + (R.getD j []).length := by
  unfold stA
  rw [List.take_succ_eq_append_getElem h, List.flatten_append, List.length_append, List.getD_eq_getElem?_getD, List.getElem?_eq_getElem h]
  simp
theorem stA_end (R : List (List UInt8)) : stA R R.length = R.flatten.length := by unfold stA; rw [List.take_length]
theorem flat_at (R : List (List UInt8)) (j : Nat) (h : j < R.length) : R.flatten = (R.take j).flatten ++ (R.getD j [] ++ (R.drop (j + 1)).flatten) := by
  have e : R = R.take j ++ (R.getD j [] :: R.drop (j + 1)) := by
    rw [List.getD_eq_getElem?_getD, List.getElem?_eq_getElem h, Option.getD_some, ← List.drop_eq_getElem_cons h, List.take_append_drop]
  conv => lhs; rw [e]
  rw [List.flatten_append, List.flatten_cons]
theorem stA_le (R : List (List UInt8)) (j : Nat) (h : j < R.length) : stA R (j + 1) ≤ R.flatten.length := by
  rw [stA_succ R j h, flat_at R j h]
  simp only [List.length_append]
  unfold stA
  omega
theorem flat_get (R : List (List UInt8)) (j k : Nat) (h : j < R.length) (hk : k < (R.getD j []).length) : R.flatten.getD (stA R j + k) 0 = (R.getD j []).getD k 0 := by
  rw [flat_at R j h]
  unfold stA
  rw [List.getD_eq_getElem?_getD, List.getElem?_append_right (by omega), show (R.take j).flatten.length + k - (R.take j).flatten.length = k by omega, List.getElem?_append_left hk, ← List.getD_eq_getElem?_getD]
/-- A line that ends where it should, and nowhere ahead. -/
def LnE (l : List UInt8) : Prop := 0 < l.length ∧ (∀ k, k + 1 < l.length → l.getD k 0 ≠ 10) ∧ l.getD (l.length - 1) 0 = 10
theorem lnz_end (lss : List (List (List UInt8))) (h : ∀ row ∈ lss, Ws.LineP row) (j : Nat) (hj : j < (lnz lss).length) : LnE ((lnz lss).getD j []) := by
  rw [lnz_len] at hj
  have e : (lnz lss).getD j [] = Ws.jn [lss[j]] := by
    unfold lnz
    rw [List.getD_eq_getElem?_getD, List.getElem?_map, List.getElem?_eq_getElem hj]
    simp [Ws.jn]
  rw [e]
  have := line_end lss[j] [] (h _ (List.getElem_mem hj))
  rw [List.append_nil] at this
  exact this
/-- So many lines are cut off, at the byte k. -/
structure CutAt (R : List (List UInt8)) (j k : Nat) : Prop where
  le : j ≤ R.length
  lo : stA R j ≤ k
  hi : j < R.length → k < stA R (j + 1)
  out : j = R.length → k = stA R j
theorem cut_0 {R : List (List UInt8)} (hR : ∀ j, j < R.length → LnE (R.getD j [])) : CutAt R 0 0 :=
  ⟨Nat.zero_le _, Nat.le_refl _, fun h => by rw [stA_succ R 0 h]; have := (hR 0 h).1; omega, fun h => rfl⟩
theorem cut_step {R : List (List UInt8)} (hR : ∀ j, j < R.length → LnE (R.getD j [])) {j k : Nat} (h : CutAt R j k) (hk : k < R.flatten.length) : j < R.length ∧
    ((R.flatten.getD k 0 ≠ 10 ∧ CutAt R j (k + 1)) ∨ (R.flatten.getD k 0 = 10 ∧ CutAt R (j + 1) (k + 1) ∧ k + 1 = stA R (j + 1))) := by
  have hj : j < R.length := by
    have h1 := h.le
    by_cases c : j = R.length
    · have := h.out c; subst c; rw [stA_end] at this; omega
    · omega
  refine ⟨hj, ?_⟩
  obtain ⟨l0, l1, l2⟩ := hR j hj
  have e := stA_succ R j hj
  have lo := h.lo
  have hi := h.hi hj
  have g := flat_get R j (k - stA R j) hj (by omega)
  rw [show stA R j + (k - stA R j) = k by omega] at g
  rw [g]
  by_cases c : k + 1 = stA R (j + 1)
  · right
    refine ⟨by rw [show k - stA R j = (R.getD j []).length - 1 by omega]; exact l2, ⟨hj, by omega, fun h2 => ?_, fun _ => by omega⟩, c⟩
    rw [stA_succ R (j + 1) h2]
    have := (hR (j + 1) h2).1
    omega
  · left
    exact ⟨l1 _ (by omega), ⟨h.le, by omega, fun _ => by omega, fun e2 => by omega⟩⟩
theorem cut_end {R : List (List UInt8)} {j : Nat} (h : CutAt R j R.flatten.length) : j = R.length := by
  have h1 := h.le
  by_cases c : j = R.length
  · exact c
  · have := h.hi (by omega)
    have := stA_le R j (by omega)
    omega
/-- A line of a text that lies in memory. -/
theorem txt_line {w : World} {b n : Nat} {R : List (List UInt8)} (h : Ws.Txt w (some ⟨b, 0, none⟩) n R.flatten) (j : Nat) (hj : j < R.length) : Ws.Txt w (some ⟨b, stA R j, none⟩) (stA R (j + 1) - stA R j) (R.getD j []) := by
  have e := stA_succ R j hj
  have hl := stA_le R j hj
  refine ⟨by omega, fun h0 => ?_⟩
  have hn := h.1
  obtain ⟨b', off', e', hb, hc⟩ := h.2 (by omega)
  simp only [Option.some.injEq, Addr.mk.injEq, and_true] at e'
  obtain ⟨rfl, rfl⟩ := e'
  refine ⟨b, stA R j, rfl, hb, fun k hk => ?_⟩
  have := hc (stA R j + k) (by omega)
  rw [Nat.zero_add] at this
  rw [this, flat_get R j k hj (by omega)]
/-- The cells of lines cut off. -/
def rwv (b c : Nat) (R : List (List UInt8)) (j : Nat) : Value := .slice (some ⟨b, stA R j, none⟩) (stA R (j + 1) - stA R j) (c - stA R j)
def rwvs (b c : Nat) (R : List (List UInt8)) (j : Nat) : List Value := (List.range j).map (rwv b c R)
theorem rwvs_len (b c : Nat) (R : List (List UInt8)) (j : Nat) : (rwvs b c R j).length = j := by simp [rwvs]
theorem rwvs_succ (b c : Nat) (R : List (List UInt8)) (j : Nat) : rwvs b c R (j + 1) = rwvs b c R j ++ [rwv b c R j] := by simp [rwvs, List.range_succ]
theorem rwvs_at (b c : Nat) (R : List (List UInt8)) {i j : Nat} (h : i < j) : (rwvs b c R j)[i]? = some (rwv b c R i) := by simp [rwvs, h]
theorem rwvs_one (b c : Nat) (R : List (List UInt8)) (j : Nat) : ∀ u ∈ rwvs b c R j, u.oneCell' = true := by
  intro u hu
  obtain ⟨x, _, rfl⟩ := List.mem_map.1 hu
  rfl
/-- A part of a text, as a slice. -/
theorem bslice_mid (b n c lo hi : Nat) (h1 : lo < hi) (h2 : hi ≤ n) (h3 : n ≤ c) (h4 : c ≤ 9223372036854775807) (W : World) : (Instr.slice 22 (.slice (some ⟨b, 0, none⟩) n c) (some (.int .i64 (lo : Int))) (some (.int .i64 (hi : Int))) none).run Tryz.prog W = .ok (.slice (some ⟨b, lo, none⟩) (hi - lo) (c - lo)) W := by
  obtain ⟨i0, hz, hz0, hz1, hz2⟩ := info_parts Ws.infoByte
  have e1 : lo ≤ hi := by omega
  have e2 : hi ≤ c := by omega
  have e3 : ¬ c = lo := by omega
  simp [go_sem, Tryz.underlying22, sizeOf, typeInfo, hz, hz1, e1, e2, e3, sliced, Go.WideShapes.add_plain]
theorem fo_nob {rs : List Rl} (hd : Dst rs) (hh : hasB rs nob = true) : ∀ k, k < rs.length → ((fnOf (ordL rs) k).p.size = 0 ↔ k = 0) := by
  intro k hk
  have hl := ordL_length rs
  have h0 : (fnOf (ordL rs) 0).p = nob := by
    have h2 := has_ord hh
    rcases fd_ways (ordL rs) nob with ⟨j, hj, he, _, _⟩ | ⟨_, g⟩
    · by_cases c : j = 0
      · subst c; exact he
      · have := ordL_rise hd 0 j (by omega) hj
        rw [he] at this
        have e : lb nob = [] := rfl
        rw [e, ls_nil_right] at this
        cases this
    · unfold hasB at h2; rw [g] at h2; cases h2
  constructor
  · intro h
    by_cases c : k = 0
    · exact c
    · have hs : (fnOf (ordL rs) k).p = nob := ByteArray.ext (Array.eq_empty_of_size_eq_zero h)
      have := (ordL_dst rs).2 hd 0 k (by omega) (by omega)
      exact absurd (h0.trans hs.symm) this
  · intro c; subst c; rw [h0]; rfl
theorem one_len {l : List ByteArray} (h1 : l.length ≤ 5) (h2 : ∀ x ∈ l, x.size ≤ 128) : (Ws.jn (lbs [l])).length ≤ 646 := by
  have := jn_len 5 128 (lbs [l]) (fun r hr => by
    simp only [lbs, List.map_cons, List.map_nil, List.mem_cons, List.not_mem_nil, or_false] at hr
    subst hr
    refine ⟨by rw [List.length_map]; exact h1, fun x hx => ?_⟩
    obtain ⟨y, hy, rfl⟩ := List.mem_map.1 hx
    rw [list_size]; exact h2 y hy)
  simpa using this
theorem lnz_at (L : List (List ByteArray)) (i : Nat) (h : i < L.length) : (lnz (lbs L)).getD i [] = Ws.jn (lbs [lin L i]) := by
  unfold lnz lbs lin
  rw [List.getD_eq_getElem?_getD, List.getElem?_map, List.getElem?_map, List.getElem?_eq_getElem h, List.getD_eq_getElem?_getD, List.getElem?_eq_getElem h]
  simp [Ws.jn]
/-- Any line of what is printed, once more. -/
theorem twice_at {m : Int} {rs : List Rl} (h : riE m rs = 0) (ok : ∀ r ∈ rs, Okr r) (i : Nat) (hi : i < rs.length + 1) : cfgP (prTx m rs ++ (lnz (lbs (prLb m rs))).getD i []) = .bad 28 (rs.length + 2 : Nat) (if 1 < i then 6 else 1) := by
  obtain ⟨h1, h2, h3, h4, h5⟩ := riE_0 h
  rw [lnz_at _ _ (by rw [prLb_len]; exact hi)]
  cases i with
  | zero =>
    rw [if_neg (by omega)]
    refine twice_size h ok ?_
    have := one_len (l := [sizS, dig m.toNat]) (by simp) (fun x hx => by
      have := dig_size m.toNat (by omega)
      have e0 : sizS.size = 4 := rfl
      simp only [List.mem_cons, List.not_mem_nil, or_false] at hx
      rcases hx with rfl | rfl <;> omega)
    omega
  | succ k =>
    have hk : k < (ordL rs).length := by rw [ordL_length]; omega
    have e : lin (prLb m rs) (k + 1) = rlW (fnOf (ordL rs) k) := by
      unfold lin prLb
      rw [fn_at hk, List.getD_eq_getElem?_getD, List.getElem?_cons_succ, List.getElem?_map, List.getElem?_eq_getElem hk]
      rfl
    have hm : fnOf (ordL rs) k ∈ rs := (ordL_mem rs _).1 (fn_mem hk)
    have hz := fo_nob h5 h4 k (by omega)
    rw [e]
    have := one_len (rlW_len (fnOf (ordL rs) k)) (rlW_size (ok _ hm) (er_short (frE_all h3 _ hm)))
    rw [twice_rule h ok hm (by omega)]
    by_cases c : k = 0
    · rw [if_pos (hz.2 c), if_neg (by omega)]
    · rw [if_neg (fun g => c (hz.1 g)), if_pos (by omega)]
end Go.Proofs.YtckaiejbgnhgcaaGreatDoor.Wd
namespace Go.Proofs.YtckaiejbgnhgcaaGreatDoor.Wd
open Go Go.RowKit
set_option linter.unusedVariables false
set_option maxRecDepth 100000
theorem infoBts : (Tryz.prog.info? 22).map (fun i => (i.zero, i.size, i.bytes)) = some (some (.slice none 0 0), 1, 24) := by kernel_rfl
/-- Lines that are cut off, one more. -/
theorem wpList_app_cut (w : World) {ops : Array Oper} {rest : List Oper} {o : Oper} {a : Act} {Q : Exit → Act → World → Prop} (hgd : o.guard = none) (s x : Operand)
    (ho : o.op = .call { callee := .builtin .append, args := #[s, x], argTypes := #[56, 56] })
    (base : Nat) (v : Value) (b c : Nat) (R : List (List UInt8)) (j : Nat) (hs : a.eval s = v) (hown : w.ownsRow base 22 1 v j (rwvs b c R j)) (B : Nat) (hx : a.eval x = .slice (some ⟨B, 0, none⟩) 1 1) (hc : w.cell? ⟨B, 0, none⟩ = some (rwv b c R j))
    (hsz : j ≤ 1000000) (hbase : base ≤ w.heap.size)
    (h : ∀ g cap w', w'.ownsRow base 22 1 (.slice (some ⟨g, 0, none⟩) (j + 1) cap) (j + 1) (rwvs b c R (j + 1)) → Below base w w' → wpList Tryz.prog ops Q rest (a.put o.dst (.slice (some ⟨g, 0, none⟩) (j + 1) cap)) w') : wpList Tryz.prog ops Q (o :: rest) a w := by
  obtain ⟨i0, hi, hy0, hy1, hy2⟩ := info_parts infoBts
  refine wpList_append_lies w hgd s x 56 ho base 22 i0 (.slice none 0 0) 1 24 Tryz.underlying56 hi hy0 hy1 hy2 rfl (by decide) v j (rwvs b c R j) hs hown ⟨B, 0, none⟩ 1 1 [rwv b c R j] hx rfl (fun k u hu => ?_) (fun u hu => ?_) (by omega) (by unfold maxLen; omega) (by omega) hbase w.heap.size rfl ?_
  · cases k with
    | zero => simp at hu; subst hu; rw [Go.WideShapes.add_plain]; exact hc
    | succ k => simp at hu
  · simp at hu; subst hu; rfl
  intro g cap w' own grow _ _
  refine h g cap w' ?_ ((Below.refl base w).grown grow hbase (fun k hk => (World.ownsRow.lt hown k hk).1))
  rw [rwvs_succ]
  exact own

set_option maxHeartbeats 2000000 in
theorem twice_walk (most at_ : Int) (A : Option Addr) (n cap : Nat) (w : World) (hN : Nam w) (hm : 0 ≤ most ∧ most ≤ 65535) (h : Nmr w A n) (hn : n ≤ 9223372036854775807) (hat : 0 ≤ at_ ∧ at_ ≤ 255) :
    Calls Tryz.prog 8 #[.int .u16 most, .slice A n cap, .int .u8 at_] w fun r w' => r = .returned (.bool true) ∧ Below w.heap.size w w' := by
  have CP := policy_any most A n cap w hm h hn
  clear h
  go_enter Tryz.func8, Tryz.ntmps8
  go_wp2_with (go_at_call 11; (with_reducible refine CP.mono ?_); rintro r w1 ⟨⟨m, rs, v, rfl, hO, hl, hP⟩, k1⟩; refine stopHere ?_)
  unfold Stop
  obtain ⟨A1, c1, rfl, hc1, hc2, hR1⟩ := hO.rls hP.out.ok
  have h0 := polr_ri hP.out hl
  have m1 := hP.out.m1
  have m2 := hP.out.m2
  have hpos : 1 ≤ rs.length := by obtain ⟨k, rest, e⟩ := hP.out.hd; rw [e]; simp
  have kA := (Below.refl _ w1).alloc (Nat.le_refl _) (.cells #[.int .i64 m, .slice A1 rs.length c1] 28)
  have CR := cprint_any m A1 rs.length c1 rs _ (hN.below (kbq k1 kA)) (hR1.below kA) (by omega) (by omega)
  have hrp := hP.out.ok
  have h0z := Lib.hid h0
  rw [h0, if_pos rfl] at CR
  clear h0 hO
  go_wp2_with (go_at_call 16; (with_reducible refine CR.mono ?_); rintro r w2 ⟨⟨v2, rfl, hB2⟩, k2⟩; refine stopHere ?_)
  unfold Stop
  obtain ⟨A2, c2, rfl, ⟨hc3, hc4⟩, hT, _, hAs⟩ := hB2.form2
  have B2 := Lib.hid (kbq (kbq k1 kA) k2)
  have hN2 := Lib.hid (hN.below B2.out)
  have hplen := prTx_len h0z.out hrp
  have hLL : ∃ LL, prLb m rs = LL := ⟨_, rfl⟩
  have hTA := Lib.hid (twice_at h0z.out hrp)
  have hRE := lnz_end (lbs (prLb m rs)) (line_ok h0z.out hrp)
  have hRl : (lnz (lbs (prLb m rs))).length = rs.length + 1 := by rw [lnz_len, List.length_map, prLb_len]
  have htx : prTx m rs = (lnz (lbs (prLb m rs))).flatten := jn_lnz _
  generalize lnz (lbs (prLb m rs)) = R at hTA hRE hRl htx
  rw [htx] at hTA hT hc3 hplen hB2 ⊢
  clear htx CP CR kA hP hR1 h0z hrp hLL hB2
  have hRE' := Lib.hid hRE
  have hfl : 0 < R.flatten.length := by
    have h1 := stA_le R 0 (by omega)
    have h2 := stA_succ R 0 (by omega)
    have h3 := (hRE 0 (by omega)).1
    omega
  clear hRE
  obtain ⟨b2, o2, e2, hb2, _⟩ := hT.2 hfl
  subst e2
  obtain ⟨-, e3⟩ := hAs _ rfl
  dsimp only at e3
  subst e3
  clear hAs
  have hT2 := Lib.hid hT
  have HRL := Lib.hid hRl
  clear hT
  obtain ⟨N, hN'⟩ : ∃ N, R.length = N := ⟨_, rfl⟩
  have hNN : N = rs.length + 1 := by omega
  have hN1 : 1 ≤ N := by omega
  have hNb : N ≤ 1001 := by omega
  have hTB : Hid (∀ i, i < N → cfgP (R.flatten ++ R.getD i []) = .bad 28 ((N : Int) + 1) (if 1 < i then 6 else 1)) := Lib.hid (fun i hi => by rw [hTA.out i (by omega), hNN]; rfl)
  have hNX := Lib.hid hN'
  have HNw := Lib.hid hN
  clear hTA hRl hNN hN' hN
  have E0 := Below.refl w2.heap.size w2
  have htl : (Hid (∀ i, i < N → stA R i < stA R (i + 1) ∧ stA R (i + 1) ≤ R.flatten.length ∧ stA R (i + 1) - stA R i = (R.getD i []).length)) := Lib.hid (fun i hi => by
    have h1 := stA_succ R i (by rw [hNX.out]; exact hi)
    have h2 := stA_le R i (by rw [hNX.out]; exact hi)
    have h3 := (hRE'.out i (by rw [hNX.out]; exact hi)).1
    omega)
  obtain ⟨tx, hX⟩ : ∃ tx, R.flatten = tx := ⟨_, rfl⟩
  rw [hX] at htl hTB hT2 hc3 hplen hfl ⊢
  have HX := Lib.hid hX
  clear hX
  go_wp2
  go_loopw [10, 11, 12] (fun v e i wr => ∃ j k : Nat, i = .int .i64 (k : Int) ∧ e = .int .i64 ((stA R j : Nat) : Int) ∧ k ≤ tx.length ∧ Hid (CutAt R j k) ∧ wr.ownsRow w2.heap.size 22 1 v j (rwvs b2 c2 R j) ∧ Below w2.heap.size w2 wr) (fun _ _ i _ => tx.length - (intOf i).toNat)
  case atStart => exact ⟨0, 0, rfl, rfl, Nat.zero_le _, Lib.hid (cut_0 hRE'.out), World.ownsRow_nil _ _ _ _, E0⟩
  case round =>
    clear E0
    obtain ⟨j, k, rfl, rfl, hk, hC, hO, hB⟩ := hrel
    have k0 : (0 : Int) ≤ (k : Int) := Int.natCast_nonneg _
    have hT3 := hT2.out.below hB
    by_cases hkn : k < tx.length
    · have k1 : (k : Int) < (tx.length : Int) := by omega
      obtain ⟨hj, hw⟩ := cut_step hRE'.out hC.out (by rw [HX.out]; exact hkn)
      rw [HX.out] at hw
      rw [hNX.out] at hj
      obtain ⟨bb, oo, e', hb', hc⟩ := hT3.2 hfl
      simp only [Option.some.injEq, Addr.mk.injEq, and_true] at e'
      obtain ⟨rfl, rfl⟩ := e'
      have y0 := hc k hkn
      rw [Nat.zero_add] at y0
      obtain ⟨A3, c3, rfl⟩ := Ws.own_slice hO
      have HO := Lib.hid hO
      have HBw := Lib.hid hB
      have hst0 := htl.out j hj
      have hlo := hC.out.lo
      generalize tx.getD k 0 = bt at y0 hw
      rcases hw with ⟨hne, hC'⟩ | ⟨heq, hC', hst⟩
      · have t1 := b10_no hne
        have HC := Lib.hid hC'
        clear hO hB hc hT3 hC hC' hst0 hlo hne
        go_wp2
        go_roundw
        case rel => exact ⟨j, k + 1, by go_num, rfl, by omega, HC.out, HO.out, HBw.out⟩
        case measure => simp [intOf]; omega
      · have t1 := b10_yes heq
        have HC := Lib.hid hC'
        have hst' := Lib.hid hst
        have hS : ∀ W, (Instr.slice 22 (.slice (some ⟨b2, 0, none⟩) tx.length c2) (some (.int .i64 ((stA R j : Nat) : Int))) (some (.int .i64 ((k : Int) + 1))) none).run Tryz.prog W = .ok (.slice (some ⟨b2, stA R j, none⟩) (k + 1 - stA R j) (c2 - stA R j)) W := fun W => by
          have := bslice_mid b2 tx.length c2 (stA R j) (k + 1) (by omega) (by omega) hc3 hc4 W
          rw [show ((k + 1 : Nat) : Int) = (k : Int) + 1 by omega] at this
          exact this
        have hv : Hid (rwv b2 c2 R j = .slice (some ⟨b2, stA R j, none⟩) (k + 1 - stA R j) (c2 - stA R j)) := Lib.hid (by unfold rwv; rw [← hst])
        have kE := (Below.refl _ wr).alloc (Nat.le_refl _) (.cells #[.slice (some ⟨b2, stA R j, none⟩) (k + 1 - stA R j) (c2 - stA R j)] 22)
        have HO2 := Lib.hid (own_under hO kE)
        have HB2 := Lib.hid (hB.alloc hB.size (.cells #[.slice (some ⟨b2, stA R j, none⟩) (k + 1 - stA R j) (c2 - stA R j)] 22))
        have hbs : w2.heap.size ≤ (wr.alloc (.cells #[.slice (some ⟨b2, stA R j, none⟩) (k + 1 - stA R j) (c2 - stA R j)] 22)).heap.size := Nat.le_trans hB.size kE.size
        have hcx : Hid ((wr.alloc (.cells #[.slice (some ⟨b2, stA R j, none⟩) (k + 1 - stA R j) (c2 - stA R j)] 22)).cell? ⟨wr.heap.size, 0, none⟩ = some (rwv b2 c2 R j)) := Lib.hid (by rw [hv.out]; simp)
        clear hO hB hc hT3 hC hC' hst0 hlo heq hst kE HO
        go_wp2_with (at_builtin; refine wpList_app_cut _ rfl _ _ rfl w2.heap.size (.slice A3 j c3) b2 c2 R j rfl HO2.out wr.heap.size rfl hcx.out (by omega) hbs ?_; intro g cp w6 hO6 b6; refine stopHere ?_)
        unfold Stop
        have HO6 := Lib.hid hO6
        have HB6 := Lib.hid (HB2.out.trans b6)
        clear hO6 b6 hcx
        go_wp2
        go_roundw
        case rel => exact ⟨j + 1, k + 1, by go_num, by rw [← hst'.out]; go_num, by omega, HC.out, HO6.out, HB6.out⟩
        case measure => simp [intOf]; omega
    · have k1 : ¬ (k : Int) < (tx.length : Int) := by omega
      have hkk : k = tx.length := by omega
      have hjN : j = N := by
        have h1 := hC.out
        rw [hkk, ← HX.out] at h1
        have := cut_end h1
        rw [hNX.out] at this
        exact this
      rw [hkk]
      rw [hjN] at hO ⊢
      obtain ⟨g3, c3, rfl, hg3, hg3'⟩ := hO.form (by omega)
      have hCap := Ws.own_caps hO
      obtain ⟨I, hI⟩ : ∃ I : Nat, at_.toNat % N = I := ⟨_, rfl⟩
      have hIN : I < N := by rw [← hI]; exact Nat.mod_lt _ (by omega)
      have e1 : IntKind.i64.wrap at_ = at_ := IntWalk.i64_in _ (by omega)
      have e2 : at_.tmod (N : Int) = (I : Int) := by
        rw [Int.tmod_eq_emod_of_nonneg hat.1, ← hI]
        have : at_ = (at_.toNat : Int) := by omega
        conv => lhs; rw [this]
        rfl
      have e3 : IntKind.i64.wrap (I : Int) = (I : Int) := IntWalk.i64_in _ (by omega)
      have n0 : ((N : Int) == 0) = false := by rw [← Bool.not_eq_true, beq_iff_eq]; omega
      have n1 : ¬ (N : Int) = 0 := by omega
      have I0 : (0 : Int) ≤ (I : Int) := Int.natCast_nonneg _
      have I1 : (I : Int) < (N : Int) := by omega
      have rc := hO.cellAt I (by omega)
      rw [rwvs_at b2 c2 R hIN] at rc
      obtain ⟨ht1, ht2, ht3⟩ := htl.out I hIN
      have hTC := Lib.hid (hTB.out I hIN)
      have hTL := Lib.hid (fun (W : World) (g : Below w2.heap.size w2 W) => txt_line (by rw [HX.out]; exact hT2.out.below g) I (by rw [hNX.out]; exact hIN))
      have hRlen : Hid ((R.getD I []).length = stA R (I + 1) - stA R I) := Lib.hid ht3.symm
      obtain ⟨CL, hCL⟩ : ∃ CL : Int, (if 1 < I then (6 : Int) else 1) = CL := ⟨_, rfl⟩
      rw [hCL] at hTC
      unfold rwv at rc
      generalize R.getD I [] = ro at hTC hTL hRlen
      generalize hst : stA R (I + 1) - stA R I = ll at *
      generalize stA R I = sI at *
      have hll : ll ≤ 1000000 := by omega
      have HT3 := Lib.hid hT3
      have HB := Lib.hid hB
      have HO := Lib.hid hO
      have bsz := hB.size
      clear hTB htl hO hB hT3 hC hkk hjN hRE' hI hst ht1 ht3 ht2
      go_wp2_with (at_builtin; refine Ws.wpList_app_bytes _ rfl _ _ rfl wr.heap.size (.slice none 0 0) [] rfl (Ws.BRow.nil _ _) (some ⟨b2, 0, none⟩) tx.length c2 tx rfl HT3.out (fun h => nomatch h) (fun ad h => by cases h; rfl) (by simp; omega) (Nat.le_refl _) ?_; intro v5 w5 hO5 gw5; obtain ⟨A5, c5, rfl, ⟨hc5, hc5'⟩, _⟩ := hO5.form2; refine stopHere ?_)
      unfold Stop
      rw [List.nil_append] at hO5 hc5
      try rw [List.nil_append]
      have k5 : Below wr.heap.size wr w5 := (Below.refl _ wr).grown gw5 (Nat.le_refl _) (fun b hb => by cases hb)
      replace rc := celln k5 rc
      have hT5 := Lib.hid (hTL.out w5 (kbq HB.out k5))
      have HO5 := Lib.hid hO5
      have hb5 : wr.heap.size ≤ w5.heap.size := k5.size
      have HK5 := Lib.hid k5
      clear hO5 gw5 k5
      go_wp2_with (at_builtin; refine Ws.wpList_app_bytes _ rfl _ _ rfl wr.heap.size (.slice A5 tx.length c5) tx rfl HO5.out (some ⟨b2, sI, none⟩) ll (c2 - sI) ro rfl hT5.out (fun h => nomatch h) (fun ad h => by cases h; rfl) (by omega) hb5 ?_; intro v6 w6 hO6 gw6; obtain ⟨A6, c6, rfl, ⟨hc6, hc6'⟩, hT6, _⟩ := hO6.form2; refine stopHere ?_)
      unfold Stop
      have k6 : Below wr.heap.size wr w6 := HK5.out.grown gw6 hb5 (fun b hb => (World.ownsRow.lt HO5.out b hb).1)
      have B6 := kbq B2.out (kbq HB.out k6)
      have hlen6 : (tx ++ ro).length ≤ 3000000 := by rw [List.length_append, hRlen.out]; omega
      have hle : (tx ++ ro).length = tx.length + ro.length := List.length_append
      have C1 := cparse_any A6 (tx.length + ro.length) c6 (tx ++ ro) w6 (hN2.out.below (kbq HB.out k6)) (by rw [← hle]; exact hT6) (by omega) hc6'
      rw [hTC.out] at C1
      dsimp only at C1
      clear hle hlen6 hc6
      have B6 := Lib.hid B6
      clear hO6 gw6 hT6 k6 rc hT5 hTL HO HO5 HK5 HB HT3 hTC
      go_wp2_with (go_at_call 17; (with_reducible refine C1.mono ?_); rintro r w8 ⟨⟨A8, rfl, _⟩, k8⟩; refine stopHere ?_)
      unfold Stop
      have aA := (Below.refl _ w8).alloc (Nat.le_refl _) (.cells #[.int .i64 0, .slice A8 0 0] 28)
      have aB := (Below.refl _ (w8.alloc (.cells #[.int .i64 0, .slice A8 0 0] 28))).alloc (Nat.le_refl _) (.cells #[.int .i64 ((N : Int) + 1), .int .i64 CL] 44)
      have ab := kbq aA aB
      have q0 : ((w8.alloc (.cells #[.int .i64 0, .slice A8 0 0] 28)).alloc (.cells #[.int .i64 ((N : Int) + 1), .int .i64 CL] 44)).cell? ⟨w8.heap.size + 1, 0, none⟩ = some (.int .i64 ((N : Int) + 1)) := by simp
      have q1 : ((w8.alloc (.cells #[.int .i64 0, .slice A8 0 0] 28)).alloc (.cells #[.int .i64 ((N : Int) + 1), .int .i64 CL] 44)).cell? ⟨w8.heap.size + 1, 1, none⟩ = some (.int .i64 CL) := by simp
      have B9 := Lib.hid (kbq B6.out (kbq k8 ab))
      have hwr : IntKind.i64.wrap ((N : Int) + 1) = (N : Int) + 1 := IntWalk.i64_in _ (by omega)
      clear C1 aA aB ab k8
      by_cases cI : 1 < I
      · have cI' : (1 : Int) < (I : Int) := by omega
        rw [if_pos cI] at hCL
        subst hCL
        go_wp2_with fail
        generalize hW9 : (w8.alloc (.cells #[.int .i64 0, .slice A8 0 0] 28)).alloc (.cells #[.int .i64 ((N : Int) + 1), .int .i64 6] 44) = W9 at *
        clear hW9
        have KN := known_any W9 (HNw.out.below B9.out)
        go_wp2_with (go_at_call 10; (with_reducible refine KN.mono ?_); rintro r w10 ⟨rfl, k10⟩; replace q0 := celln k10 q0; replace q1 := celln k10 q1; have BZ := kbq B9.out k10)
        go_ret
        exact ⟨rfl, BZ⟩
      · have cI' : ¬ (1 : Int) < (I : Int) := by omega
        rw [if_neg cI] at hCL
        subst hCL
        go_wp2_with fail
        generalize hW9 : (w8.alloc (.cells #[.int .i64 0, .slice A8 0 0] 28)).alloc (.cells #[.int .i64 ((N : Int) + 1), .int .i64 1] 44) = W9 at *
        clear hW9
        have KN := known_any W9 (HNw.out.below B9.out)
        go_wp2_with (go_at_call 10; (with_reducible refine KN.mono ?_); rintro r w10 ⟨rfl, k10⟩; replace q0 := celln k10 q0; replace q1 := celln k10 q1; have BZ := kbq B9.out k10)
        go_ret
        exact ⟨rfl, BZ⟩
end Go.Proofs.YtckaiejbgnhgcaaGreatDoor.Wd
namespace Go.Proofs.YtckaiejbgnhgcaaGreatDoor.Wd
open Go Go.RowKit
set_option linter.unusedVariables false
set_option maxRecDepth 100000
/-- A prefix of a number. -/
def kP (k : Nat) : ByteArray := str (107 :: Lib.decDigits k)
abbrev kR1 (E K : Int) (k : Nat) : Rl := ⟨kP k, E, 1, K⟩
/-- So many rules, and the default one ahead of them. -/
def mostL (E K : Int) (k : Nat) : List Rl := ⟨nob, 1, 1, 1⟩ :: (List.range k).map (kR1 E K)
theorem mostL_len (E K : Int) (k : Nat) : (mostL E K k).length = k + 1 := by simp [mostL]
theorem mostL_succ (E K : Int) (k : Nat) : mostL E K (k + 1) = mostL E K k ++ [kR1 E K k] := by simp [mostL, List.range_succ]
theorem kP_lb (k : Nat) : lb (kP k) = 107 :: Lib.decDigits k := by unfold lb kP; rw [str_data]
theorem kP_len (k : Nat) (h : k < 1000) : 1 ≤ (lb (kP k)).length ∧ (lb (kP k)).length ≤ 21 := by
  have := dec_len20 k (by omega)
  rw [kP_lb, List.length_cons]
  omega
theorem kP_size (k : Nat) (h : k < 1000) : 1 ≤ (kP k).size ∧ (kP k).size ≤ 21 := by
  have := kP_len k h
  rw [list_size] at this
  exact this
theorem dig_inj {i j : Nat} (hi : i < 18446744073709551616) (hj : j < 18446744073709551616) (h : Lib.decDigits i = Lib.decDigits j) : i = j := by
  have h1 := (dig_pa i hi).1
  have h2 := (dig_pa j hj).1
  unfold dig at h1 h2
  rw [h, h2] at h1
  omega
theorem kP_inj {i j : Nat} (hi : i < 1000) (hj : j < 1000) (h : kP i = kP j) : i = j := by
  have e : lb (kP i) = lb (kP j) := by rw [h]
  rw [kP_lb, kP_lb] at e
  exact dig_inj (by omega) (by omega) (List.cons.inj e).2
theorem dig_seen (n : Nat) : ∀ b ∈ Lib.decDigits n, visB (b.toNat : Int) = true := by
  have hp := (plainB_iff _).1 (plain_dec n)
  intro b hb
  have := List.all_eq_true.1 hp.2.2 b hb
  unfold digB at this
  simp only [Bool.and_eq_true, decide_eq_true_eq] at this
  exact decide_eq_true (by omega)
theorem kP_pf (k : Nat) (h : k < 1000) : pfB (kP k) = true := by
  have hl := kP_len k h
  unfold pfB rtB
  rw [Bool.or_eq_true, Bool.and_eq_true]
  refine .inr ⟨decide_eq_true (by omega), List.all_eq_true.2 fun b hb => ?_⟩
  rw [kP_lb] at hb
  rcases List.mem_cons.1 hb with rfl | hb
  · decide
  · exact dig_seen k b hb
theorem er_of {p : ByteArray} {E K : Int} (hp : pfB p = true) (hE : 1 ≤ E ∧ E ≤ 4294967296) (hK : 1 ≤ K ∧ K ≤ 3) : (⟨p, E, 1, K⟩ : Rl).er = 0 := by
  show ruE p E 1 K = 0
  have hs : sat (E * 1) = E := by unfold sat; rw [Int.mul_one, if_pos (by omega)]
  have hk : isK K = true := decide_eq_true hK
  rw [ru_is, if_neg (by rw [hp]; decide), if_neg (by omega), if_neg (by omega), hs, if_neg (by omega), if_neg (by rw [hk]; decide)]
theorem most_mem {E K : Int} {k : Nat} {r : Rl} (h : r ∈ mostL E K k) : r = ⟨nob, 1, 1, 1⟩ ∨ ∃ i, i < k ∧ r = kR1 E K i := by
  unfold mostL at h
  rcases List.mem_cons.1 h with h | h
  · exact .inl h
  · obtain ⟨i, hi, e⟩ := List.mem_map.1 h
    exact .inr ⟨i, List.mem_range.1 hi, e.symm⟩
theorem most_ok {E K : Int} {k : Nat} (hk : k ≤ 999) (hE : 1 ≤ E ∧ E ≤ 4294967296) (hK : 1 ≤ K ∧ K ≤ 3) : ∀ r ∈ mostL E K k, Okr r := by
  intro r hr
  rcases most_mem hr with rfl | ⟨i, hi, rfl⟩
  · exact ⟨by decide, by unfold U; decide, by unfold U; decide, by decide, by decide⟩
  · have := kP_size i (by omega)
    exact ⟨by show (kP i).size ≤ _; omega, by show U E; unfold U; omega, by show U 1; unfold U; decide, by show 0 ≤ K; omega, by show K ≤ 255; omega⟩
theorem most_er {E K : Int} {k : Nat} (hk : k ≤ 999) (hE : 1 ≤ E ∧ E ≤ 4294967296) (hK : 1 ≤ K ∧ K ≤ 3) : ∀ r ∈ mostL E K k, r.er = 0 := by
  intro r hr
  rcases most_mem hr with rfl | ⟨i, hi, rfl⟩
  · exact er_of (by decide) (by decide) (by decide)
  · exact er_of (kP_pf i (by omega)) hE hK
theorem most_nd (E K : Int) (k : Nat) (hk : k ≤ 999) : ((mostL E K k).map Rl.p).Nodup := by
  unfold mostL
  rw [List.map_cons, List.map_map, List.nodup_cons]
  refine ⟨fun h => ?_, ?_⟩
  · obtain ⟨i, hi, e⟩ := List.mem_map.1 h
    have := kP_size i (by have := List.mem_range.1 hi; omega)
    have e2 : kP i = nob := e
    rw [e2] at this
    exact absurd this.1 (by decide)
  · rw [List.Nodup, List.pairwise_map]
    have := List.nodup_range (n := k)
    refine List.Pairwise.imp_of_mem (fun {a b} ha hb hne e => hne ?_) this
    exact kP_inj (by have := List.mem_range.1 ha; omega) (by have := List.mem_range.1 hb; omega) e
theorem fr_none : ∀ {rs : List Rl}, (∀ r ∈ rs, r.er = 0) → frE rs = 0
  | [], _ => rfl
  | r :: l, h => by
    unfold frE
    rw [if_neg (by rw [h r List.mem_cons_self]; decide)]
    exact fr_none fun x hx => h x (List.mem_cons_of_mem _ hx)
theorem nodup_dst {rs : List Rl} (h : (rs.map Rl.p).Nodup) : Dst rs := by
  intro i j hij hj e
  have hi : i < rs.length := by omega
  rw [fn_at hi, fn_at hj] at e
  have := List.pairwise_iff_getElem.1 h i j (by simpa using hi) (by simpa using hj) hij
  exact this (by simpa using e)
theorem most_ri {E K : Int} (hE : 1 ≤ E ∧ E ≤ 4294967296) (hK : 1 ≤ K ∧ K ≤ 3) : riE 5 (mostL E K 999) = 0 := by
  have hh : hasB (mostL E K 999) nob = true := has_mem (acc := mostL E K 999) (r := ⟨nob, 1, 1, 1⟩) List.mem_cons_self
  have hl := mostL_len E K 999
  have hf := fr_none (most_er (k := 999) (by omega) hE hK)
  have hs := (ordL_so (mostL E K 999)).2 (nodup_dst (most_nd E K 999 (by omega)))
  generalize mostL E K 999 = rs at *
  unfold riE
  rw [if_neg (by omega), if_neg (by omega), hf, if_neg (by simp), if_neg (by rw [hh]; decide), if_neg (by rw [hs]; decide)]
theorem many_ri (E K : Int) (r : Rl) : riE 5 (mostL E K 999 ++ [r]) = 32 := by
  have hl := mostL_len E K 999
  generalize mostL E K 999 = rs at *
  unfold riE
  rw [if_neg (by omega), if_pos (by rw [List.length_append, hl]; simp)]
/-- The line that is one too many. -/
def zB : List UInt8 := [114, 117, 108, 101, 32, 122, 32, 49, 32, 49, 32, 103, 99, 114, 97]
abbrev zR : Rl := ⟨⟨#[122]⟩, 1, 1, 1⟩
theorem lnA_many {m : Int} {acc : List Rl} {r : Rl} (hk : Okr r) (he : r.er = 0) (hn : hasB acc r.p = false) (hl : acc.length = 1000) : lnA m acc (rlW r) = .bad 32 0 := by
  unfold lnA
  rw [if_neg (rl_head hk he)]
  unfold lnR
  rw [rl_back hk he, if_neg (by simp), if_neg (by simp [hn]), if_pos (by omega)]
theorem z_ok : Okr zR := ⟨by decide, by unfold U; decide, by unfold U; decide, by decide, by decide⟩
theorem z_er : zR.er = 0 := er_of (by decide) (by decide) (by decide)
theorem z_line : Ws.jn (lbs [rlW zR]) = zB ++ [10] := by
  have d1 : dig 1 = ⟨#[49]⟩ := by unfold dig; rw [dec_small (by omega)]; rfl
  rw [rlW_is z_ok z_er, if_neg (by decide)]
  show Ws.jn (lbs [[rulS, zR.p, dig 1, dig 1, namS 1]]) = _
  rw [d1]
  rfl
theorem cfgP_nl (q : List UInt8) (h : q.length + 1 ≤ 1048576) : cfgP (q ++ [10]) = cfgP q := by
  unfold cfgP
  rw [Ws.spl_nl q h]
theorem many_cfg {E K : Int} (hE : 1 ≤ E ∧ E ≤ 4294967296) (hK : 1 ≤ K ∧ K ≤ 3) : cfgP (prTx 5 (mostL E K 999) ++ zB) = .bad 32 1002 1 := by
  have h0 := most_ri hE hK
  have ok := most_ok (k := 999) (by omega) hE hK
  have hl := prTx_len h0 ok
  have hlen := mostL_len E K 999
  have hz : zB.length = 15 := rfl
  have hn : hasB (ordL (mostL E K 999)) zR.p = false := by
    refine has_of fun j hj e => ?_
    rcases most_mem ((ordL_mem _ _).1 (fn_mem hj)) with h | ⟨i, hi, h⟩
    · rw [h] at e
      have := congrArg ByteArray.size e
      exact absurd this (by decide)
    · rw [h] at e
      have e2 := congrArg lb (show kP i = zR.p from e)
      rw [kP_lb] at e2
      have := (List.cons.inj (show 107 :: Lib.decDigits i = 122 :: [] from e2)).1
      exact absurd this (by decide)
  rw [← cfgP_nl _ (by rw [List.length_append]; omega), List.append_assoc, ← z_line]
  rw [print_more h0 ok [rlW zR] (fun row hr => ?_) (by rw [z_line]; simp only [List.length_append, List.length_cons, List.length_nil]; omega)]
  · show psL 5 (ordL (mostL E K 999)) (Ws.wpos ((mostL E K 999).length + 2) 1 false ((rlW zR).map lb) :: []) = _
    rw [psL, txs_wpos, lnA_many z_ok z_er hn (by rw [ordL_length]; exact hlen), if_pos (by show (32 : Int) ≠ 0; decide), hlen]
    rfl
  · simp only [lbs, List.map_cons, List.map_nil, List.mem_cons, List.not_mem_nil, or_false] at hr
    subst hr
    exact rl_line z_ok z_er
end Go.Proofs.YtckaiejbgnhgcaaGreatDoor.Wd
namespace Go.Proofs.YtckaiejbgnhgcaaGreatDoor.Wd
open Go Go.RowKit
set_option linter.unusedVariables false
set_option maxRecDepth 100000
/-- A policy in a block of its own. -/
structure PB (w : World) (P : Nat) (m : Int) (v : Value) : Prop where
  p0 : w.cell? ⟨P, 0, none⟩ = some (.int .i64 m)
  p1 : w.cell? ⟨P, 1, none⟩ = some v
  f0 : w.frozen? ⟨P, 0, none⟩ = false
  f1 : w.frozen? ⟨P, 1, none⟩ = false
theorem PB.lt {w : World} {P : Nat} {m : Int} {v : Value} (h : PB w P m v) : P < w.heap.size := cell_lt h.p0
theorem PB.below {w w' : World} {P : Nat} {m : Int} {v : Value} (h : PB w P m v) (g : Below w.heap.size w w') : PB w' P m v :=
  ⟨celln g h.p0, celln g h.p1, (g.frozen (p := ⟨P, 0, none⟩) h.lt).trans h.f0, (g.frozen (p := ⟨P, 1, none⟩) h.lt).trans h.f1⟩
theorem PB.grown {w w' : World} {P : Nat} {m : Int} {v : Value} (h : PB w P m v) {row : Option Nat} (g : w.grownBy w' row) (hne : row ≠ some P) : PB w' P m v :=
  ⟨(g.cell_far ⟨P, 0, none⟩ h.lt (fun e => hne e.symm)).trans h.p0, (g.cell_far ⟨P, 1, none⟩ h.lt (fun e => hne e.symm)).trans h.p1, (g.frozen_far ⟨P, 0, none⟩ h.lt (fun e => hne e.symm)).trans h.f0, (g.frozen_far ⟨P, 1, none⟩ h.lt (fun e => hne e.symm)).trans h.f1⟩
theorem PB.put {w : World} {P : Nat} {m : Int} {v : Value} (h : PB w P m v) (u : Value) : PB (w.setCell ⟨P, 1, none⟩ u) P m u :=
  ⟨(cs_other _ _ _ _ _ _ (.inr (by omega))).trans h.p0, World.cell?_setCell_same _ _ _ h.p1, (World.frozen?_setCell _ _ _ _).trans h.f0, (World.frozen?_setCell _ _ _ _).trans h.f1⟩
theorem PB.new (w : World) (m : Int) (v : Value) : PB (w.alloc (.cells #[.int .i64 m, v] 28)) w.heap.size m v :=
  ⟨by simp, by simp, by simp, by simp⟩
theorem k_add (l : List UInt8) (h : l.length ≤ 20) (W : World) : (Op.stringOp .add ⟨#[107]⟩ (str l)).run Tryz.prog W = .ok (.string (str (107 :: l))) W := by
  have e : (⟨#[107]⟩ : ByteArray) = str [107] := rfl
  rw [e, run_string_add_sum W _ _ (by rw [str_size, str_size]; simp; omega), str_append]
  rfl

theorem step_call_same {P : Program} {ops : Array Oper} {o : Oper} {a : Act} {w : World} {K : Act → World → Prop} {Q : Exit → Act → World → Prop} {E : Prop}
    (hg : o.guard = none) (f : FuncId) (fn : Func) (hfn : P.funcs[f]? = some fn) (hnm : (fn.name == "runtime.NumGoroutine") = false) (hb : fn.body.isNone = false) (s : Operand) (t : TypeId) (hop : o.op = Op.call { callee := Callee.value (Operand.func f), args := #[s], argTypes := #[t] })
    (v r : Value) (hx : a.eval s = v) (hC : Calls P f #[v] w fun e w' => e = .returned r ∧ w = w') (hK : K (a.put o.dst r) w) :
    if Region.wanted o (yielded ops a.tmps) = true then Oper.wp P o a w K Q else E := by
  have hw : Region.wanted o (yielded ops a.tmps) = true := by simp [Region.wanted, hg]
  rw [if_pos hw]
  unfold Oper.wp
  have e : (execOp a.eval o).run P w = .ok (.enter f #[v]) w := by
    have hf : a.eval (Operand.func f) = Value.func (Fn.func f) #[] #[] := rfl
    have h1 : ¬ fn.name = "runtime.NumGoroutine" := by simpa using hnm
    have h2 : ¬ fn.body = none := by intro h; rw [h] at hb; cases hb
    simp [execOp, hop, resolve, invoke, hx, hf, Deferred.ofValue, callFunc, hfn, h1, h2]
  rw [e]
  refine hC.mono ?_
  rintro e w' ⟨rfl, rfl⟩
  exact hK

/-- A row has grown, all else of a world is as it was. -/
structure Kpt (w0 : World) (row : Option Nat) (v : Value) (w : World) : Prop where
  size : w0.heap.size ≤ w.heap.size
  block : ∀ b, b < w0.heap.size → some b ≠ row → w.heap[b]? = w0.heap[b]?
  own : v.ownBlock = row ∨ ∀ g, v.ownBlock = some g → w0.heap.size ≤ g
theorem Kpt.refl (w : World) (v : Value) : Kpt w v.ownBlock v w := ⟨Nat.le_refl _, fun _ _ _ => rfl, .inl rfl⟩
theorem Kpt.step {w0 w w' : World} {row : Option Nat} {v : Value} (h : Kpt w0 row v w) {o : Obj} {g n cap : Nat} (gr : (w.alloc o).grownBy w' v.ownBlock) (hg : v.ownBlock = some g ∨ g = (w.alloc o).heap.size) : Kpt w0 row (.slice (some ⟨g, 0, none⟩) n cap) w' := by
  have hsz : (w.alloc o).heap.size = w.heap.size + 1 := by simp
  refine ⟨Nat.le_trans h.size (Nat.le_trans (by omega) gr.size), fun b hb hne => ?_, ?_⟩
  · have hbw : b < w.heap.size := Nat.lt_of_lt_of_le hb h.size
    have h1 : some b ≠ v.ownBlock := by
      intro e
      rcases h.own with c | c
      · exact hne (e.trans c)
      · have := c b e.symm; omega
    exact ((gr.block b (by omega) h1).trans (((Below.refl _ w).alloc (Nat.le_refl _) o).block b hbw)).trans (h.block b hb hne)
  · show some g = row ∨ ∀ g', some g = some g' → w0.heap.size ≤ g'
    rcases hg with e | e
    · rcases h.own with c | c
      · exact .inl (e.symm.trans c)
      · exact .inr (fun g' e2 => by injection e2 with e2; subst e2; exact c g e)
    · exact .inr (fun g' e2 => by injection e2 with e2; have := h.size; omega)
theorem Kpt.cell {w0 w : World} {row : Option Nat} {v : Value} (h : Kpt w0 row v w) {b o : Nat} {u : Value} (c : w0.cell? ⟨b, o, none⟩ = some u) (hne : some b ≠ row) : w.cell? ⟨b, o, none⟩ = some u := (World.cell?_of_block (h.block b (cell_lt c) hne)).trans c
/-- One byte more, and where the row lies. -/
theorem wpList_app_byte (w : World) {ops : Array Oper} {rest : List Oper} {o : Oper} {a : Act} {Q : Exit → Act → World → Prop} (hgd : o.guard = none) (s x : Operand)
    (ho : o.op = .call { callee := .builtin .append, args := #[s, x], argTypes := #[22, 22] })
    (base : Nat) (v : Value) (acc : List UInt8) (hs : a.eval s = v) (hown : Ws.BRow w base v acc) (B : Nat) (b : UInt8) (hx : a.eval x = .slice (some ⟨B, 0, none⟩) 1 1) (hc : w.cell? ⟨B, 0, none⟩ = some (.int .u8 (b.toNat : Int)))
    (hsz : acc.length ≤ 1099511627776) (hbase : base ≤ w.heap.size)
    (h : ∀ g cap w', Ws.BRow w' base (.slice (some ⟨g, 0, none⟩) (acc.length + 1) cap) (acc ++ [b]) → w.grownBy w' v.ownBlock → (v.ownBlock = some g ∨ g = w.heap.size) → Below base w w' → wpList Tryz.prog ops Q rest (a.put o.dst (.slice (some ⟨g, 0, none⟩) (acc.length + 1) cap)) w') : wpList Tryz.prog ops Q (o :: rest) a w := by
  obtain ⟨i0, hi, hy0, hy1, hy2⟩ := info_parts Ws.infoByte
  refine wpList_append_lies w hgd s x 22 ho base 5 i0 (.int .u8 0) 1 1 Tryz.underlying22 hi hy0 hy1 hy2 rfl (by decide) v acc.length (Ws.bvs acc) hs hown ⟨B, 0, none⟩ 1 1 [.int .u8 (b.toNat : Int)] hx rfl (fun k u hu => ?_) (fun u hu => ?_) (by omega) (by unfold maxLen; omega) (by omega) hbase w.heap.size rfl ?_
  · cases k with
    | zero => simp at hu; subst hu; rw [Go.WideShapes.add_plain]; exact hc
    | succ k => simp at hu
  · simp at hu; subst hu; rfl
  intro g cap w' own grow hg _
  refine h g cap w' ?_ grow hg ((Below.refl base w).grown grow hbase (fun k hk => (World.ownsRow.lt hown k hk).1))
  unfold Ws.BRow
  rw [Ws.bvs_append, List.length_append]
  exact own
theorem zB_at (i : Nat) (h : i < 15) : zB.take (i + 1) = zB.take i ++ [zB.getD i 0] := by
  have h2 : i < zB.length := h
  rw [List.take_succ_eq_append_getElem h2, List.getD_eq_getElem?_getD, List.getElem?_eq_getElem h2]
  rfl

set_option maxHeartbeats 4000000 in
theorem most_walk (every kind : Int) (w : World) (hN : Nam w) (hE : 0 ≤ every ∧ every ≤ 4294967295) (hK : 0 ≤ kind ∧ kind ≤ 255) :
    Calls Tryz.prog 7 #[.int .u32 every, .int .u8 kind] w fun r w' => r = .returned (.bool true) ∧ Below w.heap.size w w' := by
  have O0 : ORls (w.alloc (.cells #[.string ⟨#[]⟩, .int .u64 1, .int .u64 1, .int .u8 1] 37)) w.heap.size (.slice (some ⟨w.heap.size, 0, none⟩) 1 1) [⟨nob, 1, 1, 1⟩] := World.ownsRow_lit (base := w.heap.size) (e := 37) (size := 4) w #[.string ⟨#[]⟩, .int .u64 1, .int .u64 1, .int .u8 1] 1 (Nat.le_refl _) (by unfold maxLen; omega) rfl
  have kA := (Below.refl _ w).alloc (Nat.le_refl _) (.cells #[.string ⟨#[]⟩, .int .u64 1, .int .u64 1, .int .u8 1] 37)
  have kB := (Below.refl _ (w.alloc (.cells #[.string ⟨#[]⟩, .int .u64 1, .int .u64 1, .int .u8 1] 37))).alloc (Nat.le_refl _) (.cells #[.int .i64 5, .slice (some ⟨w.heap.size, 0, none⟩) 1 1] 28)
  have hs : (w.alloc (.cells #[.string ⟨#[]⟩, .int .u64 1, .int .u64 1, .int .u8 1] 37)).heap.size = w.heap.size + 1 := by simp
  have P1 := PB.new (w.alloc (.cells #[.string ⟨#[]⟩, .int .u64 1, .int .u64 1, .int .u8 1] 37)) 5 (.slice (some ⟨w.heap.size, 0, none⟩) 1 1)
  have O1 := ownR_below O0 kB
  have B1 := kbq kA kB
  rw [hs] at P1
  clear hs kA kB O0
  have ee : IntKind.u64.wrap every = every := IntWalk.u64_in _ (by omega)
  have ee1 : IntKind.u64.wrap (1 + every) = 1 + every := IntWalk.u64_in _ (by omega)
  have e3 : kind.tmod 3 = kind % 3 := Int.tmod_eq_emod_of_nonneg hK.1
  have e31 : IntKind.u8.wrap (1 + kind % 3) = 1 + kind % 3 := IntWalk.u8_in _ (by omega)
  have e32 : IntKind.u8.wrap (kind % 3) = kind % 3 := IntWalk.u8_in _ (by omega)
  have hE1 : 1 ≤ 1 + every ∧ 1 + every ≤ 4294967296 := by omega
  have hK1 : 1 ≤ 1 + kind % 3 ∧ 1 + kind % 3 ≤ 3 := by omega
  go_enter Tryz.func7, Tryz.ntmps7
  go_wp2
  generalize hW : (w.alloc (.cells #[.string ⟨#[]⟩, .int .u64 1, .int .u64 1, .int .u8 1] 37)).alloc (.cells #[.int .i64 5, .slice (some ⟨w.heap.size, 0, none⟩) 1 1] 28) = W1 at *
  have hg : (Value.slice (some ⟨w.heap.size, 0, none⟩) 1 1).ownBlock ≠ some (w.heap.size + 1) := by simp [Value.ownBlock]
  have hr0 : ORls W1 w.heap.size (.slice (some ⟨w.heap.size, 0, none⟩) 1 1) (mostL (1 + every) (1 + kind % 3) 0) := O1
  generalize hH : w.heap.size = H0 at *
  clear hW O1
  go_loopw [6] (fun i wr => ∃ (k : Nat) (v : Value), i = .int .i64 (k : Int) ∧ k ≤ 999 ∧ PB wr (H0 + 1) 5 v ∧ ORls wr H0 v (mostL (1 + every) (1 + kind % 3) k) ∧ v.ownBlock ≠ some (H0 + 1) ∧ Below H0 w wr) (fun i _ => 999 - (intOf i).toNat)
  case atStart => exact ⟨0, _, rfl, by omega, P1, hr0, hg, B1⟩
  case round =>
    clear P1 hr0 hg B1
    obtain ⟨k, v, rfl, hk, hP, hO, hne, hB⟩ := hrel
    have i0 : (0 : Int) ≤ (k : Int) := Int.natCast_nonneg _
    obtain ⟨A3, c3, rfl, hc1, hc2, hRl⟩ := hO.rls (most_ok hk hE1 hK1)
    have hlen := mostL_len (1 + every) (1 + kind % 3) k
    by_cases hkn : k < 999
    · have i1 : (k : Int) < 999 := by omega
      rw [hlen] at hP hne
      have OW : wr.ownsRow H0 37 4 (.slice A3 (k + 1) c3) (k + 1) (flatR (mostL (1 + every) (1 + kind % 3) k)) := by
        have := hO
        unfold ORls at this
        rw [hlen] at this
        exact this
      have OW := Lib.hid OW
      have MG := Lib.hid (fun (w0 w' : World) (k0 : Below wr.heap.size wr w0) (g : w0.grownBy w' (Value.slice A3 (k + 1) c3).ownBlock) => (hP.below k0).grown g hne)
      have hH0 : H0 + 1 < wr.heap.size := hP.lt
      have hH1 : H0 ≤ wr.heap.size := by omega
      have hadd := k_add (Lib.decDigits k) (dec_len20 k (by omega))
      have hw : IntKind.u64.wrap (k : Int) = (k : Int) := IntWalk.u64_in _ (by omega)
      have k5 : Below wr.heap.size wr wr := Below.refl _ _
      have NE := Lib.hid hne
      have HB := Lib.hid hB
      have HLT := Lib.hid (fun b hb => (World.ownsRow.lt OW.out b hb).1)
      have HSU := Lib.hid (mostL_succ (1 + every) (1 + kind % 3) k)
      have HLN := Lib.hid hlen
      obtain ⟨p0, p1, f0, f1⟩ := hP
      obtain ⟨i0', hi, hy0, hy1, hy2⟩ := info_parts zeroRule
      clear hO hc1 hRl hne hlen hB
      go_wp2_with fail
      go_region_law (first
        | (refine step_append_lies _ (by rfl) _ _ 26 (by rfl) H0 37 i0' (.agg #[.string ⟨#[]⟩, .int .u64 0, .int .u64 0, .int .u8 0]) 4 40 Tryz.underlying26 hi hy0 hy1 hy2 rfl (by decide) (.slice A3 (k + 1) c3) (k + 1) (flatR (mostL (1 + every) (1 + kind % 3) k)) (by rfl) (by first | exact OW.out.alloc _ | exact (OW.out.alloc _).drew | exact OW.out.drew.alloc _) ⟨wr.heap.size, 0, none⟩ 1 1 [.string (str (107 :: Lib.decDigits k)), .int .u64 (1 + every), .int .u64 1, .int .u8 (1 + kind % 3)] (by rfl) (by rfl) (by first | exact new_four _ _ _ _ _ | exact fun j u hu => new_four wr _ _ _ _ j u hu) (by simp [Value.oneCell']) (by decide) (by unfold maxLen; omega) (by omega) (by simp; omega) (wr.heap.size + 1) (by simp) ?_; intro g cp w6 own6 grow6 at6 lt6; obtain ⟨q0, q1, q2, q3⟩ := MG.out _ _ (by first | with_reducible exact k5.alloc (Nat.le_refl _) _ | with_reducible exact (k5.alloc (Nat.le_refl _) _).drew | with_reducible exact k5.drew.alloc (Nat.le_refl _) _) grow6; have hB6 := (by first | with_reducible exact (HB.out.alloc hH1 _).grown grow6 (by simp; omega) HLT.out | with_reducible exact (HB.out.alloc hH1 _).drew.grown grow6 (by simp; omega) HLT.out | with_reducible exact (HB.out.drew.alloc hH1 _).grown grow6 (by simp; omega) HLT.out))
        | (go_simp; go_at_call 21; ((with_reducible refine (refPrint_any k _ (by omega)).mono ?_); rintro r w2 ⟨rfl, rfl⟩)))
      all_goals
        have hg6 : g ≠ H0 + 1 := by
          rcases at6 with e | e
          · intro c; exact NE.out (by rw [e, c])
          · omega
        have hg7 : (Value.slice (some ⟨g, 0, none⟩) (k + 1 + 1) cp).ownBlock ≠ some (H0 + 1) := by simp [Value.ownBlock]; omega
        have hPZ := Lib.hid (PB.put ⟨q0, q1, q2, q3⟩ (.slice (some ⟨g, 0, none⟩) (k + 1 + 1) cp))
        have hOZ : ORls (w6.setCell ⟨H0 + 1, 1, none⟩ (.slice (some ⟨g, 0, none⟩) (k + 1 + 1) cp)) H0 (.slice (some ⟨g, 0, none⟩) (k + 1 + 1) cp) (mostL (1 + every) (1 + kind % 3) (k + 1)) := by
          rw [HSU.out]
          exact ownsRow_setCell_other (one_more own6 (by rw [HLN.out])) hg7 _
        have hOZ := Lib.hid hOZ
        have hBZ := Lib.hid (hB6.setCell (p := ⟨H0 + 1, 1, none⟩) (by show H0 ≤ H0 + 1; omega) (.slice (some ⟨g, 0, none⟩) (k + 1 + 1) cp))
        have HG7 := Lib.hid hg7
        clear at6 own6 grow6 lt6 hg6 hg7 hB6
        go_wp2
        go_roundw
        case rel => exact ⟨k + 1, _, by go_num, by omega, hPZ.out, hOZ.out, HG7.out, hBZ.out⟩
        case measure => simp [intOf]; omega
    · have i1 : ¬ (k : Int) < 999 := by omega
      obtain rfl : k = 999 := by omega
      subst hH
      obtain ⟨wa, rfl⟩ : ∃ wa, wa = wr := ⟨_, rfl⟩
      have h0 := most_ri hE1 hK1
      have ok := most_ok (k := 999) (by omega) hE1 hK1
      have hback := print_back h0 ok
      have hmany := Lib.hid (many_ri (1 + every) (1 + kind % 3))
      have hcfg := Lib.hid (many_cfg hE1 hK1)
      have hpl := prTx_len h0 ok
      have hol : (ordL (mostL (1 + every) (1 + kind % 3) 999)).length = 1000 := by rw [ordL_length, hlen]
      replace hlen : (mostL (1 + every) (1 + kind % 3) 999).length = 1000 := hlen
      generalize mostL (1 + every) (1 + kind % 3) 999 = rs at *
      rw [hlen] at hP hne hc1 hRl
      have hO2 : ORls wa w.heap.size (.slice A3 1000 c3) rs := by rw [hlen] at hO; exact hO
      have CR := cprint_any 5 A3 1000 c3 rs wa (hN.below hB) hRl (by omega) (by omega)
      rw [h0, if_pos rfl] at CR
      have HO := Lib.hid hO2
      have HOK := Lib.hid ok
      have HRL := Lib.hid hRl
      have NE := Lib.hid hne
      have HP := Lib.hid hP
      have HB := Lib.hid hB
      have hPlt := hP.lt
      obtain ⟨p0, p1, f0, f1⟩ := hP
      have cpc : (c3 : Int) ≤ 9223372036854775807 := by omega
      clear hO hO2 ok hRl hne h0 ee ee1 e3 e31 e32 hE1 hK1 hB hE hK
      go_wp2_with (go_at_call 16; (with_reducible refine CR.mono ?_); rintro r w2 ⟨⟨v2, rfl, hB2⟩, k2⟩; refine stopHere ?_)
      unfold Stop
      obtain ⟨A2, c2, rfl, ⟨hc3, hc4⟩, hT, hA0, hAs⟩ := hB2.form2
      have C1 := cparse_any A2 (prTx 5 rs).length c2 (prTx 5 rs) w2 ((hN.below HB.out).below k2) hT hc3 hc4
      rw [hback] at C1
      dsimp only at C1
      rw [hol] at C1
      clear CR
      go_wp2_with (go_at_call 17; (with_reducible refine C1.mono ?_); rintro r w4 ⟨⟨A5, rfl, _⟩, k4⟩; refine stopHere ?_)
      unfold Stop
      have hzz : ((w4.alloc (.cells #[.int .i64 5, .slice A5 1000 1000] 28)).alloc (.cells #[.int .i64 0, .int .i64 0] 44)).heap.size = w4.heap.size + 1 + 1 := by rw [World.size_alloc, World.size_alloc]
      have v2 := Go.Joins.run_convert_bytes_const_at (P := Tryz.prog) ((w4.alloc (.cells #[.int .i64 5, .slice A5 1000 1000] 28)).alloc (.cells #[.int .i64 0, .int .i64 0] 44)) 22 5 #[.int .u8 114, .int .u8 117, .int .u8 108, .int .u8 101, .int .u8 32, .int .u8 122, .int .u8 32, .int .u8 49, .int .u8 32, .int .u8 49, .int .u8 32, .int .u8 103, .int .u8 99, .int .u8 114, .int .u8 97] 15 15 (w4.heap.size + 1 + 1) hzz.symm Tryz.underlying22 Tryz.underlying5
      have aA := (Below.refl _ w4).alloc (Nat.le_refl _) (.cells #[.int .i64 5, .slice A5 1000 1000] 28)
      have aB := (Below.refl _ (w4.alloc (.cells #[.int .i64 5, .slice A5 1000 1000] 28))).alloc (Nat.le_refl _) (.cells #[.int .i64 0, .int .i64 0] 44)
      have aC := (Below.refl _ ((w4.alloc (.cells #[.int .i64 5, .slice A5 1000 1000] 28)).alloc (.cells #[.int .i64 0, .int .i64 0] 44))).alloc (Nat.le_refl _) (.cells #[.int .u8 114, .int .u8 117, .int .u8 108, .int .u8 101, .int .u8 32, .int .u8 122, .int .u8 32, .int .u8 49, .int .u8 32, .int .u8 49, .int .u8 32, .int .u8 103, .int .u8 99, .int .u8 114, .int .u8 97] 5 (15, 16))
      have a5 := kbq k4 (kbq (kbq aA aB) aC)
      have l1 : (((w4.alloc (.cells #[.int .i64 5, .slice A5 1000 1000] 28)).alloc (.cells #[.int .i64 0, .int .i64 0] 44)).alloc (.cells #[.int .u8 114, .int .u8 117, .int .u8 108, .int .u8 101, .int .u8 32, .int .u8 122, .int .u8 32, .int .u8 49, .int .u8 32, .int .u8 49, .int .u8 32, .int .u8 103, .int .u8 99, .int .u8 114, .int .u8 97] 5 (15, 16))).cell? ⟨w4.heap.size, 1, none⟩ = some (.slice A5 1000 1000) := acell (acell (show (w4.alloc (.cells #[.int .i64 5, .slice A5 1000 1000] 28)).cell? ⟨w4.heap.size, 1, none⟩ = _ by simp))
      have hZ := Ws.txt_lit (W := (w4.alloc (.cells #[.int .i64 5, .slice A5 1000 1000] 28)).alloc (.cells #[.int .i64 0, .int .i64 0] 44)) zB #[.int .u8 114, .int .u8 117, .int .u8 108, .int .u8 101, .int .u8 32, .int .u8 122, .int .u8 32, .int .u8 49, .int .u8 32, .int .u8 49, .int .u8 32, .int .u8 103, .int .u8 99, .int .u8 114, .int .u8 97] 5 (15, 16) rfl
      rw [hzz] at hZ
      have hsz5 : (((w4.alloc (.cells #[.int .i64 5, .slice A5 1000 1000] 28)).alloc (.cells #[.int .i64 0, .int .i64 0] 44)).alloc (.cells #[.int .u8 114, .int .u8 117, .int .u8 108, .int .u8 101, .int .u8 32, .int .u8 122, .int .u8 32, .int .u8 49, .int .u8 32, .int .u8 49, .int .u8 32, .int .u8 103, .int .u8 99, .int .u8 114, .int .u8 97] 5 (15, 16))).heap.size = w4.heap.size + 3 := by rw [World.size_alloc, hzz]
      have hBr := hB2.below a5
      have hB5 := kbq k2 a5
      have hrow : ∀ b, (Value.slice A2 (prTx 5 rs).length c2).ownBlock = some b → b < w4.heap.size := fun b hb => Nat.lt_of_lt_of_le (World.ownsRow.lt hB2 b hb).2 k4.size
      have hwa4 : wa.heap.size ≤ w4.heap.size := Nat.le_trans k2.size k4.size
      clear C1 aA aB aC k4 a5 hB2 hT hc3 hc4 hA0 hAs
      have hZc : Hid (∀ j, j < 15 → (((w4.alloc (.cells #[.int .i64 5, .slice A5 1000 1000] 28)).alloc (.cells #[.int .i64 0, .int .i64 0] 44)).alloc (.cells #[.int .u8 114, .int .u8 117, .int .u8 108, .int .u8 101, .int .u8 32, .int .u8 122, .int .u8 32, .int .u8 49, .int .u8 32, .int .u8 49, .int .u8 32, .int .u8 103, .int .u8 99, .int .u8 114, .int .u8 97] 5 (15, 16))).cell? ⟨w4.heap.size + 1 + 1, j, none⟩ = some (.int .u8 ((zB.getD j 0).toNat : Int))) := Lib.hid (fun j hj => by
        obtain ⟨b', off', e', _, hc⟩ := hZ.2 (show 0 < zB.length by decide)
        simp only [Option.some.injEq, Addr.mk.injEq, and_true] at e'
        obtain ⟨rfl, rfl⟩ := e'
        have := hc j hj
        rw [Nat.zero_add] at this
        exact this)
      have KP0 := Kpt.refl (((w4.alloc (.cells #[.int .i64 5, .slice A5 1000 1000] 28)).alloc (.cells #[.int .i64 0, .int .i64 0] 44)).alloc (.cells #[.int .u8 114, .int .u8 117, .int .u8 108, .int .u8 101, .int .u8 32, .int .u8 122, .int .u8 32, .int .u8 49, .int .u8 32, .int .u8 49, .int .u8 32, .int .u8 103, .int .u8 99, .int .u8 114, .int .u8 97] 5 (15, 16))) (.slice A2 (prTx 5 rs).length c2)
      have hBr2 : Ws.BRow (((w4.alloc (.cells #[.int .i64 5, .slice A5 1000 1000] 28)).alloc (.cells #[.int .i64 0, .int .i64 0] 44)).alloc (.cells #[.int .u8 114, .int .u8 117, .int .u8 108, .int .u8 101, .int .u8 32, .int .u8 122, .int .u8 32, .int .u8 49, .int .u8 32, .int .u8 49, .int .u8 32, .int .u8 103, .int .u8 99, .int .u8 114, .int .u8 97] 5 (15, 16))) wa.heap.size (.slice A2 (prTx 5 rs).length c2) (prTx 5 rs ++ zB.take 0) := by rw [List.take_zero, List.append_nil]; exact hBr
      have hrow := Lib.hid hrow
      clear hZ hBr
      go_wp2_with fail
      clear hzz
      generalize hW5 : ((w4.alloc (.cells #[.int .i64 5, .slice A5 1000 1000] 28)).alloc (.cells #[.int .i64 0, .int .i64 0] 44)).alloc (.cells #[.int .u8 114, .int .u8 117, .int .u8 108, .int .u8 101, .int .u8 32, .int .u8 122, .int .u8 32, .int .u8 49, .int .u8 32, .int .u8 49, .int .u8 32, .int .u8 103, .int .u8 99, .int .u8 114, .int .u8 97] 5 (15, 16)) = W5 at *
      clear v2 hW5
      generalize hRow : (Value.slice A2 (prTx 5 rs).length c2).ownBlock = row at KP0 hrow
      clear p0 p1 f0 f1 hRow
      go_loopw [7, 54] (fun v i wl => ∃ j : Nat, i = .int .i64 (j : Int) ∧ j ≤ 15 ∧ Ws.BRow wl wa.heap.size v (prTx 5 rs ++ zB.take j) ∧ Kpt W5 row v wl ∧ Below wa.heap.size wa wl) (fun _ i _ => 15 - (intOf i).toNat)
      case atStart => exact ⟨0, rfl, by omega, hBr2, KP0, hB5⟩
      case round =>
        clear hBr2 KP0
        obtain ⟨j, rfl, hj, hBR, hK, hBl⟩ := hrel
        have j0 : (0 : Int) ≤ (j : Int) := Int.natCast_nonneg _
        obtain ⟨A7, c7, rfl, ⟨hc5, hc6⟩, hT7, _, _⟩ := hBR.form2
        by_cases hj15 : j < 15
        · have j1 : (j : Int) < 15 := by omega
          have zc := hK.cell (hZc.out j hj15) (fun e => by have := hrow.out _ e.symm; omega)
          have hzt := Lib.hid (zB_at j hj15)
          generalize zB.getD j 0 = bt at zc hzt
          have hal : (prTx 5 rs ++ zB.take j).length ≤ 700000 := by rw [List.length_append, List.length_take]; omega
          have hzt2 : Hid (prTx 5 rs ++ zB.take (j + 1) = prTx 5 rs ++ zB.take j ++ [bt]) := Lib.hid (by rw [hzt.out, List.append_assoc])
          have kE := (Below.refl _ wr).alloc (Nat.le_refl _) (.cells #[.int .u8 (bt.toNat : Int)] 5)
          have hBR2 := Lib.hid (hBR.below kE)
          have hBl2 := Lib.hid (hBl.alloc hBl.size (.cells #[.int .u8 (bt.toNat : Int)] 5))
          have HK := Lib.hid hK
          have hbs : wa.heap.size ≤ (wr.alloc (.cells #[.int .u8 (bt.toNat : Int)] 5)).heap.size := Nat.le_trans hBl.size kE.size
          generalize prTx 5 rs ++ zB.take j = acc at *
          clear hzt hBR hK hT7 kE hZc
          go_wp2_with (at_builtin; refine wpList_app_byte _ rfl _ _ rfl wa.heap.size (.slice A7 acc.length c7) acc rfl hBR2.out wr.heap.size bt rfl (by simp) (by omega) hbs ?_; intro g cp w6 hO6 gw6 gg6 b6; refine stopHere ?_)
          unfold Stop
          have HO6 := Lib.hid hO6
          have HK6 := Lib.hid (HK.out.step (n := acc.length + 1) (cap := cp) gw6 gg6)
          have HB6 := Lib.hid (hBl2.out.trans b6)
          clear hO6 gw6 gg6 b6
          go_wp2
          go_roundw
          case rel => exact ⟨j + 1, by go_num, by omega, by rw [hzt2.out]; exact HO6.out, HK6.out, HB6.out⟩
          case measure => simp [intOf]; omega
        · have j1 : ¬ (j : Int) < 15 := by omega
          obtain rfl : j = 15 := by omega
          have hz15 : zB.take 15 = zB := rfl
          rw [hz15] at hBR hT7 hc5 ⊢
          have hal : (prTx 5 rs ++ zB).length ≤ 700000 := by rw [List.length_append]; have : zB.length = 15 := rfl; omega
          have C2 := cparse_any A7 (prTx 5 rs ++ zB).length c7 (prTx 5 rs ++ zB) wr ((hN.below HB.out).below hBl) hT7 hc5 hc6
          rw [hcfg.out] at C2
          dsimp only at C2
          have l2 := hK.cell l1 (fun e => by have := hrow.out _ e.symm; omega)
          generalize prTx 5 rs ++ zB = tz at *
          clear hZc hcfg hz15 hK hBR hT7 l1 hB5 hback hpl hol
          go_wp2_with (go_at_call 17; (with_reducible refine C2.mono ?_); rintro r w8 ⟨⟨A8, rfl, _⟩, k8⟩; refine stopHere ?_)
          unfold Stop
          have aA := (Below.refl _ w8).alloc (Nat.le_refl _) (.cells #[.int .i64 0, .slice A8 0 0] 28)
          have aB := (Below.refl _ (w8.alloc (.cells #[.int .i64 0, .slice A8 0 0] 28))).alloc (Nat.le_refl _) (.cells #[.int .i64 1002, .int .i64 1] 44)
          have aC := (Below.refl _ ((w8.alloc (.cells #[.int .i64 0, .slice A8 0 0] 28)).alloc (.cells #[.int .i64 1002, .int .i64 1] 44))).alloc (Nat.le_refl _) (.cells #[.string ⟨#[122]⟩, .int .u64 1, .int .u64 1, .int .u8 1] 37)
          have q0 : ((w8.alloc (.cells #[.int .i64 0, .slice A8 0 0] 28)).alloc (.cells #[.int .i64 1002, .int .i64 1] 44)).cell? ⟨w8.heap.size + 1, 0, none⟩ = some (.int .i64 1002) := by simp
          have q1 : ((w8.alloc (.cells #[.int .i64 0, .slice A8 0 0] 28)).alloc (.cells #[.int .i64 1002, .int .i64 1] 44)).cell? ⟨w8.heap.size + 1, 1, none⟩ = some (.int .i64 1) := by simp
          have ab := kbq aA aB
          have l9 := celln (kbq k8 ab) l2
          have B9 := kbq hBl (kbq k8 ab)
          have P9 := HP.out.below B9
          have O9 := ownR_below HO.out B9
          have RN := r4_new ((w8.alloc (.cells #[.int .i64 0, .slice A8 0 0] 28)).alloc (.cells #[.int .i64 1002, .int .i64 1] 44)) zR
          have hwr8 : wa.heap.size ≤ w8.heap.size := Nat.le_trans hBl.size k8.size
          have hw9 : wa.heap.size ≤ ((w8.alloc (.cells #[.int .i64 0, .slice A8 0 0] 28)).alloc (.cells #[.int .i64 1002, .int .i64 1] 44)).heap.size := B9.size
          have BW9 := kbq HB.out B9
          have q0 := Lib.hid q0
          have q1 := Lib.hid q1
          have l9 := Lib.hid l9
          clear C2 aA aB ab k8
          go_upto_region 14 with fail
          generalize hW9 : ((w8.alloc (.cells #[.int .i64 0, .slice A8 0 0] 28)).alloc (.cells #[.int .i64 1002, .int .i64 1] 44)) = W9 at *
          clear hW9
          have P10 := P9.below aC
          have O10 := Lib.hid (ownR_below O9 aC)
          have hq := Lib.hid (And.intro (acell (o := (.cells #[.string ⟨#[122]⟩, .int .u64 1, .int .u64 1, .int .u8 1] 37)) q0.out) (And.intro (acell (o := (.cells #[.string ⟨#[122]⟩, .int .u64 1, .int .u64 1, .int .u8 1] 37)) q1.out) (acell (o := (.cells #[.string ⟨#[122]⟩, .int .u64 1, .int .u64 1, .int .u8 1] 37)) l9.out)))
          have RN := Lib.hid RN
          have hs10 : w.heap.size ≤ (W9.alloc (.cells #[.string ⟨#[122]⟩, .int .u64 1, .int .u64 1, .int .u8 1] 37)).heap.size := by rw [World.size_alloc]; omega
          have HLN := Lib.hid hlen
          have HOW := Lib.hid (fun b hb => (World.ownsRow.lt HO.out b hb).2)
          have B10 := Lib.hid (BW9.alloc BW9.size (.cells #[.string ⟨#[122]⟩, .int .u64 1, .int .u64 1, .int .u8 1] 37))
          have hl10 := P10.lt
          have HP10 := Lib.hid P10
          obtain ⟨p0, p1, f0, f1⟩ := P9
          clear B9 O9 BW9 P10 hlen q0 q1 l9 aC
          go_wp2_with (at_builtin; refine wpList_app_rl _ rfl _ _ rfl w.heap.size (.slice A3 1000 c3) rs rfl O10.out W9.heap.size 0 1 1 [zR] rfl rfl (by omega) (fun j hj => by obtain rfl : j = 0 := (by simp at hj; exact hj); exact RN.out) (by have := HLN.out; omega) hs10 ?_; intro g2 cp2 w12 hO12 b12 gw12 gg12; obtain ⟨p0, p1, f0, f1⟩ := HP10.out.grown gw12 NE.out; refine stopHere ?_)
          unfold Stop
          have hg2 : g2 ≠ w.heap.size + 1 := by
            rcases gg12 with e | e
            · intro c; exact NE.out (by rw [e, c])
            · omega
          have hO13 := Lib.hid (ownsRow_setCell_other hO12 (a := ⟨w.heap.size + 1, 1, none⟩) (by simp only [Value.ownBlock]; intro e; injection e with e; exact hg2 e) (.slice (some ⟨g2, 0, none⟩) (rs.length + 1) cp2))
          have c0 := (gw12.cell_far ⟨w8.heap.size + 1, 0, none⟩ (cell_lt hq.out.1) (fun e => by have := HOW.out (w8.heap.size + 1) e.symm; omega)).trans hq.out.1
          have c1 := (gw12.cell_far ⟨w8.heap.size + 1, 1, none⟩ (cell_lt hq.out.1) (fun e => by have := HOW.out (w8.heap.size + 1) e.symm; omega)).trans hq.out.2.1
          have c2 := (gw12.cell_far ⟨w4.heap.size, 1, none⟩ (cell_lt hq.out.2.2) (fun e => by have := HOW.out w4.heap.size e.symm; omega)).trans hq.out.2.2
          have P13 := PB.put ⟨p0, p1, f0, f1⟩ (.slice (some ⟨g2, 0, none⟩) (rs.length + 1) cp2)
          have d0 : (w12.setCell ⟨w.heap.size + 1, 1, none⟩ (.slice (some ⟨g2, 0, none⟩) (rs.length + 1) cp2)).cell? ⟨w8.heap.size + 1, 0, none⟩ = some (.int .i64 1002) := (cs_other _ _ _ _ _ _ (.inl (by omega))).trans c0
          have d1 : (w12.setCell ⟨w.heap.size + 1, 1, none⟩ (.slice (some ⟨g2, 0, none⟩) (rs.length + 1) cp2)).cell? ⟨w8.heap.size + 1, 1, none⟩ = some (.int .i64 1) := (cs_other _ _ _ _ _ _ (.inl (by omega))).trans c1
          have d2 : (w12.setCell ⟨w.heap.size + 1, 1, none⟩ (.slice (some ⟨g2, 0, none⟩) (rs.length + 1) cp2)).cell? ⟨w4.heap.size, 1, none⟩ = some (.slice A5 1000 1000) := (cs_other _ _ _ _ _ _ (.inl (by omega))).trans c2
          have B13 := (B10.out.trans b12).setCell (p := ⟨w.heap.size + 1, 1, none⟩) (by show w.heap.size ≤ w.heap.size + 1; omega) (.slice (some ⟨g2, 0, none⟩) (rs.length + 1) cp2)
          have d0 := Lib.hid d0
          have d1 := Lib.hid d1
          have d2 := Lib.hid d2
          have P13 := Lib.hid P13
          have B13 := Lib.hid B13
          clear hO12 b12 gw12 gg12 c0 c1 c2 hq hg2 HP10 O10 RN B10 HOW
          go_wp2_with fail
          generalize hW13 : (w12.setCell ⟨w.heap.size + 1, 1, none⟩ (.slice (some ⟨g2, 0, none⟩) (rs.length + 1) cp2)) = W13 at *
          clear hW13 p0 p1 f0 f1
          have KN := known_any W13 (hN.below B13.out)
          go_wp2_with (go_at_call 10; (with_reducible refine KN.mono ?_); rintro r w14 ⟨rfl, k14⟩; refine stopHere ?_)
          unfold Stop
          have e0 := celln k14 d0.out
          have e1 := celln k14 d1.out
          have e2 := celln k14 d2.out
          obtain ⟨p0, p1, _, _⟩ := P13.out.below k14
          have O14 := ownR_below (hO13.out : ORls W13 w.heap.size _ (rs ++ [zR])) k14
          obtain ⟨A14, c14, ev, hc7, hc8, hR14⟩ := O14.rls (fun r hr => by
            rcases List.mem_append.1 hr with hr | hr
            · exact HOK.out r hr
            · simp only [List.mem_cons, List.not_mem_nil, or_false] at hr; subst hr; exact z_ok)
          simp only [Value.slice.injEq] at ev
          obtain ⟨rfl, hlen2, rfl⟩ := ev
          rw [← hlen2] at hR14
          have CRt := cright_any 5 (some ⟨g2, 0, none⟩) (rs.length + 1) cp2 (rs ++ [zR]) w14 hR14 (by have := HLN.out; omega) (by omega)
          rw [hmany.out] at CRt
          clear hlen2 hc7 hc8 hR14 O14
          go_wp2_with (go_at_call 23; (with_reducible refine CRt.mono ?_); rintro r w15 ⟨rfl, k15⟩)
          go_ret
          exact ⟨rfl, kbq (kbq B13.out k14) k15⟩
end Go.Proofs.YtckaiejbgnhgcaaGreatDoor.Wd
