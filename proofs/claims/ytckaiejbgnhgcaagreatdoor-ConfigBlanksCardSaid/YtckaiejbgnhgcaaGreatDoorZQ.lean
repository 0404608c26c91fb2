/- Parts of a row of rules, and ConfigLacks; no conditions but those that each names. A thousand rules, and one more: plain facts; no conditions but those that each names. ConfigMost; no conditions but those that each names. What tollerref12.find, Right and Same answer, for any rules; no conditions but those that each names. -/
import Derived.Test.YtckaiejbgnhgcaaGreatDoorZO
import Derived.Deep.AppendLies
import Derived.OneCell
import Derived.Test.YtckaiejbgnhgcaaGreatDoorZL
import Derived.Test.YtckaiejbgnhgcaaGreatDoorZD
import Derived.BigQuiet
namespace Go.Proofs.YtckaiejbgnhgcaaGreatDoor.Wd
open Go Go.RowKit
set_option linter.unusedVariables false
set_option maxRecDepth 100000
theorem fnx_drop (rs : List Rl) (i k : Nat) : fnOf (rs.drop i) k = fnOf rs (i + k) := by simp [fnOf, List.getD_eq_getElem?_getD]
/-- What is left of a row of rules. -/
theorem rslice_back (A : Option Addr) (n cap i : Nat) (hi : i ≤ n) (hn : n ≤ cap) : ∃ A', (∀ W : World, (Instr.slice 26 (.slice A n cap) (some (.int .i64 (i : Int))) none none).run Tryz.prog W = .ok (.slice A' (n - i) (cap - i)) W) ∧
    (∀ (W : World) (l : List Rl), Rls W A n l → Rls W A' (n - i) (l.drop i)) := by
  obtain ⟨i0, hz, hz0, hz1, hz2⟩ := info_parts zeroRule
  refine ⟨if cap = i then A else A.map (·.add (i * 4)), fun W => ?_, fun W l h => ?_⟩
  · simp [go_sem, Tryz.underlying26, sizeOf, typeInfo, hz, hz1, hi, sliced]
  · refine ⟨by rw [List.length_drop, h.1], fun r hr => h.2.1 r (List.mem_of_mem_drop hr), fun h0 => ?_⟩
    obtain ⟨b, off, rfl, hb, hc⟩ := h.2.2 (by omega)
    rw [if_neg (by omega)]
    refine ⟨b, off + i * 4, by simp [Go.WideShapes.add_plain], hb, fun k hk => ?_⟩
    rw [fnx_drop, Nat.add_assoc, ← Nat.add_mul]
    exact hc (i + k) (by omega)

theorem b10_yes {b : UInt8} (h : b = 10) : ((b.toNat : Int) == 10) = true := by subst h; rfl
theorem b10_no {b : UInt8} (h : b ≠ 10) : ((b.toNat : Int) == 10) = false := by
  rw [← Bool.not_eq_true, beq_iff_eq]
  intro e
  refine h (UInt8.toNat_inj.1 ?_)
  show b.toNat = 10
  omega

set_option maxHeartbeats 2000000 in
theorem lacks_walk (most : Int) (A : Option Addr) (n cap : Nat) (w : World) (hN : Nam w) (hm : 0 ≤ most ∧ most ≤ 65535) (h : Nmr w A n) (hn : n ≤ 9223372036854775807) :
    Calls Tryz.prog 9 #[.int .u16 most, .slice A n cap] w fun r w' => r = .returned (.bool true) ∧ Below w.heap.size w w' := by
  have CP := policy_any most A n cap w hm h hn
  clear h
  go_enter Tryz.func9, Tryz.ntmps9
  go_wp2_with (go_at_call 11; (with_reducible refine CP.mono ?_); rintro r w1 ⟨⟨m, rs, v, rfl, hO, hl, hP⟩, k1⟩; refine stopHere ?_)
  unfold Stop
  obtain ⟨A1, c1, rfl, hc1, hc2, hR1⟩ := hO.rls hP.out.ok
  have h0 := polr_ri hP.out hl
  have h31 := polr_tail hP.out hl
  have m1 := hP.out.m1
  have m2 := hP.out.m2
  have hpos : 1 ≤ rs.length := by obtain ⟨k, rest, e⟩ := hP.out.hd; rw [e]; simp
  have kA := (Below.refl _ w1).alloc (Nat.le_refl _) (.cells #[.int .i64 m, .slice A1 rs.length c1] 28)
  have CR := cprint_any m A1 rs.length c1 rs _ (hN.below (kbq k1 kA)) (hR1.below kA) (by omega) (by omega)
  rw [h0, if_pos rfl] at CR
  go_wp2_with (go_at_call 16; (with_reducible refine CR.mono ?_); rintro r w2 ⟨⟨v2, rfl, hB2⟩, k2⟩; refine stopHere ?_)
  unfold Stop
  obtain ⟨A2, c2, rfl, ⟨hc3, hc4⟩, hT, _, _⟩ := hB2.form2
  have p0 : w2.cell? ⟨w1.heap.size, 0, none⟩ = some (.int .i64 m) := celln k2 (by simp)
  have p1 : w2.cell? ⟨w1.heap.size, 1, none⟩ = some (.slice A1 rs.length c1) := celln k2 (by simp)
  obtain ⟨A3, hS, hS2⟩ := rslice_back A1 rs.length c1 1 hpos hc1
  have hS1 : ∀ W : World, (Instr.slice 26 (.slice A1 rs.length c1) (some (.int .i64 1)) none none).run Tryz.prog W = .ok (.slice A3 (rs.length - 1) (c1 - 1)) W := hS
  have kB := (Below.refl _ w2).alloc (Nat.le_refl _) (.cells #[.int .i64 m, .slice A3 (rs.length - 1) (c1 - 1)] 28)
  have B3 := kbq (kbq (kbq k1 kA) k2) kB
  have hR3 := hS2 _ _ (((hR1.below kA).below k2).below kB)
  have hT3 := hT.below kB
  have hN3 := hN.below B3
  have hrp := hP.out.ok
  obtain ⟨g1, g2, g3⟩ := jn_short h0 hrp
  obtain ⟨hL0, hL1, hL2⟩ := line_end ([sizS, dig m.toNat].map lb) (Ws.jn (lbs ((ordL rs).map rlW))) (size_line _)
  have hM0 : 0 < (Ws.jn (lbs [[sizS, dig m.toNat]])).length := hL0
  have hM1 : ∀ k, k + 1 < (Ws.jn (lbs [[sizS, dig m.toNat]])).length → (prTx m rs).getD k 0 ≠ 10 := fun k hk => by rw [g3]; exact hL1 k hk
  have hM2 : (prTx m rs).getD ((Ws.jn (lbs [[sizS, dig m.toNat]])).length - 1) 0 = 10 := by rw [g3]; exact hL2
  have hM3 : (prTx m rs).take (Ws.jn (lbs [[sizS, dig m.toNat]])).length = Ws.jn (lbs [[sizS, dig m.toNat]]) := by rw [g3]; exact List.take_left
  have hM4 : (prTx m rs).drop (Ws.jn (lbs [[sizS, dig m.toNat]])).length = Ws.jn (lbs ((ordL rs).map rlW)) := by rw [g3]; exact List.drop_left
  have hM5 : (Ws.jn (lbs [[sizS, dig m.toNat]])).length ≤ (prTx m rs).length := by rw [g3, List.length_append]; omega
  have hM3 := Lib.hid hM3
  have hM4 := Lib.hid hM4
  clear hL0 hL1 hL2 g3
  have hlt := cell_lt p0
  have q0 := celln kB p0
  have q1 := celln kB p1
  have n0 : (w2.alloc (.cells #[.int .i64 m, .slice A3 (rs.length - 1) (c1 - 1)] 28)).cell? ⟨w2.heap.size, 0, none⟩ = some (.int .i64 m) := by simp
  have n1 : (w2.alloc (.cells #[.int .i64 m, .slice A3 (rs.length - 1) (c1 - 1)] 28)).cell? ⟨w2.heap.size, 1, none⟩ = some (.slice A3 (rs.length - 1) (c1 - 1)) := by simp
  have hR3 := Lib.hid hR3
  have hT3 := Lib.hid hT3
  have hN3 := Lib.hid hN3
  have B3 := Lib.hid B3
  have h0 := Lib.hid h0
  have h31 := Lib.hid h31
  have hrp := Lib.hid hrp
  have ls := Lib.hid (lacks_size h0.out hrp.out)
  have ld := Lib.hid (lacks_def (m := m) ⟨by omega, by omega⟩ g2)
  clear CP CR kA kB k1 k2 hT hO hR1 hS hS2 hB2 hP
  go_upto_region 7 with fail
  generalize hW3 : w2.alloc (.cells #[.int .i64 m, .slice A3 (rs.length - 1) (c1 - 1)] 28) = W3 at *
  clear p0 p1 hW3
  rw [← hM4.out] at ls
  rw [← hM3.out] at ld
  clear hM3 hM4 g1 g2
  generalize (Ws.jn (lbs [[sizS, dig m.toNat]])).length = L at *
  generalize prTx m rs = tx at *
  go_loopw [9, 10] (fun e i wr => ∃ k : Nat, i = .int .i64 (k : Int) ∧ e = .int .i64 ((if L ≤ k then L else 0 : Nat) : Int) ∧ k ≤ tx.length ∧ wr = W3) (fun _ i _ => tx.length - (intOf i).toNat)
  case atStart => exact ⟨0, rfl, by rw [if_neg (by omega)]; rfl, Nat.zero_le _, rfl⟩
  case round =>
    obtain ⟨k, rfl, he, hk, rfl⟩ := hrel
    have i0 : (0 : Int) ≤ (k : Int) := Int.natCast_nonneg _
    by_cases hkn : k < tx.length
    · have i1 : (k : Int) < (tx.length : Int) := by omega
      obtain ⟨b2, o2, rfl, hb2, hc5⟩ := hT3.out.2 (by omega)
      have y0 := hc5 k hkn
      have hby : k + 1 < L → tx.getD k 0 ≠ 10 := hM1 k
      have hby2 : k + 1 = L → tx.getD k 0 = 10 := fun e => by rw [show k = L - 1 by omega]; exact hM2
      generalize tx.getD k 0 = bt at y0 hby hby2
      clear hc5
      by_cases ca : k + 1 < L
      · have t1 := b10_no (hby ca)
        rw [if_neg (by omega)] at he
        subst he
        go_wp2
        go_roundw
        case rel => exact ⟨k + 1, by go_num, by rw [if_neg (by omega)], by omega, trivial⟩
        case measure => simp [intOf]; omega
      · by_cases cb : k + 1 = L
        · have t1 := b10_yes (hby2 cb)
          rw [if_neg (by omega)] at he
          subst he
          go_wp2
          go_roundw
          case rel => exact ⟨k + 1, by go_num, by rw [if_pos (by omega), show L = k + 1 by omega]; go_num, by omega, trivial⟩
          case measure => simp [intOf]; omega
        · rw [if_pos (by omega)] at he
          subst he
          have t2 : ((L : Int) == 0) = false := by rw [← Bool.not_eq_true, beq_iff_eq]; omega
          by_cases cc : bt = 10
          · have t1 := b10_yes cc
            go_wp2
            go_roundw
            case rel => exact ⟨k + 1, by go_num, by rw [if_pos (by omega)], by omega, trivial⟩
            case measure => simp [intOf]; omega
          · have t1 := b10_no cc
            go_wp2
            go_roundw
            case rel => exact ⟨k + 1, by go_num, by rw [if_pos (by omega)], by omega, trivial⟩
            case measure => simp [intOf]; omega
    · have i1 : ¬ (k : Int) < (tx.length : Int) := by omega
      have hkk : k = tx.length := by omega
      rw [if_pos (by omega)] at he
      subst he
      subst hkk
      have hlen : L ≤ tx.length := hM5
      obtain ⟨A4, hD, hD2⟩ := Ws.bslice_back A2 tx.length c2 L hM5 hc3
      have hT4 := Lib.hid (hD2.1 wr tx hT3.out)
      have hF := Ws.bslice_front A2 tx.length c2 L (by omega) hc4
      have hT5 := Lib.hid (hT3.out.front hM5)
      have C1 := cparse_any A4 (tx.length - L) (c2 - L) (tx.drop L) wr hN3.out hT4.out (by omega) (by omega)
      rw [ls.out] at C1
      have hDz := hD
      clear hD2 hDz
      go_wp2_with (go_at_call 17; (with_reducible refine C1.mono ?_); rintro r w4 ⟨⟨A5, rfl, _⟩, k4⟩; refine stopHere ?_)
      unfold Stop
      have aA := (Below.refl _ w4).alloc (Nat.le_refl _) (.cells #[.int .i64 0, .slice A5 0 0] 28)
      have aB := (Below.refl _ (w4.alloc (.cells #[.int .i64 0, .slice A5 0 0] 28))).alloc (Nat.le_refl _) (.cells #[.int .i64 0, .int .i64 0] 44)
      have a2 := kbq k4 (kbq aA aB)
      have s0 : ((w4.alloc (.cells #[.int .i64 0, .slice A5 0 0] 28)).alloc (.cells #[.int .i64 0, .int .i64 0] 44)).cell? ⟨w4.heap.size + 1, 0, none⟩ = some (.int .i64 0) := by simp
      have s1 : ((w4.alloc (.cells #[.int .i64 0, .slice A5 0 0] 28)).alloc (.cells #[.int .i64 0, .int .i64 0] 44)).cell? ⟨w4.heap.size + 1, 1, none⟩ = some (.int .i64 0) := by simp
      have C2 := cparse_any A2 L c2 (tx.take L) _ (hN3.out.below a2) (hT5.out.below a2) (by omega) hc4
      rw [ld.out] at C2
      clear C1 aA aB
      go_wp2_with (go_at_call 17; (with_reducible refine C2.mono ?_); rintro r w6 ⟨⟨A6, rfl, _⟩, k6⟩; refine stopHere ?_)
      unfold Stop
      replace s0 := celln k6 s0
      replace s1 := celln k6 s1
      have a3 := kbq a2 k6
      have aA := (Below.refl _ w6).alloc (Nat.le_refl _) (.cells #[.int .i64 0, .slice A6 0 0] 28)
      have aB := (Below.refl _ (w6.alloc (.cells #[.int .i64 0, .slice A6 0 0] 28))).alloc (Nat.le_refl _) (.cells #[.int .i64 0, .int .i64 0] 44)
      have ab := kbq aA aB
      have a4 := kbq a3 ab
      replace s0 := celln ab s0
      replace s1 := celln ab s1
      have z0 : ((w6.alloc (.cells #[.int .i64 0, .slice A6 0 0] 28)).alloc (.cells #[.int .i64 0, .int .i64 0] 44)).cell? ⟨w6.heap.size + 1, 0, none⟩ = some (.int .i64 0) := by simp
      have z1 : ((w6.alloc (.cells #[.int .i64 0, .slice A6 0 0] 28)).alloc (.cells #[.int .i64 0, .int .i64 0] 44)).cell? ⟨w6.heap.size + 1, 1, none⟩ = some (.int .i64 0) := by simp
      have C3 := cparse_any none 0 0 [] _ (hN3.out.below a4) ⟨rfl, fun h => absurd h (by omega)⟩ (by omega) (by omega)
      rw [cfgP_nil] at C3
      clear C2 aA aB ab k6 a3
      go_wp2_with (go_at_call 17; (with_reducible refine C3.mono ?_); rintro r w8 ⟨⟨A8, rfl, _⟩, k8⟩; refine stopHere ?_)
      unfold Stop
      replace s0 := celln k8 s0
      replace s1 := celln k8 s1
      replace z0 := celln k8 z0
      replace z1 := celln k8 z1
      have a5 := kbq a4 k8
      have aA := (Below.refl _ w8).alloc (Nat.le_refl _) (.cells #[.int .i64 0, .slice A8 0 0] 28)
      have aB := (Below.refl _ (w8.alloc (.cells #[.int .i64 0, .slice A8 0 0] 28))).alloc (Nat.le_refl _) (.cells #[.int .i64 0, .int .i64 0] 44)
      have ab := kbq aA aB
      have a6 := kbq a5 ab
      replace s0 := celln ab s0
      replace s1 := celln ab s1
      replace z0 := celln ab z0
      replace z1 := celln ab z1
      replace n0 := celln a6 n0
      replace n1 := celln a6 n1
      have hN9 := hN3.out.below a6
      have hR9 := Lib.hid (hR3.out.below a6)
      have BB := kbq B3.out a6
      have hL0i : (0 : Int) < (L : Int) := by omega
      have KN := known_any _ hN9
      clear C3 aA aB ab k8 a4 a5 k4 a2 hN9
      go_wp2_with fail
      generalize hW9 : (w8.alloc (.cells #[.int .i64 0, .slice A8 0 0] 28)).alloc (.cells #[.int .i64 0, .int .i64 0] 44) = W9 at *
      go_wp2_with (go_at_call 10; (with_reducible refine KN.mono ?_); rintro r w10 ⟨rfl, k10⟩; refine stopHere ?_)
      unfold Stop
      replace s0 := celln k10 s0
      replace s1 := celln k10 s1
      replace z0 := celln k10 z0
      replace z1 := celln k10 z1
      replace n0 := celln k10 n0
      replace n1 := celln k10 n1
      have CRt := cright_any m A3 (rs.length - 1) (c1 - 1) (rs.drop 1) w10 (hR9.out.below k10) (by omega) (by omega)
      rw [h31.out] at CRt
      have BZ := kbq BB k10
      clear KN k10
      go_wp2_with (go_at_call 23; (with_reducible refine CRt.mono ?_); rintro r w11 ⟨rfl, k11⟩)
      go_ret
      exact ⟨rfl, kbq BZ k11⟩
end Go.Proofs.YtckaiejbgnhgcaaGreatDoor.Wd
namespace Go.Proofs.YtckaiejbgnhgcaaGreatDoor.Wd
open Go Go.RowKit
set_option linter.unusedVariables false
set_option maxRecDepth 100000
/-- A prefix of a number. -/
def kP (k : Nat) : ByteArray := str (107 :: Lib.decDigits k)
abbrev kR1 (E K : Int) (k : Nat) : Rl := ⟨kP k, E, 1, K⟩
/-- So many rules, and the default one ahead of them. -/
def mostL (E K : Int) (k : Nat) : List Rl := ⟨nob, 1, 1, 1⟩ :: (List.range k).map (kR1 E K)
theorem mostL_len (E K : Int) (k : Nat) : (mostL E K k).length = k + 1 := by simp [mostL]
theorem mostL_succ (E K : Int) (k : Nat) : mostL E K (k + 1) = mostL E K k ++ [kR1 E K k] := by simp [mostL, List.range_succ]
theorem kP_lb (k : Nat) : lb (kP k) = 107 :: Lib.decDigits k := by unfold lb kP; rw [str_data]
theorem kP_len (k : Nat) (h : k < 1000) : 1 ≤ (lb (kP k)).length ∧ (lb (kP k)).length ≤ 21 := by
  have := dec_len20 k (by omega)
  rw [kP_lb, List.length_cons]
  omega
theorem kP_size (k : Nat) (h : k < 1000) : 1 ≤ (kP k).size ∧ (kP k).size ≤ 21 := by
  have := kP_len k h
  rw [list_size] at this
  exact this
theorem dig_inj {i j : Nat} (hi : i < 18446744073709551616) (hj : j < 18446744073709551616) (h : Lib.decDigits i = Lib.decDigits j) : i = j := by
  have h1 := (dig_pa i hi).1
  have h2 := (dig_pa j hj).1
  unfold dig at h1 h2
  rw [h, h2] at h1
  omega
theorem kP_inj {i j : Nat} (hi : i < 1000) (hj : j < 1000) (h : kP i = kP j) : i = j := by
  have e : lb (kP i) = lb (kP j) := by rw [h]
  rw [kP_lb, kP_lb] at e
  exact dig_inj (by omega) (by omega) (List.cons.inj e).2
theorem dig_seen (n : Nat) : ∀ b ∈ Lib.decDigits n, visB (b.toNat : Int) = true := by
  have hp := (plainB_iff _).1 (plain_dec n)
  intro b hb
  have := List.all_eq_true.1 hp.2.2 b hb
  unfold digB at this
  simp only [Bool.and_eq_true, decide_eq_true_eq] at this
  exact decide_eq_true (by omega)
theorem kP_pf (k : Nat) (h : k < 1000) : pfB (kP k) = true := by
  have hl := kP_len k h
  unfold pfB rtB
  rw [Bool.or_eq_true, Bool.and_eq_true]
  refine .inr ⟨decide_eq_true (by omega), List.all_eq_true.2 fun b hb => ?_⟩
  rw [kP_lb] at hb
  rcases List.mem_cons.1 hb with rfl | hb
  · decide
  · exact dig_seen k b hb
theorem er_of {p : ByteArray} {E K : Int} (hp : pfB p = true) (hE : 1 ≤ E ∧ E ≤ 4294967296) (hK : 1 ≤ K ∧ K ≤ 3) : (⟨p, E, 1, K⟩ : Rl).er = 0 := by
  show ruE p E 1 K = 0
  have hs : sat (E * 1) = E := by unfold sat; rw [Int.mul_one, if_pos (by omega)]
  have hk : isK K = true := decide_eq_true hK
  rw [ru_is, if_neg (by rw [hp]; decide), if_neg (by omega), if_neg (by omega), hs, if_neg (by omega), if_neg (by rw [hk]; decide)]
theorem most_mem {E K : Int} {k : Nat} {r : Rl} (h : r ∈ mostL E K k) : r = ⟨nob, 1, 1, 1⟩ ∨ ∃ i, i < k ∧ r = kR1 E K i := by
  unfold mostL at h
  rcases List.mem_cons.1 h with h | h
  · exact .inl h
  · obtain ⟨i, hi, e⟩ := List.mem_map.1 h
    exact .inr ⟨i, List.mem_range.1 hi, e.symm⟩
theorem most_ok {E K : Int} {k : Nat} (hk : k ≤ 999) (hE : 1 ≤ E ∧ E ≤ 4294967296) (hK : 1 ≤ K ∧ K ≤ 3) : ∀ r ∈ mostL E K k, Okr r := by
  intro r hr
  rcases most_mem hr with rfl | ⟨i, hi, rfl⟩
  · exact ⟨by decide, by unfold U; decide, by unfold U; decide, by decide, by decide⟩
  · have := kP_size i (by omega)
    exact ⟨by show (kP i).size ≤ _; omega, by show U E; unfold U; omega, by show U 1; unfold U; decide, by show 0 ≤ K; omega, by show K ≤ 255; omega⟩
theorem most_er {E K : Int} {k : Nat} (hk : k ≤ 999) (hE : 1 ≤ E ∧ E ≤ 4294967296) (hK : 1 ≤ K ∧ K ≤ 3) : ∀ r ∈ mostL E K k, r.er = 0 := by
  intro r hr
  rcases most_mem hr with rfl | ⟨i, hi, rfl⟩
  · exact er_of (by decide) (by decide) (by decide)
  · exact er_of (kP_pf i (by omega)) hE hK
theorem most_nd (E K : Int) (k : Nat) (hk : k ≤ 999) : ((mostL E K k).map Rl.p).Nodup := by
  unfold mostL
  rw [List.map_cons, List.map_map, List.nodup_cons]
  refine ⟨fun h => ?_, ?_⟩
  · obtain ⟨i, hi, e⟩ := List.mem_map.1 h
    have := kP_size i (by have := List.mem_range.1 hi; omega)
    have e2 : kP i = nob := e
    rw [e2] at this
    exact absurd this.1 (by decide)
  · rw [List.Nodup, List.pairwise_map]
    have := List.nodup_range (n := k)
    refine List.Pairwise.imp_of_mem (fun {a b} ha hb hne e => hne ?_) this
    exact kP_inj (by have := List.mem_range.1 ha; omega) (by have := List.mem_range.1 hb; omega) e
theorem fr_none : ∀ {rs : List Rl}, (∀ r ∈ rs, r.er = 0) → frE rs = 0
  | [], _ => rfl
  | r :: l, h => by
    unfold frE
    rw [if_neg (by rw [h r List.mem_cons_self]; decide)]
    exact fr_none fun x hx => h x (List.mem_cons_of_mem _ hx)
theorem nodup_dst {rs : List Rl} (h : (rs.map Rl.p).Nodup) : Dst rs := by
  intro i j hij hj e
  have hi : i < rs.length := by omega
  rw [fn_at hi, fn_at hj] at e
  have := List.pairwise_iff_getElem.1 h i j (by simpa using hi) (by simpa using hj) hij
  exact this (by simpa using e)
theorem most_ri {E K : Int} (hE : 1 ≤ E ∧ E ≤ 4294967296) (hK : 1 ≤ K ∧ K ≤ 3) : riE 5 (mostL E K 999) = 0 := by
  have hh : hasB (mostL E K 999) nob = true := has_mem (acc := mostL E K 999) (r := ⟨nob, 1, 1, 1⟩) List.mem_cons_self
  have hl := mostL_len E K 999
  have hf := fr_none (most_er (k := 999) (by omega) hE hK)
  have hs := (ordL_so (mostL E K 999)).2 (nodup_dst (most_nd E K 999 (by omega)))
  generalize mostL E K 999 = rs at *
  unfold riE
  rw [if_neg (by omega), if_neg (by omega), hf, if_neg (by simp), if_neg (by rw [hh]; decide), if_neg (by rw [hs]; decide)]
theorem many_ri (E K : Int) (r : Rl) : riE 5 (mostL E K 999 ++ [r]) = 32 := by
  have hl := mostL_len E K 999
  generalize mostL E K 999 = rs at *
  unfold riE
  rw [if_neg (by omega), if_pos (by rw [List.length_append, hl]; simp)]
/-- The line that is one too many. -/
def zB : List UInt8 := [114, 117, 108, 101, 32, 122, 32, 49, 32, 49, 32, 103, 99, 114, 97]
abbrev zR : Rl := ⟨⟨#[122]⟩, 1, 1, 1⟩
theorem lnA_many {m : Int} {acc : List Rl} {r : Rl} (hk : Okr r) (he : r.er = 0) (hn : hasB acc r.p = false) (hl : acc.length = 1000) : lnA m acc (rlW r) = .bad 32 0 := by
  unfold lnA
  rw [if_neg (rl_head hk he)]
  unfold lnR
  rw [rl_back hk he, if_neg (by simp), if_neg (by simp [hn]), if_pos (by omega)]
theorem z_ok : Okr zR := ⟨by decide, by unfold U; decide, by unfold U; decide, by decide, by decide⟩
theorem z_er : zR.er = 0 := er_of (by decide) (by decide) (by decide)
theorem z_line : Ws.jn (lbs [rlW zR]) = zB ++ [10] := by
  have d1 : dig 1 = ⟨#[49]⟩ := by unfold dig; rw [dec_small (by omega)]; rfl
  rw [rlW_is z_ok z_er, if_neg (by decide)]
  show Ws.jn (lbs [[rulS, zR.p, dig 1, dig 1, namS 1]]) = _
  rw [d1]
  rfl
theorem cfgP_nl (q : List UInt8) (h : q.length + 1 ≤ 1048576) : cfgP (q ++ [10]) = cfgP q := by
  unfold cfgP
  rw [Ws.spl_nl q h]
theorem many_cfg {E K : Int} (hE : 1 ≤ E ∧ E ≤ 4294967296) (hK : 1 ≤ K ∧ K ≤ 3) : cfgP (prTx 5 (mostL E K 999) ++ zB) = .bad 32 1002 1 := by
  have h0 := most_ri hE hK
  have ok := most_ok (k := 999) (by omega) hE hK
  have hl := prTx_len h0 ok
  have hlen := mostL_len E K 999
  have hz : zB.length = 15 := rfl
  have hn : hasB (ordL (mostL E K 999)) zR.p = false := by
    refine has_of fun j hj e => ?_
    rcases most_mem ((ordL_mem _ _).1 (fn_mem hj)) with h | ⟨i, hi, h⟩
    · rw [h] at e
      have := congrArg ByteArray.size e
      exact absurd this (by decide)
    · rw [h] at e
      have e2 := congrArg lb (show kP i = zR.p from e)
      rw [kP_lb] at e2
      have := (List.cons.inj (show 107 :: Lib.decDigits i = 122 :: [] from e2)).1
      exact absurd this (by decide)
  rw [← cfgP_nl _ (by rw [List.length_append]; omega), List.append_assoc, ← z_line]
  rw [print_more h0 ok [rlW zR] (fun row hr => ?_) (by rw [z_line]; simp only [List.length_append, List.length_cons, List.length_nil]; omega)]
  · show psL 5 (ordL (mostL E K 999)) (Ws.wpos ((mostL E K 999).length + 2) 1 false ((rlW zR).map lb) :: []) = _
    rw [psL, txs_wpos, lnA_many z_ok z_er hn (by rw [ordL_length]; exact hlen), if_pos (by show (32 : Int) ≠ 0; decide), hlen]
    rfl
  · simp only [lbs, List.map_cons, List.map_nil, List.mem_cons, List.not_mem_nil, or_false] at hr
    subst hr
    exact rl_line z_ok z_er
end Go.Proofs.YtckaiejbgnhgcaaGreatDoor.Wd
namespace Go.Proofs.YtckaiejbgnhgcaaGreatDoor.Wd
open Go Go.RowKit
set_option linter.unusedVariables false
set_option maxRecDepth 100000
/-- A policy in a block of its own. -/
structure PB (w : World) (P : Nat) (m : Int) (v : Value) : Prop where
  p0 : w.cell? ⟨P, 0, none⟩ = some (.int .i64 m)
  p1 : w.cell? ⟨P, 1, none⟩ = some v
  f0 : w.frozen? ⟨P, 0, none⟩ = false
  f1 : w.frozen? ⟨P, 1, none⟩ = false
theorem PB.lt {w : World} {P : Nat} {m : Int} {v : Value} (h : PB w P m v) : P < w.heap.size := cell_lt h.p0
theorem PB.below {w w' : World} {P : Nat} {m : Int} {v : Value} (h : PB w P m v) (g : Below w.heap.size w w') : PB w' P m v :=
  ⟨celln g h.p0, celln g h.p1, (g.frozen (p := ⟨P, 0, none⟩) h.lt).trans h.f0, (g.frozen (p := ⟨P, 1, none⟩) h.lt).trans h.f1⟩
theorem PB.grown {w w' : World} {P : Nat} {m : Int} {v : Value} (h : PB w P m v) {row : Option Nat} (g : w.grownBy w' row) (hne : row ≠ some P) : PB w' P m v :=
  ⟨(g.cell_far ⟨P, 0, none⟩ h.lt (fun e => hne e.symm)).trans h.p0, (g.cell_far ⟨P, 1, none⟩ h.lt (fun e => hne e.symm)).trans h.p1, (g.frozen_far ⟨P, 0, none⟩ h.lt (fun e => hne e.symm)).trans h.f0, (g.frozen_far ⟨P, 1, none⟩ h.lt (fun e => hne e.symm)).trans h.f1⟩
theorem PB.put {w : World} {P : Nat} {m : Int} {v : Value} (h : PB w P m v) (u : Value) : PB (w.setCell ⟨P, 1, none⟩ u) P m u :=
  ⟨(cs_other _ _ _ _ _ _ (.inr (by omega))).trans h.p0, World.cell?_setCell_same _ _ _ h.p1, (World.frozen?_setCell _ _ _ _).trans h.f0, (World.frozen?_setCell _ _ _ _).trans h.f1⟩
theorem PB.new (w : World) (m : Int) (v : Value) : PB (w.alloc (.cells #[.int .i64 m, v] 28)) w.heap.size m v :=
  ⟨by simp, by simp, by simp, by simp⟩
theorem k_add (l : List UInt8) (h : l.length ≤ 20) (W : World) : (Op.stringOp .add ⟨#[107]⟩ (str l)).run Tryz.prog W = .ok (.string (str (107 :: l))) W := by
  have e : (⟨#[107]⟩ : ByteArray) = str [107] := rfl
  rw [e, run_string_add_sum W _ _ (by rw [str_size, str_size]; simp; omega), str_append]
  rfl

theorem step_call_same {P : Program} {ops : Array Oper} {o : Oper} {a : Act} {w : World} {K : Act → World → Prop} {Q : Exit → Act → World → Prop} {E : Prop}
    (hg : o.guard = none) (f : FuncId) (fn : Func) (hfn : P.funcs[f]? = some fn) (hnm : (fn.name == "runtime.NumGoroutine") = false) (hb : fn.body.isNone = false) (s : Operand) (t : TypeId) (hop : o.op = Op.call { callee := Callee.value (Operand.func f), args := #[s], argTypes := #[t] })
    (v r : Value) (hx : a.eval s = v) (hC : Calls P f #[v] w fun e w' => e = .returned r ∧ w = w') (hK : K (a.put o.dst r) w) :
    if Region.wanted o (yielded ops a.tmps) = true then Oper.wp P o a w K Q else E := by
  have hw : Region.wanted o (yielded ops a.tmps) = true := by simp [Region.wanted, hg]
  rw [if_pos hw]
  unfold Oper.wp
  have e : (execOp a.eval o).run P w = .ok (.enter f #[v]) w := by
    have hf : a.eval (Operand.func f) = Value.func (Fn.func f) #[] #[] := rfl
    have h1 : ¬ fn.name = "runtime.NumGoroutine" := by simpa using hnm
    have h2 : ¬ fn.body = none := by intro h; rw [h] at hb; cases hb
    simp [execOp, hop, resolve, invoke, hx, hf, Deferred.ofValue, callFunc, hfn, h1, h2]
  rw [e]
  refine hC.mono ?_
  rintro e w' ⟨rfl, rfl⟩
  exact hK

/-- A row has grown, all else of a world is as it was. -/
structure Kpt (w0 : World) (row : Option Nat) (v : Value) (w : World) : Prop where
  size : w0.heap.size ≤ w.heap.size
  block : ∀ b, b < w0.heap.size → some b ≠ row → w.heap[b]? = w0.heap[b]?
  own : v.ownBlock = row ∨ ∀ g, v.ownBlock = some g → w0.heap.size ≤ g
theorem Kpt.refl (w : World) (v : Value) : Kpt w v.ownBlock v w := ⟨Nat.le_refl _, fun _ _ _ => rfl, .inl rfl⟩
theorem Kpt.step {w0 w w' : World} {row : Option Nat} {v : Value} (h : Kpt w0 row v w) {o : Obj} {g n cap : Nat} (gr : (w.alloc o).grownBy w' v.ownBlock) (hg : v.ownBlock = some g ∨ g = (w.alloc o).heap.size) : Kpt w0 row (.slice (some ⟨g, 0, none⟩) n cap) w' := by
  have hsz : (w.alloc o).heap.size = w.heap.size + 1 := by simp
  refine ⟨Nat.le_trans h.size (Nat.le_trans (by omega) gr.size), fun b hb hne => ?_, ?_⟩
  · have hbw : b < w.heap.size := Nat.lt_of_lt_of_le hb h.size
    have h1 : some b ≠ v.ownBlock := by
      intro e
      rcases h.own with c | c
      · exact hne (e.trans c)
      · have := c b e.symm; omega
    exact ((gr.block b (by omega) h1).trans (((Below.refl _ w).alloc (Nat.le_refl _) o).block b hbw)).trans (h.block b hb hne)
  · show some g = row ∨ ∀ g', some g = some g' → w0.heap.size ≤ g'
    rcases hg with e | e
    · rcases h.own with c | c
      · exact .inl (e.symm.trans c)
      · exact .inr (fun g' e2 => by injection e2 with e2; subst e2; exact c g e)
    · exact .inr (fun g' e2 => by injection e2 with e2; have := h.size; omega)
theorem Kpt.cell {w0 w : World} {row : Option Nat} {v : Value} (h : Kpt w0 row v w) {b o : Nat} {u : Value} (c : w0.cell? ⟨b, o, none⟩ = some u) (hne : some b ≠ row) : w.cell? ⟨b, o, none⟩ = some u := (World.cell?_of_block (h.block b (cell_lt c) hne)).trans c
/-- One byte more, and where the row lies. -/
theorem wpList_app_byte (w : World) {ops : Array Oper} {rest : List Oper} {o : Oper} {a : Act} {Q : Exit → Act → World → Prop} (hgd : o.guard = none) (s x : Operand)
    (ho : o.op = .call { callee := .builtin .append, args := #[s, x], argTypes := #[22, 22] })
    (base : Nat) (v : Value) (acc : List UInt8) (hs : a.eval s = v) (hown : Ws.BRow w base v acc) (B : Nat) (b : UInt8) (hx : a.eval x = .slice (some ⟨B, 0, none⟩) 1 1) (hc : w.cell? ⟨B, 0, none⟩ = some (.int .u8 (b.toNat : Int)))
    (hsz : acc.length ≤ 1099511627776) (hbase : base ≤ w.heap.size)
    (h : ∀ g cap w', Ws.BRow w' base (.slice (some ⟨g, 0, none⟩) (acc.length + 1) cap) (acc ++ [b]) → w.grownBy w' v.ownBlock → (v.ownBlock = some g ∨ g = w.heap.size) → Below base w w' → wpList Tryz.prog ops Q rest (a.put o.dst (.slice (some ⟨g, 0, none⟩) (acc.length + 1) cap)) w') : wpList Tryz.prog ops Q (o :: rest) a w := by
  obtain ⟨i0, hi, hy0, hy1, hy2⟩ := info_parts Ws.infoByte
  refine wpList_append_lies w hgd s x 22 ho base 5 i0 (.int .u8 0) 1 1 Tryz.underlying22 hi hy0 hy1 hy2 rfl (by decide) v acc.length (Ws.bvs acc) hs hown ⟨B, 0, none⟩ 1 1 [.int .u8 (b.toNat : Int)] hx rfl (fun k u hu => ?_) (fun u hu => ?_) (by omega) (by unfold maxLen; omega) (by omega) hbase w.heap.size rfl ?_
  · cases k with
    | zero => simp at hu; subst hu; rw [Go.WideShapes.add_plain]; exact hc
    | succ k => simp at hu
  · simp at hu; subst hu; rfl
  intro g cap w' own grow hg _
  refine h g cap w' ?_ grow hg ((Below.refl base w).grown grow hbase (fun k hk => (World.ownsRow.lt hown k hk).1))
  unfold Ws.BRow
  rw [Ws.bvs_append, List.length_append]
  exact own
theorem zB_at (i : Nat) (h : i < 15) : zB.take (i + 1) = zB.take i ++ [zB.getD i 0] := by
  have h2 : i < zB.length := h
  rw [List.take_succ_eq_append_getElem h2, List.getD_eq_getElem?_getD, List.getElem?_eq_getElem h2]
  rfl

set_option maxHeartbeats 4000000 in
theorem most_walk (every kind : Int) (w : World) (hN : Nam w) (hE : 0 ≤ every ∧ every ≤ 4294967295) (hK : 0 ≤ kind ∧ kind ≤ 255) :
    Calls Tryz.prog 7 #[.int .u32 every, .int .u8 kind] w fun r w' => r = .returned (.bool true) ∧ Below w.heap.size w w' := by
  have O0 : ORls (w.alloc (.cells #[.string ⟨#[]⟩, .int .u64 1, .int .u64 1, .int .u8 1] 37)) w.heap.size (.slice (some ⟨w.heap.size, 0, none⟩) 1 1) [⟨nob, 1, 1, 1⟩] := World.ownsRow_lit (base := w.heap.size) (e := 37) (size := 4) w #[.string ⟨#[]⟩, .int .u64 1, .int .u64 1, .int .u8 1] 1 (Nat.le_refl _) (by unfold maxLen; omega) rfl
  have kA := (Below.refl _ w).alloc (Nat.le_refl _) (.cells #[.string ⟨#[]⟩, .int .u64 1, .int .u64 1, .int .u8 1] 37)
  have kB := (Below.refl _ (w.alloc (.cells #[.string ⟨#[]⟩, .int .u64 1, .int .u64 1, .int .u8 1] 37))).alloc (Nat.le_refl _) (.cells #[.int .i64 5, .slice (some ⟨w.heap.size, 0, none⟩) 1 1] 28)
  have hs : (w.alloc (.cells #[.string ⟨#[]⟩, .int .u64 1, .int .u64 1, .int .u8 1] 37)).heap.size = w.heap.size + 1 := by simp
  have P1 := PB.new (w.alloc (.cells #[.string ⟨#[]⟩, .int .u64 1, .int .u64 1, .int .u8 1] 37)) 5 (.slice (some ⟨w.heap.size, 0, none⟩) 1 1)
  have O1 := ownR_below O0 kB
  have B1 := kbq kA kB
  rw [hs] at P1
  clear hs kA kB O0
  have ee : IntKind.u64.wrap every = every := IntWalk.u64_in _ (by omega)
  have ee1 : IntKind.u64.wrap (1 + every) = 1 + every := IntWalk.u64_in _ (by omega)
  have e3 : kind.tmod 3 = kind % 3 := Int.tmod_eq_emod_of_nonneg hK.1
  have e31 : IntKind.u8.wrap (1 + kind % 3) = 1 + kind % 3 := IntWalk.u8_in _ (by omega)
  have e32 : IntKind.u8.wrap (kind % 3) = kind % 3 := IntWalk.u8_in _ (by omega)
  have hE1 : 1 ≤ 1 + every ∧ 1 + every ≤ 4294967296 := by omega
  have hK1 : 1 ≤ 1 + kind % 3 ∧ 1 + kind % 3 ≤ 3 := by omega
  go_enter Tryz.func7, Tryz.ntmps7
  go_wp2
  generalize hW : (w.alloc (.cells #[.string ⟨#[]⟩, .int .u64 1, .int .u64 1, .int .u8 1] 37)).alloc (.cells #[.int .i64 5, .slice (some ⟨w.heap.size, 0, none⟩) 1 1] 28) = W1 at *
  have hg : (Value.slice (some ⟨w.heap.size, 0, none⟩) 1 1).ownBlock ≠ some (w.heap.size + 1) := by simp [Value.ownBlock]
  have hr0 : ORls W1 w.heap.size (.slice (some ⟨w.heap.size, 0, none⟩) 1 1) (mostL (1 + every) (1 + kind % 3) 0) := O1
  generalize hH : w.heap.size = H0 at *
  clear hW O1
  go_loopw [6] (fun i wr => ∃ (k : Nat) (v : Value), i = .int .i64 (k : Int) ∧ k ≤ 999 ∧ PB wr (H0 + 1) 5 v ∧ ORls wr H0 v (mostL (1 + every) (1 + kind % 3) k) ∧ v.ownBlock ≠ some (H0 + 1) ∧ Below H0 w wr) (fun i _ => 999 - (intOf i).toNat)
  case atStart => exact ⟨0, _, rfl, by omega, P1, hr0, hg, B1⟩
  case round =>
    clear P1 hr0 hg B1
    obtain ⟨k, v, rfl, hk, hP, hO, hne, hB⟩ := hrel
    have i0 : (0 : Int) ≤ (k : Int) := Int.natCast_nonneg _
    obtain ⟨A3, c3, rfl, hc1, hc2, hRl⟩ := hO.rls (most_ok hk hE1 hK1)
    have hlen := mostL_len (1 + every) (1 + kind % 3) k
    by_cases hkn : k < 999
    · have i1 : (k : Int) < 999 := by omega
      rw [hlen] at hP hne
      have OW : wr.ownsRow H0 37 4 (.slice A3 (k + 1) c3) (k + 1) (flatR (mostL (1 + every) (1 + kind % 3) k)) := by
        have := hO
        unfold ORls at this
        rw [hlen] at this
        exact this
      have OW := Lib.hid OW
      have MG := Lib.hid (fun (w0 w' : World) (k0 : Below wr.heap.size wr w0) (g : w0.grownBy w' (Value.slice A3 (k + 1) c3).ownBlock) => (hP.below k0).grown g hne)
      have hH0 : H0 + 1 < wr.heap.size := hP.lt
      have hH1 : H0 ≤ wr.heap.size := by omega
      have hadd := k_add (Lib.decDigits k) (dec_len20 k (by omega))
      have hw : IntKind.u64.wrap (k : Int) = (k : Int) := IntWalk.u64_in _ (by omega)
      have k5 : Below wr.heap.size wr wr := Below.refl _ _
      have NE := Lib.hid hne
      have HB := Lib.hid hB
      have HLT := Lib.hid (fun b hb => (World.ownsRow.lt OW.out b hb).1)
      have HSU := Lib.hid (mostL_succ (1 + every) (1 + kind % 3) k)
      have HLN := Lib.hid hlen
      obtain ⟨p0, p1, f0, f1⟩ := hP
      obtain ⟨i0', hi, hy0, hy1, hy2⟩ := info_parts zeroRule
      clear hO hc1 hRl hne hlen hB
      go_wp2_with fail
      go_region_law (first
        | (refine step_append_lies _ (by rfl) _ _ 26 (by rfl) H0 37 i0' (.agg #[.string ⟨#[]⟩, .int .u64 0, .int .u64 0, .int .u8 0]) 4 40 Tryz.underlying26 hi hy0 hy1 hy2 rfl (by decide) (.slice A3 (k + 1) c3) (k + 1) (flatR (mostL (1 + every) (1 + kind % 3) k)) (by rfl) (by first | exact OW.out.alloc _ | exact (OW.out.alloc _).drew | exact OW.out.drew.alloc _) ⟨wr.heap.size, 0, none⟩ 1 1 [.string (str (107 :: Lib.decDigits k)), .int .u64 (1 + every), .int .u64 1, .int .u8 (1 + kind % 3)] (by rfl) (by rfl) (by first | exact new_four _ _ _ _ _ | exact fun j u hu => new_four wr _ _ _ _ j u hu) (by simp [Value.oneCell']) (by decide) (by unfold maxLen; omega) (by omega) (by simp; omega) (wr.heap.size + 1) (by simp) ?_; intro g cp w6 own6 grow6 at6 lt6; obtain ⟨q0, q1, q2, q3⟩ := MG.out _ _ (by first | with_reducible exact k5.alloc (Nat.le_refl _) _ | with_reducible exact (k5.alloc (Nat.le_refl _) _).drew | with_reducible exact k5.drew.alloc (Nat.le_refl _) _) grow6; have hB6 := (by first | with_reducible exact (HB.out.alloc hH1 _).grown grow6 (by simp; omega) HLT.out | with_reducible exact (HB.out.alloc hH1 _).drew.grown grow6 (by simp; omega) HLT.out | with_reducible exact (HB.out.drew.alloc hH1 _).grown grow6 (by simp; omega) HLT.out))
        | (go_simp; go_at_call 21; ((with_reducible refine (refPrint_any k _ (by omega)).mono ?_); rintro r w2 ⟨rfl, rfl⟩)))
      all_goals
        have hg6 : g ≠ H0 + 1 := by
          rcases at6 with e | e
          · intro c; exact NE.out (by rw [e, c])
          · omega
        have hg7 : (Value.slice (some ⟨g, 0, none⟩) (k + 1 + 1) cp).ownBlock ≠ some (H0 + 1) := by simp [Value.ownBlock]; omega
        have hPZ := Lib.hid (PB.put ⟨q0, q1, q2, q3⟩ (.slice (some ⟨g, 0, none⟩) (k + 1 + 1) cp))
        have hOZ : ORls (w6.setCell ⟨H0 + 1, 1, none⟩ (.slice (some ⟨g, 0, none⟩) (k + 1 + 1) cp)) H0 (.slice (some ⟨g, 0, none⟩) (k + 1 + 1) cp) (mostL (1 + every) (1 + kind % 3) (k + 1)) := by
          rw [HSU.out]
          exact ownsRow_setCell_other (one_more own6 (by rw [HLN.out])) hg7 _
        have hOZ := Lib.hid hOZ
        have hBZ := Lib.hid (hB6.setCell (p := ⟨H0 + 1, 1, none⟩) (by show H0 ≤ H0 + 1; omega) (.slice (some ⟨g, 0, none⟩) (k + 1 + 1) cp))
        have HG7 := Lib.hid hg7
        clear at6 own6 grow6 lt6 hg6 hg7 hB6
        go_wp2
        go_roundw
        case rel => exact ⟨k + 1, _, by go_num, by omega, hPZ.out, hOZ.out, HG7.out, hBZ.out⟩
        case measure => simp [intOf]; omega
    · have i1 : ¬ (k : Int) < 999 := by omega
      obtain rfl : k = 999 := by omega
      subst hH
      obtain ⟨wa, rfl⟩ : ∃ wa, wa = wr := ⟨_, rfl⟩
      have h0 := most_ri hE1 hK1
      have ok := most_ok (k := 999) (by omega) hE1 hK1
      have hback := print_back h0 ok
      have hmany := Lib.hid (many_ri (1 + every) (1 + kind % 3))
      have hcfg := Lib.hid (many_cfg hE1 hK1)
      have hpl := prTx_len h0 ok
      have hol : (ordL (mostL (1 + every) (1 + kind % 3) 999)).length = 1000 := by rw [ordL_length, hlen]
      replace hlen : (mostL (1 + every) (1 + kind % 3) 999).length = 1000 := hlen
      generalize mostL (1 + every) (1 + kind % 3) 999 = rs at *
      rw [hlen] at hP hne hc1 hRl
      have hO2 : ORls wa w.heap.size (.slice A3 1000 c3) rs := by rw [hlen] at hO; exact hO
      have CR := cprint_any 5 A3 1000 c3 rs wa (hN.below hB) hRl (by omega) (by omega)
      rw [h0, if_pos rfl] at CR
      have HO := Lib.hid hO2
      have HOK := Lib.hid ok
      have HRL := Lib.hid hRl
      have NE := Lib.hid hne
      have HP := Lib.hid hP
      have HB := Lib.hid hB
      have hPlt := hP.lt
      obtain ⟨p0, p1, f0, f1⟩ := hP
      have cpc : (c3 : Int) ≤ 9223372036854775807 := by omega
      clear hO hO2 ok hRl hne h0 ee ee1 e3 e31 e32 hE1 hK1 hB hE hK
      go_wp2_with (go_at_call 16; (with_reducible refine CR.mono ?_); rintro r w2 ⟨⟨v2, rfl, hB2⟩, k2⟩; refine stopHere ?_)
      unfold Stop
      obtain ⟨A2, c2, rfl, ⟨hc3, hc4⟩, hT, hA0, hAs⟩ := hB2.form2
      have C1 := cparse_any A2 (prTx 5 rs).length c2 (prTx 5 rs) w2 ((hN.below HB.out).below k2) hT hc3 hc4
      rw [hback] at C1
      dsimp only at C1
      rw [hol] at C1
      clear CR
      go_wp2_with (go_at_call 17; (with_reducible refine C1.mono ?_); rintro r w4 ⟨⟨A5, rfl, _⟩, k4⟩; refine stopHere ?_)
      unfold Stop
      have hzz : ((w4.alloc (.cells #[.int .i64 5, .slice A5 1000 1000] 28)).alloc (.cells #[.int .i64 0, .int .i64 0] 44)).heap.size = w4.heap.size + 1 + 1 := by rw [World.size_alloc, World.size_alloc]
      have v2 := Go.Joins.run_convert_bytes_const_at (P := Tryz.prog) ((w4.alloc (.cells #[.int .i64 5, .slice A5 1000 1000] 28)).alloc (.cells #[.int .i64 0, .int .i64 0] 44)) 22 5 #[.int .u8 114, .int .u8 117, .int .u8 108, .int .u8 101, .int .u8 32, .int .u8 122, .int .u8 32, .int .u8 49, .int .u8 32, .int .u8 49, .int .u8 32, .int .u8 103, .int .u8 99, .int .u8 114, .int .u8 97] 15 15 (w4.heap.size + 1 + 1) hzz.symm Tryz.underlying22 Tryz.underlying5
      have aA := (Below.refl _ w4).alloc (Nat.le_refl _) (.cells #[.int .i64 5, .slice A5 1000 1000] 28)
      have aB := (Below.refl _ (w4.alloc (.cells #[.int .i64 5, .slice A5 1000 1000] 28))).alloc (Nat.le_refl _) (.cells #[.int .i64 0, .int .i64 0] 44)
      have aC := (Below.refl _ ((w4.alloc (.cells #[.int .i64 5, .slice A5 1000 1000] 28)).alloc (.cells #[.int .i64 0, .int .i64 0] 44))).alloc (Nat.le_refl _) (.cells #[.int .u8 114, .int .u8 117, .int .u8 108, .int .u8 101, .int .u8 32, .int .u8 122, .int .u8 32, .int .u8 49, .int .u8 32, .int .u8 49, .int .u8 32, .int .u8 103, .int .u8 99, .int .u8 114, .int .u8 97] 5 (15, 16))
      have a5 := kbq k4 (kbq (kbq aA aB) aC)
      have l1 : (((w4.alloc (.cells #[.int .i64 5, .slice A5 1000 1000] 28)).alloc (.cells #[.int .i64 0, .int .i64 0] 44)).alloc (.cells #[.int .u8 114, .int .u8 117, .int .u8 108, .int .u8 101, .int .u8 32, .int .u8 122, .int .u8 32, .int .u8 49, .int .u8 32, .int .u8 49, .int .u8 32, .int .u8 103, .int .u8 99, .int .u8 114, .int .u8 97] 5 (15, 16))).cell? ⟨w4.heap.size, 1, none⟩ = some (.slice A5 1000 1000) := acell (acell (show (w4.alloc (.cells #[.int .i64 5, .slice A5 1000 1000] 28)).cell? ⟨w4.heap.size, 1, none⟩ = _ by simp))
      have hZ := Ws.txt_lit (W := (w4.alloc (.cells #[.int .i64 5, .slice A5 1000 1000] 28)).alloc (.cells #[.int .i64 0, .int .i64 0] 44)) zB #[.int .u8 114, .int .u8 117, .int .u8 108, .int .u8 101, .int .u8 32, .int .u8 122, .int .u8 32, .int .u8 49, .int .u8 32, .int .u8 49, .int .u8 32, .int .u8 103, .int .u8 99, .int .u8 114, .int .u8 97] 5 (15, 16) rfl
      rw [hzz] at hZ
      have hsz5 : (((w4.alloc (.cells #[.int .i64 5, .slice A5 1000 1000] 28)).alloc (.cells #[.int .i64 0, .int .i64 0] 44)).alloc (.cells #[.int .u8 114, .int .u8 117, .int .u8 108, .int .u8 101, .int .u8 32, .int .u8 122, .int .u8 32, .int .u8 49, .int .u8 32, .int .u8 49, .int .u8 32, .int .u8 103, .int .u8 99, .int .u8 114, .int .u8 97] 5 (15, 16))).heap.size = w4.heap.size + 3 := by rw [World.size_alloc, hzz]
      have hBr := hB2.below a5
      have hB5 := kbq k2 a5
      have hrow : ∀ b, (Value.slice A2 (prTx 5 rs).length c2).ownBlock = some b → b < w4.heap.size := fun b hb => Nat.lt_of_lt_of_le (World.ownsRow.lt hB2 b hb).2 k4.size
      have hwa4 : wa.heap.size ≤ w4.heap.size := Nat.le_trans k2.size k4.size
      clear C1 aA aB aC k4 a5 hB2 hT hc3 hc4 hA0 hAs
      have hZc : Hid (∀ j, j < 15 → (((w4.alloc (.cells #[.int .i64 5, .slice A5 1000 1000] 28)).alloc (.cells #[.int .i64 0, .int .i64 0] 44)).alloc (.cells #[.int .u8 114, .int .u8 117, .int .u8 108, .int .u8 101, .int .u8 32, .int .u8 122, .int .u8 32, .int .u8 49, .int .u8 32, .int .u8 49, .int .u8 32, .int .u8 103, .int .u8 99, .int .u8 114, .int .u8 97] 5 (15, 16))).cell? ⟨w4.heap.size + 1 + 1, j, none⟩ = some (.int .u8 ((zB.getD j 0).toNat : Int))) := Lib.hid (fun j hj => by
        obtain ⟨b', off', e', _, hc⟩ := hZ.2 (show 0 < zB.length by decide)
        simp only [Option.some.injEq, Addr.mk.injEq, and_true] at e'
        obtain ⟨rfl, rfl⟩ := e'
        have := hc j hj
        rw [Nat.zero_add] at this
        exact this)
      have KP0 := Kpt.refl (((w4.alloc (.cells #[.int .i64 5, .slice A5 1000 1000] 28)).alloc (.cells #[.int .i64 0, .int .i64 0] 44)).alloc (.cells #[.int .u8 114, .int .u8 117, .int .u8 108, .int .u8 101, .int .u8 32, .int .u8 122, .int .u8 32, .int .u8 49, .int .u8 32, .int .u8 49, .int .u8 32, .int .u8 103, .int .u8 99, .int .u8 114, .int .u8 97] 5 (15, 16))) (.slice A2 (prTx 5 rs).length c2)
      have hBr2 : Ws.BRow (((w4.alloc (.cells #[.int .i64 5, .slice A5 1000 1000] 28)).alloc (.cells #[.int .i64 0, .int .i64 0] 44)).alloc (.cells #[.int .u8 114, .int .u8 117, .int .u8 108, .int .u8 101, .int .u8 32, .int .u8 122, .int .u8 32, .int .u8 49, .int .u8 32, .int .u8 49, .int .u8 32, .int .u8 103, .int .u8 99, .int .u8 114, .int .u8 97] 5 (15, 16))) wa.heap.size (.slice A2 (prTx 5 rs).length c2) (prTx 5 rs ++ zB.take 0) := by rw [List.take_zero, List.append_nil]; exact hBr
      have hrow := Lib.hid hrow
      clear hZ hBr
      go_wp2_with fail
      clear hzz
      generalize hW5 : ((w4.alloc (.cells #[.int .i64 5, .slice A5 1000 1000] 28)).alloc (.cells #[.int .i64 0, .int .i64 0] 44)).alloc (.cells #[.int .u8 114, .int .u8 117, .int .u8 108, .int .u8 101, .int .u8 32, .int .u8 122, .int .u8 32, .int .u8 49, .int .u8 32, .int .u8 49, .int .u8 32, .int .u8 103, .int .u8 99, .int .u8 114, .int .u8 97] 5 (15, 16)) = W5 at *
      clear v2 hW5
      generalize hRow : (Value.slice A2 (prTx 5 rs).length c2).ownBlock = row at KP0 hrow
      clear p0 p1 f0 f1 hRow
      go_loopw [7, 54] (fun v i wl => ∃ j : Nat, i = .int .i64 (j : Int) ∧ j ≤ 15 ∧ Ws.BRow wl wa.heap.size v (prTx 5 rs ++ zB.take j) ∧ Kpt W5 row v wl ∧ Below wa.heap.size wa wl) (fun _ i _ => 15 - (intOf i).toNat)
      case atStart => exact ⟨0, rfl, by omega, hBr2, KP0, hB5⟩
      case round =>
        clear hBr2 KP0
        obtain ⟨j, rfl, hj, hBR, hK, hBl⟩ := hrel
        have j0 : (0 : Int) ≤ (j : Int) := Int.natCast_nonneg _
        obtain ⟨A7, c7, rfl, ⟨hc5, hc6⟩, hT7, _, _⟩ := hBR.form2
        by_cases hj15 : j < 15
        · have j1 : (j : Int) < 15 := by omega
          have zc := hK.cell (hZc.out j hj15) (fun e => by have := hrow.out _ e.symm; omega)
          have hzt := Lib.hid (zB_at j hj15)
          generalize zB.getD j 0 = bt at zc hzt
          have hal : (prTx 5 rs ++ zB.take j).length ≤ 700000 := by rw [List.length_append, List.length_take]; omega
          have hzt2 : Hid (prTx 5 rs ++ zB.take (j + 1) = prTx 5 rs ++ zB.take j ++ [bt]) := Lib.hid (by rw [hzt.out, List.append_assoc])
          have kE := (Below.refl _ wr).alloc (Nat.le_refl _) (.cells #[.int .u8 (bt.toNat : Int)] 5)
          have hBR2 := Lib.hid (hBR.below kE)
          have hBl2 := Lib.hid (hBl.alloc hBl.size (.cells #[.int .u8 (bt.toNat : Int)] 5))
          have HK := Lib.hid hK
          have hbs : wa.heap.size ≤ (wr.alloc (.cells #[.int .u8 (bt.toNat : Int)] 5)).heap.size := Nat.le_trans hBl.size kE.size
          generalize prTx 5 rs ++ zB.take j = acc at *
          clear hzt hBR hK hT7 kE hZc
          go_wp2_with (at_builtin; refine wpList_app_byte _ rfl _ _ rfl wa.heap.size (.slice A7 acc.length c7) acc rfl hBR2.out wr.heap.size bt rfl (by simp) (by omega) hbs ?_; intro g cp w6 hO6 gw6 gg6 b6; refine stopHere ?_)
          unfold Stop
          have HO6 := Lib.hid hO6
          have HK6 := Lib.hid (HK.out.step (n := acc.length + 1) (cap := cp) gw6 gg6)
          have HB6 := Lib.hid (hBl2.out.trans b6)
          clear hO6 gw6 gg6 b6
          go_wp2
          go_roundw
          case rel => exact ⟨j + 1, by go_num, by omega, by rw [hzt2.out]; exact HO6.out, HK6.out, HB6.out⟩
          case measure => simp [intOf]; omega
        · have j1 : ¬ (j : Int) < 15 := by omega
          obtain rfl : j = 15 := by omega
          have hz15 : zB.take 15 = zB := rfl
          rw [hz15] at hBR hT7 hc5 ⊢
          have hal : (prTx 5 rs ++ zB).length ≤ 700000 := by rw [List.length_append]; have : zB.length = 15 := rfl; omega
          have C2 := cparse_any A7 (prTx 5 rs ++ zB).length c7 (prTx 5 rs ++ zB) wr ((hN.below HB.out).below hBl) hT7 hc5 hc6
          rw [hcfg.out] at C2
          dsimp only at C2
          have l2 := hK.cell l1 (fun e => by have := hrow.out _ e.symm; omega)
          generalize prTx 5 rs ++ zB = tz at *
          clear hZc hcfg hz15 hK hBR hT7 l1 hB5 hback hpl hol
          go_wp2_with (go_at_call 17; (with_reducible refine C2.mono ?_); rintro r w8 ⟨⟨A8, rfl, _⟩, k8⟩; refine stopHere ?_)
          unfold Stop
          have aA := (Below.refl _ w8).alloc (Nat.le_refl _) (.cells #[.int .i64 0, .slice A8 0 0] 28)
          have aB := (Below.refl _ (w8.alloc (.cells #[.int .i64 0, .slice A8 0 0] 28))).alloc (Nat.le_refl _) (.cells #[.int .i64 1002, .int .i64 1] 44)
          have aC := (Below.refl _ ((w8.alloc (.cells #[.int .i64 0, .slice A8 0 0] 28)).alloc (.cells #[.int .i64 1002, .int .i64 1] 44))).alloc (Nat.le_refl _) (.cells #[.string ⟨#[122]⟩, .int .u64 1, .int .u64 1, .int .u8 1] 37)
          have q0 : ((w8.alloc (.cells #[.int .i64 0, .slice A8 0 0] 28)).alloc (.cells #[.int .i64 1002, .int .i64 1] 44)).cell? ⟨w8.heap.size + 1, 0, none⟩ = some (.int .i64 1002) := by simp
          have q1 : ((w8.alloc (.cells #[.int .i64 0, .slice A8 0 0] 28)).alloc (.cells #[.int .i64 1002, .int .i64 1] 44)).cell? ⟨w8.heap.size + 1, 1, none⟩ = some (.int .i64 1) := by simp
          have ab := kbq aA aB
          have l9 := celln (kbq k8 ab) l2
          have B9 := kbq hBl (kbq k8 ab)
          have P9 := HP.out.below B9
          have O9 := ownR_below HO.out B9
          have RN := r4_new ((w8.alloc (.cells #[.int .i64 0, .slice A8 0 0] 28)).alloc (.cells #[.int .i64 1002, .int .i64 1] 44)) zR
          have hwr8 : wa.heap.size ≤ w8.heap.size := Nat.le_trans hBl.size k8.size
          have hw9 : wa.heap.size ≤ ((w8.alloc (.cells #[.int .i64 0, .slice A8 0 0] 28)).alloc (.cells #[.int .i64 1002, .int .i64 1] 44)).heap.size := B9.size
          have BW9 := kbq HB.out B9
          have q0 := Lib.hid q0
          have q1 := Lib.hid q1
          have l9 := Lib.hid l9
          clear C2 aA aB ab k8
          go_upto_region 14 with fail
          generalize hW9 : ((w8.alloc (.cells #[.int .i64 0, .slice A8 0 0] 28)).alloc (.cells #[.int .i64 1002, .int .i64 1] 44)) = W9 at *
          clear hW9
          have P10 := P9.below aC
          have O10 := Lib.hid (ownR_below O9 aC)
          have hq := Lib.hid (And.intro (acell (o := (.cells #[.string ⟨#[122]⟩, .int .u64 1, .int .u64 1, .int .u8 1] 37)) q0.out) (And.intro (acell (o := (.cells #[.string ⟨#[122]⟩, .int .u64 1, .int .u64 1, .int .u8 1] 37)) q1.out) (acell (o := (.cells #[.string ⟨#[122]⟩, .int .u64 1, .int .u64 1, .int .u8 1] 37)) l9.out)))
          have RN := Lib.hid RN
          have hs10 : w.heap.size ≤ (W9.alloc (.cells #[.string ⟨#[122]⟩, .int .u64 1, .int .u64 1, .int .u8 1] 37)).heap.size := by rw [World.size_alloc]; omega
          have HLN := Lib.hid hlen
          have HOW := Lib.hid (fun b hb => (World.ownsRow.lt HO.out b hb).2)
          have B10 := Lib.hid (BW9.alloc BW9.size (.cells #[.string ⟨#[122]⟩, .int .u64 1, .int .u64 1, .int .u8 1] 37))
          have hl10 := P10.lt
          have HP10 := Lib.hid P10
          obtain ⟨p0, p1, f0, f1⟩ := P9
          clear B9 O9 BW9 P10 hlen q0 q1 l9 aC
          go_wp2_with (at_builtin; refine wpList_app_rl _ rfl _ _ rfl w.heap.size (.slice A3 1000 c3) rs rfl O10.out W9.heap.size 0 1 1 [zR] rfl rfl (by omega) (fun j hj => by obtain rfl : j = 0 := (by simp at hj; exact hj); exact RN.out) (by have := HLN.out; omega) hs10 ?_; intro g2 cp2 w12 hO12 b12 gw12 gg12; obtain ⟨p0, p1, f0, f1⟩ := HP10.out.grown gw12 NE.out; refine stopHere ?_)
          unfold Stop
          have hg2 : g2 ≠ w.heap.size + 1 := by
            rcases gg12 with e | e
            · intro c; exact NE.out (by rw [e, c])
            · omega
          have hO13 := Lib.hid (ownsRow_setCell_other hO12 (a := ⟨w.heap.size + 1, 1, none⟩) (by simp only [Value.ownBlock]; intro e; injection e with e; exact hg2 e) (.slice (some ⟨g2, 0, none⟩) (rs.length + 1) cp2))
          have c0 := (gw12.cell_far ⟨w8.heap.size + 1, 0, none⟩ (cell_lt hq.out.1) (fun e => by have := HOW.out (w8.heap.size + 1) e.symm; omega)).trans hq.out.1
          have c1 := (gw12.cell_far ⟨w8.heap.size + 1, 1, none⟩ (cell_lt hq.out.1) (fun e => by have := HOW.out (w8.heap.size + 1) e.symm; omega)).trans hq.out.2.1
          have c2 := (gw12.cell_far ⟨w4.heap.size, 1, none⟩ (cell_lt hq.out.2.2) (fun e => by have := HOW.out w4.heap.size e.symm; omega)).trans hq.out.2.2
          have P13 := PB.put ⟨p0, p1, f0, f1⟩ (.slice (some ⟨g2, 0, none⟩) (rs.length + 1) cp2)
          have d0 : (w12.setCell ⟨w.heap.size + 1, 1, none⟩ (.slice (some ⟨g2, 0, none⟩) (rs.length + 1) cp2)).cell? ⟨w8.heap.size + 1, 0, none⟩ = some (.int .i64 1002) := (cs_other _ _ _ _ _ _ (.inl (by omega))).trans c0
          have d1 : (w12.setCell ⟨w.heap.size + 1, 1, none⟩ (.slice (some ⟨g2, 0, none⟩) (rs.length + 1) cp2)).cell? ⟨w8.heap.size + 1, 1, none⟩ = some (.int .i64 1) := (cs_other _ _ _ _ _ _ (.inl (by omega))).trans c1
          have d2 : (w12.setCell ⟨w.heap.size + 1, 1, none⟩ (.slice (some ⟨g2, 0, none⟩) (rs.length + 1) cp2)).cell? ⟨w4.heap.size, 1, none⟩ = some (.slice A5 1000 1000) := (cs_other _ _ _ _ _ _ (.inl (by omega))).trans c2
          have B13 := (B10.out.trans b12).setCell (p := ⟨w.heap.size + 1, 1, none⟩) (by show w.heap.size ≤ w.heap.size + 1; omega) (.slice (some ⟨g2, 0, none⟩) (rs.length + 1) cp2)
          have d0 := Lib.hid d0
          have d1 := Lib.hid d1
          have d2 := Lib.hid d2
          have P13 := Lib.hid P13
          have B13 := Lib.hid B13
          clear hO12 b12 gw12 gg12 c0 c1 c2 hq hg2 HP10 O10 RN B10 HOW
          go_wp2_with fail
          generalize hW13 : (w12.setCell ⟨w.heap.size + 1, 1, none⟩ (.slice (some ⟨g2, 0, none⟩) (rs.length + 1) cp2)) = W13 at *
          clear hW13 p0 p1 f0 f1
          have KN := known_any W13 (hN.below B13.out)
          go_wp2_with (go_at_call 10; (with_reducible refine KN.mono ?_); rintro r w14 ⟨rfl, k14⟩; refine stopHere ?_)
          unfold Stop
          have e0 := celln k14 d0.out
          have e1 := celln k14 d1.out
          have e2 := celln k14 d2.out
          obtain ⟨p0, p1, _, _⟩ := P13.out.below k14
          have O14 := ownR_below (hO13.out : ORls W13 w.heap.size _ (rs ++ [zR])) k14
          obtain ⟨A14, c14, ev, hc7, hc8, hR14⟩ := O14.rls (fun r hr => by
            rcases List.mem_append.1 hr with hr | hr
            · exact HOK.out r hr
            · simp only [List.mem_cons, List.not_mem_nil, or_false] at hr; subst hr; exact z_ok)
          simp only [Value.slice.injEq] at ev
          obtain ⟨rfl, hlen2, rfl⟩ := ev
          rw [← hlen2] at hR14
          have CRt := cright_any 5 (some ⟨g2, 0, none⟩) (rs.length + 1) cp2 (rs ++ [zR]) w14 hR14 (by have := HLN.out; omega) (by omega)
          rw [hmany.out] at CRt
          clear hlen2 hc7 hc8 hR14 O14
          go_wp2_with (go_at_call 23; (with_reducible refine CRt.mono ?_); rintro r w15 ⟨rfl, k15⟩)
          go_ret
          exact ⟨rfl, kbq (kbq B13.out k14) k15⟩
end Go.Proofs.YtckaiejbgnhgcaaGreatDoor.Wd
namespace Go.Proofs.YtckaiejbgnhgcaaGreatDoor.Wd
open Go Go.RowKit
set_option linter.unusedVariables false
set_option maxRecDepth 100000

theorem dbel {w w' : World} (h : Drew w w') : Below w.heap.size w w' := h.kept.2
theorem fd_dst (rs : List Rl) : Dst rs ↔ ∀ k, k < rs.length → ¬ fdI rs (fnOf rs k).p < k := by
  constructor
  · intro h k hk hl
    rcases fd_ways rs (fnOf rs k).p with ⟨j, hj, e, _, g⟩ | ⟨g, _⟩
    · rw [g] at hl
      exact h j k (by omega) hk e
    · exact g k hk rfl
  · intro h i j hij hj e
    have := h j hj
    rcases fd_ways rs (fnOf rs j).p with ⟨k, hk, e2, g2, g⟩ | ⟨g, _⟩
    · rw [g] at this
      exact g2 i (by omega) e
    · exact g j hj rfl

set_option maxHeartbeats 1000000 in
theorem find_any (A : Option Addr) (n cap : Nat) (rs : List Rl) (p : ByteArray) (w : World) (h : Rls w A n rs) (hn : n ≤ 1099511627776) :
    Calls Tryz.prog 48 #[.slice A n cap, .string p] w fun e w' => e = .returned (.int .i64 (fdI rs p)) ∧ w = w' := by
  have hl := h.1
  have HF := Lib.hid (fun k hk e g => (fd_at (rs := rs) (p := p) k hk e g))
  have HG := Lib.hid (fd_none (rs := rs) (p := p))
  generalize fdI rs p = q at HF HG ⊢
  have H := Lib.hid h
  clear h
  go_enter Tryz.func48, Tryz.ntmps48
  go_wp2
  go_loop [5] (fun i => ∃ k : Nat, i = .int .i64 (k : Int) ∧ k ≤ n ∧ Hid (∀ j, j < k → (fnOf rs j).p ≠ p)) (fun i => n - (intOf i).toNat)
  case atStart => exact ⟨0, rfl, Nat.zero_le _, Lib.hid (fun j hj => absurd hj (Nat.not_lt_zero _))⟩
  case round =>
    obtain ⟨k, rfl, hk, D⟩ := hrel
    have i0 : (0 : Int) ≤ (k : Int) := by omega
    by_cases hkn : k < n
    · obtain ⟨b, off, rfl, hb, hcl⟩ := H.out.2.2 (by omega)
      have e0 := (hcl k hkn).1
      have i1 : (k : Int) < (n : Int) := by omega
      have FF := Lib.hid (HF.out k (by omega))
      have hE : Hid ((fnOf rs k).p = (fnOf rs k).p) := Lib.hid rfl
      have DD := Lib.hid (fun (g : (fnOf rs k).p ≠ p) j (hj : j < k + 1) => show (fnOf rs j).p ≠ p from by
        by_cases c : j = k
        · subst c; exact g
        · exact D.out j (by omega))
      generalize hpe : (fnOf rs k).p = pe at e0 FF DD
      clear hcl hE HF HG hpe
      have ts := text_same (a := pe) (b := p)
      cases hd : decide (pe = p)
      · rw [hd] at ts
        have hne := of_decide_eq_false hd
        clear hd
        go_wp2
        go_round
        case rel => exact ⟨k + 1, rfl, hkn, Lib.hid (DD.out hne)⟩
        case measure => simp [intOf]; omega
      · rw [hd] at ts
        have heq := of_decide_eq_true hd
        have := FF.out heq D.out
        clear hd FF DD
        subst this
        go_wp2
        go_ret
        exact ⟨rfl, rfl⟩
    · have i1 : ¬ (k : Int) < (n : Int) := by omega
      have := HG.out (fun j hj => D.out j (by omega))
      subst this
      go_wp2
      go_ret
      exact ⟨rfl, rfl⟩

set_option maxHeartbeats 2000000 in
theorem rright12_any (m : Int) (A : Option Addr) (n cap : Nat) (rs : List Rl) (w : World) (h : Rls w A n rs) (hn : n ≤ 1099511627776) (hm : -9223372036854775808 ≤ m ∧ m ≤ 9223372036854775807) :
    Calls Tryz.prog 27 #[.agg #[.int .i64 m, .slice A n cap]] w fun e w' => e = .returned (.int .i64 (riE m rs)) ∧ Below w.heap.size w w' := by
  have H := Lib.hid h
  have hl := h.1
  clear h
  have B0 := (Below.refl _ w).alloc (Nat.le_refl _) (.cells #[.int .i64 m, .slice A n cap] 28)
  have b0 : (w.alloc (.cells #[.int .i64 m, .slice A n cap] 28)).cell? ⟨w.heap.size, 0, none⟩ = some (.int .i64 m) := by simp
  have b1 : (w.alloc (.cells #[.int .i64 m, .slice A n cap] 28)).cell? ⟨w.heap.size, 1, none⟩ = some (.slice A n cap) := by simp
  by_cases c0 : m < 1
  · have e : riE m rs = 29 := by unfold riE; rw [if_pos (by omega)]
    rw [e]
    have d0 : decide (m < 1) = true := decide_eq_true c0
    go_enter Tryz.func27, Tryz.ntmps27
    go_wp2
    go_ret
    exact ⟨rfl, B0⟩
  · have d0 : decide (m < 1) = false := decide_eq_false c0
    by_cases c1 : 1000000 < m
    · have e : riE m rs = 29 := by unfold riE; rw [if_pos (by omega)]
      rw [e]
      have d1 : decide (1000000 < m) = true := decide_eq_true c1
      go_enter Tryz.func27, Tryz.ntmps27
      go_wp2
      go_ret
      exact ⟨rfl, B0⟩
    · have d1 : decide (1000000 < m) = false := decide_eq_false c1
      by_cases c2 : 1000 < n
      · have e : riE m rs = 32 := by unfold riE; rw [if_neg (by omega), if_pos (by omega)]
        rw [e]
        have c2' : (1000 : Int) < (n : Int) := by omega
        go_enter Tryz.func27, Tryz.ntmps27
        go_wp2
        go_ret
        exact ⟨rfl, B0⟩
      · have e : riE m rs = if frE rs ≠ 0 then frE rs else if hasB rs nob = false then 31 else if soB ((ordL rs).map Rl.p) = false then 28 else 0 := by unfold riE; rw [if_neg (by omega), if_neg (by omega)]
        have c2' : ¬ (1000 : Int) < (n : Int) := by omega
        have HF := Lib.hid (fun (k : Nat) (hk : k < n) (g : ∀ j, j < k → (fnOf rs j).er = 0) (e1 : (fnOf rs k).er ≠ 0) => e.trans (by rw [frE_at k (by omega) g e1, if_pos e1]))
        have HN := Lib.hid (fun (g : ∀ j, j < n → (fnOf rs j).er = 0) => e.trans (by rw [frE_none (fun j hj => g j (by omega)), if_neg (by simp)]))
        generalize riE m rs = R at *
        clear e
        go_enter Tryz.func27, Tryz.ntmps27
        go_wp2
        have hw : w.heap.size < (w.alloc (.cells #[.int .i64 m, .slice A n cap] 28)).heap.size := by simp
        generalize hW : w.alloc (.cells #[.int .i64 m, .slice A n cap] 28) = W1 at *
        clear hW d0 d1
        go_loopw [3] (fun i wr => ∃ k : Nat, i = .int .i64 (k : Int) ∧ k ≤ n ∧ Hid (∀ j, j < k → (fnOf rs j).er = 0) ∧ Below W1.heap.size W1 wr) (fun i _ => n - (intOf i).toNat)
        case atStart => exact ⟨0, rfl, Nat.zero_le _, Lib.hid (fun j hj => absurd hj (Nat.not_lt_zero _)), Below.refl _ _⟩
        case round =>
          obtain ⟨k, rfl, hk, D, hB⟩ := hrel
          have hBw : Below w.heap.size w wr := B0.trans (hB.mono (by omega))
          have d0 := celln hB b0
          have d1 := celln hB b1
          by_cases hkn : k < n
          · obtain ⟨b, off, rfl, hb, hcl⟩ := H.out.2.2 (by omega)
            obtain ⟨x0, x1, x2, x3⟩ := (hcl k hkn).of_block (hBw.block b hb)
            have ok := H.out.ok k
            have C := fun W => refRight_any (fnOf rs k).p (fnOf rs k).e (fnOf rs k).b (fnOf rs k).k W (by have := ok.p; omega) ok.e ok.b (by exact ok.k)
            have FF := Lib.hid (HF.out k hkn D.out)
            have i0 : (0 : Int) ≤ (k : Int) := by omega
            have i1 : (k : Int) < (n : Int) := by omega
            have hE : Hid ((fnOf rs k).er = ruE (fnOf rs k).p (fnOf rs k).e (fnOf rs k).b (fnOf rs k).k) := Lib.hid rfl
            generalize ruE (fnOf rs k).p (fnOf rs k).e (fnOf rs k).b (fnOf rs k).k = E at *
            generalize (fnOf rs k).p = t at *
            generalize (fnOf rs k).e = p at *
            generalize (fnOf rs k).b = q at *
            generalize (fnOf rs k).k = u at *
            clear hcl HF HN ok
            by_cases hz : E = 0
            · have t1 : (E != 0) = false := by simp [hz]
              have t2 : (E == 0) = true := by simp [hz]
              go_wp2_with (go_at_call 38; refine (C _).mono ?_; rintro e w2 ⟨rfl, kk⟩)
              go_roundw
              case rel =>
                refine ⟨k + 1, by go_num, hkn, Lib.hid (fun j hj => ?_), kbq hB kk.2⟩
                by_cases g : j = k
                · rw [g, hE.out]; exact hz
                · exact D.out j (by omega)
              case measure => simp [intOf]; omega
            · have t1 : (E != 0) = true := by simp [hz]
              have t2 : (E == 0) = false := by simp [hz]
              have FE := FF.out (by rw [hE.out]; exact hz)
              rw [hE.out] at FE
              subst FE
              go_wp2_with (go_at_call 38; refine (C _).mono ?_; rintro e w2 ⟨rfl, kk⟩; first | (have Z := hBq; have hBr := kbq hBq kk.2) | (have hBq := kbq hBw kk.2; replace x0 := celln kk.2 x0; replace x1 := celln kk.2 x1; replace x2 := celln kk.2 x2; replace x3 := celln kk.2 x3; replace d1 := celln kk.2 d1))
              go_ret
              exact ⟨rfl, hBr⟩
          · obtain rfl : k = n := by omega
            have HH := HN.out D.out
            have R1 := H.out.below hBw
            have C := find_any A k cap rs nob wr R1 (by omega)
            have CF := fun p W (g : Below wr.heap.size wr W) => find_any A k cap rs p W (R1.below g) (by omega)
            clear HN HF
            cases ch : hasB rs nob with
            | false =>
              have hz : fdI rs nob < 0 := by
                unfold hasB at ch
                have := of_decide_eq_false ch
                omega
              rw [ch] at HH
              rw [if_pos rfl] at HH
              subst HH
              go_wp2_with (go_at_call 48; refine C.mono ?_; rintro e w2 ⟨rfl, rfl⟩)
              go_ret
              exact ⟨rfl, hBw⟩
            | true =>
              obtain ⟨wa, rfl⟩ : ∃ wa, wa = wr := ⟨_, rfl⟩
              have hz : ¬ fdI rs nob < 0 := by
                unfold hasB at ch
                have := of_decide_eq_true ch
                omega
              rw [ch] at HH
              rw [if_neg (by simp)] at HH
              have HT := Lib.hid (fun (j : Nat) (hj : j < k) (g : fdI rs (fnOf rs j).p < j) => show R = 28 from by
                rw [HH, if_pos]
                rw [← Bool.not_eq_true]
                intro hs
                exact (fd_dst rs).1 ((ordL_so rs).1 hs) j (by omega) g)
              have HU := Lib.hid (fun (g : ∀ j : Nat, j < k → (j : Int) ≤ fdI rs (fnOf rs j).p) => show R = 0 from by
                rw [HH, if_neg]
                have := (ordL_so rs).2 ((fd_dst rs).2 (fun j hj => by have := g j (by omega); omega))
                rw [this]; decide)
              clear HH
              go_wp2_with (go_at_call 48; refine C.mono ?_; rintro e w2 ⟨rfl, rfl⟩)
              have BZ := Below.refl wa.heap.size wa
              clear C
              go_loopw [4] (fun i w5 => ∃ j : Nat, i = .int .i64 (j : Int) ∧ j ≤ k ∧ Hid (∀ i : Nat, i < j → (i : Int) ≤ fdI rs (fnOf rs i).p) ∧ Below wa.heap.size wa w5) (fun i _ => k - (intOf i).toNat)
              case atStart => exact ⟨0, rfl, Nat.zero_le _, Lib.hid (fun j hj => absurd hj (Nat.not_lt_zero _)), BZ⟩
              case round =>
                obtain ⟨j, rfl, hj, D2, hB2⟩ := hrel
                have R2 := R1.below hB2
                replace d0 := celln hB2 d0
                replace d1 := celln hB2 d1
                have i0 : (0 : Int) ≤ (j : Int) := by omega
                have BW := kbq hBw hB2
                by_cases hjk : j < k
                · have i1 : (j : Int) < (k : Int) := by omega
                  obtain ⟨b, off, rfl, hb, hcl⟩ := R2.2.2 (by omega)
                  have e0 := (hcl j hjk).1
                  have C2 := fun W (g : Below wr.heap.size wr W) => CF (fnOf rs j).p W (kbq hB2 g)
                  have HT2 := Lib.hid (HT.out j hjk)
                  have DD := Lib.hid (fun (g : (j : Int) ≤ fdI rs (fnOf rs j).p) (i : Nat) (hi : i < j + 1) => show (i : Int) ≤ fdI rs (fnOf rs i).p from by
                    by_cases c : i = j
                    · subst c; exact g
                    · exact D2.out i (by omega))
                  generalize fdI rs (fnOf rs j).p = q at C2 HT2 DD
                  generalize (fnOf rs j).p = pe at e0 C2
                  clear hcl CF HT HU D2
                  have L2 := Lib.hid (fun N => C2 (wr.drewN N) (dbel ⟨N, rfl⟩))
                  clear C2
                  go_wp2_with fail
                  go_quiet ((go_at_call 48; exact still_call (L2.out _)))
                  by_cases hq : q < j
                  · have := HT2.out hq
                    subst this
                    go_wp2
                    go_ret
                    exact ⟨rfl, kbq BW (dbel ⟨_, rfl⟩)⟩
                  · go_wp2
                    go_roundw
                    case rel => exact ⟨j + 1, rfl, hjk, Lib.hid (DD.out (by omega)), kbq hB2 (dbel ⟨_, rfl⟩)⟩
                    case measure => simp [intOf]; omega
                · have i1 : ¬ (j : Int) < (k : Int) := by omega
                  have := HU.out (fun i hi => D2.out i (by omega : i < j))
                  subst this
                  go_wp2
                  go_ret
                  exact ⟨rfl, BW⟩

set_option maxHeartbeats 1000000 in
theorem same12_any (m : Int) (A1 A2 : Option Addr) (n c1 c2 : Nat) (rs : List Rl) (w : World) (h1 : Rls w A1 n rs) (h2 : Rls w A2 n rs) (hn : n ≤ 1099511627776) :
    Calls Tryz.prog 18 #[.agg #[.int .i64 m, .slice A1 n c1], .agg #[.int .i64 m, .slice A2 n c2]] w fun e w' => e = .returned (.bool true) ∧ Below w.heap.size w w' := by
  have H1 := Lib.hid h1
  have H2 := Lib.hid h2
  have hl := h1.1
  clear h1 h2
  have B0 := (Below.refl _ w).alloc (Nat.le_refl _) (.cells #[.int .i64 m, .slice A1 n c1] 28)
  have B1 := B0.alloc B0.size (.cells #[.int .i64 m, .slice A2 n c2] 28)
  have a0 : ((w.alloc (.cells #[.int .i64 m, .slice A1 n c1] 28)).alloc (.cells #[.int .i64 m, .slice A2 n c2] 28)).cell? ⟨w.heap.size, 0, none⟩ = some (.int .i64 m) := by simp
  have a1 : ((w.alloc (.cells #[.int .i64 m, .slice A1 n c1] 28)).alloc (.cells #[.int .i64 m, .slice A2 n c2] 28)).cell? ⟨w.heap.size, 1, none⟩ = some (.slice A1 n c1) := by simp
  have b0 : ((w.alloc (.cells #[.int .i64 m, .slice A1 n c1] 28)).alloc (.cells #[.int .i64 m, .slice A2 n c2] 28)).cell? ⟨w.heap.size + 1, 0, none⟩ = some (.int .i64 m) := by simp
  have b1 : ((w.alloc (.cells #[.int .i64 m, .slice A1 n c1] 28)).alloc (.cells #[.int .i64 m, .slice A2 n c2] 28)).cell? ⟨w.heap.size + 1, 1, none⟩ = some (.slice A2 n c2) := by simp
  go_enter Tryz.func18, Tryz.ntmps18
  go_wp2
  generalize hW : (w.alloc (.cells #[.int .i64 m, .slice A1 n c1] 28)).alloc (.cells #[.int .i64 m, .slice A2 n c2] 28) = W1 at *
  clear hW B0
  go_loopw [5] (fun i wr => ∃ k : Nat, i = .int .i64 (k : Int) ∧ k ≤ n ∧ Below W1.heap.size W1 wr) (fun i _ => n - (intOf i).toNat)
  case atStart => exact ⟨0, rfl, Nat.zero_le _, Below.refl _ _⟩
  case round =>
    obtain ⟨k, rfl, hk, hB⟩ := hrel
    have hBw := kbq B1 hB
    have d0 := celln hB a1
    have d1 := celln hB b1
    have i0 : (0 : Int) ≤ (k : Int) := by omega
    by_cases hkn : k < n
    · obtain ⟨o1, f1, rfl, hb1, hcl1⟩ := (H1.out.below hBw).2.2 (by omega)
      obtain ⟨o2, f2, rfl, hb2, hcl2⟩ := (H2.out.below hBw).2.2 (by omega)
      obtain ⟨x0, x1, x2, x3⟩ := hcl1 k hkn
      obtain ⟨y0, y1, y2, y3⟩ := hcl2 k hkn
      have i1 : (k : Int) < (n : Int) := by omega
      generalize (fnOf rs k).p = t at *
      generalize (fnOf rs k).e = p at *
      generalize (fnOf rs k).b = q at *
      generalize (fnOf rs k).k = u at *
      clear hcl1 hcl2
      go_wp2_with fail
      go_quiet (fail)
      go_wp2
      go_roundw
      case rel => exact ⟨k + 1, by go_num, hkn, kbq hB (dbel ⟨_, rfl⟩)⟩
      case measure => simp [intOf]; omega
    · have i1 : ¬ (k : Int) < (n : Int) := by omega
      go_wp2
      go_ret
      exact ⟨rfl, hBw⟩
end Go.Proofs.YtckaiejbgnhgcaaGreatDoor.Wd
