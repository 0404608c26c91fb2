/- PrefixOrder; no conditions but those that each names. -/
import Derived.Test.YtekpmepcacbloaaPreW3
import Derived.Test.YtekpmepcacbloaaPreS
namespace Go.Proofs.Ytekpmepcacbloaa.Wd
open Go Go.RowKit Go.Shelf
set_option linter.unusedVariables false
set_option maxRecDepth 100000

set_option maxHeartbeats 4000000 in
theorem order_walk (most : Int) (A : Option Addr) (n cap : Nat) (X : Option Addr) (n1 c1 : Nat) (w : World) (hm : 0 ≤ most ∧ most ≤ 65535) (h : Nmr w A n) (hn : n ≤ 9223372036854775807) (hX : Byts w X n1) (hn1 : n1 ≤ 9223372036854775807) :
    Calls Try.prog 4 #[.int .u16 most, .slice A n cap, .slice X n1 c1] w fun e w' => e = .returned (.bool true) ∧ Below w.heap.size w w' := by
  have K0 := Lib.hid known_any
  have CP := Lib.hid (policy_any most A n cap w hm h hn)
  have HX := Lib.hid hX
  clear h hX
  go_enter Try.func4, Try.ntmps4
  go_wp2_with (go_at_call 9; refine CP.out.mono ?_; rintro e w1 ⟨⟨m, rs, v, rfl, hO, hlen, hP⟩, g1⟩; refine stopHere ?_)
  unfold Stop
  obtain ⟨A1, cp1, rfl, hc1, hR, hn1', hs1⟩ := hO.form3 (polr_ok hP.out) rfl
  have hpos := polr_len hP.out
  have ka := (Below.refl _ w1).alloc (Nat.le_refl _) (.cells #[.int .i64 m, .slice A1 rs.length cp1] 31)
  have k2 := Lib.hid (kbq g1 ka)
  have R2 := Lib.hid (hR.below ka)
  have p2 := Lib.hid (Blk.new w1 #[.int .i64 m, .slice A1 rs.length cp1] 31)
  obtain ⟨b, off, rfl, hb, _⟩ := R2.out.2.2 hpos
  have hws : IntKind.i64.wrap ((rs.length : Int) - 1) = (rs.length : Int) - 1 := by rw [IntKind.wrap_i64]; omega
  clear hO hR g1 ka CP hc1 hn1' hs1
  go_wp2_with fail
  have hPl : w1.heap.size < (w1.alloc (.cells #[.int .i64 m, .slice (some ⟨b, off, none⟩) rs.length cp1] 31)).heap.size := p2.out.lt
  generalize hW : w1.alloc (.cells #[.int .i64 m, .slice (some ⟨b, off, none⟩) rs.length cp1] 31) = V at *
  clear hW
  have O0 := Lib.hid (ORls.nil V V.heap.size)
  go_loopw [8, 9] (fun bk i wr => ∃ (k : Nat) (jj : Int), i = .int .i64 jj ∧ k ≤ rs.length ∧ Hid (jj = (rs.length : Int) - 1 - k) ∧ Hid (ORls wr V.heap.size bk (rs.reverse.take k)) ∧ Below V.heap.size V wr) (fun _ i _ => (intOf i + 1).toNat)
  case atStart => exact ⟨0, _, rfl, Nat.zero_le _, Lib.hid (by omega), Lib.hid (by rw [List.take_zero]; exact O0.out), Below.refl _ _⟩
  case round =>
    obtain ⟨k, jj, rfl, hk, hj, hO, hB⟩ := hrel
    have p3 := Lib.hid (p2.out.below hB)
    have R3 := Lib.hid (R2.out.below hB)
    have k3 := Lib.hid (kbq k2.out hB)
    have HB := Lib.hid hB
    have c0 := p3.out.cell 1
    simp at c0
    have hrl : (rs.reverse.take k).length = k := by rw [List.length_take, List.length_reverse]; omega
    have hrok : ∀ r ∈ rs.reverse.take k, Okr r := fun r hr => polr_ok hP.out r (List.mem_reverse.1 (List.mem_of_mem_take hr))
    obtain ⟨A3, cp3, rfl, hc3, hR3, hn3, hs3⟩ := hO.out.form3 hrok hrl
    clear hB
    by_cases hlt : k < rs.length
    · obtain ⟨j, hjn⟩ : ∃ j : Nat, jj = (j : Int) := ⟨rs.length - 1 - k, by have := hj.out; omega⟩
      subst hjn
      have hjl : j < rs.length := by have := hj.out; omega
      have hjk : j = rs.length - 1 - k := by have := hj.out; omega
      have j0 : (0 : Int) ≤ (j : Int) := Int.natCast_nonneg _
      have j1 : decide ((j : Int) < 0) = false := decide_eq_false (by omega)
      have hws2 : IntKind.i64.wrap ((j : Int) - 1) = (j : Int) - 1 := by rw [IntKind.wrap_i64]; omega
      obtain ⟨b', off', e', _, hc⟩ := R3.out.2.2 hpos
      simp only [Option.some.injEq, Addr.mk.injEq, and_true] at e'
      obtain ⟨rfl, rfl⟩ := e'
      obtain ⟨r0, r1, r2, r3⟩ := hc j hjl
      have hok := R3.out.ok j
      have HRT := Lib.hid (rev_take rs hlt)
      rw [← hjk] at HRT
      obtain ⟨x, hx⟩ : ∃ x, x = fnOf rs j := ⟨_, rfl⟩
      rw [← hx] at r0 r1 r2 r3 hok HRT
      have kc := (Below.refl _ wr).alloc (Nat.le_refl _) (.cells (cs4 x) 28)
      have O5 := Lib.hid (ownR_below hO.out kc)
      have S5 := Lib.hid (rls_one wr x hok)
      have hsz5 : V.heap.size ≤ (wr.alloc (.cells (cs4 x) 28)).heap.size := Nat.le_trans HB.out.size kc.size
      have HKC := Lib.hid (HB.out.trans (kc.mono HB.out.size))
      have HJK := Lib.hid hjk
      clear hc hx kc hjk hR3 hn3 hs3
      go_wp2_with (at_builtin; refine wpList_app_rls _ rfl _ _ rfl V.heap.size (.slice A3 k cp3) (rs.reverse.take k) rfl O5.out (some ⟨wr.heap.size, 0, none⟩) 1 1 [x] rfl S5.out (fun e => by cases e) (fun ad e => by cases e; rfl) (by rw [hrl]; omega) hsz5 ?_; intro v6 w6 hO6 b6 gw6; refine stopHere ?_)
      unfold Stop
      have hrl2 : (rs.reverse.take (k + 1)).length = k + 1 := by rw [List.length_take, List.length_reverse]; omega
      have hrok2 : ∀ r ∈ rs.reverse.take (k + 1), Okr r := fun r hr => polr_ok hP.out r (List.mem_reverse.1 (List.mem_of_mem_take hr))
      rw [← HRT.out] at hO6
      have HO6 := Lib.hid hO6
      have B6 := Lib.hid (HKC.out.trans b6)
      obtain ⟨A6, cp6, rfl, _, _, _, _⟩ := hO6.form3 hrok2 hrl2
      clear hO6 b6 gw6 c0 r0 r1 r2 r3 O5 S5 hsz5
      go_wp2
      go_roundw
      case rel => exact ⟨k + 1, _, rfl, hlt, Lib.hid (by have := hj.out; omega), HO6, B6.out⟩
      case measure => simp [intOf]
    · obtain rfl : k = rs.length := by omega
      obtain rfl : jj = -1 := by have := hj.out; omega
      have hrv : rs.reverse.take rs.length = rs.reverse := List.take_of_length_le (by rw [List.length_reverse]; exact Nat.le_refl _)
      rw [hrv] at hR3
      have Q3 := Lib.hid hR3
      have CK := Lib.hid (key_any X n1 c1 wr (HX.out.below k3.out) hn1)
      clear hO hrok hR3 hn3 hs3 hrl hrv hc3
      go_wp2_with (go_at_call 10; refine CK.out.mono ?_; rintro e w4 ⟨K, rfl, hS, hK, g4⟩; refine stopHere ?_)
      unfold Stop
      have k4 := Lib.hid (kbq k3.out g4)
      have R4' := Lib.hid (R3.out.below g4)
      have Q4 := Lib.hid (Q3.out.below g4)
      have p4 := Lib.hid (p3.out.below g4)
      obtain ⟨ja, hfa, BA⟩ := polr_find hP.out K
      obtain ⟨a, ha⟩ : ∃ a, a = fnOf rs ja := ⟨_, rfl⟩
      rw [← ha] at hfa
      obtain ⟨hfr, ha1, ha2, ha3, ha4⟩ := find_rev hP.out K hfa
      have HFA := Lib.hid hfa
      have HFR := Lib.hid hfr
      have HA3 := Lib.hid ha3
      have HA2 := Lib.hid ha2
      clear c0
      have c0 := p4.out.cell 1
      simp at c0
      have CN := Lib.hid (new_any (some ⟨b, off, none⟩) rs.length cp1 rs w4 R4'.out (by omega))
      clear g4 CK hfa hfr ha3 ha2 ha BA k3 R3 Q3 p3
      go_wp2_with (go_at_call 12; refine CN.out.mono ?_; rintro e w5 ⟨t, rfl, T5, g5⟩; refine stopHere ?_)
      unfold Stop
      have CF := Lib.hid (find_any t K rs w5 (by omega) T5.out)
      rw [HFA.out] at CF
      have n5 := Lib.hid g5
      clear g5 CN c0
      go_wp2_with (go_at_call 13; refine CF.out.mono ?_; rintro e w6 ⟨rfl, g6⟩; refine stopHere ?_)
      unfold Stop
      have a6 := (Below.refl _ w6).alloc (Nat.le_refl _) (.cells (cs4 a) 28)
      have b6 := Blk.new w6 (cs4 a) 28
      have n6 := Lib.hid (kbq (kbq n5.out g6) a6)
      have CN := Lib.hid (new_any A3 rs.length cp3 rs.reverse _ (Q4.out.below n6.out) (by omega))
      clear g6 a6 CF T5 n5
      go_wp2_with (go_at_call 12; refine CN.out.mono ?_; rintro e w7 ⟨t2, rfl, T7, g7⟩; refine stopHere ?_)
      unfold Stop
      have CF := Lib.hid (find_any t2 K rs.reverse w7 (by omega) T7.out)
      rw [HFR.out] at CF
      have n7 := Lib.hid (kbq n6.out g7)
      have b7 := b6.below g7
      clear g7 CN n6 b6
      go_wp2_with (go_at_call 13; refine CF.out.mono ?_; rintro e w8 ⟨rfl, g8⟩; refine stopHere ?_)
      unfold Stop
      have a8 := (Below.refl _ w8).alloc (Nat.le_refl _) (.cells (cs4 a) 28)
      have b8 := Lib.hid (Blk.new w8 (cs4 a) 28)
      have n8 := Lib.hid (kbq (kbq n7.out g8) a8)
      have b7' := Lib.hid ((b7.below g8).below a8)
      clear g8 a8 CF T7 n7 b7
      go_upto_region 10 with fail
      have Q8 := Lib.hid (Q4.out.below n8.out)
      have k8 := Lib.hid (kbq k4.out n8.out)
      generalize w8.alloc (.cells (cs4 a) 28) = U at *
      have x0 := b7'.out.cell 0
      have x1 := b7'.out.cell 1
      have x2 := b7'.out.cell 2
      have x3 := b7'.out.cell 3
      have y0 := b8.out.cell 0
      have y1 := b8.out.cell 1
      have y2 := b8.out.cell 2
      have y3 := b8.out.cell 3
      simp at x0 x1 x2 x3 y0 y1 y2 y3
      have s1 := sl_front K a.p.size ha1
      have ts := text_same (a := K.extract 0 a.p.size) (b := a.p)
      rw [hs_front K a.p ha1, HA2.out] at ts
      have c' : decide ((K.size : Int) < (a.p.size : Int)) = false := decide_eq_false (by omega)
      have c'' : ¬ K.size < a.p.size := by omega
      have heq : K.extract 0 a.p.size = a.p := by
        have := hs_front K a.p ha1
        rw [HA2.out] at this
        exact of_decide_eq_true this
      rw [heq] at s1 ts
      clear n8 Q4 R4' p4 k4
      clear heq
      go_region
      have b9 := Lib.hid (b7'.out.below (Below.refl _ _).drew)
      have Q9 := Lib.hid (Q8.out.below (Below.refl _ _).drew)
      have k9 := Lib.hid (kbq k8.out (Below.refl _ _).drew)
      clear x0 x1 x2 x3 y0 y1 y2 y3 s1 ts c' c'' b7' b8 Q8 k8
      generalize U.drew = Y at *
      go_wp2
      go_loopw [15] (fun i wr => ∃ k : Nat, i = .int .i64 (k : Int) ∧ k ≤ rs.length ∧ Below Y.heap.size Y wr) (fun i _ => rs.length - (intOf i).toNat)
      case atStart => exact ⟨0, rfl, Nat.zero_le _, Below.refl _ _⟩
      case round =>
        obtain ⟨i, rfl, hi, hB⟩ := hrel
        have kz := Lib.hid (kbq k9.out hB)
        have Qz := Lib.hid (Q9.out.below hB)
        have x0 := (b9.out.below hB).cell 0
        simp at x0
        have HB := Lib.hid hB
        clear hB
        by_cases hlt : i < rs.length
        · obtain ⟨b3, o3, rfl, hb3, hc⟩ := Qz.out.2.2 (by omega)
          have e0 := (hc i hlt).1
          have hw1 : IntKind.i64.wrap ((i : Int) + 1) = (i : Int) + 1 := by rw [IntKind.wrap_i64]; omega
          have hno : Hid (hsK K (fnOf rs.reverse i).p = true → (fnOf rs.reverse i).p.size ≤ a.p.size) := Lib.hid (fun g => by
            rw [fn_rev rs hlt] at g ⊢
            exact HA3.out _ (by omega) g)
          generalize (fnOf rs.reverse i).p = s at *
          clear hc
          by_cases d1 : a.p.size < s.size
          · by_cases d2 : s.size ≤ K.size
            · have s1 := sl_front K s.size d2
              have ts := text_same (a := K.extract 0 s.size) (b := s)
              rw [hs_front K s d2, show hsK K s = false from by
                rw [← Bool.not_eq_true]; intro g; have := hno.out g; omega] at ts
              generalize K.extract 0 s.size = KS at *
              go_wp2
              go_roundw
              case rel => exact ⟨i + 1, rfl, hlt, HB.out⟩
              case measure => simp [intOf]; omega
            · go_wp2
              go_roundw
              case rel => exact ⟨i + 1, rfl, hlt, HB.out⟩
              case measure => simp [intOf]; omega
          · go_wp2
            go_roundw
            case rel => exact ⟨i + 1, rfl, hlt, HB.out⟩
            case measure => simp [intOf]; omega
        · obtain rfl : i = rs.length := by omega
          go_wp2_with (go_at_call 8; refine (K0.out _).mono ?_; rintro e w9 ⟨rfl, g9⟩)
          go_ret
          exact ⟨rfl, kbq kz.out g9⟩
end Go.Proofs.Ytekpmepcacbloaa.Wd
