/- PrefixBehind; no conditions but those that each names. -/
import Derived.Test.YtekpmepcacbloaaPreK
import Derived.Test.YtekpmepcacbloaaPreL
namespace Go.Proofs.Ytekpmepcacbloaa.Wd
open Go Go.RowKit Go.Shelf
set_option linter.unusedVariables false
set_option maxRecDepth 100000

set_option maxHeartbeats 4000000 in
theorem behind_walk (most : Int) (A : Option Addr) (n cap : Nat) (X : Option Addr) (n1 c1 : Nat) (M : ByteArray) (w : World) (hm : 0 ≤ most ∧ most ≤ 65535) (h : Nmr w A n) (hn : n ≤ 9223372036854775807) (hX : Byts w X n1) (hn1 : n1 ≤ 9223372036854775807) (hM : M.size ≤ 140737488355328) :
    Calls Try.prog 7 #[.int .u16 most, .slice A n cap, .slice X n1 c1, .string M] w fun e w' => e = .returned (.bool true) ∧ Below w.heap.size w w' := by
  have K0 := Lib.hid known_any
  by_cases c100 : 100 < M.size
  · go_enter Try.func7, Try.ntmps7
    go_wp2_with (go_at_call 8; refine (K0.out _).mono ?_; rintro e w1 ⟨rfl, g1⟩)
    go_ret
    exact ⟨rfl, g1⟩
  · have hM2 : M.size ≤ 100 := by omega
    have CP := Lib.hid (policy_any most A n cap w hm h hn)
    have HX := Lib.hid hX
    clear h hX hM
    go_enter Try.func7, Try.ntmps7
    go_wp2_with (go_at_call 9; refine CP.out.mono ?_; rintro e w1 ⟨⟨m, rs, v, rfl, hO, hlen, hP⟩, g1⟩; refine stopHere ?_)
    unfold Stop
    obtain ⟨A1, cp1, rfl, hc1, hR, _, _⟩ := hO.form3 (polr_ok hP.out) rfl
    have ka := (Below.refl _ w1).alloc (Nat.le_refl _) (.cells #[.int .i64 m, .slice A1 rs.length cp1] 31)
    have k2 := Lib.hid (kbq g1 ka)
    have CN := Lib.hid (new_any A1 rs.length cp1 rs _ (hR.below ka) (by omega))
    clear hO hR g1 ka CP hc1
    go_wp2_with (go_at_call 12; refine CN.out.mono ?_; rintro e w2 ⟨t, rfl, T2, g2⟩; refine stopHere ?_)
    unfold Stop
    have k3 := Lib.hid (kbq k2.out g2)
    clear g2 k2 CN
    have CK := Lib.hid (key_any X n1 c1 w2 (HX.out.below k3.out) hn1)
    go_wp2_with (go_at_call 10; refine CK.out.mono ?_; rintro e w3 ⟨K, rfl, hS, hK, g3⟩; refine stopHere ?_)
    unfold Stop
    have k4 := Lib.hid (kbq k3.out g3)
    have T3 := Lib.hid (T2.out.below g3)
    clear g3 k3 CK T2
    obtain ⟨a, b, f1, f2, f3, d1, d2, d3, d4⟩ := find_behind hP.out K M
    have C1 := Lib.hid (find_any t K rs w3 (by omega) T3.out)
    rw [f1] at C1
    go_wp2_with (go_at_call 13; refine C1.out.mono ?_; rintro e w4 ⟨rfl, g4⟩; refine stopHere ?_)
    unfold Stop
    have a4 := (Below.refl _ w4).alloc (Nat.le_refl _) (.cells (cs4 a) 28)
    have p4 := Blk.new w4 (cs4 a) 28
    have k5 := Lib.hid (kbq (kbq k4.out g4) a4)
    have T5 := Lib.hid ((T3.out.below g4).below a4)
    clear g4 a4 C1 T3 k4
    have hKM : K.size + M.size ≤ 1000 := by omega
    have C2 := Lib.hid (find_any t (K ++ M) rs _ (by rw [ByteArray.size_append']; omega) T5.out)
    rw [f2] at C2
    go_wp2_with (go_at_call 13; refine C2.out.mono ?_; rintro e w5 ⟨rfl, g5⟩; refine stopHere ?_)
    unfold Stop
    have a5 := (Below.refl _ w5).alloc (Nat.le_refl _) (.cells (cs4 b) 28)
    have p5 := Blk.new w5 (cs4 b) 28
    have k6 := Lib.hid (kbq (kbq k5.out g5) a5)
    have T6 := Lib.hid ((T5.out.below g5).below a5)
    have p4' := (p4.below g5).below a5
    have e40 := p4'.cell 0
    simp at e40
    clear g5 a5 C2 T5 k5 p4
    have C3 := Lib.hid (find_any t a.p rs _ (by omega) T6.out)
    rw [f3] at C3
    go_wp2_with (go_at_call 13; refine C3.out.mono ?_; rintro e w6 ⟨rfl, g6⟩; refine stopHere ?_)
    unfold Stop
    have a6 := (Below.refl _ w6).alloc (Nat.le_refl _) (.cells (cs4 a) 28)
    have p6 := Blk.new w6 (cs4 a) 28
    have k7 := Lib.hid (kbq (kbq k6.out g6) a6)
    have p5' := (p5.below g6).below a6
    have p4'' := (p4'.below g6).below a6
    clear e40 p4' p5 g6 a6 C3 T6 k6
    have KK := Lib.hid (K0.out (w6.alloc (.cells (cs4 a) 28)))
    go_wp2_with (go_at_call 8; refine KK.out.mono ?_; rintro e w7 ⟨rfl, g7⟩; refine stopHere ?_)
    unfold Stop
    have k8 := Lib.hid (kbq k7.out g7)
    have q4 := p4''.below g7
    have q5 := p5'.below g7
    have q6 := p6.below g7
    have r40 := q4.cell 0
    have r41 := q4.cell 1
    have r42 := q4.cell 2
    have r43 := q4.cell 3
    have r50 := q5.cell 0
    have r51 := q5.cell 1
    have r52 := q5.cell 2
    have r53 := q5.cell 3
    have r60 := q6.cell 0
    have r61 := q6.cell 1
    have r62 := q6.cell 2
    have r63 := q6.cell 3
    simp at r40 r41 r42 r43 r50 r51 r52 r53 r60 r61 r62 r63
    clear q4 q5 q6 p4'' p5' p6 g7 KK f1 f2 f3
    rcases d2 with d2 | rfl
    · go_wp2
      go_ret
      exact ⟨rfl, k8.out⟩
    · by_cases d5 : K.size < b.p.size
      · go_wp2
        go_ret
        exact ⟨rfl, k8.out⟩
      · go_wp2
        go_ret
        exact ⟨rfl, k8.out⟩
end Go.Proofs.Ytekpmepcacbloaa.Wd
