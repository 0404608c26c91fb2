/- tollerlaw12.parses answers true of any text; no conditions but those that each names. -/
import Derived.Test.YtckaiejbgnhgcaaGreatDoorZCfgRp
import Derived.Test.YtckaiejbgnhgcaaGreatDoorZE
namespace Go.Proofs.YtckaiejbgnhgcaaGreatDoor.Wd
open Go Go.RowKit
set_option linter.unusedVariables false
set_option maxRecDepth 100000
theorem paE_U (l : List UInt8) : 0 ≤ paE l ∧ paE l ≤ 11 := by unfold paE; (repeat' split) <;> omega
theorem lnA_U (m : Int) (rs : List Rl) (xs : List ByteArray) : 0 ≤ (lnA m rs xs).e ∧ (lnA m rs xs).e ≤ 32 := by
  unfold lnA
  split
  · unfold lnS
    have := paE_U (lb (xs.getD 1 nob))
    split
    · exact ⟨by decide, by decide⟩
    · split
      · exact ⟨by decide, by decide⟩
      · split
        · show 0 ≤ paE _ ∧ paE _ ≤ 32; omega
        · split
          · exact ⟨by decide, by decide⟩
          · exact ⟨by show (0 : Int) ≤ 0; decide, by show (0 : Int) ≤ 32; decide⟩
  · unfold lnR
    have := ans_U xs
    split
    · show 0 ≤ (ansA xs).err ∧ (ansA xs).err ≤ 32; omega
    · split
      · exact ⟨by show (0 : Int) ≤ 28; decide, by show (28 : Int) ≤ 32; decide⟩
      · split
        · exact ⟨by decide, by decide⟩
        · exact ⟨by show (0 : Int) ≤ 0; decide, by show (0 : Int) ≤ 32; decide⟩
theorem psL_U : ∀ (l : List (List Ws.Wo)) (m : Int) (rs : List Rl), 0 ≤ (psL m rs l).e ∧ (psL m rs l).e ≤ 32
  | [], m, rs => by
    unfold psL enE
    (repeat' split) <;> first | exact ⟨by show (0 : Int) ≤ 0; decide, by show (0 : Int) ≤ 32; decide⟩ | exact ⟨by decide, by decide⟩ | exact ⟨by show (0 : Int) ≤ 30; decide, by show (30 : Int) ≤ 32; decide⟩ | exact ⟨by show (0 : Int) ≤ 31; decide, by show (31 : Int) ≤ 32; decide⟩
  | ws :: rest, m, rs => by
    unfold psL
    split
    · exact lnA_U m rs (txs ws)
    · exact psL_U rest _ _
theorem cfgP_U (bs : List UInt8) : 0 ≤ (cfgP bs).e ∧ (cfgP bs).e ≤ 32 := by
  unfold cfgP
  split
  · have := Ws.spl_err bs
    show 0 ≤ ((Ws.spl bs).er : Int) ∧ ((Ws.spl bs).er : Int) ≤ 32
    omega
  · exact psL_U _ _ _

set_option maxHeartbeats 2000000 in
theorem parses_any (A : Option Addr) (N cap : Nat) (bs : List UInt8) (w : World) (hN : Nam w) (hT : Ws.Txt w A N bs) (hl : N ≤ 1048576) (hcap : N ≤ cap) (hcm : cap ≤ 9223372036854775807) :
    Calls Tryz.prog 14 #[.slice A N cap] w fun r w' => r = .returned (.bool true) ∧ Below w.heap.size w w' := by
  have CP := cparse_any A N cap bs w hN hT hcap hcm
  have CQ := fun W (g : Below w.heap.size w W) => rparse12_any A N cap bs W (hT.below g) hl hcap hcm
  have hU := cfgP_U bs
  have hlen : (cfgP bs).rs.length ≤ 1000 := by
    rcases cfgP_ways bs with ⟨h, _⟩ | ⟨_, _, h⟩
    · exact (cfgP_right bs h).2.2.2.1
    · rw [h]; simp
  generalize cfgP bs = P at *
  obtain ⟨e, ln, cl, m, rs⟩ := P
  dsimp only at CP hU hlen
  have hw : IntKind.i64.wrap e = e := IntWalk.i64_in _ (by omega)
  obtain ⟨n, hn⟩ : ∃ n, rs.length = n := ⟨_, rfl⟩
  rw [hn] at CP hlen
  clear hT
  go_enter Tryz.func14, Tryz.ntmps14
  go_wp2_with (go_at_call 17; (with_reducible refine CP.mono ?_); rintro r w1 ⟨⟨A1, rfl, hR1⟩, k1⟩; refine stopHere ?_)
  unfold Stop
  have kA := (Below.refl _ w1).alloc (Nat.le_refl _) (.cells #[.int .i64 m, .slice A1 n n] 28)
  have kB := (Below.refl _ (w1.alloc (.cells #[.int .i64 m, .slice A1 n n] 28))).alloc (Nat.le_refl _) (.cells #[.int .i64 ln, .int .i64 cl] 44)
  have kC := kbq kA kB
  have P1 := (PB.new w1 m (.slice A1 n n)).below kB
  have P2 := PB.plc (w1.alloc (.cells #[.int .i64 m, .slice A1 n n] 28)) ln (.int .i64 cl)
  have hs : (w1.alloc (.cells #[.int .i64 m, .slice A1 n n] 28)).heap.size = w1.heap.size + 1 := by simp
  rw [hs] at P2
  have B2 := kbq k1 kC
  have hR2 := hR1.below kC
  clear CP kA kB kC k1 hR1 hs
  go_upto_region 2 with fail
  generalize hW : (w1.alloc (.cells #[.int .i64 m, .slice A1 n n] 28)).alloc (.cells #[.int .i64 ln, .int .i64 cl] 44) = W2 at *
  clear hW
  have CQ1 := CQ _ B2
  go_wp2_with (go_at_call 26; (with_reducible refine CQ1.mono ?_); rintro r w3 ⟨⟨A3, c3, rfl, hR3⟩, k3⟩; refine stopHere ?_)
  unfold Stop
  try dsimp only at hR3
  have kA := (Below.refl _ w3).alloc (Nat.le_refl _) (.cells #[.int .i64 m, .slice A3 n c3] 28)
  have kB := (Below.refl _ (w3.alloc (.cells #[.int .i64 m, .slice A3 n c3] 28))).alloc (Nat.le_refl _) (.cells #[.int .i64 ln, .int .i64 cl] 44)
  have kC := kbq kA kB
  have Q1 := (PB.new w3 m (.slice A3 n c3)).below kB
  have Q2 := PB.plc (w3.alloc (.cells #[.int .i64 m, .slice A3 n c3] 28)) ln (.int .i64 cl)
  have hs : (w3.alloc (.cells #[.int .i64 m, .slice A3 n c3] 28)).heap.size = w3.heap.size + 1 := by simp
  rw [hs] at Q2
  have k4 := kbq k3 kC
  have B4 := kbq B2 k4
  have hR5 := hR2.below k4
  rw [hn] at hR3
  have hR6 := hR3.below kC
  have P1' := P1.below k4
  have P2' := P2.below k4
  have CS := same12_any m A1 A3 n n c3 rs _ hR5 hR6 (by omega)
  clear CQ CQ1 kA kB kC k3 k4 hs hR3 hR2 P1 P2 B2
  go_upto_region 3 with fail
  generalize hW : (w3.alloc (.cells #[.int .i64 m, .slice A3 n c3] 28)).alloc (.cells #[.int .i64 ln, .int .i64 cl] 44) = W4 at *
  clear hW
  have HP2 := Lib.hid P2'
  have HQ2 := Lib.hid Q2
  obtain ⟨p0, p1, _, _⟩ := P1'
  obtain ⟨q0, q1, _, _⟩ := Q1
  go_wp2_with (go_at_call 18; (with_reducible refine CS.mono ?_); rintro r w5 ⟨rfl, k5⟩; refine stopHere ?_)
  unfold Stop
  obtain ⟨z0, z1, _, _⟩ := HP2.out.below k5
  obtain ⟨y0, y1, _, _⟩ := HQ2.out.below k5
  have B5 := kbq B4 k5
  clear CS k5 p0 p1 q0 q1
  go_wp2
  go_ret
  exact ⟨rfl, B5⟩
end Go.Proofs.YtckaiejbgnhgcaaGreatDoor.Wd
