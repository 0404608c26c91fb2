/- tollerlaw12.prints answers true of any policy; no conditions but those that each names. -/
import Derived.Test.YtckaiejbgnhgcaaGreatDoorZCfgU2
import Derived.Test.YtckaiejbgnhgcaaGreatDoorZCfgAg
import Derived.Deep.RegionHeld3
namespace Go.Proofs.YtckaiejbgnhgcaaGreatDoor.Wd
open Go Go.RowKit
set_option linter.unusedVariables false
set_option maxRecDepth 100000
theorem riE_U (m : Int) (rs : List Rl) : 0 ≤ riE m rs ∧ riE m rs ≤ 32 := by
  have := frE_U rs
  unfold riE
  (repeat' split) <;> omega

theorem txt_drew {w : World} {A : Option Addr} {n : Nat} {bs : List UInt8} (h : Ws.Txt w A n bs) : Ws.Txt w.drew A n bs := h.below ((Below.refl _ w).drew)

set_option maxHeartbeats 4000000 in
theorem prints_any (m : Int) (A : Option Addr) (n cap : Nat) (rs : List Rl) (w : World) (hN : Nam w) (h : Rls w A n rs) (hn : n ≤ 1000000000) (hm : -9223372036854775808 ≤ m ∧ m ≤ 9223372036854775807) :
    Calls Tryz.prog 15 #[.agg #[.int .i64 m, .slice A n cap]] w fun r w' => r = .returned (.bool true) ∧ Below w.heap.size w w' := by
  have kA := (Below.refl _ w).alloc (Nat.le_refl _) (.cells #[.int .i64 m, .slice A n cap] 28)
  have P1 := PB.new w m (.slice A n cap)
  have hN1 := hN.below kA
  have hR1 := h.below kA
  have hU := riE_U m rs
  have CA := cprint_any m A n cap rs _ hN1 hR1 (by omega) hm
  have CB := fun W (g : Below w.heap.size w W) => rprint12_any m A n cap rs W (h.below g) hn hm
  have C1 := fun W (g : Below w.heap.size w W) => cright_any m A n cap rs W (h.below g) (by omega) hm
  have C2 := fun W (g : Below w.heap.size w W) => rright12_any m A n cap rs W (h.below g) (by omega) hm
  have C3 := fun W (g : Below w.heap.size w W) => order_any m A n cap rs W (h.below g) (by omega)
  have C4 := fun W (g : Below w.heap.size w W) => rorder12_any m A n cap rs W (h.below g) hn
  have C5 := fun W A1 A2 c1 c2 (h1 : Rls W A1 n (ordL rs)) (h2 : Rls W A2 n (ordL rs)) => same12_any m A1 A2 n c1 c2 (ordL rs) W h1 h2 (by omega)
  generalize (if riE m rs = 0 then prTx m rs else []) = tx at CA CB
  generalize riE m rs = R at *
  have hw : IntKind.i64.wrap R = R := IntWalk.i64_in _ (by omega)
  clear h hN hN1 hR1 hU
  go_enter Tryz.func15, Tryz.ntmps15
  go_upto_region 1 with fail
  generalize hW : w.alloc (.cells #[.int .i64 m, .slice A n cap] 28) = W1 at *
  clear hW
  have HP1 := Lib.hid P1
  obtain ⟨p0, p1, _, _⟩ := P1
  go_wp2_with (go_at_call 16; (with_reducible refine CA.mono ?_); rintro r w2 ⟨⟨v2, rfl, hB2⟩, k2⟩; refine stopHere ?_)
  unfold Stop
  obtain ⟨A2, c2, rfl, _, hT2, _⟩ := hB2.form2
  have B2 := kbq kA k2
  have HP2 := HP1.out.below k2
  have CB1 := CB _ B2
  clear p0 p1 HP1 CA CB hB2 k2
  have HP2' := Lib.hid HP2
  obtain ⟨p0, p1, _, _⟩ := HP2
  go_wp2_with (go_at_call 25; (with_reducible refine CB1.mono ?_); rintro r w3 ⟨⟨v3, rfl, hB3⟩, k3⟩; refine stopHere ?_)
  unfold Stop
  obtain ⟨A3, c3, rfl, _, hT3, _⟩ := hB3.form2
  have B3 := Lib.hid (kbq B2 k3)
  have HP3 := HP2'.out.below k3
  have hA := hT2.below k3
  have hB := hT3
  obtain ⟨L, hL⟩ : ∃ L, tx.length = L := ⟨_, rfl⟩
  rw [hL] at hA hB ⊢
  clear p0 p1 HP2' CB1 hB3 k3 hT2 hT3 B2 kA
  obtain ⟨p0, p1, _, _⟩ := HP3
  have D1 := Lib.hid C1
  have D2 := Lib.hid C2
  have D3 := Lib.hid C3
  have D4 := Lib.hid C4
  have D5 := Lib.hid C5
  have kW := B3.out
  clear C1 C2 C3 C4 C5
  go_wp2_with fail
  go_region_held3 (fun w' => Below w.heap.size w w' ∧ w'.cell? ⟨w.heap.size, 0, none⟩ = some (.int .i64 m) ∧ w'.cell? ⟨w.heap.size, 1, none⟩ = some (.slice A n cap) ∧ (convert 22 9 (.slice A2 L c2)).run Tryz.prog w' = .ok (.string (str tx)) w' ∧ (convert 22 9 (.slice A3 L c3)).run Tryz.prog w' = .ok (.string (str tx)) w')
    (first | exact ⟨kW, p0, p1, all_str hA c2, all_str hB c3⟩ | exact ⟨kW.drew, dcell p0, dcell p1, all_str (txt_drew hA) c2, all_str (txt_drew hB) c3⟩)
    (first
    | (go_at_call 23; ((with_reducible refine (D1.out _ (by first | exact kW | exact kW.drew)).mono ?_); rintro r w4 ⟨rfl, g⟩; (first | with_reducible (replace kW := kbq kW g; replace p0 := celln g p0; replace p1 := celln g p1; replace hA := hA.below g; replace hB := hB.below g) | with_reducible (replace kW := kbq kW.drew g; replace p0 := celln g (dcell p0); replace p1 := celln g (dcell p1); replace hA := (txt_drew hA).below g; replace hB := (txt_drew hB).below g)); clear g))
    | (go_at_call 27; ((with_reducible refine (D2.out _ (by first | exact kW | exact kW.drew)).mono ?_); rintro r w4 ⟨rfl, g⟩; (first | with_reducible (replace kW := kbq kW g; replace p0 := celln g p0; replace p1 := celln g p1; replace hA := hA.below g; replace hB := hB.below g) | with_reducible (replace kW := kbq kW.drew g; replace p0 := celln g (dcell p0); replace p1 := celln g (dcell p1); replace hA := (txt_drew hA).below g; replace hB := (txt_drew hB).below g)); clear g))
    | (go_at_call 19; ((with_reducible refine (D3.out _ (by first | exact kW | exact kW.drew)).mono ?_); rintro r w4 ⟨⟨BB, rfl, hRo⟩, g⟩; (first | with_reducible (replace kW := kbq kW g; replace p0 := celln g p0; replace p1 := celln g p1; replace hA := hA.below g; replace hB := hB.below g) | with_reducible (replace kW := kbq kW.drew g; replace p0 := celln g (dcell p0); replace p1 := celln g (dcell p1); replace hA := (txt_drew hA).below g; replace hB := (txt_drew hB).below g)); clear g))
    | (go_at_call 28; ((with_reducible refine (D4.out _ (by first | exact kW | exact kW.drew)).mono ?_); rintro r w4 ⟨⟨A9, c9, rfl, _, hRp⟩, g⟩; replace hRo := hRo.below g; (first | with_reducible (replace kW := kbq kW g; replace p0 := celln g p0; replace p1 := celln g p1; replace hA := hA.below g; replace hB := hB.below g) | with_reducible (replace kW := kbq kW.drew g; replace p0 := celln g (dcell p0); replace p1 := celln g (dcell p1); replace hA := (txt_drew hA).below g; replace hB := (txt_drew hB).below g)); clear g))
    | (go_at_call 18; ((with_reducible refine (D5.out _ _ _ _ _ hRo hRp).mono ?_); rintro r w4 ⟨rfl, g⟩; clear hRo hRp; (first | with_reducible (replace kW := kbq kW g; replace p0 := celln g p0; replace p1 := celln g p1; replace hA := hA.below g; replace hB := hB.below g) | with_reducible (replace kW := kbq kW.drew g; replace p0 := celln g (dcell p0); replace p1 := celln g (dcell p1); replace hA := (txt_drew hA).below g; replace hB := (txt_drew hB).below g)); clear g)))
  all_goals
    rename_i hH
    go_wp2
    go_ret
    exact ⟨rfl, hH.1⟩
end Go.Proofs.YtckaiejbgnhgcaaGreatDoor.Wd
