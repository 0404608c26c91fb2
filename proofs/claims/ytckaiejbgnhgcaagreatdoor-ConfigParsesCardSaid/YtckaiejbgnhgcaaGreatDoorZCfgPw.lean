/- ConfigParses; no conditions but those that each names. -/
import Derived.Test.YtckaiejbgnhgcaaGreatDoorZCfgPa
import Derived.Test.YtckaiejbgnhgcaaGreatDoorZCfgBe
import Derived.Test.YtckaiejbgnhgcaaGreatDoorZH
namespace Go.Proofs.YtckaiejbgnhgcaaGreatDoor.Wd
open Go Go.RowKit
set_option linter.unusedVariables false
set_option maxRecDepth 100000
/-- The words of ConfigParses. -/
def pwV : Array Value := #[.string ⟨#[10, 115, 105, 122, 101, 32, 53, 10]⟩, .string ⟨#[10, 100, 101, 102, 97, 117, 108, 116, 32, 49, 32, 49, 32, 108, 101, 97, 107, 121, 10]⟩, .string ⟨#[10, 114, 117, 108, 101, 32, 97, 32, 53, 32, 53, 32, 103, 99, 114, 97, 10]⟩, .string ⟨#[10, 114, 117, 108, 101, 32, 98, 32, 48, 32, 49, 32, 103, 99, 114, 97, 10]⟩, .string ⟨#[10, 114, 117, 108, 101, 32, 122, 32, 57, 57, 57, 57, 57, 57, 57, 57, 57, 57, 32, 57, 57, 57, 57, 57, 57, 57, 57, 57, 57, 32, 103, 99, 114, 97, 10]⟩, .string ⟨#[32, 55, 32]⟩, .string ⟨#[10, 35, 120, 10]⟩, .string ⟨#[10, 115, 105, 122, 101, 10]⟩]
def pwL : List ByteArray := [⟨#[10, 115, 105, 122, 101, 32, 53, 10]⟩, ⟨#[10, 100, 101, 102, 97, 117, 108, 116, 32, 49, 32, 49, 32, 108, 101, 97, 107, 121, 10]⟩, ⟨#[10, 114, 117, 108, 101, 32, 97, 32, 53, 32, 53, 32, 103, 99, 114, 97, 10]⟩, ⟨#[10, 114, 117, 108, 101, 32, 98, 32, 48, 32, 49, 32, 103, 99, 114, 97, 10]⟩, ⟨#[10, 114, 117, 108, 101, 32, 122, 32, 57, 57, 57, 57, 57, 57, 57, 57, 57, 57, 32, 57, 57, 57, 57, 57, 57, 57, 57, 57, 57, 32, 103, 99, 114, 97, 10]⟩, ⟨#[32, 55, 32]⟩, ⟨#[10, 35, 120, 10]⟩, ⟨#[10, 115, 105, 122, 101, 10]⟩]
theorem pwV_at (W : World) (j : Nat) (h : j < 8) : ∃ y : ByteArray, y.size ≤ 40 ∧ (W.alloc (.cells pwV 9)).cell? ⟨W.heap.size, j, none⟩ = some (.string y) := by
  have e : (W.alloc (.cells pwV 9)).heap[W.heap.size]? = some (.cells pwV 9) := heap_alloc_new W _
  refine ⟨pwL.getD j nob, ?_, ?_⟩
  · match j, h with
    | 0, _ | 1, _ | 2, _ | 3, _ | 4, _ | 5, _ | 6, _ | 7, _ => decide
    | j + 8, h => omega
  · rw [cell_of_row _ _ _ _ _ _ e]
    match j, h with
    | 0, _ | 1, _ | 2, _ | 3, _ | 4, _ | 5, _ | 6, _ | 7, _ => rfl
    | j + 8, h => omega

set_option maxHeartbeats 4000000 in
theorem parses_walk (most at_ b : Int) (A At Ac : Option Addr) (n cap Nt ct Nc cc : Nat) (bs cs : List UInt8) (s : ByteArray) (w : World) (hN : Nam w) (hm : 0 ≤ most ∧ most ≤ 65535) (h : Nmr w A n) (hn : n ≤ 9223372036854775807) (hT : Ws.Txt w At Nt bs) (hct : Nt ≤ ct) (hcm : ct ≤ 9223372036854775807) (hNt : Nt ≤ 140737488351232) (hat : 0 ≤ at_ ∧ at_ ≤ 65535) (hb : 0 ≤ b ∧ b ≤ 255) (hs : s.size ≤ 140737488351232)
    (hC : Ws.Txt w Ac Nc cs) (hcc : Nc ≤ 9223372036854775807) :
    Calls Tryz.prog 3 #[.slice At Nt ct, .int .u16 most, .slice A n cap, .int .u16 at_, .int .u8 b, .string s, .slice Ac Nc cc] w fun r w' => r = .returned (.bool true) ∧ Below w.heap.size w w' := by
  have hw0 : IntKind.i64.wrap ((Nt : Int) + (s.size : Int)) = (Nt : Int) + (s.size : Int) := IntWalk.i64_in _ (by omega)
  by_cases hlong : 400 < Nt + s.size
  · have t0 : (400 : Int) < (Nt : Int) + (s.size : Int) := by omega
    have KN := known_any w hN
    go_enter Tryz.func3, Tryz.ntmps3
    go_wp2_with (go_at_call 10; (with_reducible refine KN.mono ?_); rintro r w1 ⟨rfl, k1⟩)
    go_ret
    exact ⟨rfl, k1⟩
  have t0 : ¬ (400 : Int) < (Nt : Int) + (s.size : Int) := by omega
  have KN := known_any w hN
  have CP := fun W (g : Below w.heap.size w W) => policy_any most A n cap W hm (h.below g) hn
  clear h
  go_enter Tryz.func3, Tryz.ntmps3
  go_wp2_with (go_at_call 10; (with_reducible refine KN.mono ?_); rintro r w1 ⟨rfl, k1⟩; refine stopHere ?_)
  unfold Stop
  have CP1 := CP _ k1
  go_wp2_with (go_at_call 11; (with_reducible refine CP1.mono ?_); rintro r w2 ⟨⟨m, rs, v, rfl, hO, hl, hP⟩, k2⟩; refine stopHere ?_)
  unfold Stop
  obtain ⟨A1, c1, rfl, hc1, hc2, hR1⟩ := hO.rls hP.out.ok
  have m1 := hP.out.m1
  have m2 := hP.out.m2
  obtain ⟨N, hNl⟩ : ∃ N, rs.length = N := ⟨_, rfl⟩
  rw [hNl] at hR1 hl hc1 ⊢
  have P1 := PB.new w2 m (.slice A1 N c1)
  have kA := (Below.refl _ w2).alloc (Nat.le_refl _) (.cells #[.int .i64 m, .slice A1 N c1] 28)
  have B2 := kbq (kbq k1 k2) kA
  have hR2 := hR1.below kA
  clear CP CP1 KN kA k1 k2 hR1 hO
  go_upto_region 4 with fail
  generalize hW : w2.alloc (.cells #[.int .i64 m, .slice A1 N c1] 28) = W2 at *
  clear hW
  have CT := Ws.text_any Ac Nc cc cs W2 (hC.below B2) hcc
  go_wp2_with (go_at_call 12; (with_reducible refine CT.mono ?_); rintro r w3 ⟨v3, rfl, hB3, k3⟩; refine stopHere ?_)
  unfold Stop
  obtain ⟨A3, c3, rfl, _⟩ := hB3.form2
  have hl3 := Ws.tx_len cs
  obtain ⟨L3, hL3⟩ : ∃ L3, (Ws.tx cs).length = L3 := ⟨_, rfl⟩
  rw [hL3] at hB3 hl3 ⊢
  have P3 := P1.below k3
  have B3 := kbq B2 k3
  have hR3 := hR2.below k3
  have CB := bent_any m A1 N c1 rs at_ 1 ⟨#[]⟩ w3 hR3 (by omega) (by omega) hat (by omega) (by decide)
  have HP3 := Lib.hid P3
  obtain ⟨p0, p1, _, _⟩ := P3
  clear CT
  go_wp2_with (go_at_call 13; (with_reducible refine CB.mono ?_); rintro r w4 ⟨⟨v4, bs4, rfl, hB4, hl4⟩, k4⟩; refine stopHere ?_)
  unfold Stop
  obtain ⟨A4, c4, rfl, ⟨hc4, hc4'⟩, hT4, hA4, hAs4⟩ := hB4.form2
  have hO3 := Lib.hid (hB3.below k4)
  have P4 := Lib.hid (HP3.out.below k4)
  have B4 := Lib.hid (kbq B3 k4)
  have hR4 := Lib.hid (hR3.below k4)
  have hT4' := Lib.hid hT4
  have HA4 := Lib.hid (And.intro hA4 (fun ad e => (hAs4 ad e).1))
  have hbz : W2.heap.size ≤ w4.heap.size := Nat.le_trans k3.size k4.size
  have B2s := Lib.hid B2.size
  have k3s := Lib.hid ((k3.trans (k4.mono k3.size)) : Below W2.heap.size W2 w4)
  have hPlt := Lib.hid P1.lt
  have hRlo := Lib.hid (fun W (g : Below W2.heap.size W2 W) => hR2.below g)
  clear CB hB4 hT4 hA4 hAs4 p0 p1 B3 hR3 hB3 k4 P1 B2 hR2
  go_wp2_with (at_builtin; refine Ws.wpList_app_bytes _ rfl _ _ rfl W2.heap.size (.slice A3 L3 c3) (Ws.tx cs) rfl hO3.out A4 bs4.length c4 bs4 rfl hT4'.out HA4.out.1 HA4.out.2 (by omega) hbz ?_; intro v6 w6 hO6 gw6; refine stopHere ?_)
  unfold Stop
  obtain ⟨A6, c6, rfl, hc6, _⟩ := hO6.form2
  have hl6 : (Ws.tx cs ++ bs4).length ≤ 648570 := by rw [List.length_append]; omega
  generalize Ws.tx cs ++ bs4 = bs6 at *
  obtain ⟨L6, hL6⟩ : ∃ L6, bs6.length = L6 := ⟨_, rfl⟩
  rw [hL6] at hO6 hc6 hl6
  have k6 : Below W2.heap.size w4 w6 := (Below.refl _ w4).grown gw6 hbz (fun b hb => (World.ownsRow.lt hO3.out b hb).1)
  have hz2 : w2.heap.size < W2.heap.size := hPlt.out
  have P6 := P4.out.under k6 hz2
  have B6 := B4.out.trans (k6.mono B2s.out)
  have hR6 : Rls w6 A1 N rs := hRlo.out w6 (k3s.out.trans k6)
  obtain ⟨J, hJ, hJ8⟩ : ∃ J : Nat, b % 8 = (J : Int) ∧ J < 8 := ⟨(b % 8).toNat, by omega, by omega⟩
  have z1 : b.tmod 8 = (J : Int) := by rw [Int.tmod_eq_emod_of_nonneg hb.1]; exact hJ
  have z2 : IntKind.u8.wrap (J : Int) = (J : Int) := IntWalk.u8_in _ (by omega)
  have z3 : (0 : Int) ≤ (J : Int) := Int.natCast_nonneg _
  have z4 : (J : Int) < 8 := by omega
  obtain ⟨y, hy, hyc⟩ := pwV_at w6 J hJ8
  have kP := (Below.refl _ w6).alloc (Nat.le_refl _) (.cells pwV 9)
  have B7 := kbq B6 kP
  have P7 := P6.below kP
  have hR7 := hR6.below kP
  have hO7 := hO6.below kP
  unfold pwV at hyc B7 P7 hR7 hO7
  clear hO6 gw6 k6 P6 hR6 kP hJ
  go_upto_region 7 with fail
  generalize hW : w6.alloc (.cells #[.string ⟨#[10, 115, 105, 122, 101, 32, 53, 10]⟩, .string ⟨#[10, 100, 101, 102, 97, 117, 108, 116, 32, 49, 32, 49, 32, 108, 101, 97, 107, 121, 10]⟩, .string ⟨#[10, 114, 117, 108, 101, 32, 97, 32, 53, 32, 53, 32, 103, 99, 114, 97, 10]⟩, .string ⟨#[10, 114, 117, 108, 101, 32, 98, 32, 48, 32, 49, 32, 103, 99, 114, 97, 10]⟩, .string ⟨#[10, 114, 117, 108, 101, 32, 122, 32, 57, 57, 57, 57, 57, 57, 57, 57, 57, 57, 32, 57, 57, 57, 57, 57, 57, 57, 57, 57, 57, 32, 103, 99, 114, 97, 10]⟩, .string ⟨#[32, 55, 32]⟩, .string ⟨#[10, 35, 120, 10]⟩, .string ⟨#[10, 115, 105, 122, 101, 10]⟩] 9) = W7 at *
  clear hW hyc
  obtain ⟨A9, c9, e9, hc9, hT9, _⟩ := hO7.form2
  rw [hL6] at e9 hc9 hT9
  simp only [Value.slice.injEq, true_and] at e9
  obtain ⟨rfl, rfl⟩ := e9
  have hNt2 : Nt ≤ 1048576 := by omega
  have hs2 : s.size ≤ 1000 := by omega
  have KT := Lib.hid (fun W (g : Below W7.heap.size W7 W) => parses_any At Nt ct bs W (hN.below (kbq B7 g)) (hT.below (kbq B7 g)) hNt2 hct hcm)
  have KB := Lib.hid (fun W (g : Below W7.heap.size W7 W) a2 b2 s2 h1 h2 h3 => bent_any m A1 N c1 rs a2 b2 s2 W (hR7.below g) (by omega) (by omega) h1 h2 h3)
  have KX := Lib.hid (fun W (g : Below W7.heap.size W7 W) => Ws.text_any Ac Nc cc cs W (hC.below (kbq B7 g)) hcc)
  have KP := Lib.hid (fun W (g : Below W7.heap.size W7 W) AX LX cX xX (hX : Ws.Txt W AX LX xX) (h1 : LX ≤ 1048576) (h2 : LX ≤ cX) (h3 : cX ≤ 9223372036854775807) => parses_any AX LX cX xX W (hN.below (kbq B7 g)) hX h1 h2 h3)
  have KO := Lib.hid (fun W (g : Below W7.heap.size W7 W) => parses_any A6 L6 c6 bs6 W (hN.below (kbq B7 g)) (hT9.below g) (by omega) hc9.1 hc9.2)
  have HB7 := Lib.hid B7
  obtain ⟨p0, p1, _, _⟩ := P7
  have kW := Below.refl W7.heap.size W7
  have h00 : (0 : Int) ≤ 0 ∧ (0 : Int) ≤ 65535 := by decide
  have h01 : (0 : Int) ≤ 1 ∧ (1 : Int) ≤ 255 := by decide
  have hy2 : y.size ≤ 1000 := by omega
  have hlx := Ws.tx_len cs
  clear hT9 hO7 hR7 B7 hT hC hN
  go_wp2_with (first
    | (go_at_call 13; (first | (with_reducible refine (KB.out _ kW at_ b s hat hb hs2).mono ?_) | (with_reducible refine (KB.out _ kW at_ b y hat hb hy2).mono ?_) | (with_reducible refine (KB.out _ kW 0 1 y h00 h01 hy2).mono ?_)); rintro r w8 ⟨⟨vB, xB, rfl, hOB, hlB⟩, g⟩; obtain ⟨AB, cB, rfl, hcB, hTB, _⟩ := hOB.form2; replace kW := kbq kW g; replace p0 := celln g p0; replace p1 := celln g p1; clear g)
    | (go_at_call 12; (with_reducible refine (KX.out _ kW).mono ?_); rintro r w8 ⟨vC, rfl, hOC, g⟩; obtain ⟨AC, cC, rfl, hcC, hTC, _⟩ := hOC.form2; rw [hL3] at hcC hTC; replace kW := kbq kW g; replace p0 := celln g p0; replace p1 := celln g p1; clear g)
    | (go_at_call 14; (first | (with_reducible refine (KP.out _ kW _ _ _ _ hTC (by omega) hcC.1 hcC.2).mono ?_) | (with_reducible refine (KP.out _ kW _ _ _ _ hTB (by omega) hcB.1 hcB.2).mono ?_) | (with_reducible refine (KT.out _ kW).mono ?_) | (with_reducible refine (KO.out _ kW).mono ?_)); rintro r w8 ⟨rfl, g⟩; replace kW := kbq kW g; replace p0 := celln g p0; replace p1 := celln g p1; clear g))
  go_ret
  exact ⟨rfl, kbq HB7.out kW⟩
end Go.Proofs.YtckaiejbgnhgcaaGreatDoor.Wd
