/- The law NumAsks answers true, for any numbers and any row of numbers; no conditions. -/
import Derived.Test.YtpnhhihddlpokaaNumAsk
namespace Go.Proofs.Ytpnhhihddlpokaa.Wd
open Go.RowKit

theorem numasks_long (a b c t k : Int) (A : Option Addr) (n cap : Nat) (w : World) (hn : 60 < n) (hm : n ≤ 9223372036854775807) :
    Calls Try.prog 3 #[.int .u64 a, .int .u64 b, .int .u64 c, .int .i64 t, .slice A n cap, .int .u8 k] w fun e w' => e = .returned (.bool true) ∧ Kept w w' := by
  have kn (w : World) := known2_any w
  have K := Lib.hid kn
  clear kn
  go_enter Try.func3, Try.ntmps3
  go_wp2_with (go_at_call 10; ((with_reducible refine (K.out _).mono ?_); rintro e w' ⟨rfl, gw⟩))
  go_ret
  exact ⟨rfl, gw⟩

set_option maxHeartbeats 800000 in
theorem numasks_core (a b c t k P Q x s : Int) (j i : Nat) (A : Option Addr) (n cap : Nat) (w : World) (hn : n ≤ 60) (hk : 0 ≤ k ∧ k ≤ 255)
    (hj : k % 64 = (j : Int)) (_hj2 : j < 64) (hP : (2 : Int) ^ j = P) (hi : k / 4 = (i : Int)) (_hi2 : i < 64) (hQ : (2 : Int) ^ i = Q) (hP1 : 1 ≤ P) (hP2 : P ≤ 9223372036854775808)
    (c1 : ∀ w, Calls Try.prog 11 #[.int .u64 a, .int .u64 b, .int .u64 c] w fun e w' => e = .returned (.bool true) ∧ Kept w w')
    (c2 : ∀ w, Calls Try.prog 11 #[.int .u64 (a / P), .int .u64 (b / Q), .int .u64 c] w fun e w' => e = .returned (.bool true) ∧ Kept w w')
    (c3 : ∀ w, Calls Try.prog 11 #[.int .u64 a, .int .u64 P, .int .u64 (c / P)] w fun e w' => e = .returned (.bool true) ∧ Kept w w')
    (c4 : ∀ w, Calls Try.prog 12 #[.int .i64 t] w fun e w' => e = .returned (.int .u64 x) ∧ w = w')
    (c5 : ∀ w, Calls Try.prog 13 #[.int .i64 t] w fun e w' => e = .returned (.int .u64 x) ∧ w = w')
    (c6 : ∀ w', Kept w w' → Calls Try.prog 14 #[.slice A n cap] w' fun e w'' => e = .returned (.int .u64 s) ∧ w' = w'')
    (c7 : ∀ w', Kept w w' → Calls Try.prog 15 #[.slice A n cap] w' fun e w'' => e = .returned (.int .u64 s) ∧ w' = w'') :
    Calls Try.prog 3 #[.int .u64 a, .int .u64 b, .int .u64 c, .int .i64 t, .slice A n cap, .int .u8 k] w fun e w' => e = .returned (.bool true) ∧ Kept w w' := by
  have kn (w : World) := known2_any w
  have K := Lib.hid kn
  have C1 := Lib.hid c1
  have C2 := Lib.hid c2
  have C3 := Lib.hid c3
  have C4 := Lib.hid c4
  have C5 := Lib.hid c5
  have C6 := Lib.hid c6
  have C7 := Lib.hid c7
  clear kn c1 c2 c3 c4 c5 c6 c7
  have gw := Kept.refl w
  go_enter Try.func3, Try.ntmps3
  go_wp2_with (first
    | (go_at_call 10; ((with_reducible refine (K.out _).mono ?_); rintro e w' ⟨rfl, gm⟩; replace gw := gw.trans gm; clear gm))
    | (go_at_call 11; (first | (with_reducible refine (C1.out _).mono ?_) | (with_reducible refine (C2.out _).mono ?_) | (with_reducible refine (C3.out _).mono ?_)); rintro e w' ⟨rfl, gm⟩; replace gw := gw.trans gm; clear gm)
    | (go_at_call 12; ((with_reducible refine (C4.out _).mono ?_); rintro e w' ⟨rfl, rfl⟩))
    | (go_at_call 13; ((with_reducible refine (C5.out _).mono ?_); rintro e w' ⟨rfl, rfl⟩))
    | (go_at_call 14; ((with_reducible refine (C6.out _ gw).mono ?_); rintro e w' ⟨rfl, rfl⟩))
    | (go_at_call 15; ((with_reducible refine (C7.out _ gw).mono ?_); rintro e w' ⟨rfl, rfl⟩)))
  go_ret
  exact ⟨rfl, gw⟩

theorem U_div (a P : Int) (ha : U a) (hP : 1 ≤ P) : U (a / P) := by
  have h1 := Int.ediv_nonneg (b := P) ha.1 (by omega)
  have h2 := Int.ediv_le_self P ha.1
  unfold U at *; omega

theorem numasks_walk (a b c t k : Int) (A : Option Addr) (n cap : Nat) (xs : List Int) (w : World) (ha : U a) (hb : U b) (hc : U c) (ht : -9223372036854775808 ≤ t ∧ t ≤ 9223372036854775807) (hk : 0 ≤ k ∧ k ≤ 255)
    (hx : Nums w A n xs) (hm : n ≤ 9223372036854775807) :
    Calls Try.prog 3 #[.int .u64 a, .int .u64 b, .int .u64 c, .int .i64 t, .slice A n cap, .int .u8 k] w fun e w' => e = .returned (.bool true) ∧ Kept w w' := by
  by_cases hn : 60 < n
  · exact numasks_long a b c t k A n cap w hn hm
  obtain ⟨j, hj⟩ : ∃ j : Nat, k % 64 = (j : Int) := ⟨(k % 64).toNat, by omega⟩
  have hj2 : j < 64 := by omega
  obtain ⟨i, hi⟩ : ∃ i : Nat, k / 4 = (i : Int) := ⟨(k / 4).toNat, by omega⟩
  have hi2 : i < 64 := by omega
  have hP1 : (1 : Int) ≤ 2 ^ j := by have := pow_pos j; omega
  have hQ1 : (1 : Int) ≤ 2 ^ i := by have := pow_pos i; omega
  have hP2 : (2 : Int) ^ j ≤ 9223372036854775808 := by
    have h : (2 : Nat) ^ j ≤ 2 ^ 63 := Nat.pow_le_pow_right (by omega) (by omega)
    have e : ((2 : Int) ^ j) = ((2 ^ j : Nat) : Int) := by rw [Int.natCast_pow]; rfl
    rw [e]; omega
  exact numasks_core a b c t k _ _ _ _ j i A n cap w (by omega) hk hj hj2 rfl hi hi2 rfl hP1 hP2 (fun w => asks_any _ _ _ w ha hb hc) (fun w => asks_any _ _ _ w (U_div _ _ ha hP1) (U_div _ _ hb hQ1) hc)
    (fun w => asks_any _ _ _ w ha ⟨by omega, by omega⟩ (U_div _ _ hc hP1)) (fun w => num_clamp t w ht) (fun w => ref_clamp t w ht)
    (fun w' g => num_add A n cap xs w' (hx.kept g) hm) (fun w' g => ref_all A n cap xs w' (hx.kept g) hm)
end Go.Proofs.Ytpnhhihddlpokaa.Wd
