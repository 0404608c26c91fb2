/- The law WideAsks answers true: the program's calls answer what the document's own do, for any numbers of 64 bits; no conditions. -/
import Derived.Test.YtcfcecogkjoifaaRefW
namespace Go.Proofs.Ytcfcecogkjoifaa.Wd
open Go.RowKit

theorem asks_any (a b c d : Int) (w : World) (ha : U a) (hb : U b) (hc : U c) (hd : U d) :
    Calls Try.prog 11 #[.int .u64 a, .int .u64 b, .int .u64 c, .int .u64 d] w fun e w' => e = .returned (.bool true) ∧ Kept w w' := by
  have m (w : World) := mul_any a b w ha hb
  have rm (w : World) := rmul_any a b w ha hb
  have s (w : World) := add_any a b c d w ha hb hc hd
  have rs (w : World) := radd_any a b c d w ha hb hc hd
  have l (w : World) := less_any a b c d w
  have rl (w : World) := rless_any a b c d w
  obtain ⟨q, r, ok, v, rv⟩ : ∃ q r : Int, ∃ ok : Bool, (∀ w : World, Calls Try.prog 12 #[.int .u64 a, .int .u64 b, .int .u64 c] w fun e w' => e = .returned (.tuple #[.int .u64 q, .int .u64 r, .bool ok]) ∧ w = w') ∧
      (∀ w : World, Calls Try.prog 19 #[.int .u64 a, .int .u64 b, .int .u64 c] w fun e w' => e = .returned (.tuple #[.int .u64 q, .int .u64 r, .bool ok]) ∧ w = w') := by
    by_cases g : a < c
    · exact ⟨_, _, _, fun w => div_yes a b c w ha hb hc g, fun w => rdiv_yes a b c w ha hb hc g⟩
    · exact ⟨_, _, _, fun w => div_no a b c w (by omega), fun w => rdiv_no a b c w (by omega)⟩
  obtain ⟨x, ok2, y, ry⟩ : ∃ x : Int, ∃ ok : Bool, (∀ w : World, Calls Try.prog 16 #[.int .u64 a, .int .u64 b, .int .u64 d] w fun e w' => e = .returned (.tuple #[.int .u64 x, .bool ok]) ∧ Kept w w') ∧
      (∀ w : World, Calls Try.prog 20 #[.int .u64 a, .int .u64 b, .int .u64 d] w fun e w' => e = .returned (.tuple #[.int .u64 x, .bool ok]) ∧ w = w') := by
    by_cases g : muH a b < d
    · exact ⟨_, _, fun w => mulDiv_yes a b d w ha hb hd g, fun w => rmulDiv_yes a b d w ha hb hd g⟩
    · exact ⟨_, _, fun w => mulDiv_no a b d w ha hb (by omega), fun w => rmulDiv_no a b d w ha hb (by omega)⟩
  generalize muH a b = h1 at *
  generalize muL a b = l1 at *
  generalize adH a b c d = h2 at *
  generalize adL b d = l2 at *
  generalize adC a b c d = o2 at *
  generalize ltB a b c d = o3 at *
  clear ha hb hc hd
  go_enter Try.func11, Try.ntmps11
  go_wp2_with (first
    | (go_at_call 13; ((with_reducible refine (m _).mono ?_); rintro e w1 ⟨rfl, g1⟩))
    | (go_at_call 17; ((with_reducible refine (rm _).mono ?_); rintro e w' ⟨rfl, rfl⟩))
    | (go_at_call 14; ((with_reducible refine (s _).mono ?_); rintro e w' ⟨rfl, rfl⟩))
    | (go_at_call 18; ((with_reducible refine (rs _).mono ?_); rintro e w' ⟨rfl, rfl⟩))
    | (go_at_call 12; ((with_reducible refine (v _).mono ?_); rintro e w' ⟨rfl, rfl⟩))
    | (go_at_call 19; ((with_reducible refine (rv _).mono ?_); rintro e w' ⟨rfl, rfl⟩))
    | (go_at_call 16; ((with_reducible refine (y _).mono ?_); rintro e w2 ⟨rfl, g2⟩))
    | (go_at_call 20; ((with_reducible refine (ry _).mono ?_); rintro e w' ⟨rfl, rfl⟩))
    | (go_at_call 15; ((with_reducible refine (l _).mono ?_); rintro e w' ⟨rfl, rfl⟩))
    | (go_at_call 21; ((with_reducible refine (rl _).mono ?_); rintro e w' ⟨rfl, rfl⟩)))
  go_ret
  exact ⟨rfl, g1.trans g2⟩

theorem shr_U (a : Int) (s : Nat) (ha : U a) : U (a / 2 ^ s) := by
  have := Int.ediv_nonneg (a := a) (b := 2 ^ s) ha.1 (Int.le_of_lt (pow_pos s))
  have h2 := Int.ediv_le_self (a := a) (2 ^ s) ha.1
  unfold U at *; omega

theorem asks_walk (a b c d k : Int) (w : World) (ha : U a) (hb : U b) (hc : U c) (hd : U d) (hk : 0 ≤ k ∧ k ≤ 255) :
    Calls Try.prog 3 #[.int .u64 a, .int .u64 b, .int .u64 c, .int .u64 d, .int .u8 k] w fun e w' => e = .returned (.bool true) ∧ Kept w w' := by
  have kn (w : World) := known_any w
  obtain ⟨s, hs⟩ : ∃ s : Nat, k % 64 = (s : Int) := ⟨(k % 64).toNat, by omega⟩
  have hs2 : s < 64 := by omega
  obtain ⟨X, hX⟩ : ∃ X, bits BinOp.or IntKind.u64 d 1 = X := ⟨_, rfl⟩
  have uX : U X ∧ 1 ≤ X := by
    rw [← hX]
    unfold U at *
    have e := bits_or_u64_nat d.toNat 1 (by omega) (by omega)
    rw [Int.toNat_of_nonneg hd.1] at e
    have l2 := Nat.right_le_or (n := d.toNat) (m := 1)
    have l3 : d.toNat ||| 1 < 2 ^ 64 := Nat.or_lt_two_pow (by omega) (by omega)
    have e' : bits BinOp.or IntKind.u64 d 1 = ((d.toNat ||| 1 : Nat) : Int) := e
    rw [e']
    omega
  obtain ⟨r, hr⟩ : ∃ r, c % X = r := ⟨_, rfl⟩
  have ur : U r := by
    have h1 := Int.emod_nonneg c (b := X) (by omega)
    have h2 := Int.emod_lt_of_pos c (b := X) (by omega)
    rw [hr] at h1 h2
    unfold U at *; omega
  have c1 (w : World) := asks_any a b c d w ha hb hc hd
  have c2 (w : World) := asks_any (a / 2 ^ s) b (c / 2 ^ s) d w (shr_U a s ha) hb (shr_U c s hc) hd
  have c3 (w : World) := asks_any a (b / 2 ^ s) c (d / 2 ^ s) w ha (shr_U b s hb) hc (shr_U d s hd)
  have c4 (w : World) := asks_any r a d b w ur ha hd hb
  obtain ⟨P, hP⟩ : ∃ P : Int, (2 : Int) ^ s = P := ⟨_, rfl⟩
  rw [hP] at c2 c3
  have x1 := uX.2
  have xz : (X == 0) = false := by simp; omega
  unfold U at ha hc
  clear hb hd uX ur
  go_enter Try.func3, Try.ntmps3
  go_wp2_with (first
    | (go_at_call 10; ((with_reducible refine (kn _).mono ?_); rintro e w1 ⟨rfl, g1⟩))
    | (go_at_call 11; (first
        | ((with_reducible refine (c1 _).mono ?_); rintro e w2 ⟨rfl, g2⟩) | ((with_reducible refine (c2 _).mono ?_); rintro e w3 ⟨rfl, g3⟩)
        | ((with_reducible refine (c3 _).mono ?_); rintro e w4 ⟨rfl, g4⟩) | ((with_reducible refine (c4 _).mono ?_); rintro e w5 ⟨rfl, g5⟩))))
  go_ret
  exact ⟨rfl, g1.trans (g2.trans (g3.trans (g4.trans g5)))⟩
end Go.Proofs.Ytcfcecogkjoifaa.Wd
