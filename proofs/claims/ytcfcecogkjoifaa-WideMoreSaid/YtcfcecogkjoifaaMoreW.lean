/- The law WideMore answers true, for any numbers of 64 bits; no conditions. -/
import Derived.Test.YtcfcecogkjoifaaWalkB
namespace Go.Proofs.Ytcfcecogkjoifaa.Wd
open Go.RowKit

theorem or_ge (a b : Int) (ha : U a) (hb : U b) : U (bits BinOp.or IntKind.u64 a b) ∧ a ≤ bits BinOp.or IntKind.u64 a b ∧ b ≤ bits BinOp.or IntKind.u64 a b := by
  unfold U at *
  have e := bits_or_u64_nat a.toNat b.toNat (by omega) (by omega)
  rw [Int.toNat_of_nonneg ha.1, Int.toNat_of_nonneg hb.1] at e
  rw [e]
  have l1 := Nat.left_le_or (n := a.toNat) (m := b.toNat)
  have l2 := Nat.right_le_or (n := a.toNat) (m := b.toNat)
  have l3 : a.toNat ||| b.toNat < 2 ^ 64 := Nat.or_lt_two_pow (by omega) (by omega)
  omega

theorem div_up (r b v x : Int) (hx : 0 < x) (h : b ≤ v) : diQ r b x ≤ diQ r v x := by
  unfold diQ; exact Int.ediv_le_ediv hx (by omega)
theorem div_down (r b x y : Int) (hr : 0 ≤ r) (hb : 0 ≤ b) (hx : 0 < x) (h : x ≤ y) : diQ r b y ≤ diQ r b x := by
  unfold diQ
  have h1 : 0 ≤ r * 18446744073709551616 + b := by omega
  generalize r * 18446744073709551616 + b = n at *
  obtain ⟨n, rfl⟩ := Int.eq_ofNat_of_zero_le h1
  obtain ⟨x, rfl⟩ := Int.eq_ofNat_of_zero_le (Int.le_of_lt hx)
  obtain ⟨y, rfl⟩ := Int.eq_ofNat_of_zero_le (Int.le_trans (Int.le_of_lt hx) h)
  have := Nat.div_le_div_left (a := n) (b := y) (c := x) (by omega) (by omega)
  exact_mod_cast this

theorem more_walk (a b c d : Int) (w : World) (ha : U a) (hb : U b) (hc : U c) (hd : U d) :
    Calls Try.prog 9 #[.int .u64 a, .int .u64 b, .int .u64 c, .int .u64 d] w fun e w' => e = .returned (.bool true) ∧ Kept w w' := by
  have kn (w : World) := known_any w
  obtain ⟨u1, -, x2⟩ := or_ge d 9223372036854775808 hd ⟨by omega, by omega⟩
  obtain ⟨X, hX⟩ : ∃ X, bits BinOp.or IntKind.u64 d 9223372036854775808 = X := ⟨_, rfl⟩
  rw [hX] at u1 x2
  obtain ⟨u2, v1, -⟩ := or_ge b c hb hc
  obtain ⟨V, hV⟩ : ∃ V, bits BinOp.or IntKind.u64 b c = V := ⟨_, rfl⟩
  rw [hV] at u2 v1
  obtain ⟨u3, y1, -⟩ := or_ge X c u1 hc
  obtain ⟨Y, hY⟩ : ∃ Y, bits BinOp.or IntKind.u64 X c = Y := ⟨_, rfl⟩
  rw [hY] at u3 y1
  obtain ⟨r, hr⟩ : ∃ r, a % X = r := ⟨_, rfl⟩
  have r0 : 0 ≤ r := by rw [← hr]; exact Int.emod_nonneg _ (by omega)
  have r1 : r < X := by rw [← hr]; exact Int.emod_lt_of_pos _ (by omega)
  have ur : U r := by unfold U at *; omega
  have c1 (w : World) := div_yes r b X w ur hb u1 r1
  have c2 (w : World) := div_yes r V X w ur u2 u1 r1
  have c3 (w : World) := div_yes r b Y w ur hb u3 (by omega)
  have f1 := div_up r b V X (by omega) v1
  have f2 := div_down r b X Y r0 hb.1 (by omega) y1
  generalize diQ r b X = q1 at *
  generalize diQ r V X = q2 at *
  generalize diQ r b Y = q3 at *
  generalize diR r b X = s1 at *
  generalize diR r V X = s2 at *
  generalize diR r b Y = s3 at *
  unfold U at ha
  have xz : (X == 0) = false := by simp; omega
  clear hb hc hd u1 u2 u3 ur v1 y1 r0 r1
  go_enter Try.func9, Try.ntmps9
  go_wp2_with (first
    | (go_at_call 10; ((with_reducible refine (kn _).mono ?_); rintro e w' ⟨rfl, g5⟩))
    | (go_at_call 12; (first
        | ((with_reducible refine (c1 _).mono ?_); rintro e w' ⟨rfl, rfl⟩) | ((with_reducible refine (c2 _).mono ?_); rintro e w' ⟨rfl, rfl⟩)
        | ((with_reducible refine (c3 _).mono ?_); rintro e w' ⟨rfl, rfl⟩))))
  go_ret
  exact ⟨rfl, g5⟩
end Go.Proofs.Ytcfcecogkjoifaa.Wd
