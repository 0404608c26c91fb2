/- The law WideExact answers true, for any numbers of 64 bits; no conditions. -/
import Derived.Test.YtcfcecogkjoifaaShiftsW
namespace Go.Proofs.Ytcfcecogkjoifaa.Wd
open Go.RowKit

theorem ex_left (a b : Int) (hb : 0 < b) : diQ (muH a b) (muL a b) b = a :=
  (di_uniq (muH a b) (muL a b) b a 0 (by rw [mu_eq]; omega) (by omega) hb).1.symm
theorem mu_swap (a b : Int) : muH a b = muH b a ∧ muL a b = muL b a := by unfold muH muL; rw [Int.mul_comm]; exact ⟨rfl, rfl⟩
theorem or_ne (a b : Int) (ha : U a) (hb : U b) (h : a ≠ 0 ∨ b ≠ 0) : (bits BinOp.or IntKind.u64 a b == 0) = false := by
  unfold U at *
  have e := bits_or_u64_nat a.toNat b.toNat (by omega) (by omega)
  rw [Int.toNat_of_nonneg ha.1, Int.toNat_of_nonneg hb.1] at e
  rw [e]
  have l1 := Nat.left_le_or (n := a.toNat) (m := b.toNat)
  have l2 := Nat.right_le_or (n := a.toNat) (m := b.toNat)
  simp only [beq_eq_false_iff_ne, ne_eq]
  omega

/-- By the second factor. -/
theorem ex_by2 (a b : Int) (w : World) (ha : U a) (hb : U b) (h : 0 < b) :
    Calls Try.prog 16 #[.int .u64 a, .int .u64 b, .int .u64 b] w fun e w' => e = .returned (.tuple #[.int .u64 a, .bool true]) ∧ Kept w w' := by
  have e := mulDiv_yes a b b w ha hb hb (mu_lt a b ha h)
  rw [ex_left a b h] at e; exact e
/-- By the first factor. -/
theorem ex_by1 (a b : Int) (w : World) (ha : U a) (hb : U b) (h : 0 < a) :
    Calls Try.prog 16 #[.int .u64 a, .int .u64 b, .int .u64 a] w fun e w' => e = .returned (.tuple #[.int .u64 b, .bool true]) ∧ Kept w w' := by
  have e := mulDiv_yes a b a w ha hb ha (by rw [(mu_swap a b).1]; exact mu_lt b a hb h)
  rw [(mu_swap a b).1, (mu_swap a b).2, ex_left b a h] at e; exact e
theorem ex_by0 (a b : Int) (w : World) (ha : U a) (hb : U b) :
    Calls Try.prog 16 #[.int .u64 a, .int .u64 b, .int .u64 0] w fun e w' => e = .returned (.tuple #[.int .u64 0, .bool false]) ∧ Kept w w' :=
  mulDiv_no a b 0 w ha hb (muH_U a b ha hb).1
/-- By one. -/
theorem ex_one (a c : Int) (ha : U a) (hc : U c) :
    ∃ s : Int, ∃ big : Bool, (big = true → (s == IntKind.u64.wrap (a * c)) = true) ∧
      ∀ w : World, Calls Try.prog 16 #[.int .u64 a, .int .u64 c, .int .u64 1] w fun e w' => e = .returned (.tuple #[.int .u64 s, .bool big]) ∧ Kept w w' := by
  by_cases h : muH a c < 1
  · refine ⟨_, true, ?_, fun w => mulDiv_yes a c 1 w ha hc ⟨by omega, by omega⟩ h⟩
    intro _
    have h0 := (muH_U a c ha hc).1
    have e : muH a c = 0 := by omega
    rw [e, IntKind.wrap_u64]
    simp [diQ, muL]
  · exact ⟨0, false, (fun h => nomatch h), fun w => mulDiv_no a c 1 w ha hc (by omega)⟩

theorem exact_walk (a b c : Int) (w : World) (ha : U a) (hb : U b) (hc : U c) :
    Calls Try.prog 7 #[.int .u64 a, .int .u64 b, .int .u64 c] w fun e w' => e = .returned (.bool true) ∧ Kept w w' := by
  have kn (w : World) := known_any w
  have c2 (w : World) := ex_by0 a b w ha hb
  obtain ⟨s, big, fs, c4⟩ := ex_one a c ha hc
  have low : big = false ∨ (big = true ∧ (s == IntKind.u64.wrap (a * c)) = true) := by
    cases big
    · exact .inl rfl
    · exact .inr ⟨rfl, fs rfl⟩
  clear fs
  by_cases hb0 : 0 < b
  · have c1 (w : World) := ex_by2 a b w ha hb hb0
    have o := or_ne a b ha hb (.inr (by omega))
    have b0 : (b == 0) = false := by simp; omega
    by_cases hab : a < b
    · rcases low with rfl | ⟨rfl, low⟩
      all_goals
        unfold U at ha hb hc
        go_enter Try.func7, Try.ntmps7
        go_wp2_with (first
          | (go_at_call 10; ((with_reducible refine (kn _).mono ?_); rintro e w' ⟨rfl, g5⟩))
          | (go_at_call 16; (first
              | ((with_reducible refine (c2 _).mono ?_); rintro e w' ⟨rfl, g1⟩) | ((with_reducible refine (c4 _).mono ?_); rintro e w' ⟨rfl, g1⟩) | ((with_reducible refine (c1 _).mono ?_); rintro e w' ⟨rfl, g1⟩))))
        go_ret
        refine ⟨rfl, ?_⟩
        repeat (first | assumption | refine Kept.trans (by assumption) ?_)
    · by_cases hba : b < a
      · have c3 (w : World) := ex_by1 a b w ha hb (by omega)
        rcases low with rfl | ⟨rfl, low⟩
        all_goals
          unfold U at ha hb hc
          go_enter Try.func7, Try.ntmps7
          go_wp2_with (first
            | (go_at_call 10; ((with_reducible refine (kn _).mono ?_); rintro e w' ⟨rfl, g5⟩))
            | (go_at_call 16; (first
                | ((with_reducible refine (c2 _).mono ?_); rintro e w' ⟨rfl, g1⟩) | ((with_reducible refine (c4 _).mono ?_); rintro e w' ⟨rfl, g1⟩) | ((with_reducible refine (c1 _).mono ?_); rintro e w' ⟨rfl, g1⟩) | ((with_reducible refine (c3 _).mono ?_); rintro e w' ⟨rfl, g1⟩))))
          go_ret
          refine ⟨rfl, ?_⟩
          repeat (first | assumption | refine Kept.trans (by assumption) ?_)
      · obtain rfl : a = b := by omega
        rcases low with rfl | ⟨rfl, low⟩
        all_goals
          unfold U at ha hb hc
          go_enter Try.func7, Try.ntmps7
          go_wp2_with (first
            | (go_at_call 10; ((with_reducible refine (kn _).mono ?_); rintro e w' ⟨rfl, g5⟩))
            | (go_at_call 16; (first
                | ((with_reducible refine (c2 _).mono ?_); rintro e w' ⟨rfl, g1⟩) | ((with_reducible refine (c4 _).mono ?_); rintro e w' ⟨rfl, g1⟩) | ((with_reducible refine (c1 _).mono ?_); rintro e w' ⟨rfl, g1⟩))))
          go_ret
          refine ⟨rfl, ?_⟩
          repeat (first | assumption | refine Kept.trans (by assumption) ?_)
  · obtain rfl : b = 0 := by unfold U at hb; omega
    by_cases ha0 : 0 < a
    · have c3 (w : World) := ex_by1 a 0 w ha hb ha0
      have o := or_ne a 0 ha hb (.inl (by omega))
      rcases low with rfl | ⟨rfl, low⟩
      all_goals
        unfold U at ha hb hc
        go_enter Try.func7, Try.ntmps7
        go_wp2_with (first
          | (go_at_call 10; ((with_reducible refine (kn _).mono ?_); rintro e w' ⟨rfl, g5⟩))
          | (go_at_call 16; (first
              | ((with_reducible refine (c2 _).mono ?_); rintro e w' ⟨rfl, g1⟩) | ((with_reducible refine (c4 _).mono ?_); rintro e w' ⟨rfl, g1⟩) | ((with_reducible refine (c3 _).mono ?_); rintro e w' ⟨rfl, g1⟩))))
        go_ret
        refine ⟨rfl, ?_⟩
        repeat (first | assumption | refine Kept.trans (by assumption) ?_)
    · obtain rfl : a = 0 := by unfold U at ha; omega
      have o : (bits BinOp.or IntKind.u64 0 0 == 0) = true := by decide
      have z : IntKind.u64.wrap 0 = 0 := by decide
      rw [Int.zero_mul, z] at low
      clear z
      rcases low with rfl | ⟨rfl, low⟩
      all_goals
        unfold U at ha hb hc
        go_enter Try.func7, Try.ntmps7
        go_wp2_with (first
          | (go_at_call 10; ((with_reducible refine (kn _).mono ?_); rintro e w' ⟨rfl, g5⟩))
          | (go_at_call 16; (first
              | ((with_reducible refine (c2 _).mono ?_); rintro e w' ⟨rfl, g1⟩) | ((with_reducible refine (c4 _).mono ?_); rintro e w' ⟨rfl, g1⟩))))
        go_ret
        refine ⟨rfl, ?_⟩
        repeat (first | assumption | refine Kept.trans (by assumption) ?_)
end Go.Proofs.Ytcfcecogkjoifaa.Wd
