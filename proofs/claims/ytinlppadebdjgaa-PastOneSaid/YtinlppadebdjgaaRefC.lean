/- What the document's own Sub, Add (of two) and Fits of chapter 2 answer, for any numbers of 64 bits; no conditions. -/
import Derived.Test.YtinlppadebdjgaaStaA
namespace Go.Proofs.Ytinlppadebdjgaa.Wd
open Go.RowKit
set_option linter.unusedVariables false

theorem ref_sub (a b : Int) (w : World) (ha : U a) (hb : U b) :
    Calls Try.prog 20 #[.int .u64 a, .int .u64 b] w fun e w' => e = .returned (.int .u64 (sbI a b)) ∧ w = w' := by
  unfold U at *
  by_cases c : a < b
  · have e : sbI a b = 0 := by simp [sbI, c]
    rw [e]; clear e
    go_enter Try.func20, Try.ntmps20
    go_wp2
    go_ret
    exact ⟨rfl, rfl⟩
  · have e : sbI a b = a - b := by simp [sbI, c]
    rw [e]; clear e
    go_enter Try.func20, Try.ntmps20
    go_wp2
    go_ret
    exact ⟨rfl, rfl⟩

theorem ref_add (a b : Int) (w : World) (ha : U a) (hb : U b) :
    Calls Try.prog 31 #[.int .u64 a, .int .u64 b] w fun e w' => e = .returned (.int .u64 (sat (a + b))) ∧ w = w' := by
  unfold U at *
  by_cases c : a + b ≤ 18446744073709551615
  · have e : sat (a + b) = a + b := by simp [sat, c]
    rw [e]; clear e
    go_enter Try.func31, Try.ntmps31
    go_wp2
    go_ret
    exact ⟨rfl, rfl⟩
  · have e : sat (a + b) = 18446744073709551615 := by simp [sat, c]
    rw [e]; clear e
    obtain ⟨t, ht⟩ : ∃ t, IntKind.u64.wrap (a + b) = t := ⟨_, rfl⟩
    have h : t < a := by rw [← ht, IntKind.wrap_u64]; omega
    clear c ha hb
    go_enter Try.func31, Try.ntmps31
    go_wp2
    go_ret
    exact ⟨rfl, rfl⟩

theorem ref_fits (a b c : Int) (w : World) (ha : U a) (hb : U b) (hc : U c) :
    Calls Try.prog 27 #[.int .u64 a, .int .u64 b, .int .u64 c] w fun e w' => e = .returned (.bool (ftB a b c)) ∧ w = w' := by
  unfold U at *
  by_cases x : a ≤ c
  · have e : ftB a b c = decide (b ≤ c - a) := by unfold ftB; rw [Bool.eq_iff_iff]; simp only [decide_eq_true_eq]; omega
    rw [e]; clear e
    go_enter Try.func27, Try.ntmps27
    go_wp2
    go_ret
    exact ⟨rfl, rfl⟩
  · have e : ftB a b c = false := by unfold ftB; simp; omega
    rw [e]; clear e
    have x1 : decide (a ≤ c) = false := by simpa using x
    clear x
    go_enter Try.func27, Try.ntmps27
    go_wp2
    go_ret
    exact ⟨rfl, rfl⟩

end Go.Proofs.Ytinlppadebdjgaa.Wd
