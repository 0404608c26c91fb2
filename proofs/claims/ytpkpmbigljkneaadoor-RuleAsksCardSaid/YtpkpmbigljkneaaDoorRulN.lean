/- What num's calls answer, for any numbers of 64 bits; no conditions. -/
import Derived.Test.YtpkpmbigljkneaaDoorWalkA
import Derived.Test.YtpkpmbigljkneaaDoorNumMath
import Derived.Deep.QuietTactic
import Derived.BigQuiet
namespace Go.Proofs.YtpkpmbigljkneaaDoor.Wd
open Go.RowKit

theorem stop_any (h l : Int) (w : World) :
    Calls Tryd.prog 60 #[.int .u64 h, .int .u64 l] w fun e w' => e = .returned (.int .u64 (stopV h l)) ∧ w = w' := by
  by_cases c : h = 0
  · subst c
    have e : stopV 0 l = l := by simp [stopV]
    rw [e]; clear e
    go_enter Tryd.func60, Tryd.ntmps60
    go_wp2
    go_ret
    exact ⟨rfl, rfl⟩
  · have e : stopV h l = 18446744073709551615 := by simp [stopV, c]
    rw [e]; clear e
    have c1 : (h == 0) = false := by simpa using c
    have c2 : (h != 0) = true := by simpa using c
    go_enter Tryd.func60, Tryd.ntmps60
    go_wp2
    go_ret
    exact ⟨rfl, rfl⟩

theorem num_mul (a b : Int) (w : World) (ha : U a) (hb : U b) :
    Calls Tryd.prog 48 #[.int .u64 a, .int .u64 b] w fun e w' => e = .returned (.int .u64 (sat (a * b))) ∧ Kept w w' := by
  rw [← stop_mul a b ha hb]
  go_enter Tryd.func48, Tryd.ntmps48
  go_wp2_with (first
    | (go_at_call 61; ((with_reducible refine (mul_any _ _ _ ha hb).mono ?_); rintro e w' ⟨rfl, gw⟩))
    | (go_at_call 60; ((with_reducible refine (stop_any _ _ _).mono ?_); rintro e w'' ⟨rfl, rfl⟩)))
  go_ret
  exact ⟨rfl, gw⟩

end Go.Proofs.YtpkpmbigljkneaaDoor.Wd
