/- tollerlaw09.KeyHas answers true, for any texts; no conditions. -/
import Derived.Test.YtndipebpccdlfaaKeyK
namespace Go.Proofs.Ytndipebpccdlfaa.Wd
open Go Go.RowKit
set_option linter.unusedVariables false

/-- Does a begin with b? -/
def hsB (a b : ByteArray) : Bool := decide (cm (lb a) (lb b) = b.size)
theorem hsB_iff (a b : ByteArray) : hsB a b = true ↔ lb b <+: lb a := by
  unfold hsB; rw [decide_eq_true_eq, ← cm_has, list_size]
theorem hs_front (a b : ByteArray) : hsB (a ++ b) a = true := by
  rw [hsB_iff, lb_append]; exact List.prefix_append _ _
theorem hs_nob (a : ByteArray) : hsB a ⟨#[]⟩ = true := by rw [hsB_iff]; exact List.nil_prefix
theorem hs_trans {a b c : ByteArray} (h : hsB a b = true) (g : hsB b c = true) : hsB a c = true := by
  rw [hsB_iff] at *; exact g.trans h
theorem hs_any (k p : ByteArray) (w : World) (hk : k.size ≤ 9223372036854775807) (hp : p.size ≤ 9223372036854775807) :
    Calls Try.prog 18 #[.string k, .string p] w fun e w' => e = .returned (.bool (hsB k p)) ∧ Below w.heap.size w w' := has_any k p w hk hp
theorem hs_cm (a b : ByteArray) : ((cm (lb a) (lb b) : Int) == (b.size : Int)) = hsB a b := by
  unfold hsB; rw [Bool.eq_iff_iff, beq_iff_eq, decide_eq_true_eq]; omega

theorem keyHas_any (a b c : ByteArray) (w : World) (ha : a.size ≤ 140737488355328) (hb : b.size ≤ 140737488355328) (hc : c.size ≤ 140737488355328) :
    Calls Try.prog 8 #[.string a, .string b, .string c] w fun e w' => e = .returned (.bool true) ∧ Below w.heap.size w w' := by
  have K0 := Lib.hid known_any
  by_cases h600 : (600 : Int) < (a.size : Int) + (b.size : Int) + (c.size : Int)
  · go_enter Try.func8, Try.ntmps8
    go_wp2_with (go_at_call 9; refine (K0.out _).mono ?_; rintro e w3 ⟨rfl, g3⟩)
    go_ret
    exact ⟨rfl, g3⟩
  · have h600' : decide ((600 : Int) < (a.size : Int) + (b.size : Int) + (c.size : Int)) = false := decide_eq_false h600
    have k1 := fun W => hs_any (a ++ b) a W (by rw [ByteArray.size_append']; omega) (by omega)
    rw [hs_front] at k1
    have k2 := fun W => hs_any (a ++ b ++ c) (a ++ b) W (by rw [ByteArray.size_append', ByteArray.size_append']; omega) (by rw [ByteArray.size_append']; omega)
    rw [hs_front] at k2
    have k3 := fun W => hs_any a ⟨#[]⟩ W (by omega) (by decide)
    rw [hs_nob] at k3
    have k4 := fun W => hs_any a b W (by omega) (by omega)
    have k5 := fun W => common_any a b W (by omega) (by omega)
    have e5 := hs_cm a b
    have k6 := fun W => hs_any b c W (by omega) (by omega)
    have k7 := fun W => hs_any a c W (by omega) (by omega)
    have T := @hs_trans a b c
    generalize cm (lb a) (lb b) = m at *
    generalize hsB a b = x at *
    generalize hsB b c = y at *
    generalize hsB a c = z at *
    have hyz : x = false ∨ (x = true ∧ (y = false ∨ (y = true ∧ z = true))) := by
      cases x
      · exact .inl rfl
      · cases y
        · exact .inr ⟨rfl, .inl rfl⟩
        · exact .inr ⟨rfl, .inr ⟨rfl, T rfl rfl⟩⟩
    have K1 := Lib.hid k1
    have K2 := Lib.hid k2
    have K3 := Lib.hid k3
    have K4 := Lib.hid k4
    have K5 := Lib.hid k5
    have K6 := Lib.hid k6
    have K7 := Lib.hid k7
    clear k1 k2 k3 k4 k5 k6 k7 T h600
    rcases hyz with rfl | ⟨rfl, rfl | ⟨rfl, rfl⟩⟩
    all_goals
      go_enter Try.func8, Try.ntmps8
      go_wp2_with (first
        | (go_at_call 9; refine (K0.out _).mono ?_; rintro e w1 ⟨rfl, g1⟩; have kW := g1)
        | (go_at_call 19; (with_reducible refine (K5.out _).mono ?_); rintro e w2 ⟨rfl, g⟩; replace kW := kbq kW g; clear g)
        | (go_at_call 18; first
            | ((with_reducible refine (K1.out _).mono ?_); rintro e w2 ⟨rfl, g⟩; replace kW := kbq kW g; clear g)
            | ((with_reducible refine (K2.out _).mono ?_); rintro e w2 ⟨rfl, g⟩; replace kW := kbq kW g; clear g)
            | ((with_reducible refine (K3.out _).mono ?_); rintro e w2 ⟨rfl, g⟩; replace kW := kbq kW g; clear g)
            | ((with_reducible refine (K4.out _).mono ?_); rintro e w2 ⟨rfl, g⟩; replace kW := kbq kW g; clear g)
            | ((with_reducible refine (K6.out _).mono ?_); rintro e w2 ⟨rfl, g⟩; replace kW := kbq kW g; clear g)
            | ((with_reducible refine (K7.out _).mono ?_); rintro e w2 ⟨rfl, g⟩; replace kW := kbq kW g; clear g)))
      go_ret
      exact ⟨rfl, kW⟩
end Go.Proofs.Ytndipebpccdlfaa.Wd
