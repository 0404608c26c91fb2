/- tollerlaw09.KeyOrder answers true, for any texts and rows of bytes; no conditions. -/
import Derived.Test.YtndipebpccdlfaaKeyK
namespace Go.Proofs.Ytndipebpccdlfaa.Wd
open Go Go.RowKit
set_option linter.unusedVariables false

theorem order_ways : ∀ x y o p q : Bool, (x || y) = !o → (x = true → y = false) → (x = true → p = true → q = true) →
    (x = true ∧ y = false ∧ o = false ∧ (p = false ∨ (p = true ∧ q = true))) ∨ (x = false ∧ y = true ∧ o = false) ∨ (x = false ∧ y = false ∧ o = true) := by decide

theorem order_any (a b c : ByteArray) (w : World) (ha : a.size ≤ 9223372036854775807) (hb : b.size ≤ 9223372036854775807) (hc : c.size ≤ 9223372036854775807) :
    Calls Try.prog 14 #[.string a, .string b, .string c] w fun e w' => e = .returned (.bool true) ∧ Below w.heap.size w w' := by
  have k1 := fun W => less_any a b W ha hb
  have k2 := fun W => less_any b a W hb ha
  have k3 := fun W => less_any b c W hb hc
  have k4 := fun W => less_any a c W ha hc
  have e1 : Op.bytesLess a.toList b.toList = ls (lb a) (lb b) := by rw [ByteArray.toList_eq, ByteArray.toList_eq]
  have e2 : (a.toList == b.toList) = (lb a == lb b) := by rw [ByteArray.toList_eq, ByteArray.toList_eq]
  have T := ls_total (lb a) (lb b)
  have A := ls_asymm (lb a) (lb b)
  have R := ls_trans (lb a) (lb b) (lb c)
  generalize ls (lb a) (lb b) = x at *
  generalize ls (lb b) (lb a) = y at *
  generalize ls (lb b) (lb c) = p at *
  generalize ls (lb a) (lb c) = q at *
  generalize (lb a == lb b) = o at *
  have cases_ := order_ways x y o p q T A R
  have K1 := Lib.hid k1
  have K2 := Lib.hid k2
  have K3 := Lib.hid k3
  have K4 := Lib.hid k4
  clear k1 k2 k3 k4 T A R
  rcases cases_ with ⟨rfl, rfl, rfl, rfl | ⟨rfl, rfl⟩⟩ | ⟨rfl, rfl, rfl⟩ | ⟨rfl, rfl, rfl⟩
  all_goals
    have kW := Below.refl w.heap.size w
    go_enter Try.func14, Try.ntmps14
    go_wp2_with ((go_at_call 20; first
      | ((with_reducible refine (K1.out _).mono ?_); rintro e w2 ⟨rfl, g⟩; replace kW := kbq kW g; clear g)
      | ((with_reducible refine (K2.out _).mono ?_); rintro e w2 ⟨rfl, g⟩; replace kW := kbq kW g; clear g)
      | ((with_reducible refine (K3.out _).mono ?_); rintro e w2 ⟨rfl, g⟩; replace kW := kbq kW g; clear g)
      | ((with_reducible refine (K4.out _).mono ?_); rintro e w2 ⟨rfl, g⟩; replace kW := kbq kW g; clear g)))
    go_ret
    exact ⟨rfl, kW⟩

theorem keyOrder_any (a b c : ByteArray) (X Y Z : Option Addr) (n1 c1 n2 c2 n3 c3 : Nat) (w : World) (ha : a.size ≤ 140737488355328) (hb : b.size ≤ 140737488355328) (hc : c.size ≤ 140737488355328)
    (hX : Byts w X n1) (hn1 : n1 ≤ 9223372036854775807) (hY : Byts w Y n2) (hn2 : n2 ≤ 9223372036854775807) (hZ : Byts w Z n3) (hn3 : n3 ≤ 9223372036854775807) :
    Calls Try.prog 4 #[.string a, .string b, .string c, .slice X n1 c1, .slice Y n2 c2, .slice Z n3 c3] w fun e w' => e = .returned (.bool true) ∧ Below w.heap.size w w' := by
  have K0 := Lib.hid known_any
  by_cases h500 : (500 : Int) < (a.size : Int) + (b.size : Int) + (c.size : Int)
  · go_enter Try.func4, Try.ntmps4
    go_wp2_with (go_at_call 9; refine (K0.out _).mono ?_; rintro e w3 ⟨rfl, g3⟩)
    go_ret
    exact ⟨rfl, g3⟩
  · have h500' : decide ((500 : Int) < (a.size : Int) + (b.size : Int) + (c.size : Int)) = false := decide_eq_false h500
    have KX := Lib.hid (fun (W : World) (hW : Below w.heap.size w W) => key_any X n1 c1 W (hX.below hW) hn1)
    have KY := Lib.hid (fun (W : World) (hW : Below w.heap.size w W) => key_any Y n2 c2 W (hY.below hW) hn2)
    have KZ := Lib.hid (fun (W : World) (hW : Below w.heap.size w W) => key_any Z n3 c3 W (hZ.below hW) hn3)
    have O1 := Lib.hid (fun W => order_any a b c W (by omega) (by omega) (by omega))
    have O2 := Lib.hid (fun (s t u : ByteArray) (W : World) (h1 : s.size ≤ 12) (h2 : t.size ≤ 12) (h3 : u.size ≤ 12) => order_any s t u W (by omega) (by omega) (by omega))
    clear hX hY hZ h500
    go_enter Try.func4, Try.ntmps4
    go_wp2_with (first
      | (go_at_call 9; refine (K0.out _).mono ?_; rintro e w1 ⟨rfl, g1⟩; have kW := g1; clear g1)
      | (go_at_call 14; (with_reducible refine (O1.out _).mono ?_); rintro e w2 ⟨rfl, g⟩; replace kW := kbq kW g; clear g)
      | (go_at_call 10; (with_reducible refine (KX.out _ kW).mono ?_); rintro e w2 ⟨s1, rfl, _, z1, g⟩; replace kW := kbq kW g; clear g)
      | (go_at_call 10; (with_reducible refine (KY.out _ kW).mono ?_); rintro e w2 ⟨s2, rfl, _, z2, g⟩; replace kW := kbq kW g; clear g)
      | (go_at_call 10; (with_reducible refine (KZ.out _ kW).mono ?_); rintro e w2 ⟨s3, rfl, _, z3, g⟩; replace kW := kbq kW g; clear g)
      | (go_at_call 14; (with_reducible refine (O2.out _ _ _ _ z1 z2 z3).mono ?_); rintro e w2 ⟨rfl, g⟩; replace kW := kbq kW g; clear g))
    go_ret
    exact ⟨rfl, kW⟩
end Go.Proofs.Ytndipebpccdlfaa.Wd
