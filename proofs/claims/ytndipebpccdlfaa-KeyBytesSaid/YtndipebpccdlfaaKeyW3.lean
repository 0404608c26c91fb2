/- tollerlaw09.KeyCommon answers true, for any texts and rows of bytes; no conditions. -/
import Derived.Test.YtndipebpccdlfaaKeyW1
import Derived.Lib.QuietBelow
namespace Go.Proofs.Ytndipebpccdlfaa.Wd
open Go Go.RowKit Go.Sort
set_option linter.unusedVariables false

theorem lb_front (a : ByteArray) (m : Nat) : lb (a.extract 0 m) = (lb a).take m := by
  cases a with | mk d =>
  show (ByteArray.extract ⟨d⟩ 0 m).data.toList = _
  rw [ByteArray.extract_mk]; simp
theorem slice_front (a : ByteArray) (m : Nat) (h : m ≤ a.size) (W : World) : (Instr.slice 9 (.string a) none (some (.int .i64 (m : Int))) none).run Try.prog W = .ok (.string (a.extract 0 m)) W := by
  rw [run_slice_string_to_if W 9 a .i64 (m : Int) Try.underlying9, if_pos (by omega)]; rfl

set_option maxHeartbeats 1000000 in
theorem commonLaw_any (a b : ByteArray) (w : World) (ha : a.size ≤ 9223372036854775807) (hb : b.size ≤ 9223372036854775807) :
    Calls Try.prog 15 #[.string a, .string b] w fun e w' => e = .returned (.bool true) ∧ Below w.heap.size w w' := by
  have k1 := fun W => common_any a b W ha hb
  have k2 := fun W => common_any b a W hb ha
  rw [cm_comm] at k2
  have k3 := fun W => hs_any a b W ha hb
  have e5 := hs_cm a b
  have le1 := cm_le_left (lb a) (lb b)
  have le2 := cm_le_right (lb a) (lb b)
  have ft := cm_take (lb a) (lb b)
  have un := cm_unlike (lb a) (lb b)
  rw [list_size] at le1 le2
  obtain ⟨m, hm⟩ : ∃ m, cm (lb a) (lb b) = m := ⟨_, rfl⟩
  simp only [hm] at k1 k2 e5 le1 le2 ft un
  have s1 := slice_front a m le1
  have s2 := slice_front b m le2
  have hA : (a.extract 0 m).size ≤ 9223372036854775807 := by simp; omega
  have k4 := fun W => hs_any a (a.extract 0 m) W ha hA
  rw [show hsB a (a.extract 0 m) = true by rw [hsB_iff, lb_front]; exact List.take_prefix _ _] at k4
  have he : ((a.extract 0 m).toList == (b.extract 0 m).toList) = true := by
    rw [ByteArray.toList_eq, ByteArray.toList_eq, beq_iff_eq]
    show lb (a.extract 0 m) = lb (b.extract 0 m)
    rw [lb_front, lb_front]; exact ft
  generalize a.extract 0 m = A at *
  generalize b.extract 0 m = B at *
  generalize hsB a b = x at *
  have hun : ∀ (h1 : m < a.size) (h2 : m < b.size), ((a[m].toNat : Int) == (b[m].toNat : Int)) = false := fun h1 h2 => by
    have := un (by rw [list_size]; exact h1) (by rw [list_size]; exact h2)
    rw [list_at a m h1, list_at b m h2] at this
    exact u8_ne this
  have K1 := Lib.hid k1
  have K2 := Lib.hid k2
  have K3 := Lib.hid k3
  have K4 := Lib.hid k4
  have HU := Lib.hid hun
  have m0 : ¬ ((m : Int) < 0) := by omega
  have m1 : decide ((a.size : Int) < (m : Int)) = false := decide_eq_false (by omega)
  have m2 : decide ((b.size : Int) < (m : Int)) = false := decide_eq_false (by omega)
  clear k1 k2 k3 k4 hm ft un hA hun
  have ways : (m : Int) = (a.size : Int) ∨ (((m : Int) == (a.size : Int)) = false ∧ ((m : Int) = (b.size : Int) ∨ (((m : Int) == (b.size : Int)) = false ∧ m < a.size ∧ m < b.size))) := by
    by_cases c1 : (m : Int) = (a.size : Int)
    · exact .inl c1
    · by_cases c2 : (m : Int) = (b.size : Int)
      · exact .inr ⟨beq_eq_false_iff_ne.2 c1, .inl c2⟩
      · exact .inr ⟨beq_eq_false_iff_ne.2 c1, .inr ⟨beq_eq_false_iff_ne.2 c2, by omega, by omega⟩⟩
  rcases ways with c1 | ⟨c1, c2 | ⟨c2, c3, c4⟩⟩
  · have c1' : ((m : Int) == (a.size : Int)) = true := by rw [c1]; simp
    clear c1 HU
    go_enter Try.func15, Try.ntmps15
    go_wp2_with ((go_at_call 19; (with_reducible refine (K1.out _).mono ?_); rintro e w1 ⟨rfl, g1⟩))
    have C2 : ∀ d os, Calls Try.prog 19 #[.string b, .string a] (grow (redrawn w1 d) os) fun e w'' => e = .returned (.int .i64 (m : Int)) ∧ ∃ p : Regrown, w'' = grow (redrawn w1 p.d) p.os := fun d os => Calls.regrown_of (K2.out _)
    have C3 : ∀ d os, Calls Try.prog 18 #[.string a, .string b] (grow (redrawn w1 d) os) fun e w'' => e = .returned (.bool x) ∧ ∃ p : Regrown, w'' = grow (redrawn w1 p.d) p.os := fun d os => Calls.regrown_of (K3.out _)
    have C4 : ∀ d os, Calls Try.prog 18 #[.string a, .string A] (grow (redrawn w1 d) os) fun e w'' => e = .returned (.bool true) ∧ ∃ p : Regrown, w'' = grow (redrawn w1 p.d) p.os := fun d os => Calls.regrown_of (K4.out _)
    refine wp_region_quiet_below (by kernel_rfl) (by kernel_rfl) ?_
    repeat (go_big_quiet_step (first | with_reducible exact C2 _ _ | with_reducible exact C3 _ _ | with_reducible exact C4 _ _))
    refine wpQuiet_nil ?_
    intro _ hw'
    obtain ⟨⟨dq, osq⟩, hw''⟩ := hw'
    subst hw''
    go_wp2
    go_ret
    exact ⟨rfl, kbq g1 (below_regrown w1 dq osq)⟩
  · have c2' : ((m : Int) == (b.size : Int)) = true := by rw [c2]; simp
    rw [c2'] at e5
    subst e5
    clear c2 HU
    go_enter Try.func15, Try.ntmps15
    go_wp2_with ((go_at_call 19; (with_reducible refine (K1.out _).mono ?_); rintro e w1 ⟨rfl, g1⟩))
    have C2 : ∀ d os, Calls Try.prog 19 #[.string b, .string a] (grow (redrawn w1 d) os) fun e w'' => e = .returned (.int .i64 (m : Int)) ∧ ∃ p : Regrown, w'' = grow (redrawn w1 p.d) p.os := fun d os => Calls.regrown_of (K2.out _)
    have C3 : ∀ d os, Calls Try.prog 18 #[.string a, .string b] (grow (redrawn w1 d) os) fun e w'' => e = .returned (.bool true) ∧ ∃ p : Regrown, w'' = grow (redrawn w1 p.d) p.os := fun d os => Calls.regrown_of (K3.out _)
    have C4 : ∀ d os, Calls Try.prog 18 #[.string a, .string A] (grow (redrawn w1 d) os) fun e w'' => e = .returned (.bool true) ∧ ∃ p : Regrown, w'' = grow (redrawn w1 p.d) p.os := fun d os => Calls.regrown_of (K4.out _)
    refine wp_region_quiet_below (by kernel_rfl) (by kernel_rfl) ?_
    repeat (go_big_quiet_step (first | with_reducible exact C2 _ _ | with_reducible exact C3 _ _ | with_reducible exact C4 _ _))
    refine wpQuiet_nil ?_
    intro _ hw'
    obtain ⟨⟨dq, osq⟩, hw''⟩ := hw'
    subst hw''
    go_wp2
    go_ret
    exact ⟨rfl, kbq g1 (below_regrown w1 dq osq)⟩
  · have hu : ((a[m].toNat : Int) != (b[m].toNat : Int)) = true := by rw [bne, HU.out c3 c4]; rfl
    rw [c2] at e5
    subst e5
    clear HU
    go_enter Try.func15, Try.ntmps15
    go_wp2_with ((go_at_call 19; (with_reducible refine (K1.out _).mono ?_); rintro e w1 ⟨rfl, g1⟩))
    have C2 : ∀ d os, Calls Try.prog 19 #[.string b, .string a] (grow (redrawn w1 d) os) fun e w'' => e = .returned (.int .i64 (m : Int)) ∧ ∃ p : Regrown, w'' = grow (redrawn w1 p.d) p.os := fun d os => Calls.regrown_of (K2.out _)
    have C3 : ∀ d os, Calls Try.prog 18 #[.string a, .string b] (grow (redrawn w1 d) os) fun e w'' => e = .returned (.bool false) ∧ ∃ p : Regrown, w'' = grow (redrawn w1 p.d) p.os := fun d os => Calls.regrown_of (K3.out _)
    have C4 : ∀ d os, Calls Try.prog 18 #[.string a, .string A] (grow (redrawn w1 d) os) fun e w'' => e = .returned (.bool true) ∧ ∃ p : Regrown, w'' = grow (redrawn w1 p.d) p.os := fun d os => Calls.regrown_of (K4.out _)
    refine wp_region_quiet_below (by kernel_rfl) (by kernel_rfl) ?_
    repeat (go_big_quiet_step (first | with_reducible exact C2 _ _ | with_reducible exact C3 _ _ | with_reducible exact C4 _ _))
    refine wpQuiet_nil ?_
    intro _ hw'
    obtain ⟨⟨dq, osq⟩, hw''⟩ := hw'
    subst hw''
    go_wp2
    go_ret
    exact ⟨rfl, kbq g1 (below_regrown w1 dq osq)⟩

theorem keyCommon_any (a b : ByteArray) (X Y : Option Addr) (n1 c1 n2 c2 : Nat) (w : World) (ha : a.size ≤ 140737488355328) (hb : b.size ≤ 140737488355328)
    (hX : Byts w X n1) (hn1 : n1 ≤ 9223372036854775807) (hY : Byts w Y n2) (hn2 : n2 ≤ 9223372036854775807) :
    Calls Try.prog 5 #[.string a, .string b, .slice X n1 c1, .slice Y n2 c2] w fun e w' => e = .returned (.bool true) ∧ Below w.heap.size w w' := by
  have K0 := Lib.hid known_any
  by_cases h500 : (500 : Int) < (a.size : Int) + (b.size : Int)
  · go_enter Try.func5, Try.ntmps5
    go_wp2_with (go_at_call 9; refine (K0.out _).mono ?_; rintro e w3 ⟨rfl, g3⟩)
    go_ret
    exact ⟨rfl, g3⟩
  · have h500' : decide ((500 : Int) < (a.size : Int) + (b.size : Int)) = false := decide_eq_false h500
    have KX := Lib.hid (fun (W : World) (hW : Below w.heap.size w W) => key_any X n1 c1 W (hX.below hW) hn1)
    have KY := Lib.hid (fun (W : World) (hW : Below w.heap.size w W) => key_any Y n2 c2 W (hY.below hW) hn2)
    have O1 := Lib.hid (fun W => commonLaw_any a b W (by omega) (by omega))
    have O3 := Lib.hid (fun W => commonLaw_any (a ++ b) a W (by rw [ByteArray.size_append']; omega) (by omega))
    have O2 := Lib.hid (fun (s t : ByteArray) (W : World) (h1 : s.size ≤ 12) (h2 : t.size ≤ 12) => commonLaw_any s t W (by omega) (by omega))
    clear hX hY h500
    go_enter Try.func5, Try.ntmps5
    go_wp2_with (first
      | (go_at_call 9; refine (K0.out _).mono ?_; rintro e w1 ⟨rfl, g1⟩; have kW := g1; clear g1)
      | (go_at_call 15; (with_reducible refine (O1.out _).mono ?_); rintro e w2 ⟨rfl, g⟩; replace kW := kbq kW g; clear g)
      | (go_at_call 15; (with_reducible refine (O3.out _).mono ?_); rintro e w2 ⟨rfl, g⟩; replace kW := kbq kW g; clear g)
      | (go_at_call 10; (with_reducible refine (KX.out _ kW).mono ?_); rintro e w2 ⟨s1, rfl, _, z1, g⟩; replace kW := kbq kW g; clear g)
      | (go_at_call 10; (with_reducible refine (KY.out _ kW).mono ?_); rintro e w2 ⟨s2, rfl, _, z2, g⟩; replace kW := kbq kW g; clear g)
      | (go_at_call 15; (with_reducible refine (O2.out _ _ _ z1 z2).mono ?_); rintro e w2 ⟨rfl, g⟩; replace kW := kbq kW g; clear g))
    go_ret
    exact ⟨rfl, kW⟩
end Go.Proofs.Ytndipebpccdlfaa.Wd
