/- What kernel's calls answer, for any states and numbers of 64 bits; no conditions. -/
import Derived.Test.YtpkpmbigljkneaaDoorKerM
namespace Go.Proofs.YtpkpmbigljkneaaDoor.Wd
open Go.RowKit
set_option linter.unusedVariables false

/-- Is it a kernel? -/
def isK (k : Int) : Bool := decide (1 ≤ k ∧ k ≤ 3)
def kerV (k : Int) : Value := if k = 1 then kern1 else if k = 2 then kern2 else if k = 3 then kern3 else .agg #[.nilFunc, .nilFunc, .nilFunc]
theorem run_look_any (w : World) (b : Nat) (k : Int) (hb : w.heap[b]? = some kerMap) :
    (Instr.lookup 97 (.map (some b)) (.int .u8 k) true).run Tryd.prog w = .ok (.tuple #[kerV k, .bool (isK k)]) w := by
  refine run_look w b k _ _ hb ?_
  unfold kerV isK
  by_cases h1 : k = 1
  · subst h1; left; simp
  by_cases h2 : k = 2
  · subst h2; right; left; simp
  by_cases h3 : k = 3
  · subst h3; right; right; left; simp
  right; right; right
  simp [h1, h2, h3]; omega
theorem kernels_new (w : World) :
    Calls Tryd.prog 65 #[] w fun e w' => ∃ p : Nat, e = .returned (.map (some p)) ∧ Kept w w' ∧ ∀ k w2, Kept w' w2 → (Instr.lookup 97 (.map (some p)) (.int .u8 k) true).run Tryd.prog w2 = .ok (.tuple #[kerV k, .bool (isK k)]) w2 := by
  refine (kernels_any w).mono ?_
  rintro e w' ⟨rfl, rfl⟩
  exact ⟨_, rfl, (Kept.refl w).allocMap _ _, fun k w2 h => run_look_any _ _ _ ((h.2.block _ (by simp)).trans (MapKept.heap_alloc w _).1)⟩
theorem kerV_no (k : Int) (h : isK k = false) : kerV k = .agg #[.nilFunc, .nilFunc, .nilFunc] := by
  unfold isK at h; simp at h
  unfold kerV; rw [if_neg (by omega), if_neg (by omega), if_neg (by omega)]
theorem isK_yes (k : Int) (h : isK k = true) : k = 1 ∨ k = 2 ∨ k = 3 := by
  unfold isK at h; simp at h; omega

theorem right_core (k : Int) (f g h : Value) (is : Bool) (w : World) (e0 : kerV k = .agg #[f, g, h]) (e1 : isK k = is)
    (hf : f = .nilFunc ∧ g = .nilFunc ∧ h = .nilFunc ∨ ∃ a b c : FuncId, f = .func (Fn.func a) #[] #[] ∧ g = .func (Fn.func b) #[] #[] ∧ h = .func (Fn.func c) #[] #[]) :
    Calls Tryd.prog 58 #[.int .u8 k] w fun e w' => e = .returned (.bool is) ∧ Kept w w' := by
  rcases hf with ⟨rfl, rfl, rfl⟩ | ⟨a, b, c, rfl, rfl, rfl⟩
  all_goals
    go_enter Tryd.func58, Tryd.ntmps58
    go_wp2_with (go_at_call 65; ((with_reducible refine (kernels_new _).mono ?_); rintro e w1 ⟨p, rfl, g1, hl⟩; replace hl := hl k _ (Kept.refl _); rw [e0, e1] at hl))
    go_ret
    exact ⟨rfl, g1.alloc _ _⟩
theorem knright_any (k : Int) (w : World) :
    Calls Tryd.prog 58 #[.int .u8 k] w fun e w' => e = .returned (.bool (isK k)) ∧ Kept w w' := by
  cases h : isK k
  · exact right_core k _ _ _ _ w (kerV_no k h) h (.inl ⟨rfl, rfl, rfl⟩)
  · rcases isK_yes k h with rfl | rfl | rfl
    · exact right_core 1 _ _ _ _ w rfl h (.inr ⟨_, _, _, rfl, rfl, rfl⟩)
    · exact right_core 2 _ _ _ _ w rfl h (.inr ⟨_, _, _, rfl, rfl, rfl⟩)
    · exact right_core 3 _ _ _ _ w rfl h (.inr ⟨_, _, _, rfl, rfl, rfl⟩)

end Go.Proofs.YtpkpmbigljkneaaDoor.Wd
