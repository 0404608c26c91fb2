/- What key.Less, Common and Has answer, for any texts; no conditions but those that each names. -/
import Derived.Test.YtpkpmbigljkneaaDoorKeyM
import Derived.Shelf.Abstract
import Derived.WalkKit
import Derived.Lib.Hide
namespace Go.Proofs.YtpkpmbigljkneaaDoor.Wd
open Go Go.RowKit Go.Shelf
set_option linter.unusedVariables false
attribute [local go_sem] Oper.semAt_some

theorem kbq {w a b : World} (h : Below w.heap.size w a) (g : Below a.heap.size a b) : Below w.heap.size w b := h.trans (g.mono h.size)

/-- Is a byte visible? -/
def visB (c : Int) : Bool := decide (33 ≤ c ∧ c ≤ 126)
theorem visible_any (c : Int) (w : World) (h : 0 ≤ c ∧ c ≤ 255) :
    Calls Tryd.prog 64 #[.int .u8 c] w fun e w' => e = .returned (.bool (visB c)) ∧ w = w' := by
  by_cases h1 : 33 ≤ c
  · by_cases h2 : c ≤ 126
    · rw [show visB c = true from decide_eq_true ⟨h1, h2⟩]
      go_enter Tryd.func64, Tryd.ntmps64
      go_wp2
      go_ret
      exact ⟨rfl, rfl⟩
    · rw [show visB c = false from decide_eq_false (fun g => h2 g.2)]
      go_enter Tryd.func64, Tryd.ntmps64
      go_wp2
      go_ret
      exact ⟨rfl, rfl⟩
  · rw [show visB c = false from decide_eq_false (fun g => h1 g.1)]
    go_enter Tryd.func64, Tryd.ntmps64
    go_wp2
    go_ret
    exact ⟨rfl, rfl⟩
end Go.Proofs.YtpkpmbigljkneaaDoor.Wd
