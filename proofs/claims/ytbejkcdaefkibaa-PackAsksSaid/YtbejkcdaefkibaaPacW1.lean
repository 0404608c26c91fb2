/- PackSize answers true, for any numbers and choices; no conditions. -/
import Derived.Test.YtbejkcdaefkibaaPacQ
namespace Go.Proofs.Ytbejkcdaefkibaa.Wd
open Go Go.RowKit Go.Shelf Go.Deep Go.Lib
set_option linter.unusedVariables false
set_option maxRecDepth 100000

theorem Okx.enO {k : Nat} {xs : List En} (h : Okx k xs) (c : Nat) : enO c xs = enB c xs := by unfold Wd.enO; rw [if_pos ((rg_zero xs).2 h.up)]
theorem Okx.rg {k : Nat} {xs : List En} (h : Okx k xs) : rgE xs = 0 := (rg_zero xs).2 h.up
end Go.Proofs.Ytbejkcdaefkibaa.Wd
