/- PackClock answers true, for any numbers and choices; no conditions. -/
import Derived.Test.YtbejkcdaefkibaaPacW2
namespace Go.Proofs.Ytbejkcdaefkibaa.Wd
open Go Go.RowKit Go.Shelf Go.Deep Go.Lib
set_option linter.unusedVariables false
set_option maxRecDepth 100000

theorem txt_drew {w : World} {A : Option Addr} {n : Nat} {l : List UInt8} (h : Txt w A n l) : Txt w.drew A n l := h.below ((Below.refl _ w).drew)
/-- A part of bytes. -/
theorem bslice_mid (A : Option Addr) (n cap i j : Nat) (hij : i ≤ j) (hj : j ≤ n) (hn : n ≤ cap) (hc : cap ≤ 9223372036854775807) : ∃ A', (∀ W : World, (Instr.slice 26 (.slice A n cap) (some (.int .i64 (i : Int))) (some (.int .i64 (j : Int))) none).run Try.prog W = .ok (.slice A' (j - i) (cap - i)) W) ∧
    (∀ (W : World) (l : List UInt8), Txt W A n l → Txt W A' (j - i) ((l.drop i).take (j - i))) := by
  obtain ⟨i0, hz, hz0, hz1, hz2⟩ := info_parts infoByte
  refine ⟨if cap = i then A else A.map (·.add (i * 1)), fun W => ?_, fun W l h => ?_⟩
  · have h1 : j ≤ cap := by omega
    simp [go_sem, Try.underlying26, sizeOf, typeInfo, hz, hz1, hij, h1, sliced]
  · refine ⟨by rw [List.length_take, List.length_drop, h.1]; omega, fun h0 => ?_⟩
    obtain ⟨b, off, rfl, hb, hcc⟩ := h.2 (by omega)
    rw [if_neg (by omega)]
    refine ⟨b, off + i, by simp [Go.WideShapes.add_plain], hb, fun k hk => ?_⟩
    rw [Nat.add_assoc, hcc (i + k) (by omega)]
    simp [List.getD_eq_getElem?_getD, hk]
end Go.Proofs.Ytbejkcdaefkibaa.Wd
