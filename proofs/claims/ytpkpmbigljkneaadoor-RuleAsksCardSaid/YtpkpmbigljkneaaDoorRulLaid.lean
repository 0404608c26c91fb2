/- What the rows' condition gives: the table of the kernels' names lies in block 0; and the door's own heap meets it. -/
import Derived.Test.YtpkpmbigljkneaaDoorRows
import Derived.Test.YtpkpmbigljkneaaDoorRulX
import Derived.LaidMore
import Derived.OpenShut
import Derived.Stop.Joined
import Derived.Laws.IdiomArrays
namespace Go.Proofs.YtpkpmbigljkneaaDoor.Wd
open Go Go.RowKit Go.ChangeShapes

abbrev laidL : List (String × DataW Unit) := Rows.ruleNamesRow.laid
theorem gNames : Tryd.prog.globalNamed (Rows.ruleNamesRow.named.headD Rows.ruleNamesRow.program) = some 0 := by kernel_rfl
theorem tNames : (Tryd.prog.globals[0]?).map (·.type) = some 54 := by kernel_rfl
theorem str_is {s : ByteArray} {l : List UInt8} (h : DataW.lit (H := Unit) (.string s.data.toList) = .lit (.string l)) : s = ⟨l.toArray⟩ := by
  have e : s.data.toList = l := by simpa using h
  rw [← e]

theorem nam_of_laid {W : World} (h : laidMetH Tryd.prog laidL W) : Nam W := by
  rw [MakeChecks.laidMetH_plain _ _ _ (by kernel_rfl)] at h
  obtain ⟨ps, ⟨g0, t0, cs0, f0, p0, q0, hg0, ht0, hv0, hd0, _, _⟩, _, _⟩ := h
  obtain rfl := Option.some.inj (gNames.symm.trans hg0)
  obtain rfl := Option.some.inj (tNames.symm.trans ht0)
  have hc (i : Nat) := World.var?_cell hg0 hv0 i
  have c9 : Tryd.prog.cellsOf 9 = 1 := by kernel_rfl
  have c54 : Tryd.prog.cellsOf 54 = 4 := by kernel_rfl
  have hlen : cs0.toList.length = 4 := by
    obtain ⟨_, _, _, _, hl, _, _⟩ := DataW.trod_array Tryd.underlying54 hd0
    rw [hl, c54]
  obtain ⟨l⟩ := cs0
  match l, hlen with
  | [v0, v1, v2, v3], _ =>
    obtain ⟨y0, y1, y2, y3, m, hx, h0, h1, h2, h3⟩ := trod_array4 Tryd.underlying54 c9 hd0
    obtain ⟨s0, e0, f0, _⟩ := DataW.trod_string Tryd.underlying9 h0
    obtain ⟨s1, e1, f1, _⟩ := DataW.trod_string Tryd.underlying9 h1
    obtain ⟨s2, e2, f2, _⟩ := DataW.trod_string Tryd.underlying9 h2
    obtain ⟨s3, e3, f3, _⟩ := DataW.trod_string Tryd.underlying9 h3
    simp only [List.cons.injEq, and_true] at e0 e1 e2 e3
    subst e0 e1 e2 e3 f0 f1 f2 f3
    simp only [Prod.mk.injEq] at hx
    have hx1 := hx.1
    unfold Rows.laid_toller_rule_names at hx1
    simp only [DataW.agg.injEq, List.cons.injEq, and_true] at hx1
    obtain ⟨q0, q1, q2, q3⟩ := hx1
    have z0 := hc 0
    have z1 := hc 1
    have z2 := hc 2
    have z3 := hc 3
    simp at z0 z1 z2 z3
    rw [str_is q0.symm] at z0
    rw [str_is q1.symm] at z1
    rw [str_is q2.symm] at z2
    rw [str_is q3.symm] at z3
    exact ⟨z0, z1, z2, z3⟩

/-- The door's own heap meets the condition: three closed facts. -/
theorem door_met (os : Os) (args : Array Value) : laidMetH Tryd.prog laidL ((World.doorLaid Tryd.prog 14 os).forCall (fun _ _ => 0) ⟨#[], args, []⟩).memory :=
  laidMetH_of_parts3 (fuel := 8) (laidMet_of_run' 8 (by kernel_rfl) (by kernel_rfl)) (by kernel_rfl) (by kernel_rfl)
end Go.Proofs.YtpkpmbigljkneaaDoor.Wd
