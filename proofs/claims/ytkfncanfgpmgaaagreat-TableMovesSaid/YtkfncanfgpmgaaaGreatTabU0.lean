/- A queue of slots in memory: which methods an interface value that holds it calls; no conditions but those that each names. -/
import Derived.Test.YtkfncanfgpmgaaaGreatTabQ
namespace Go.Proofs.YtkfncanfgpmgaaaGreat.Wd
open Go Go.RowKit Go.Shelf
set_option linter.unusedVariables false
set_option maxRecDepth 100000

abbrev Tpq : TypeId := 156
abbrev Tq : TypeId := 82
theorem wrapnil (a b : TypeId) (p : Addr) (name : String) : Builtin.ssaWrapNilChk_ #[a] b #[.pointer (some p), strVal "", strVal name] = pure (.pointer (some p)) := rfl
set_option linter.unusedSimpArgs false in
theorem meth (name : String) (fp : FuncId × Bool) (h : ((Tryz.prog.info? Tpq).bind fun i => (i.methods.find? (·.name == name)).map fun m => (m.path.toList, m.func)) = some ([], some fp)) (n : Nat) (p : Addr) (w : World) :
    (method (n + 1) Tpq (.pointer (some p)) name).run Tryz.prog w = (if fp.2 then .ok (fp.1, .pointer (some p)) w else (loadVar Tq p).run Tryz.prog w |>.andThen fun v w => .ok (fp.1, v) w) := by
  cases hi : Tryz.prog.info? Tpq with
  | none => rw [hi] at h; cases h
  | some i =>
    rw [hi] at h
    simp only [Option.bind_some] at h
    cases hm : i.methods.find? (·.name == name) with
    | none => rw [hm] at h; cases h
    | some m =>
      rw [hm] at h
      simp only [Option.map_some, Option.some.injEq, Prod.mk.injEq] at h
      obtain ⟨h1, h2⟩ := h
      have h3 : m.path = #[] := by simpa using h1
      obtain ⟨f, b⟩ := fp
      unfold method
      cases b
      · simp [typeInfo, hi, hm, h1, h2, h3, follow, receiverAt, run_underlying Tryz.underlying156, Result.andThen, Place.get, wrapnil, asAddr]
      · simp [typeInfo, hi, hm, h1, h2, h3, follow, receiverAt, run_underlying Tryz.underlying156, Result.andThen, Place.get, wrapnil, asAddr]
theorem m_val (name : String) (f : FuncId) (h : ((Tryz.prog.info? Tpq).bind fun i => (i.methods.find? (·.name == name)).map fun m => (m.path.toList, m.func)) = some ([], some (f, false))) (T : Nat) (v : Value) (w : World) (hc : w.cell? ⟨T, 3, none⟩ = some v) :
    (method 345 Tpq (.pointer (some ⟨T, 3, none⟩)) name).run Tryz.prog w = .ok (f, v) w := by
  rw [show (345 : Nat) = (345 - 1) + 1 from rfl, meth name (f, false) h]
  simp [hc, loadVar]
theorem m_ptr (name : String) (f : FuncId) (h : ((Tryz.prog.info? Tpq).bind fun i => (i.methods.find? (·.name == name)).map fun m => (m.path.toList, m.func)) = some ([], some (f, true))) (p : Addr) (w : World) :
    (method 345 Tpq (.pointer (some p)) name).run Tryz.prog w = .ok (f, .pointer (some p)) w := by
  rw [show (345 : Nat) = (345 - 1) + 1 from rfl, meth name (f, true) h]
  simp
theorem m_len (T : Nat) (v : Value) (w : World) (h : w.cell? ⟨T, 3, none⟩ = some v) : (method 345 Tpq (.pointer (some ⟨T, 3, none⟩)) "Len").run Tryz.prog w = .ok (209, v) w := m_val _ _ (by kernel_rfl) T v w h
theorem m_less (T : Nat) (v : Value) (w : World) (h : w.cell? ⟨T, 3, none⟩ = some v) : (method 345 Tpq (.pointer (some ⟨T, 3, none⟩)) "Less").run Tryz.prog w = .ok (210, v) w := m_val _ _ (by kernel_rfl) T v w h
theorem m_swap (T : Nat) (v : Value) (w : World) (h : w.cell? ⟨T, 3, none⟩ = some v) : (method 345 Tpq (.pointer (some ⟨T, 3, none⟩)) "Swap").run Tryz.prog w = .ok (211, v) w := m_val _ _ (by kernel_rfl) T v w h
theorem m_pop (p : Addr) (w : World) : (method 345 Tpq (.pointer (some p)) "Pop").run Tryz.prog w = .ok (212, .pointer (some p)) w := m_ptr _ _ (by kernel_rfl) p w
theorem m_push (p : Addr) (w : World) : (method 345 Tpq (.pointer (some p)) "Push").run Tryz.prog w = .ok (213, .pointer (some p)) w := m_ptr _ _ (by kernel_rfl) p w
end Go.Proofs.YtkfncanfgpmgaaaGreat.Wd
