/- A row of steps (structs of four numbers) that came in reads as four rows of numbers; no conditions. -/
import Derived.Test.YtodmjnbepfkibaaKerX2
import Derived.Deep.Slices
import Derived.OpenShut
namespace Go.Proofs.Ytodmjnbepfkibaa.Wd
open Go.RowKit Go.Deep
set_option linter.unusedVariables false

theorem lt_of_cell {w : World} {b o : Nat} {v : Value} (h : w.cell? ⟨b, o, none⟩ = some v) : b < w.heap.size := by
  rcases Nat.lt_or_ge b w.heap.size with g | g
  · exact g
  · exfalso
    have e : w.heap[b]? = none := Array.getElem?_eq_none g
    simp [World.cell?, e] at h

theorem cells_struct : ∃ f0 f1 f2 f3 : Field, Try.prog.underlying 38 = some (.struct #[f0, f1, f2, f3]) ∧ (f0.offset = 0 ∧ f1.offset = 1 ∧ f2.offset = 2 ∧ f3.offset = 3) ∧ f0.type = 32 ∧ f1.type = 25 ∧ f2.type = 5 ∧ f3.type = 5 :=
  ⟨_, _, _, _, Try.underlying38, ⟨rfl, rfl, rfl, rfl⟩, rfl, rfl, rfl, rfl⟩

theorem open_steps {H : Type} {enc : TypeId × Value → H} {w : World} {base : Nat} {sp : Nat → Bool} {held : Bool} {fuel : Nat} {a : Option Addr} {len cap : Nat} {x : DataW H × List MemPlace}
    (h : DataW.trod enc Try.prog w base sp held fuel 31 [.slice a len cap] = some x) : len ≤ 9223372036854775807 ∧ ∃ p q r s, Steps w a len p q r s := by
  obtain ⟨f0, f1, f2, f3, hu, ⟨o0, o1, o2, o3⟩, y0, y1, y2, y3⟩ := cells_struct
  rcases open_slice Try.underlying31 h with ⟨h0, _⟩ | ⟨ad, l, c, m, n, D, Pl, hcs, hb, hl, hm, hmm, _, hx⟩
  · simp at h0
    obtain ⟨rfl, rfl, rfl⟩ := h0
    exact ⟨by omega, fun _ => 0, fun _ => 0, fun _ => 0, fun _ => 0, fun i hi => absurd hi (by omega)⟩
  · simp at hcs
    obtain ⟨rfl, rfl, rfl⟩ := hcs
    refine ⟨by unfold maxLen at hm; omega, ?_⟩
    have ce : Try.prog.cellsOf 38 = 4 := by kernel_rfl
    have c32 : Try.prog.cellsOf 32 = 1 := by kernel_rfl
    have c16 : Try.prog.cellsOf 25 = 1 := by kernel_rfl
    have c8 : Try.prog.cellsOf 5 = 1 := by kernel_rfl
    have hlm : len ≤ m := by rw [hmm]; split <;> omega
    have each : ∀ i, i < len → ∃ v : Int × Int × Int × Int, (w.cell? (ad.add (i * 4)) = some (.int .u32 v.1) ∧ w.cell? (ad.add (i * 4 + 1)) = some (.int .u16 v.2.1) ∧ w.cell? (ad.add (i * 4 + 2)) = some (.int .u8 v.2.2.1) ∧ w.cell? (ad.add (i * 4 + 3)) = some (.int .u8 v.2.2.2)) ∧
        (0 ≤ v.1 ∧ v.1 ≤ 4294967295) ∧ (0 ≤ v.2.1 ∧ v.2.1 ≤ 65535) ∧ (0 ≤ v.2.2.1 ∧ v.2.2.1 ≤ 255) ∧ (0 ≤ v.2.2.2 ∧ v.2.2.2 ≤ 255) := by
      intro i hi
      obtain ⟨cs', h1, h2⟩ := hx i (by omega)
      rw [ce] at h1
      obtain ⟨_, hlen, hcell⟩ := World.cells?_some h1
      obtain ⟨xs, k, hk, hxy, _, hxl, hf⟩ := DataW.trod_struct hu h2
      match xs, hxl, cs', hlen with
      | [x0, x1, x2, x3], _, [v0, v1, v2, v3], _ =>
        have g0 := hf 0 f0 rfl
        have g1 := hf 1 f1 rfl
        have g2 := hf 2 f2 rfl
        have g3 := hf 3 f3 rfl
        simp [o0, o1, o2, o3, y0, y1, y2, y3, c32, c16, c8] at g0 g1 g2 g3
        obtain ⟨i0, e0, _, w0⟩ := DataW.trod_int Try.underlying32 g0
        obtain ⟨i1, e1, _, w1⟩ := DataW.trod_int Try.underlying25 g1
        obtain ⟨i2, e2, _, w2⟩ := DataW.trod_int Try.underlying5 g2
        obtain ⟨i3, e3, _, w3⟩ := DataW.trod_int Try.underlying5 g3
        simp at e0 e1 e2 e3
        subst e0 e1 e2 e3
        have c0 := hcell 0 (by omega)
        have c1 := hcell 1 (by omega)
        have c2 := hcell 2 (by omega)
        have c3 := hcell 3 (by omega)
        rw [add_add] at c0 c1 c2 c3
        exact ⟨(i0, i1, i2, i3), ⟨by simpa using c0, by simpa using c1, by simpa using c2, by simpa using c3⟩, bounds_u32 w0, bounds_u16 w1, bounds_u8 w2, bounds_u8 w3⟩
    obtain ⟨q, hq⟩ := choose_lt each
    refine ⟨fun i => (q i).1, fun i => (q i).2.1, fun i => (q i).2.2.1, fun i => (q i).2.2.2, fun i hi => ?_⟩
    obtain ⟨⟨z0, z1, z2, z3⟩, b0, b1, b2, b3⟩ := hq i hi
    obtain ⟨b, off, spot⟩ := ad
    have hspot : spot = none := by
      have := (hq 0 (by omega)).1.1
      simpa [Addr.add] using World.cell?_spot this
    subst hspot
    rw [Go.WideShapes.add_plain] at z0 z1 z2 z3
    exact ⟨b, off, rfl, lt_of_cell z0, z0, z1, z2, z3, b0, b1, b2, b3⟩

theorem kernelSame_walk (a : Option Addr) (n cap : Nat) (most x : Int) (p q r s : Nat → Int) (w : World) (hst : Steps w a n p q r s) (hm : n ≤ 9223372036854775807) (h1 : 0 ≤ most ∧ most ≤ 4294967295) (h2 : U x) :
    Calls Try.prog 4 #[.slice a n cap, .int .u32 most, .int .u64 x] w fun e w' => e = .returned (.bool true) ∧ Below w.heap.size w w' := by
  by_cases hn : 60 < n
  · exact same_long a n cap most x w hn hm
  · exact same_short a n cap most x p q r s w hst (by omega) h1 h2
end Go.Proofs.Ytodmjnbepfkibaa.Wd
