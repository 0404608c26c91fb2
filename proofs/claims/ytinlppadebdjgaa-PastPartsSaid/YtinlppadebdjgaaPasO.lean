/- Rows of events and of steps that came in read as lists; no conditions. -/
import Derived.Test.YtinlppadebdjgaaPasE
import Derived.Deep.Slices
import Derived.OpenShut
namespace Go.Proofs.Ytinlppadebdjgaa.Wd
open Go Go.RowKit Go.Deep
set_option linter.unusedVariables false

theorem cells_event : ∃ f0 f1 : Field, Try.prog.underlying 29 = some (.struct #[f0, f1]) ∧ (f0.offset = 0 ∧ f1.offset = 1) ∧ f0.type = 23 ∧ f1.type = 23 :=
  ⟨_, _, Try.underlying29, ⟨rfl, rfl⟩, rfl, rfl⟩
theorem cells_step : ∃ f0 f1 f2 f3 : Field, Try.prog.underlying 53 = some (.struct #[f0, f1, f2, f3]) ∧ (f0.offset = 0 ∧ f1.offset = 1 ∧ f2.offset = 2 ∧ f3.offset = 3) ∧ f0.type = 25 ∧ f1.type = 50 ∧ f2.type = 5 ∧ f3.type = 5 :=
  ⟨_, _, _, _, Try.underlying53, ⟨rfl, rfl, rfl, rfl⟩, rfl, rfl, rfl, rfl⟩

theorem open_events {H : Type} {enc : TypeId × Value → H} {w : World} {base : Nat} {sp : Nat → Bool} {held : Bool} {fuel : Nat} {a : Option Addr} {len cap : Nat} {x : DataW H × List MemPlace}
    (h : DataW.trod enc Try.prog w base sp held fuel 22 [.slice a len cap] = some x) : len ≤ 9223372036854775807 ∧ ∃ es : List (Int × Int), es.length = len ∧ EU es ∧ Hist w (.slice a len cap) es := by
  obtain ⟨f0, f1, hu, ⟨o0, o1⟩, y0, y1⟩ := cells_event
  rcases open_slice Try.underlying22 h with ⟨h0, _⟩ | ⟨ad, l, c, m, n, D, Pl, hcs, hb, hl, hm, hmm, _, hx⟩
  · simp at h0
    obtain ⟨rfl, rfl, rfl⟩ := h0
    exact ⟨by omega, [], rfl, (by intro e he; cases he), nil_hist w⟩
  · simp at hcs
    obtain ⟨rfl, rfl, rfl⟩ := hcs
    refine ⟨by unfold maxLen at hm; omega, ?_⟩
    have ce : Try.prog.cellsOf 29 = 2 := by kernel_rfl
    have c64 : Try.prog.cellsOf 23 = 1 := by kernel_rfl
    have hlm : len ≤ m := by rw [hmm]; split <;> omega
    have each : ∀ i, i < len → ∃ v : Int × Int, (w.cell? (ad.add (i * 2)) = some (.int .u64 v.1) ∧ w.cell? (ad.add (i * 2 + 1)) = some (.int .u64 v.2)) ∧ U v.1 ∧ U v.2 := by
      intro i hi
      obtain ⟨cs', h1, h2⟩ := hx i (by omega)
      rw [ce] at h1
      obtain ⟨_, hlen, hcell⟩ := World.cells?_some h1
      obtain ⟨xs, k, hk, hxy, _, hxl, hf⟩ := DataW.trod_struct hu h2
      match xs, hxl, cs', hlen with
      | [x0, x1], _, [v0, v1], _ =>
        have g0 := hf 0 f0 rfl
        have g1 := hf 1 f1 rfl
        simp [o0, o1, y0, y1, c64] at g0 g1
        obtain ⟨i0, e0, _, w0⟩ := DataW.trod_int Try.underlying23 g0
        obtain ⟨i1, e1, _, w1⟩ := DataW.trod_int Try.underlying23 g1
        simp at e0 e1
        subst e0 e1
        have c0 := hcell 0 (by omega)
        have c1 := hcell 1 (by omega)
        rw [add_add] at c0 c1
        exact ⟨(i0, i1), ⟨by simpa using c0, by simpa using c1⟩, bounds_u64 w0, bounds_u64 w1⟩
    obtain ⟨q, hq⟩ := choose_lt each
    have hlen : ((List.range len).map q).length = len := by simp
    refine ⟨(List.range len).map q, hlen, ?_, some ad, cap, by rw [hlen], by rw [hlen]; exact hl, fun h => (by cases h), fun i e he => ?_⟩
    · intro e he
      simp only [List.mem_map, List.mem_range] at he
      obtain ⟨i, hi, rfl⟩ := he
      exact (hq i hi).2
    · have hi := (List.getElem?_eq_some_iff.1 he).1
      rw [hlen] at hi
      simp [hi] at he
      subst he
      obtain ⟨⟨z0, z1⟩, _⟩ := hq i hi
      obtain ⟨b, off, spot⟩ := ad
      have hspot : spot = none := by
        have := (hq 0 (by omega)).1.1
        simpa [Addr.add] using World.cell?_spot this
      subst hspot
      rw [Go.WideShapes.add_plain] at z0 z1
      exact ⟨b, off, rfl, block_of_cell z0, z0, z1⟩

theorem open_steps {H : Type} {enc : TypeId × Value → H} {w : World} {base : Nat} {sp : Nat → Bool} {held : Bool} {fuel : Nat} {a : Option Addr} {len cap : Nat} {x : DataW H × List MemPlace}
    (h : DataW.trod enc Try.prog w base sp held fuel 24 [.slice a len cap] = some x) : len ≤ 9223372036854775807 ∧ ∃ p q r s, Steps w a len p q r s := by
  obtain ⟨f0, f1, f2, f3, hu, ⟨o0, o1, o2, o3⟩, y0, y1, y2, y3⟩ := cells_step
  rcases open_slice Try.underlying24 h with ⟨h0, _⟩ | ⟨ad, l, c, m, n, D, Pl, hcs, hb, hl, hm, hmm, _, hx⟩
  · simp at h0
    obtain ⟨rfl, rfl, rfl⟩ := h0
    exact ⟨by omega, fun _ => 0, fun _ => 0, fun _ => 0, fun _ => 0, fun i hi => absurd hi (by omega)⟩
  · simp at hcs
    obtain ⟨rfl, rfl, rfl⟩ := hcs
    refine ⟨by unfold maxLen at hm; omega, ?_⟩
    have ce : Try.prog.cellsOf 53 = 4 := by kernel_rfl
    have c32 : Try.prog.cellsOf 25 = 1 := by kernel_rfl
    have c16 : Try.prog.cellsOf 50 = 1 := by kernel_rfl
    have c8 : Try.prog.cellsOf 5 = 1 := by kernel_rfl
    have hlm : len ≤ m := by rw [hmm]; split <;> omega
    have each : ∀ i, i < len → ∃ v : Int × Int × Int × Int, (w.cell? (ad.add (i * 4)) = some (.int .u32 v.1) ∧ w.cell? (ad.add (i * 4 + 1)) = some (.int .u16 v.2.1) ∧ w.cell? (ad.add (i * 4 + 2)) = some (.int .u8 v.2.2.1) ∧ w.cell? (ad.add (i * 4 + 3)) = some (.int .u8 v.2.2.2)) ∧
        (0 ≤ v.1 ∧ v.1 ≤ 4294967295) ∧ (0 ≤ v.2.1 ∧ v.2.1 ≤ 65535) ∧ (0 ≤ v.2.2.1 ∧ v.2.2.1 ≤ 255) ∧ (0 ≤ v.2.2.2 ∧ v.2.2.2 ≤ 255) := by
      intro i hi
      obtain ⟨cs', h1, h2⟩ := hx i (by omega)
      rw [ce] at h1
      obtain ⟨_, hlen, hcell⟩ := World.cells?_some h1
      obtain ⟨xs, k, hk, hxy, _, hxl, hf⟩ := DataW.trod_struct hu h2
      match xs, hxl, cs', hlen with
      | [x0, x1, x2, x3], _, [v0, v1, v2, v3], _ =>
        have g0 := hf 0 f0 rfl
        have g1 := hf 1 f1 rfl
        have g2 := hf 2 f2 rfl
        have g3 := hf 3 f3 rfl
        simp [o0, o1, o2, o3, y0, y1, y2, y3, c32, c16, c8] at g0 g1 g2 g3
        obtain ⟨i0, e0, _, w0⟩ := DataW.trod_int Try.underlying25 g0
        obtain ⟨i1, e1, _, w1⟩ := DataW.trod_int Try.underlying50 g1
        obtain ⟨i2, e2, _, w2⟩ := DataW.trod_int Try.underlying5 g2
        obtain ⟨i3, e3, _, w3⟩ := DataW.trod_int Try.underlying5 g3
        simp at e0 e1 e2 e3
        subst e0 e1 e2 e3
        have c0 := hcell 0 (by omega)
        have c1 := hcell 1 (by omega)
        have c2 := hcell 2 (by omega)
        have c3 := hcell 3 (by omega)
        rw [add_add] at c0 c1 c2 c3
        exact ⟨(i0, i1, i2, i3), ⟨by simpa using c0, by simpa using c1, by simpa using c2, by simpa using c3⟩, bounds_u32 w0, bounds_u16 w1, bounds_u8 w2, bounds_u8 w3⟩
    obtain ⟨q, hq⟩ := choose_lt each
    refine ⟨fun i => (q i).1, fun i => (q i).2.1, fun i => (q i).2.2.1, fun i => (q i).2.2.2, fun i hi => ?_⟩
    obtain ⟨⟨z0, z1, z2, z3⟩, b0, b1, b2, b3⟩ := hq i hi
    obtain ⟨b, off, spot⟩ := ad
    have hspot : spot = none := by
      have := (hq 0 (by omega)).1.1
      simpa [Addr.add] using World.cell?_spot this
    subst hspot
    rw [Go.WideShapes.add_plain] at z0 z1 z2 z3
    exact ⟨b, off, rfl, block_of_cell z0, z0, z1, z2, z3, b0, b1, b2, b3⟩

end Go.Proofs.Ytinlppadebdjgaa.Wd
