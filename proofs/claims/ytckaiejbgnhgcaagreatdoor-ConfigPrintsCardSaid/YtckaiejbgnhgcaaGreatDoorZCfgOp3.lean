/- A row of rules that came in, and a policy by value; no conditions but those that each names. -/
import Derived.Test.YtckaiejbgnhgcaaGreatDoorZP
import Derived.Test.YtckaiejbgnhgcaaGreatDoorZL
namespace Go.Proofs.YtckaiejbgnhgcaaGreatDoor.Wd
open Go Go.RowKit Go.Deep
set_option linter.unusedVariables false
set_option maxRecDepth 100000
theorem cells_rule : ∃ f0 f1 f2 f3 : Field, Tryz.prog.underlying 37 = some (.struct #[f0, f1, f2, f3]) ∧ (f0.offset = 0 ∧ f1.offset = 1 ∧ f2.offset = 2 ∧ f3.offset = 3) ∧ f0.type = 9 ∧ f1.type = 35 ∧ f2.type = 35 ∧ f3.type = 5 :=
  ⟨_, _, _, _, Tryz.underlying37, ⟨rfl, rfl, rfl, rfl⟩, rfl, rfl, rfl, rfl⟩
theorem sized_rls {H : Type} {enc : TypeId × Value → H} {w : World} {base : Nat} {sp : Nat → Bool} {held : Bool} {fuel : Nat} {a : Option Addr} {len cap : Nat} {x : DataW H × List MemPlace}
    (h : DataW.trod enc Tryz.prog w base sp held fuel 26 [.slice a len cap] = some x) (hw : ∀ n ∈ x.1.weights Tryz.prog 26, n ≤ reachBytes) : len ≤ 9223372036854775807 ∧ ∃ rs, Rls w a len rs := by
  obtain ⟨f0, f1, f2, f3, hu, ⟨o0, o1, o2, o3⟩, y0, y1, y2, y3⟩ := cells_rule
  rcases open_slice Tryz.underlying26 h with ⟨h0, _⟩ | ⟨ad, l, c, m, n, D, Pl, hcs, hb, hl, hm, hmm, hX, hx⟩
  · simp at h0
    obtain ⟨rfl, rfl, rfl⟩ := h0
    exact ⟨by omega, [], Rls.nil _ _⟩
  · simp at hcs
    obtain ⟨rfl, rfl, rfl⟩ := hcs
    refine ⟨by unfold maxLen at hm; omega, ?_⟩
    rw [hX] at hw
    obtain ⟨_, hw2⟩ := weigh_slice Tryz.underlying26 hw
    have ce : Tryz.prog.cellsOf 37 = 4 := by kernel_rfl
    have cS : Tryz.prog.cellsOf 9 = 1 := by kernel_rfl
    have c64 : Tryz.prog.cellsOf 35 = 1 := by kernel_rfl
    have c8 : Tryz.prog.cellsOf 5 = 1 := by kernel_rfl
    have hlm : len ≤ m := by rw [hmm]; split <;> omega
    have hpl : 0 < len → ∃ b off, ad = ⟨b, off, none⟩ := by
      intro h0
      obtain ⟨cs0, h10, _⟩ := hx 0 (by omega)
      rw [ce] at h10
      obtain ⟨_, hlen0, hcell0⟩ := World.cells?_some h10
      match cs0, hlen0, hcell0 with
      | [u0, u1, u2, u3], _, hc =>
        have c0 : w.cell? ((ad.add (0 * 4)).add 0) = some u0 := by simpa using hc 0 (by omega)
        obtain ⟨b, off, spot⟩ := ad
        have hspot : spot = none := by simpa [Addr.add] using World.cell?_spot c0
        subst hspot
        exact ⟨b, off, rfl⟩
    have each : ∀ i, i < len → ∃ r : Rl, Okr r ∧ ∀ b off, ad = ⟨b, off, none⟩ → R4 w b (off + i * 4) r := by
      intro i hi
      have hwi := hw2 (D i) (List.mem_map.2 ⟨i, List.mem_range.2 hi, rfl⟩)
      obtain ⟨cs', h1, h2⟩ := hx i (by omega)
      rw [ce] at h1
      obtain ⟨_, hlen, hcell⟩ := World.cells?_some h1
      obtain ⟨xs, k, hk, hxy, _, hxl, hf⟩ := DataW.trod_struct hu h2
      match xs, hxl, cs', hlen with
      | [x0, x1, x2, x3], _, [v0, v1, v2, v3], _ =>
        have g0 := hf 0 f0 rfl
        have g1 := hf 1 f1 rfl
        have g2 := hf 2 f2 rfl
        have g3 := hf 3 f3 rfl
        simp [o0, o1, o2, o3, y0, y1, y2, y3, cS, c64, c8] at g0 g1 g2 g3
        obtain ⟨s, e0, hD0, _⟩ := DataW.trod_string Tryz.underlying9 g0
        obtain ⟨i1, e1, _, w1⟩ := DataW.trod_int Tryz.underlying35 g1
        obtain ⟨i2, e2, _, w2⟩ := DataW.trod_int Tryz.underlying35 g2
        obtain ⟨i3, e3, _, w3⟩ := DataW.trod_int Tryz.underlying5 g3
        simp at e0 e1 e2 e3
        subst e0 e1 e2 e3
        have c0 := hcell 0 (by omega)
        have c1 := hcell 1 (by omega)
        have c2 := hcell 2 (by omega)
        have c3 := hcell 3 (by omega)
        have hsz : s.size ≤ 140737488351232 := by
          have hxy1 := congrArg Prod.fst hxy
          simp only [List.map_cons, List.map_nil] at hxy1
          rw [hxy1, hD0] at hwi
          have := hwi s.data.toList.length (by simp [DataW.weights, Tryz.underlying37, DataW.weightsEach])
          unfold reachBytes at this
          rw [list_size] at this
          omega
        refine ⟨⟨s, i1, i2, i3⟩, ⟨by show s.size ≤ _; omega, (bounds_u64 w1), (bounds_u64 w2), bounds_u8 w3⟩, fun b off e => ?_⟩
        subst e
        simp [Go.WideShapes.add_plain] at c0 c1 c2 c3
        exact ⟨by simpa [Nat.add_assoc] using c0, by simpa [Nat.add_assoc] using c1, by simpa [Nat.add_assoc] using c2, by simpa [Nat.add_assoc] using c3⟩
    have each' : ∀ i, i < len → ∃ r : Rl, Okr r ∧ ∀ b off, ad = ⟨b, off, none⟩ → R4 w b (off + i * 4) r := each
    by_cases h0 : 0 < len
    · obtain ⟨b, off, rfl⟩ := hpl h0
      obtain ⟨q, hq⟩ : ∃ q : Nat → Rl, ∀ i, i < len → Okr (q i) ∧ R4 w b (off + i * 4) (q i) := by
        refine ⟨fun i => if hi : i < len then (each i hi).choose else rl0, fun i hi => ?_⟩
        simp only [hi, dif_pos]
        exact ⟨(each i hi).choose_spec.1, (each i hi).choose_spec.2 b off rfl⟩
      refine ⟨(List.range len).map q, by simp, fun r hr => ?_, fun _ => ⟨b, off, rfl, ?_, fun k hk => ?_⟩⟩
      · simp only [List.mem_map, List.mem_range] at hr
        obtain ⟨i, hi, rfl⟩ := hr
        exact (hq i hi).1
      · exact cell_lt (hq 0 h0).2.1
      · have := (hq k hk).2
        have e : fnOf ((List.range len).map q) k = q k := by simp [fnOf, List.getD_eq_getElem?_getD, hk]
        rw [e]; exact this
    · obtain rfl : len = 0 := by omega
      exact ⟨[], Rls.nil _ _⟩
theorem cellsPolicy : Tryz.prog.cellsOf 28 = 2 := by kernel_rfl
/-- What a policy that came in weighs: each datum of its row of rules. -/
theorem sized_policy {H : Type} {ts : List TypeId} {ds : List (DataW H)} {j : Nat} {y0 y1 : DataW H} (h : (DataW.weightsEach Tryz.prog ts ds).all (· ≤ reachBytes) = true) (ht : ts[j]? = some 28)
    (hd : ds[j]? = some (.agg [y0, y1])) : ∀ n ∈ y1.weights Tryz.prog 26, n ≤ reachBytes := by
  intro n hn
  have := List.all_eq_true.1 h _ (DataW.weights_mem_each ht hd n (by
    simp only [DataW.weights, Tryz.underlying28]
    simp [DataW.weightsEach, hn]))
  simpa using this
end Go.Proofs.YtckaiejbgnhgcaaGreatDoor.Wd
