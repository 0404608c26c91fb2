/- A row of entries that came in, and a snapshot by value; no conditions but those that each names. -/
import Derived.Test.YtbejkcdaefkibaaPacX
import Derived.SizedLaws
namespace Go.Proofs.Ytbejkcdaefkibaa.Wd
open Go Go.RowKit Go.Deep
set_option linter.unusedVariables false
set_option maxRecDepth 100000
theorem weigh_all {H : Type} {P : Program} {e : TypeId} : ∀ {ds : List (DataW H)} {d : DataW H}, d ∈ ds → ∀ n ∈ d.weights P e, n ∈ DataW.weightsAll P e ds
  | [], d, h, _, _ => nomatch h
  | d0 :: ds, d, h, n, hn => by
    rw [DataW.weightsAll]
    rcases List.mem_cons.1 h with rfl | h
    · exact List.mem_append.2 (.inl hn)
    · exact List.mem_append.2 (.inr (weigh_all h n hn))
theorem weigh_slice {H : Type} {P : Program} {t e : TypeId} {es ss : List (DataW H)} (ht : P.underlying t = some (.slice e)) (hw : ∀ n ∈ (DataW.slice es ss).weights P t, n ≤ reachBytes) : es.length * P.bytesOf e ≤ reachBytes ∧ ∀ d ∈ es, ∀ n ∈ d.weights P e, n ≤ reachBytes := by
  simp only [DataW.weights, ht, List.mem_cons, List.mem_append] at hw
  constructor
  · have := hw _ (.inl rfl)
    exact Nat.le_trans (Nat.mul_le_mul_right _ (Nat.le_add_right _ _)) this
  · intro d hd n hn
    exact hw n (.inr (.inl (weigh_all hd n hn)))
theorem cells_entry : ∃ f0 f1 : Field, Try.prog.underlying Tae = some (.struct #[f0, f1]) ∧ (f0.offset = 0 ∧ f1.offset = 1) ∧ f0.type = 9 ∧ f1.type = 22 :=
  ⟨_, _, Try.underlying31, ⟨rfl, rfl⟩, rfl, rfl⟩
theorem sized_ens {H : Type} {enc : TypeId × Value → H} {w : World} {base : Nat} {sp : Nat → Bool} {held : Bool} {fuel : Nat} {a : Option Addr} {len cap : Nat} {x : DataW H × List MemPlace}
    (h : DataW.trod enc Try.prog w base sp held fuel Tens [.slice a len cap] = some x) (hw : ∀ n ∈ x.1.weights Try.prog Tens, n ≤ reachBytes) : len ≤ 9223372036854775807 ∧ ∃ xs, Ens w a len xs ∧ ∀ x ∈ xs, x.1.size ≤ 140737488351232 ∧ x.2 < 18446744073709551616 := by
  obtain ⟨f0, f1, hu, ⟨o0, o1⟩, y0, y1⟩ := cells_entry
  rcases open_slice Try.underlying23 h with ⟨h0, _⟩ | ⟨ad, l, c, m, n, D, Pl, hcs, hb, hl, hm, hmm, hX, hx⟩
  · simp at h0
    obtain ⟨rfl, rfl, rfl⟩ := h0
    exact ⟨by omega, [], Ens.nil _ _, fun _ h => nomatch h⟩
  · simp at hcs
    obtain ⟨rfl, rfl, rfl⟩ := hcs
    refine ⟨by unfold maxLen at hm; omega, ?_⟩
    rw [hX] at hw
    obtain ⟨_, hw2⟩ := weigh_slice Try.underlying23 hw
    have ce : Try.prog.cellsOf 31 = 2 := by kernel_rfl
    have cS : Try.prog.cellsOf 9 = 1 := by kernel_rfl
    have c64 : Try.prog.cellsOf 22 = 1 := by kernel_rfl
    have hlm : len ≤ m := by rw [hmm]; split <;> omega
    have hpl : 0 < len → ∃ b off, ad = ⟨b, off, none⟩ := by
      intro h0
      obtain ⟨cs0, h10, _⟩ := hx 0 (by omega)
      rw [ce] at h10
      obtain ⟨_, hlen0, hcell0⟩ := World.cells?_some h10
      match cs0, hlen0, hcell0 with
      | [u0, u1], _, hc =>
        have c0 : w.cell? ((ad.add (0 * 2)).add 0) = some u0 := by simpa using hc 0 (by omega)
        obtain ⟨b, off, spot⟩ := ad
        have hspot : spot = none := by simpa [Addr.add] using World.cell?_spot c0
        subst hspot
        exact ⟨b, off, rfl⟩
    have each : ∀ i, i < len → ∃ r : En, (r.1.size ≤ 140737488351232 ∧ r.2 < 18446744073709551616) ∧ ∀ b off, ad = ⟨b, off, none⟩ → S2 w b (off + i * 2) r := by
      intro i hi
      have hwi := hw2 (D i) (List.mem_map.2 ⟨i, List.mem_range.2 hi, rfl⟩)
      obtain ⟨cs', h1, h2⟩ := hx i (by omega)
      rw [ce] at h1
      obtain ⟨_, hlen, hcell⟩ := World.cells?_some h1
      obtain ⟨xs, k, hk, hxy, _, hxl, hf⟩ := DataW.trod_struct hu h2
      match xs, hxl, cs', hlen with
      | [x0, x1], _, [v0, v1], _ =>
        have g0 := hf 0 f0 rfl
        have g1 := hf 1 f1 rfl
        simp [o0, o1, y0, y1, cS, c64] at g0 g1
        obtain ⟨s, e0, hD0, _⟩ := DataW.trod_string Try.underlying9 g0
        obtain ⟨i1, e1, _, w1⟩ := DataW.trod_int Try.underlying22 g1
        simp at e0 e1
        subst e0 e1
        have c0 := hcell 0 (by omega)
        have c1 := hcell 1 (by omega)
        have hsz : s.size ≤ 140737488351232 := by
          have hxy1 := congrArg Prod.fst hxy
          simp only [List.map_cons, List.map_nil] at hxy1
          rw [hxy1, hD0] at hwi
          have := hwi s.data.toList.length (by simp [DataW.weights, Try.underlying31, DataW.weightsEach])
          unfold reachBytes at this
          rw [list_size] at this
          omega
        have hb1 := bounds_u64 w1
        refine ⟨(s, i1.toNat), ⟨hsz, by show i1.toNat < _; omega⟩, fun b off e => ?_⟩
        subst e
        have ei : ((i1.toNat : Nat) : Int) = i1 := Int.toNat_of_nonneg hb1.1
        simp [Go.WideShapes.add_plain] at c0 c1
        exact ⟨by simpa [Nat.add_assoc] using c0, by show w.cell? _ = some (.int .u64 ((i1.toNat : Nat) : Int)); rw [ei]; simpa [Nat.add_assoc] using c1⟩
    by_cases h0 : 0 < len
    · obtain ⟨b, off, rfl⟩ := hpl h0
      obtain ⟨q, hq⟩ : ∃ q : Nat → En, ∀ i, i < len → ((q i).1.size ≤ 140737488351232 ∧ (q i).2 < 18446744073709551616) ∧ S2 w b (off + i * 2) (q i) := by
        refine ⟨fun i => if hi : i < len then (each i hi).choose else en0, fun i hi => ?_⟩
        simp only [hi, dif_pos]
        exact ⟨(each i hi).choose_spec.1, (each i hi).choose_spec.2 b off rfl⟩
      refine ⟨(List.range len).map q, ⟨by simp, fun _ => ⟨b, off, rfl, ?_, fun k hk => ?_⟩⟩, fun r hr => ?_⟩
      · exact lt_of_cell (hq 0 h0).2.1
      · have := (hq k hk).2
        have e : atE ((List.range len).map q) k = q k := by simp [atE, List.getD_eq_getElem?_getD, hk]
        rw [e]; exact this
      · simp only [List.mem_map, List.mem_range] at hr
        obtain ⟨i, hi, rfl⟩ := hr
        exact (hq i hi).1
    · obtain rfl : len = 0 := by omega
      exact ⟨[], Ens.nil _ _, fun _ h => nomatch h⟩
theorem cellsSnap : Try.prog.cellsOf Tsn = 2 := by kernel_rfl
/-- What a snapshot that came in weighs: each datum of its row of entries. -/
theorem sized_snap {H : Type} {ts : List TypeId} {ds : List (DataW H)} {j : Nat} {y0 y1 : DataW H} (h : (DataW.weightsEach Try.prog ts ds).all (· ≤ reachBytes) = true) (ht : ts[j]? = some Tsn)
    (hd : ds[j]? = some (.agg [y0, y1])) : ∀ n ∈ y1.weights Try.prog Tens, n ≤ reachBytes := by
  intro n hn
  have := List.all_eq_true.1 h _ (DataW.weights_mem_each ht hd n (by
    simp only [DataW.weights, Try.underlying25]
    simp [DataW.weightsEach, hn]))
  simpa using this
end Go.Proofs.Ytbejkcdaefkibaa.Wd
