/- Rows of rows of texts that came in are no longer than a machine can hold; no conditions. -/
import Derived.Test.YtdjeehnjodbmaaaWrdH
import Derived.SizedLaws
namespace Go.Proofs.Ytdjeehnjodbmaaa.Wd
open Go Go.RowKit Go.Deep
set_option linter.unusedVariables false

theorem weigh_all {H : Type} {P : Program} {e : TypeId} : ∀ {ds : List (DataW H)} {d : DataW H}, d ∈ ds → ∀ n ∈ d.weights P e, n ∈ DataW.weightsAll P e ds
  | [], d, h, _, _ => nomatch h
  | d0 :: ds, d, h, n, hn => by
    rw [DataW.weightsAll]
    rcases List.mem_cons.1 h with rfl | h
    · exact List.mem_append.2 (.inl hn)
    · exact List.mem_append.2 (.inr (weigh_all h n hn))
theorem weigh_slice {H : Type} {P : Program} {t e : TypeId} {es ss : List (DataW H)} (ht : P.underlying t = some (.slice e)) (hw : ∀ n ∈ (DataW.slice es ss).weights P t, n ≤ reachBytes) : es.length * P.bytesOf e ≤ reachBytes ∧ ∀ d ∈ es, ∀ n ∈ d.weights P e, n ≤ reachBytes := by
  simp only [DataW.weights, ht, List.mem_cons, List.mem_append] at hw
  constructor
  · have := hw _ (.inl rfl)
    exact Nat.le_trans (Nat.mul_le_mul_right _ (Nat.le_add_right _ _)) this
  · intro d hd n hn
    exact hw n (.inr (.inl (weigh_all hd n hn)))
theorem bytesText : Try.prog.bytesOf 9 = 16 := by kernel_rfl
theorem bytesTexts : Try.prog.bytesOf 24 = 24 := by kernel_rfl

/-- What no text and no row is longer than. -/
def Fit (row : List (List UInt8)) : Prop := row.length ≤ 140737488355328 ∧ ∀ x ∈ row, x.length ≤ 140737488355328
theorem sized_texts {H : Type} {enc : TypeId × Value → H} {w : World} {base : Nat} {sp : Nat → Bool} {held : Bool} {fuel : Nat} {a : Option Addr} {len cap : Nat} {x : DataW H × List MemPlace}
    (h : DataW.trod enc Try.prog w base sp held fuel 24 [.slice a len cap] = some x) (hw : ∀ n ∈ x.1.weights Try.prog 24, n ≤ reachBytes) : ∃ xs : List (List UInt8), Sts w a len xs ∧ Fit xs := by
  rcases open_slice1 Try.underlying24 (by kernel_rfl) h with ⟨h0, _⟩ | ⟨ad, l, c, m, n, V, D, Pl, hcs, hb, hl, hm, hmm, hX, hx⟩
  · simp at h0
    obtain ⟨rfl, rfl, rfl⟩ := h0
    exact ⟨[], ⟨rfl, (fun _ h => nomatch h), fun h => by omega⟩, by simp, fun _ h => nomatch h⟩
  · simp at hcs
    obtain ⟨rfl, rfl, rfl⟩ := hcs
    rw [hX] at hw
    obtain ⟨hw1, hw2⟩ := weigh_slice Try.underlying24 hw
    rw [bytesText, List.length_map, List.length_range] at hw1
    unfold reachBytes at hw1
    have hlm : len ≤ m := by rw [hmm]; split <;> omega
    have each : ∀ i, i < len → ∃ s : List UInt8, w.cell? (ad.add i) = some (.string (str s)) ∧ s.length ≤ 140737488355328 := by
      intro i hi
      obtain ⟨h1, h2⟩ := hx i (by omega)
      have hwi := hw2 (D i) (List.mem_map.2 ⟨i, List.mem_range.2 hi, rfl⟩)
      obtain ⟨s, e, hD, hs⟩ := DataW.trod_string Try.underlying9 h2
      simp at e
      rw [e] at h1
      refine ⟨s.data.toList, by rw [str_back]; exact h1, ?_⟩
      have hD1 := congrArg Prod.fst hD
      simp only at hD1
      rw [hD1] at hwi
      simp only [DataW.weights, List.mem_singleton, forall_eq] at hwi
      unfold reachBytes at hwi
      have : s.data.toList.length ≤ 140737488351232 := hwi
      omega
    obtain ⟨q, hq⟩ := choose_lt each
    have hfit : ∀ y ∈ (List.range len).map q, y.length ≤ 140737488355328 := by
      intro y hy
      simp only [List.mem_map, List.mem_range] at hy
      obtain ⟨i, hi, rfl⟩ := hy
      exact (hq i hi).2
    refine ⟨(List.range len).map q, ⟨by simp, fun y hy => Nat.le_trans (hfit y hy) (by omega), fun h0 => ?_⟩, by rw [List.length_map, List.length_range]; omega, hfit⟩
    obtain ⟨b, off, rfl⟩ := plain_addr (hq 0 h0).1
    have hc := fun k (hk : k < len) => (hq k hk).1
    simp only [Go.WideShapes.add_plain] at hc
    refine ⟨b, off, rfl, lt_of_cell (hc 0 h0), fun k hk => (hc k hk).trans ?_⟩
    simp [List.getD_eq_getElem?_getD, hk]
theorem sized_lines {H : Type} {enc : TypeId × Value → H} {w : World} {base : Nat} {sp : Nat → Bool} {held : Bool} {fuel : Nat} {a : Option Addr} {len cap : Nat} {x : DataW H × List MemPlace}
    (h : DataW.trod enc Try.prog w base sp held fuel 23 [.slice a len cap] = some x) (hw : ∀ n ∈ x.1.weights Try.prog 23, n ≤ reachBytes) : len ≤ 140737488355328 ∧ ∃ xs : List (List (List UInt8)), LRows w a len xs ∧ ∀ row ∈ xs, Fit row := by
  rcases open_slice1 Try.underlying23 (by kernel_rfl) h with ⟨h0, _⟩ | ⟨ad, l, c, m, n, V, D, Pl, hcs, hb, hl, hm, hmm, hX, hx⟩
  · simp at h0
    obtain ⟨rfl, rfl, rfl⟩ := h0
    exact ⟨by omega, [], ⟨rfl, fun h => by omega⟩, fun _ h => nomatch h⟩
  · simp at hcs
    obtain ⟨rfl, rfl, rfl⟩ := hcs
    rw [hX] at hw
    obtain ⟨hw1, hw2⟩ := weigh_slice Try.underlying23 hw
    rw [bytesTexts, List.length_map, List.length_range] at hw1
    unfold reachBytes at hw1
    refine ⟨by omega, ?_⟩
    have hlm : len ≤ m := by rw [hmm]; split <;> omega
    have each : ∀ i, i < len → ∃ xs : List (List UInt8), Fit xs ∧ ∃ A' c', w.cell? (ad.add i) = some (.slice A' xs.length c') ∧ Sts w A' xs.length xs := by
      intro i hi
      obtain ⟨h1, h2⟩ := hx i (by omega)
      have hwi := hw2 (D i) (List.mem_map.2 ⟨i, List.mem_range.2 hi, rfl⟩)
      have hs : ∃ a' n' c', V i = .slice a' n' c' := by
        rcases open_slice1 Try.underlying24 (by kernel_rfl) h2 with ⟨h0, _⟩ | ⟨ad, l, c, m, n, V', D', Pl', hcs, _⟩
        · simp at h0; exact ⟨_, _, _, h0⟩
        · simp at hcs; exact ⟨_, _, _, hcs⟩
      obtain ⟨a', n', c', e⟩ := hs
      rw [e] at h1 h2
      obtain ⟨xs, hb', hf⟩ := sized_texts h2 hwi
      obtain rfl := hb'.1
      exact ⟨xs, hf, a', c', h1, hb'⟩
    obtain ⟨q, hq⟩ := choose_lt each
    refine ⟨(List.range len).map q, ⟨by simp, fun h0 => ?_⟩, fun row hr => ?_⟩
    · obtain ⟨_, _, _, h00, _⟩ := hq 0 h0
      obtain ⟨b, off, rfl⟩ := plain_addr h00
      refine ⟨b, off, rfl, ?_, fun k hk => ?_⟩
      · rw [Go.WideShapes.add_plain] at h00; exact lt_of_cell h00
      · obtain ⟨hf, A', c', h1, h3⟩ := hq k hk
        rw [Go.WideShapes.add_plain] at h1
        have e : ((List.range len).map q).getD k [] = q k := by simp [List.getD_eq_getElem?_getD, hk]
        rw [e]
        exact ⟨A', c', h1, Nat.le_trans hf.1 (by omega), h3⟩
    · obtain ⟨i, hi, rfl⟩ := List.mem_map.1 hr
      exact (hq i (List.mem_range.1 hi)).1
end Go.Proofs.Ytdjeehnjodbmaaa.Wd
