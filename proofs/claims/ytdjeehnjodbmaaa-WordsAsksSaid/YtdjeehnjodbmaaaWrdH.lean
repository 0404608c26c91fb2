/- Rows of rows of texts that came in read as such; no conditions. -/
import Derived.Test.YtdjeehnjodbmaaaWrdO
import Derived.Test.YtdjeehnjodbmaaaWrdJ
namespace Go.Proofs.Ytdjeehnjodbmaaa.Wd
open Go Go.RowKit Go.Deep
set_option linter.unusedVariables false

theorem str_back (s : ByteArray) : str s.data.toList = s := by cases s; rfl
theorem open_texts {H : Type} {enc : TypeId × Value → H} {w : World} {base : Nat} {sp : Nat → Bool} {held : Bool} {fuel : Nat} {a : Option Addr} {len cap : Nat} {x : DataW H × List MemPlace}
    (h : DataW.trod enc Try.prog w base sp held fuel 24 [.slice a len cap] = some x) : len ≤ 9223372036854775807 ∧ ∃ xs : List (List UInt8), Sts w a len xs := by
  rcases open_slice1 Try.underlying24 (by kernel_rfl) h with ⟨h0, _⟩ | ⟨ad, l, c, m, n, V, D, Pl, hcs, hb, hl, hm, hmm, _, hx⟩
  · simp at h0
    obtain ⟨rfl, rfl, rfl⟩ := h0
    exact ⟨by omega, [], rfl, (fun _ h => nomatch h), fun h => by omega⟩
  · simp at hcs
    obtain ⟨rfl, rfl, rfl⟩ := hcs
    unfold maxLen at hm
    refine ⟨by omega, ?_⟩
    have hlm : len ≤ m := by rw [hmm]; split <;> omega
    have each : ∀ i, i < len → ∃ s : List UInt8, w.cell? (ad.add i) = some (.string (str s)) ∧ s.length ≤ 9223372036854775807 := by
      intro i hi
      obtain ⟨h1, h2⟩ := hx i (by omega)
      obtain ⟨s, e, _, hs⟩ := DataW.trod_string Try.underlying9 h2
      simp at e
      rw [e] at h1
      exact ⟨s.data.toList, by rw [str_back]; exact h1, by unfold maxLen at hs; exact hs⟩
    obtain ⟨q, hq⟩ := choose_lt each
    refine ⟨(List.range len).map q, by simp, ?_, fun h0 => ?_⟩
    · intro y hy
      simp only [List.mem_map, List.mem_range] at hy
      obtain ⟨i, hi, rfl⟩ := hy
      exact (hq i hi).2
    · obtain ⟨b, off, rfl⟩ := plain_addr (hq 0 h0).1
      have hc := fun k (hk : k < len) => (hq k hk).1
      simp only [Go.WideShapes.add_plain] at hc
      refine ⟨b, off, rfl, lt_of_cell (hc 0 h0), fun k hk => (hc k hk).trans ?_⟩
      simp [List.getD_eq_getElem?_getD, hk]
theorem open_lines {H : Type} {enc : TypeId × Value → H} {w : World} {base : Nat} {sp : Nat → Bool} {held : Bool} {fuel : Nat} {a : Option Addr} {len cap : Nat} {x : DataW H × List MemPlace}
    (h : DataW.trod enc Try.prog w base sp held fuel 23 [.slice a len cap] = some x) : len ≤ cap ∧ cap ≤ 9223372036854775807 ∧ ∃ xs : List (List (List UInt8)), LRows w a len xs := by
  rcases open_slice1 Try.underlying23 (by kernel_rfl) h with ⟨h0, _⟩ | ⟨ad, l, c, m, n, V, D, Pl, hcs, hb, hl, hm, hmm, _, hx⟩
  · simp at h0
    obtain ⟨rfl, rfl, rfl⟩ := h0
    exact ⟨Nat.le_refl _, by omega, [], rfl, fun h => by omega⟩
  · simp at hcs
    obtain ⟨rfl, rfl, rfl⟩ := hcs
    unfold maxLen at hm
    refine ⟨hl, hm, ?_⟩
    have hlm : len ≤ m := by rw [hmm]; split <;> omega
    have each : ∀ i, i < len → ∃ xs : List (List UInt8), ∃ A' c', w.cell? (ad.add i) = some (.slice A' xs.length c') ∧ xs.length ≤ 9223372036854775807 ∧ Sts w A' xs.length xs := by
      intro i hi
      obtain ⟨h1, h2⟩ := hx i (by omega)
      have hs : ∃ a' n' c', V i = .slice a' n' c' := by
        rcases open_slice1 Try.underlying24 (by kernel_rfl) h2 with ⟨h0, _⟩ | ⟨ad, l, c, m, n, V', D', Pl', hcs, _⟩
        · simp at h0; exact ⟨_, _, _, h0⟩
        · simp at hcs; exact ⟨_, _, _, hcs⟩
      obtain ⟨a', n', c', e⟩ := hs
      rw [e] at h1 h2
      obtain ⟨hn', xs, hb'⟩ := open_texts h2
      obtain rfl := hb'.1
      exact ⟨xs, a', c', h1, hn', hb'⟩
    obtain ⟨q, hq⟩ := choose_lt each
    refine ⟨(List.range len).map q, by simp, fun h0 => ?_⟩
    obtain ⟨_, _, h00, _⟩ := hq 0 h0
    obtain ⟨b, off, rfl⟩ := plain_addr h00
    refine ⟨b, off, rfl, ?_, fun k hk => ?_⟩
    · rw [Go.WideShapes.add_plain] at h00; exact lt_of_cell h00
    · obtain ⟨A', c', h1, h2, h3⟩ := hq k hk
      rw [Go.WideShapes.add_plain] at h1
      have e : ((List.range len).map q).getD k [] = q k := by simp [List.getD_eq_getElem?_getD, hk]
      rw [e]
      exact ⟨A', c', h1, h2, h3⟩
end Go.Proofs.Ytdjeehnjodbmaaa.Wd
