/- A row of numbers that came in reads as a list of numbers of 64 bits; no conditions. -/
import Derived.Test.YtpnhhihddlpokaaNumA
import Derived.OpenShut
namespace Go.Proofs.Ytpnhhihddlpokaa.Wd
open Go.RowKit

theorem lt_of_cell {w : World} {b o : Nat} {v : Value} (h : w.cell? ⟨b, o, none⟩ = some v) : b < w.heap.size := by
  rcases Nat.lt_or_ge b w.heap.size with g | g
  · exact g
  · exfalso
    have e : w.heap[b]? = none := Array.getElem?_eq_none g
    simp [World.cell?, e] at h

theorem row_nums {w : World} {a : Option Addr} {len cap : Nat} {zs : List Int}
    (h : (a = none ∧ len = 0 ∧ cap = 0 ∧ zs = []) ∨ ∃ x, a = some x ∧ len ≤ cap ∧ cap ≤ maxLen ∧ zs.length = cap ∧ (∀ i, i < zs.length → w.cell? (x.add i) = some (.int .u64 (zs.getD i 0))) ∧ ∀ n ∈ zs, (Lit.int .u64 n).wf = true) :
    Nums w a len (zs.take len) ∧ len ≤ cap ∧ cap ≤ 9223372036854775807 ∧ (cap = 0 ∨ ∃ b off, a = some ⟨b, off, none⟩) := by
  rcases h with ⟨rfl, rfl, rfl, rfl⟩ | ⟨x, rfl, hl, hm, hz, hc, hw⟩
  · exact ⟨⟨rfl, by simp, fun hn => absurd hn (by omega)⟩, by omega, by omega, .inl rfl⟩
  · unfold maxLen at hm
    by_cases c0 : cap = 0
    · refine ⟨⟨by simp; omega, ?_, fun hn => absurd hn (by omega)⟩, hl, by omega, .inl c0⟩
      intro y hy
      have : zs = [] := List.eq_nil_of_length_eq_zero (by omega)
      subst this
      simp at hy
    · obtain ⟨b, off, rfl, hc'⟩ := ints_at hc (by omega)
      refine ⟨⟨by rw [List.length_take]; omega, fun y hy => bounds_u64 (hw y (List.mem_of_mem_take hy)), fun hn => ⟨b, off, rfl, lt_of_cell (hc' 0 (by omega)), fun k hk => (hc' k (by omega)).trans ?_⟩⟩, hl, by omega, .inr ⟨b, off, rfl⟩⟩
      simp only [List.getD_eq_getElem?_getD, List.getElem?_take, if_pos hk]
end Go.Proofs.Ytpnhhihddlpokaa.Wd
