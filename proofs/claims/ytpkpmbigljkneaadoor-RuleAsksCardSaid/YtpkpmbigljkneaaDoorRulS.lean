/- A row of texts in memory, and what key.Sorted answers of it; no conditions but those that each names. -/
import Derived.Test.YtpkpmbigljkneaaDoorRulC
namespace Go.Proofs.YtpkpmbigljkneaaDoor.Wd
open Go Go.RowKit
set_option linter.unusedVariables false

/-- No byte. -/
abbrev nob : ByteArray := ⟨#[]⟩
/-- A row of texts that lies in memory. -/
def Sts (w : World) (A : Option Addr) (n : Nat) (xs : List ByteArray) : Prop :=
  xs.length = n ∧ (∀ x ∈ xs, x.size ≤ 9223372036854775807) ∧ (0 < n → ∃ b off, A = some ⟨b, off, none⟩ ∧ b < w.heap.size ∧ ∀ k, k < n → w.cell? ⟨b, off + k, none⟩ = some (.string (xs.getD k nob)))
theorem Sts.below {w w' : World} {A : Option Addr} {n : Nat} {xs : List ByteArray} (h : Sts w A n xs) (k : Below w.heap.size w w') : Sts w' A n xs :=
  ⟨h.1, h.2.1, fun hn => by
    obtain ⟨b, off, e, hb, hc⟩ := h.2.2 hn
    exact ⟨b, off, e, Nat.lt_of_lt_of_le hb k.size, fun j hj => (k.cell (p := ⟨b, off + j, none⟩) hb).trans (hc j hj)⟩⟩
theorem Sts.front {w : World} {A : Option Addr} {n k : Nat} {xs : List ByteArray} (h : Sts w A n xs) (hk : k ≤ n) : Sts w A k (xs.take k) :=
  ⟨by rw [List.length_take, h.1]; omega, fun x hx => h.2.1 x (List.mem_of_mem_take hx), fun hn => by
    obtain ⟨b, off, e, hb, hc⟩ := h.2.2 (by omega)
    refine ⟨b, off, e, hb, fun j hj => (hc j (by omega)).trans ?_⟩
    simp only [List.getD_eq_getElem?_getD, List.getElem?_take, if_pos hj]⟩
theorem Sts.cut {w : World} {b off n k : Nat} {xs : List ByteArray} (h : Sts w (some ⟨b, off, none⟩) n xs) (hk : k ≤ n) :
    Sts w (some ⟨b, off + k, none⟩) (n - k) (xs.drop k) :=
  ⟨by rw [List.length_drop, h.1], fun x hx => h.2.1 x (List.mem_of_mem_drop hx), fun hn => by
    obtain ⟨b', off', e, hb, hcell⟩ := h.2.2 (by omega)
    simp only [Option.some.injEq, Addr.mk.injEq] at e
    obtain ⟨rfl, rfl, _⟩ := e
    refine ⟨b, off + k, rfl, hb, fun j hj => ?_⟩
    have := hcell (k + j) (by omega)
    rw [Nat.add_assoc, this]
    simp only [List.getD_eq_getElem?_getD, List.getElem?_drop]⟩
theorem Sts.at {w : World} {A : Option Addr} {n : Nat} {xs : List ByteArray} (h : Sts w A n xs) (k : Nat) : (xs.getD k nob).size ≤ 9223372036854775807 := by
  by_cases hk : k < xs.length
  · rw [List.getD_eq_getElem?_getD, List.getElem?_eq_getElem hk]; exact h.2.1 _ (List.getElem_mem hk)
  · rw [List.getD_eq_getElem?_getD, List.getElem?_eq_none (by omega)]; exact Nat.zero_le _
theorem Sts.nil (w : World) (A : Option Addr) : Sts w A 0 [] := ⟨rfl, (fun _ h => nomatch h), fun h => absurd h (Nat.lt_irrefl _)⟩

/-! ### Keys that rise -/
theorem celln {w w' : World} (h : Below w.heap.size w w') {b o : Nat} {v : Value} (c : w.cell? ⟨b, o, none⟩ = some v) : w'.cell? ⟨b, o, none⟩ = some v := by
  have hb : b < w.heap.size := by
    by_cases hb : b < w.heap.size
    · exact hb
    · simp [World.cell?, hb] at c
  exact (h.cell (p := ⟨b, o, none⟩) hb).trans c
theorem dcell {w : World} {p : Addr} {v : Value} (c : w.cell? p = some v) : w.drew.cell? p = some v := c

end Go.Proofs.YtpkpmbigljkneaaDoor.Wd
