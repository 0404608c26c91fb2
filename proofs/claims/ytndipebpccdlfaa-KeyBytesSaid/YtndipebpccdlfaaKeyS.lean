/- A row of texts in memory, and what key.Sorted answers of it; no conditions but those that each names. -/
import Derived.Test.YtndipebpccdlfaaKeyC
namespace Go.Proofs.Ytndipebpccdlfaa.Wd
open Go Go.RowKit
set_option linter.unusedVariables false

/-- No byte. -/
abbrev nob : ByteArray := ⟨#[]⟩
/-- A row of texts that lies in memory. -/
def Sts (w : World) (A : Option Addr) (n : Nat) (xs : List ByteArray) : Prop :=
  xs.length = n ∧ (∀ x ∈ xs, x.size ≤ 9223372036854775807) ∧ (0 < n → ∃ b off, A = some ⟨b, off, none⟩ ∧ b < w.heap.size ∧ ∀ k, k < n → w.cell? ⟨b, off + k, none⟩ = some (.string (xs.getD k nob)))
theorem Sts.below {w w' : World} {A : Option Addr} {n : Nat} {xs : List ByteArray} (h : Sts w A n xs) (k : Below w.heap.size w w') : Sts w' A n xs :=
  ⟨h.1, h.2.1, fun hn => by
    obtain ⟨b, off, e, hb, hc⟩ := h.2.2 hn
    exact ⟨b, off, e, Nat.lt_of_lt_of_le hb k.size, fun j hj => (k.cell (p := ⟨b, off + j, none⟩) hb).trans (hc j hj)⟩⟩
theorem Sts.front {w : World} {A : Option Addr} {n k : Nat} {xs : List ByteArray} (h : Sts w A n xs) (hk : k ≤ n) : Sts w A k (xs.take k) :=
  ⟨by rw [List.length_take, h.1]; omega, fun x hx => h.2.1 x (List.mem_of_mem_take hx), fun hn => by
    obtain ⟨b, off, e, hb, hc⟩ := h.2.2 (by omega)
    refine ⟨b, off, e, hb, fun j hj => (hc j (by omega)).trans ?_⟩
    simp only [List.getD_eq_getElem?_getD, List.getElem?_take, if_pos hj]⟩
theorem Sts.cut {w : World} {b off n k : Nat} {xs : List ByteArray} (h : Sts w (some ⟨b, off, none⟩) n xs) (hk : k ≤ n) :
    Sts w (some ⟨b, off + k, none⟩) (n - k) (xs.drop k) :=
  ⟨by rw [List.length_drop, h.1], fun x hx => h.2.1 x (List.mem_of_mem_drop hx), fun hn => by
    obtain ⟨b', off', e, hb, hcell⟩ := h.2.2 (by omega)
    simp only [Option.some.injEq, Addr.mk.injEq] at e
    obtain ⟨rfl, rfl, _⟩ := e
    refine ⟨b, off + k, rfl, hb, fun j hj => ?_⟩
    have := hcell (k + j) (by omega)
    rw [Nat.add_assoc, this]
    simp only [List.getD_eq_getElem?_getD, List.getElem?_drop]⟩
theorem Sts.at {w : World} {A : Option Addr} {n : Nat} {xs : List ByteArray} (h : Sts w A n xs) (k : Nat) : (xs.getD k nob).size ≤ 9223372036854775807 := by
  by_cases hk : k < xs.length
  · rw [List.getD_eq_getElem?_getD, List.getElem?_eq_getElem hk]; exact h.2.1 _ (List.getElem_mem hk)
  · rw [List.getD_eq_getElem?_getD, List.getElem?_eq_none (by omega)]; exact Nat.zero_le _
theorem Sts.nil (w : World) (A : Option Addr) : Sts w A 0 [] := ⟨rfl, (fun _ h => nomatch h), fun h => absurd h (Nat.lt_irrefl _)⟩

/-! ### Keys that rise -/
def soB : List ByteArray → Bool
  | a :: b :: r => ls (lb a) (lb b) && soB (b :: r)
  | _ => true
theorem soB_iff : ∀ xs : List ByteArray, soB xs = true ↔ ∀ i, i + 1 < xs.length → ls (lb (xs.getD i nob)) (lb (xs.getD (i + 1) nob)) = true
  | [] => ⟨fun _ i h => by simp at h, fun _ => rfl⟩
  | [a] => ⟨fun _ i h => by simp at h, fun _ => rfl⟩
  | a :: b :: r => by
    rw [soB, Bool.and_eq_true, soB_iff (b :: r)]
    constructor
    · rintro ⟨h, g⟩ i hi
      cases i with
      | zero => simpa using h
      | succ i => have := g i (by simpa using hi); simpa using this
    · intro h
      refine ⟨by simpa using h 0 (by simp), fun i hi => ?_⟩
      have := h (i + 1) (by simpa using hi)
      simpa using this
theorem soB_no {xs : List ByteArray} (i : Nat) (hi : i + 1 < xs.length) (h : ls (lb (xs.getD i nob)) (lb (xs.getD (i + 1) nob)) = false) : soB xs = false := by
  rw [← Bool.not_eq_true, soB_iff]
  intro g
  rw [g i hi] at h; cases h
/-- What rises rises over whatever is between. -/
theorem so_far {xs : List ByteArray} (h : soB xs = true) : ∀ d i, i + d + 1 < xs.length → ls (lb (xs.getD i nob)) (lb (xs.getD (i + d + 1) nob)) = true := by
  rw [soB_iff] at h
  intro d
  induction d with
  | zero => intro i hi; exact h i (by omega)
  | succ d ih =>
    intro i hi
    exact ls_trans _ _ _ (ih i (by omega)) (h (i + d + 1) (by omega))
theorem so_less {xs : List ByteArray} (h : soB xs = true) {i j : Nat} (hij : i < j) (hj : j < xs.length) : ls (lb (xs.getD i nob)) (lb (xs.getD j nob)) = true := by
  have := so_far h (j - i - 1) i (by omega)
  rwa [show i + (j - i - 1) + 1 = j by omega] at this
theorem so_take {xs : List ByteArray} (h : soB xs = true) (k : Nat) : soB (xs.take k) = true := by
  rw [soB_iff] at h ⊢
  intro i hi
  rw [List.length_take] at hi
  have := h i (by omega)
  simp only [List.getD_eq_getElem?_getD, List.getElem?_take] at this ⊢
  rw [if_pos (by omega), if_pos (by omega)]; exact this
theorem so_drop {xs : List ByteArray} (h : soB xs = true) (k : Nat) : soB (xs.drop k) = true := by
  rw [soB_iff] at h ⊢
  intro i hi
  rw [List.length_drop] at hi
  have := h (k + i) (by omega)
  simp only [List.getD_eq_getElem?_getD, List.getElem?_drop] at this ⊢
  rw [show k + (i + 1) = k + i + 1 by omega]; exact this
theorem so_twice (xs : List ByteArray) (k : Nat) (hk : k < xs.length) : soB (xs.take (k + 1) ++ xs.drop k) = false := by
  refine soB_no k (by simp; omega) ?_
  have e1 : (xs.take (k + 1) ++ xs.drop k).getD k nob = xs.getD k nob := by
    simp only [List.getD_eq_getElem?_getD]
    rw [List.getElem?_append_left (by simp; omega), List.getElem?_take, if_pos (by omega)]
  have e2 : (xs.take (k + 1) ++ xs.drop k).getD (k + 1) nob = xs.getD k nob := by
    simp only [List.getD_eq_getElem?_getD]
    rw [List.getElem?_append_right (by simp; omega), List.getElem?_drop]
    rw [show k + (k + 1 - (xs.take (k + 1)).length) = k by simp; omega]
  rw [e1, e2]
  exact ls_irrefl _

theorem celln {w w' : World} (h : Below w.heap.size w w') {b o : Nat} {v : Value} (c : w.cell? ⟨b, o, none⟩ = some v) : w'.cell? ⟨b, o, none⟩ = some v := by
  have hb : b < w.heap.size := by
    by_cases hb : b < w.heap.size
    · exact hb
    · simp [World.cell?, hb] at c
  exact (h.cell (p := ⟨b, o, none⟩) hb).trans c
theorem dcell {w : World} {p : Addr} {v : Value} (c : w.cell? p = some v) : w.drew.cell? p = some v := c

set_option maxHeartbeats 1000000 in
theorem sorted_any (A : Option Addr) (n cap : Nat) (xs : List ByteArray) (w : World) (h : Sts w A n xs) (hn : n ≤ 9223372036854775807) :
    Calls Try.prog 12 #[.slice A n cap] w fun e w' => e = .returned (.bool (soB xs)) ∧ Below w.heap.size w w' := by
  have Y := Lib.hid ((soB_iff xs).2)
  have N := Lib.hid (@soB_no xs)
  generalize soB xs = r at *
  have H := Lib.hid h
  have HL := Lib.hid h.1
  clear h
  go_enter Try.func12, Try.ntmps12
  go_wp2
  go_loopw [3] (fun i wr => ∃ k : Nat, i = .int .i64 ((k : Int) + 1) ∧ Hid (k < n ∨ k = 0) ∧ Hid (∀ j, j < k → ls (lb (xs.getD j nob)) (lb (xs.getD (j + 1) nob)) = true) ∧ Below w.heap.size w wr) (fun i _ => n - (intOf i).toNat)
  case atStart => exact ⟨0, rfl, Lib.hid (.inr rfl), Lib.hid (fun j hj => absurd hj (by omega)), Below.refl _ _⟩
  case round =>
    obtain ⟨p, rfl, Q, D, hB⟩ := hrel
    by_cases hlt : p + 1 < n
    · have hS := H.out.below hB
      have l1 := fun W => less_any (xs.getD p nob) (xs.getD (p + 1) nob) W (hS.at p) (hS.at (p + 1))
      obtain ⟨b, off, rfl, hb, hc⟩ := hS.2.2 (by omega)
      have c0 := hc p (by omega)
      have c1 := hc (p + 1) hlt
      have hw1 : IntKind.i64.wrap (p : Int) = (p : Int) := by rw [IntKind.wrap_i64]; omega
      have hp0 : (0 : Int) ≤ (p : Int) := by omega
      have hpn : p < n := by omega
      have hpn' : (p : Int) < (n : Int) := by omega
      have hqn' : (p : Int) + 1 < (n : Int) := by omega
      have hq0 : (0 : Int) ≤ (p : Int) + 1 := by omega
      have kW := Below.refl wr.heap.size wr
      obtain ⟨o, hx⟩ : ∃ o, o = ls (lb (xs.getD p nob)) (lb (xs.getD (p + 1) nob)) := ⟨_, rfl⟩
      rw [← hx] at l1
      have HX := Lib.hid hx
      have L1 := Lib.hid l1
      clear hc hS hx l1
      generalize hxa : xs.getD p nob = xa at *
      generalize hxb : xs.getD (p + 1) nob = xb at *
      go_wp2_with fail
      go_region_held3 (fun w' => Below wr.heap.size wr w' ∧ w'.cell? ⟨b, off + p, none⟩ = some (.string xa) ∧ w'.cell? ⟨b, off + (p + 1), none⟩ = some (.string xb))
        (first | with_reducible exact ⟨kW, c0, c1⟩ | with_reducible exact ⟨kW.drew, dcell c0, dcell c1⟩)
        ((go_at_call 20; ((with_reducible refine (L1.out _).mono ?_); rintro e w' ⟨rfl, g⟩; replace c0 := celln g (by first | exact c0 | exact dcell c0); replace c1 := celln g (by first | exact c1 | exact dcell c1); (first | with_reducible (replace kW := kbq kW g) | with_reducible (replace kW := kbq kW.drew g)); clear g)))
      rename_i hH
      have gF := hH.1
      clear hH
      subst hxa hxb
      rcases o with _ | _
      · have e := N.out p (by rw [HL.out]; omega) HX.out.symm
        subst e
        go_wp2
        go_ret
        exact ⟨rfl, kbq hB gF⟩
      · go_wp2
        go_roundw
        case rel =>
          refine ⟨p + 1, by go_num, Lib.hid (.inl hlt), Lib.hid (fun j hj => ?_), kbq hB gF⟩
          by_cases e : j = p
          · subst e; exact HX.out.symm
          · exact D.out j (by omega)
        case measure => simp [intOf]; omega
    · have e := Y.out (fun i hi => D.out i (by rw [HL.out] at hi; omega))
      subst e
      go_wp2
      go_ret
      exact ⟨rfl, hB⟩
end Go.Proofs.Ytndipebpccdlfaa.Wd
