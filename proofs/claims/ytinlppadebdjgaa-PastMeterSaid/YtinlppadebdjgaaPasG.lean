/- Words for the law PastMeter: a meter beside a history; no conditions but those that each names. -/
import Derived.Test.YtinlppadebdjgaaPasT
import Derived.Deep.LoopGhost
namespace Go.Proofs.Ytinlppadebdjgaa.Wd
open Go Go.RowKit
set_option linter.unusedVariables false

theorem celln {w w' : World} (g : Below w.heap.size w w') {b o : Nat} {v : Value} (c : w.cell? ⟨b, o, none⟩ = some v) : w'.cell? ⟨b, o, none⟩ = some v := (g.cell (p := ⟨b, o, none⟩) (block_of_cell c)).trans c
theorem frozn {w w' : World} (g : Below w.heap.size w w') {b o : Nat} {v : Value} (c : w.cell? ⟨b, o, none⟩ = some v) (f : w.frozen? ⟨b, o, none⟩ = false) : w'.frozen? ⟨b, o, none⟩ = false := (g.frozen (p := ⟨b, o, none⟩) (block_of_cell c)).trans f
/-- A state in a block of its own, that may be written. -/
def Met (w : World) (M : Nat) (k a b : Int) : Prop := (w.cell? ⟨M, 0, none⟩ = some (.int .u8 k) ∧ w.cell? ⟨M, 1, none⟩ = some (.int .u64 a) ∧ w.cell? ⟨M, 2, none⟩ = some (.int .u64 b)) ∧ w.frozen? ⟨M, 0, none⟩ = false ∧ w.frozen? ⟨M, 1, none⟩ = false ∧ w.frozen? ⟨M, 2, none⟩ = false
theorem Met.below {w w' : World} {M : Nat} {k a b : Int} (h : Met w M k a b) (g : Below w.heap.size w w') : Met w' M k a b :=
  ⟨⟨celln g h.1.1, celln g h.1.2.1, celln g h.1.2.2⟩, frozn g h.1.1 h.2.1, frozn g h.1.2.1 h.2.2.1, frozn g h.1.2.2 h.2.2.2⟩
theorem Met.lt {w : World} {M : Nat} {k a b : Int} (h : Met w M k a b) : M < w.heap.size := block_of_cell h.1.1
theorem Met.new (w : World) (t : TypeId) (k a b : Int) : Met (w.alloc (.cells #[.int .u8 k, .int .u64 a, .int .u64 b] t)) w.heap.size k a b := ⟨⟨by simp, by simp, by simp⟩, by simp, by simp, by simp⟩
theorem Met.drew {w : World} {M : Nat} {k a b : Int} (h : Met w M k a b) : Met w.drew M k a b := h
theorem kbel {w w' : World} (h : Kept w w') : Below w.heap.size w w' := h.2
/-- Three cells written. -/
abbrev put3 (w : World) (M : Nat) (k a b : Int) : World := ((w.setCell ⟨M, 0, none⟩ (.int .u8 k)).setCell ⟨M, 1, none⟩ (.int .u64 a)).setCell ⟨M, 2, none⟩ (.int .u64 b)
theorem cell_ne (w : World) (B o C p : Nat) (v : Value) (h : B ≠ C ∨ o ≠ p) : (w.setCell ⟨B, o, none⟩ v).cell? ⟨C, p, none⟩ = w.cell? ⟨C, p, none⟩ :=
  World.cell?_setCell_other _ _ _ _ (fun e => by injection e with e1 e2; omega)
theorem Met.put {w : World} {M : Nat} {k a b : Int} (h : Met w M k a b) (k' a' b' : Int) : Met (put3 w M k' a' b') M k' a' b' := by
  have h0 : (w.setCell ⟨M, 0, none⟩ (.int .u8 k')).cell? ⟨M, 0, none⟩ = some (.int .u8 k') := World.cell?_setCell_same _ _ _ h.1.1
  have h1 : (w.setCell ⟨M, 0, none⟩ (.int .u8 k')).cell? ⟨M, 1, none⟩ = some (.int .u64 a) := by rw [cell_ne _ _ _ _ _ _ (by omega)]; exact h.1.2.1
  have h2 : ((w.setCell ⟨M, 0, none⟩ (.int .u8 k')).setCell ⟨M, 1, none⟩ (.int .u64 a')).cell? ⟨M, 2, none⟩ = some (.int .u64 b) := by rw [cell_ne _ _ _ _ _ _ (by omega), cell_ne _ _ _ _ _ _ (by omega)]; exact h.1.2.2
  refine ⟨⟨?_, ?_, ?_⟩, ?_, ?_, ?_⟩
  · rw [cell_ne _ _ _ _ _ _ (by omega), cell_ne _ _ _ _ _ _ (by omega)]; exact h0
  · rw [cell_ne _ _ _ _ _ _ (by omega)]; exact World.cell?_setCell_same _ _ _ h1
  · exact World.cell?_setCell_same _ _ _ h2
  · simp only [World.frozen?_setCell]; exact h.2.1
  · simp only [World.frozen?_setCell]; exact h.2.2.1
  · simp only [World.frozen?_setCell]; exact h.2.2.2
theorem below_put3 {n : Nat} {w w' : World} (h : Below n w w') {M : Nat} (hM : n ≤ M) (k a b : Int) : Below n w (put3 w' M k a b) :=
  ((h.setCell (p := ⟨M, 0, none⟩) hM _).setCell (p := ⟨M, 1, none⟩) hM _).setCell (p := ⟨M, 2, none⟩) hM _
theorem Met.other {w : World} {M C : Nat} {k a b : Int} (h : Met w M k a b) (hd : M ≠ C) (k' a' b' : Int) : Met (put3 w C k' a' b') M k a b := by
  refine ⟨⟨?_, ?_, ?_⟩, ?_, ?_, ?_⟩
  · rw [cell_ne _ _ _ _ _ _ (by omega), cell_ne _ _ _ _ _ _ (by omega), cell_ne _ _ _ _ _ _ (by omega)]; exact h.1.1
  · rw [cell_ne _ _ _ _ _ _ (by omega), cell_ne _ _ _ _ _ _ (by omega), cell_ne _ _ _ _ _ _ (by omega)]; exact h.1.2.1
  · rw [cell_ne _ _ _ _ _ _ (by omega), cell_ne _ _ _ _ _ _ (by omega), cell_ne _ _ _ _ _ _ (by omega)]; exact h.1.2.2
  · simp only [World.frozen?_setCell]; exact h.2.1
  · simp only [World.frozen?_setCell]; exact h.2.2.1
  · simp only [World.frozen?_setCell]; exact h.2.2.2
/-- A history that lies elsewhere. -/
theorem Hist.put3 {w : World} {v : Value} {es : List (Int × Int)} {M : Nat} (h : Hist w v es) (hv : v.ownBlock ≠ some M) (k a b : Int) : Hist (put3 w M k a b) v es := by
  obtain ⟨a', cap, rfl, h2, h3, h4⟩ := h
  refine ⟨a', cap, rfl, h2, h3, fun i e he => ?_⟩
  obtain ⟨b', off, rfl, g2, g3, g4⟩ := h4 i e he
  have hne : M ≠ b' := by intro e; exact hv (by simp [Value.ownBlock, e])
  refine ⟨b', off, rfl, by simpa [World.setCell] using g2, ?_, ?_⟩
  · rw [cell_ne _ _ _ _ _ _ (by omega), cell_ne _ _ _ _ _ _ (by omega), cell_ne _ _ _ _ _ _ (by omega)]; exact g3
  · rw [cell_ne _ _ _ _ _ _ (by omega), cell_ne _ _ _ _ _ _ (by omega), cell_ne _ _ _ _ _ _ (by omega)]; exact g4

/-- A history and a meter that tell the same from T on. -/
structure Twin (es : List (Int × Int)) (A B T m S : Int) : Prop where
  eu : EU es
  cf : cfB es m = true
  le : ∀ e ∈ es, e.1 ≤ T
  rs : rsB es = true
  ua : U A
  b0 : 0 ≤ B
  bT : B ≤ T
  tot : tot es ≤ S
  fl : ∀ t, T ≤ t → flL es t = sbI A (t - B)
theorem fi_of {A B T : Int} (h : B ≤ T) : fiI A B T = sbI A (T - B) := by
  unfold fiI
  have : sbI T B = T - B := by unfold sbI; rw [if_neg (by omega)]
  rw [this]
theorem rs_snoc {es : List (Int × Int)} {e : Int × Int} (h : rsB es = true) (hl : ∀ x ∈ es, x.1 ≤ e.1) : rsB (es ++ [e]) = true := by
  rw [rsB_iff] at h ⊢
  intro i x y hx hy
  by_cases hi : i + 1 < es.length
  · rw [List.getElem?_append_left (by omega)] at hx
    rw [List.getElem?_append_left hi] at hy
    exact h i x y hx hy
  · have hl2 := (List.getElem?_eq_some_iff.1 hy).1
    simp at hl2
    have e1 : i + 1 = es.length := by omega
    rw [List.getElem?_append_left (by omega)] at hx
    rw [e1] at hy
    simp at hy
    subst hy
    exact hl x (List.mem_of_getElem? hx)
/-- One event comes, or does not: what both tell. -/
theorem Twin.step {es : List (Int × Int)} {A B T m S : Int} (h : Twin es A B T m S) (T' x : Int) (hT : T ≤ T') (uT : U T') (ux : U x) (um : U m) (hS : S + x ≤ 18446744073709551615) :
    cfB (es ++ [(T', x)]) m = deB A B T' m x ∧ Twin (dcL es T' m x) (deA A B T' m x) (deT A B T' m x) T' m (S + x) ∧ U (deT A B T' m x) := by
  have hf : flL es T' = fiI A B T' := by rw [fi_of (by have := h.bT; omega)]; exact h.fl T' hT
  have hsn : flL (es ++ [(T', x)]) T' = fiI A B T' + x := by rw [flL_snoc es T' x h.eu ux.1 (by have := h.tot; unfold U at ux; omega), hf]
  have hq : cfB (es ++ [(T', x)]) m = deB A B T' m x := by
    rw [Bool.eq_iff_iff, cfB_snoc]
    unfold deB ftB
    dsimp only
    rw [hsn]
    simp only [h.cf, true_and, decide_eq_true_eq]
  refine ⟨hq, ?_, ?_⟩
  · unfold dcL deA deT
    rw [hq]
    have uB : U B := by have := h.b0; have := h.bT; unfold U at *; omega
    have uf := fiI_U A B T' h.ua uB uT
    cases hd : deB A B T' m x
    · simp only [Bool.false_eq_true, if_false]
      exact ⟨h.eu, h.cf, fun e he => by have := h.le e he; omega, h.rs, h.ua, h.b0, by have := h.bT; omega, by have := h.tot; unfold U at ux; omega, fun t ht => h.fl t (by omega)⟩
    · simp only [if_true]
      have hm : fiI A B T' + x ≤ m := by unfold deB ftB at hd; simpa using hd
      have hle : ∀ e ∈ es ++ [(T', x)], e.1 ≤ T' := by
        intro e he
        simp only [List.mem_append, List.mem_singleton] at he
        rcases he with he | rfl
        · have := h.le e he; omega
        · exact Int.le_refl _
      refine ⟨eu_snoc h.eu uT ux, by rw [hq]; exact hd, hle, rs_snoc h.rs (fun y hy => by have := h.le y hy; dsimp only; omega), by unfold U at *; omega, uT.1, Int.le_refl _, by rw [tot_append]; simp only [Wd.tot]; have := h.tot; omega, fun t ht => ?_⟩
      have := flL_later (es ++ [(T', x)]) T' (t - T') (by omega) hle
      rw [show T' + (t - T') = t by omega, hsn] at this
      exact this
  · unfold deT
    split
    · exact uT
    · have := h.b0; have := h.bT; unfold U at *; omega
theorem Twin.here {es : List (Int × Int)} {A B T m S : Int} (h : Twin es A B T m S) : flL es T = fiI A B T := by rw [fi_of h.bT]; exact h.fl T (Int.le_refl _)
theorem Twin.none (m : Int) : Twin [] 0 0 0 m 0 := ⟨(by intro e he; cases he), rfl, (by intro e he; cases he), rfl, U_zero, Int.le_refl _, Int.le_refl _, Int.le_refl _, fun t ht => by simp only [flL]; unfold sbI; split <;> omega⟩
theorem Twin.len {es : List (Int × Int)} {now c x : Int} {k : Nat} (h : es.length ≤ k) : (dcL es now c x).length ≤ k + 1 := by have := dcL_len es now c x; omega
theorem evL_rises {n : Nat} {p q r : Nat → Int} (h : Nice n p q r) (k : Nat) (hk : k ≤ n) : rsB (evL p q r k) = true := by
  rw [rsB_iff]
  intro i e f he hf
  obtain ⟨h1, rfl⟩ := evL_get p q r k i e he
  obtain ⟨h2, rfl⟩ := evL_get p q r k (i + 1) f hf
  exact tmL_mono h (i + 1) (i + 1 + 1) (by omega) (by omega)
end Go.Proofs.Ytinlppadebdjgaa.Wd
