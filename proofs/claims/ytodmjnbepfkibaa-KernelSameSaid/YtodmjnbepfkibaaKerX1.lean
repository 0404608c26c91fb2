/- Words for the law KernelSame: three states in one row, and what the law's own memory holds; no conditions but those that each names. -/
import Derived.Test.YtodmjnbepfkibaaKerW1
import Derived.Deep.DeepAppendWide
import Derived.OwnWalk
namespace Go.Proofs.Ytodmjnbepfkibaa.Wd
open Go.RowKit
set_option linter.unusedVariables false

/-- A row that is owned is owned behind a call that makes memory at most. -/
theorem owns_kept {w w' : World} {base : Nat} {e : TypeId} {size : Nat} {v : Value} {n : Nat} {xs : List Value} (h : w.ownsRow base e size v n xs) (g : Kept w w') : w'.ownsRow base e size v n xs := by
  refine ⟨h.1, ?_⟩
  rcases h.2 with h0 | ⟨b, cap, cur, h1, h2, h3, h4⟩
  · exact .inl h0
  · have hb : b < w.heap.size := by
      by_cases hb : b < w.heap.size
      · exact hb
      · simp [hb] at h3
    exact .inr ⟨b, cap, cur, h1, h2, (g.2.block b hb).trans h3, h4⟩

theorem owns_block {w : World} {base : Nat} {e : TypeId} {size : Nat} {v : Value} {n : Nat} {xs : List Value} (h : w.ownsRow base e size v n xs) : ∀ k, v.ownBlock = some k → base ≤ k := by
  intro k hk
  rcases h.2 with ⟨rfl, _⟩ | ⟨b, cap, cur, rfl, h2, _⟩
  · simp [Value.ownBlock] at hk
  · simp [Value.ownBlock] at hk; omega

/-- Three cells of a block from o on, that may be written. -/
def R3 (w : World) (B o : Nat) (x y z : Value) : Prop := (w.cell? ⟨B, o, none⟩ = some x ∧ w.cell? ⟨B, o + 1, none⟩ = some y ∧ w.cell? ⟨B, o + 2, none⟩ = some z) ∧ w.frozen? ⟨B, o, none⟩ = false ∧ w.frozen? ⟨B, o + 1, none⟩ = false ∧ w.frozen? ⟨B, o + 2, none⟩ = false
theorem R3.kept {w w' : World} {B o : Nat} {x y z : Value} (h : R3 w B o x y z) (g : Kept w w') : R3 w' B o x y z :=
  ⟨⟨g.cell h.1.1, g.cell h.1.2.1, g.cell h.1.2.2⟩, (g.1.2.1 _).trans h.2.1, (g.1.2.1 _).trans h.2.2.1, (g.1.2.1 _).trans h.2.2.2⟩
theorem R3.lt {w : World} {B o : Nat} {x y z : Value} (h : R3 w B o x y z) : B < w.heap.size := by
  by_cases hb : B < w.heap.size
  · exact hb
  · have c := h.1.1; simp [World.cell?, hb] at c
/-- Three cells written into one block. -/
abbrev set3 (w : World) (B o : Nat) (x y z : Value) : World := ((w.setCell ⟨B, o, none⟩ x).setCell ⟨B, o + 1, none⟩ y).setCell ⟨B, o + 2, none⟩ z
theorem cell_set (w : World) (B o C p : Nat) (v : Value) (h : B ≠ C ∨ o ≠ p) : (w.setCell ⟨B, o, none⟩ v).cell? ⟨C, p, none⟩ = w.cell? ⟨C, p, none⟩ :=
  World.cell?_setCell_other _ _ _ _ (fun e => by injection e with e1 e2; omega)
theorem R3.other {w : World} {B o C p : Nat} {x y z : Value} (h : R3 w B o x y z) (hd : B ≠ C ∨ o + 3 ≤ p ∨ p + 3 ≤ o) (a b c : Value) : R3 (set3 w C p a b c) B o x y z := by
  refine ⟨⟨?_, ?_, ?_⟩, ?_, ?_, ?_⟩
  · rw [cell_set _ _ _ _ _ _ (by omega), cell_set _ _ _ _ _ _ (by omega), cell_set _ _ _ _ _ _ (by omega)]; exact h.1.1
  · rw [cell_set _ _ _ _ _ _ (by omega), cell_set _ _ _ _ _ _ (by omega), cell_set _ _ _ _ _ _ (by omega)]; exact h.1.2.1
  · rw [cell_set _ _ _ _ _ _ (by omega), cell_set _ _ _ _ _ _ (by omega), cell_set _ _ _ _ _ _ (by omega)]; exact h.1.2.2
  · simp only [World.frozen?_setCell]; exact h.2.1
  · simp only [World.frozen?_setCell]; exact h.2.2.1
  · simp only [World.frozen?_setCell]; exact h.2.2.2
theorem R3.put {w : World} {B o : Nat} {x y z : Value} (h : R3 w B o x y z) (a b c : Value) : R3 (set3 w B o a b c) B o a b c := by
  have h0 : (w.setCell ⟨B, o, none⟩ a).cell? ⟨B, o, none⟩ = some a := World.cell?_setCell_same _ _ _ h.1.1
  have h1 : (w.setCell ⟨B, o, none⟩ a).cell? ⟨B, o + 1, none⟩ = some y := by rw [cell_set _ _ _ _ _ _ (by omega)]; exact h.1.2.1
  have h2 : ((w.setCell ⟨B, o, none⟩ a).setCell ⟨B, o + 1, none⟩ b).cell? ⟨B, o + 2, none⟩ = some z := by rw [cell_set _ _ _ _ _ _ (by omega), cell_set _ _ _ _ _ _ (by omega)]; exact h.1.2.2
  refine ⟨⟨?_, ?_, ?_⟩, ?_, ?_, ?_⟩
  · rw [cell_set _ _ _ _ _ _ (by omega), cell_set _ _ _ _ _ _ (by omega)]; exact h0
  · rw [cell_set _ _ _ _ _ _ (by omega)]; exact World.cell?_setCell_same _ _ _ h1
  · exact World.cell?_setCell_same _ _ _ h2
  · simp only [World.frozen?_setCell]; exact h.2.1
  · simp only [World.frozen?_setCell]; exact h.2.2.1
  · simp only [World.frozen?_setCell]; exact h.2.2.2
theorem below_set3 {n : Nat} {w w' : World} (h : Below n w w') {B : Nat} (hB : n ≤ B) (o : Nat) (x y z : Value) : Below n w (set3 w' B o x y z) :=
  ((h.setCell (p := ⟨B, o, none⟩) hB x).setCell (p := ⟨B, o + 1, none⟩) hB y).setCell (p := ⟨B, o + 2, none⟩) hB z
theorem below_kept {n : Nat} {w w' w2 : World} (h : Below n w w') (hn : n ≤ w'.heap.size) (g : Kept w' w2) : Below n w w2 := h.trans (g.2.mono hn)
theorem r3_new (w : World) (t : TypeId) (x y z : Value) : R3 (w.alloc (.cells #[x, y, z] t)) w.heap.size 0 x y z := ⟨⟨by simp, by simp, by simp⟩, by simp, by simp, by simp⟩

/-- Three of a row that is owned. -/
theorem r3_owned {w : World} {base : Nat} {e : TypeId} {v : Value} {n : Nat} {xs : List Value} (h : w.ownsRow base e 3 v n xs) (hn : 0 < n) :
    ∃ g cap, v = .slice (some ⟨g, 0, none⟩) n cap ∧ base ≤ g ∧ n ≤ cap ∧ ∀ (o : Nat) (x y z : Value), xs[o]? = some x → xs[o + 1]? = some y → xs[o + 2]? = some z → R3 w g o x y z := by
  rcases h.2 with ⟨_, rfl⟩ | ⟨g, cap, cur, rfl, h2, h3, h4, h5⟩
  · omega
  · refine ⟨g, cap, rfl, h2, h4, fun o x y z e0 e1 e2 => ?_⟩
    have hc := h.cells (g := g) rfl
    have f (j : Nat) : w.frozen? ⟨g, j, none⟩ = false := by simp [World.frozen?, h3]
    have c0 := hc o x e0
    have c1 := hc (o + 1) y e1
    have c2 := hc (o + 2) z e2
    have ea (j : Nat) : (⟨g, 0, none⟩ : Addr).add j = ⟨g, j, none⟩ := by unfold Addr.add; split <;> simp_all
    rw [ea] at c0 c1 c2
    exact ⟨⟨c0, c1, c2⟩, f _, f _, f _⟩

/-- The cells of the first states of three. -/
def stC (t m : Int) (j : Nat) : List Value := [.int .u8 ((j : Int) + 1), .int .u64 (koA ((j : Int) + 1) t m 0), .int .u64 (koB ((j : Int) + 1) t)]
def stAll (t m : Int) : Nat → List Value
  | 0 => []
  | j + 1 => stAll t m j ++ stC t m j
end Go.Proofs.Ytodmjnbepfkibaa.Wd
