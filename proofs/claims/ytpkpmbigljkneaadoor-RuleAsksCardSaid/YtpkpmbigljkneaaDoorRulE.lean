/- What rule.Print answers, for any rule; no conditions but those that each names. -/
import Derived.Test.YtpkpmbigljkneaaDoorRulX
import Derived.Test.YtpkpmbigljkneaaDoorRulL
import Derived.Test.YtpkpmbigljkneaaDoorRulG
import Derived.Test.YtpkpmbigljkneaaDoorRulA
namespace Go.Proofs.YtpkpmbigljkneaaDoor.Wd
open Go Go.RowKit
set_option linter.unusedVariables false

/-- A number's digits, as a text. -/
def dig (n : Nat) : ByteArray := str (Lib.decDigits n)
/-- The words that tell a rule. -/
def prW (p : ByteArray) (e b : Nat) (k : Int) : List ByteArray :=
  if ruE p e b k ≠ 0 then [] else if p.size = 0 then [defS, dig e, dig b, namS k] else [rulS, p, dig e, dig b, namS k]
theorem dig_size (n : Nat) (h : n < 18446744073709551616) : (dig n).size ≤ 20 := by
  unfold dig; rw [str_size]; exact dec_len20 n h
theorem nam_size (k : Int) : (namS k).size ≤ 6 := by unfold namS; (repeat' split) <;> decide
theorem UN (n : Nat) (h : n < 18446744073709551616) : U (n : Int) := ⟨by omega, by omega⟩
/-- Four cells of a rule that is boxed. -/
def Bo (w : World) (B : Nat) (p : ByteArray) (e b k : Int) : Prop :=
  w.cell? ⟨B, 0, none⟩ = some (.string p) ∧ w.cell? ⟨B, 1, none⟩ = some (.int .u64 e) ∧ w.cell? ⟨B, 2, none⟩ = some (.int .u64 b) ∧ w.cell? ⟨B, 3, none⟩ = some (.int .u8 k)
theorem Bo.below {w w' : World} {B : Nat} {p : ByteArray} {e b k : Int} (h : Bo w B p e b k) (g : Below w.heap.size w w') : Bo w' B p e b k := ⟨celln g h.1, celln g h.2.1, celln g h.2.2.1, celln g h.2.2.2⟩
theorem Bo.kept {w w' : World} {B : Nat} {p : ByteArray} {e b k : Int} (h : Bo w B p e b k) (g : Kept w w') : Bo w' B p e b k := h.below g.2

/-- A row of texts that has just been laid. -/
theorem sts_alloc (W : World) (xs : List ByteArray) (t : TypeId) (hx : ∀ x ∈ xs, x.size ≤ 9223372036854775807) :
    Sts (W.alloc (.cells (xs.map Value.string).toArray t)) (some ⟨W.heap.size, 0, none⟩) xs.length xs := by
  refine ⟨rfl, hx, fun _ => ⟨W.heap.size, 0, rfl, by simp, fun k hk => ?_⟩⟩
  unfold World.cell?
  rw [show (W.alloc (.cells (xs.map Value.string).toArray t)).heap[W.heap.size]? = some (.cells (xs.map Value.string).toArray t (0, 0)) from (MapKept.heap_alloc W _).1]
  simp [List.getD_eq_getElem?_getD, List.getElem?_eq_getElem hk]
theorem small_words {xs : List ByteArray} (h : ∀ x ∈ xs, x.size ≤ 281474976710656) : ∀ x ∈ xs, x.size ≤ 9223372036854775807 := fun x hx => Nat.le_trans (h x hx) (by omega)

set_option maxRecDepth 100000 in
set_option maxHeartbeats 1000000 in
theorem rprint_any (p : ByteArray) (e b : Nat) (k : Int) (w : World) (hN : Nam w) (hs : p.size ≤ 281474976710656) (he : e < 18446744073709551616) (hb : b < 18446744073709551616) (hk : 0 ≤ k ∧ k ≤ 255) :
    Calls Tryd.prog 20 #[rul p e b k] w fun r w' => (∃ (A : Option Addr) (n : Nat), r = .returned (.slice A n n) ∧ n ≤ 5 ∧ Sts w' A n (prW p e b k)) ∧ Below w.heap.size w w' := by
  have RA := fun W => right_any p e b k W (by omega) (UN e he) (UN b hb)
  by_cases h : ruE p e b k = 0
  · have e0 : prW p e b k = if p.size = 0 then [defS, dig e, dig b, namS k] else [rulS, p, dig e, dig b, namS k] := by unfold prW; rw [if_neg (by simp [h])]
    rw [e0]
    rw [h] at RA
    clear e0 h
    go_enter Tryd.func20, Tryd.ntmps20
    go_wp2_with (go_at_call 21; refine (RA _).mono ?_; rintro r w1 ⟨rfl, k1⟩)
    have kW : Kept w w1 := ((Kept.refl w).alloc _ _).trans k1
    have b0 : w1.cell? ⟨w.heap.size, 0, none⟩ = some (.string p) := k1.cell (by simp)
    have b1 : w1.cell? ⟨w.heap.size, 1, none⟩ = some (.int .u64 e) := k1.cell (by simp)
    have b2 : w1.cell? ⟨w.heap.size, 2, none⟩ = some (.int .u64 b) := k1.cell (by simp)
    have b3 : w1.cell? ⟨w.heap.size, 3, none⟩ = some (.int .u8 k) := k1.cell (by simp)
    clear k1
    go_region_held3 (fun w' => Kept w w' ∧ w'.cell? ⟨w.heap.size, 0, none⟩ = some (.string p) ∧ w'.cell? ⟨w.heap.size, 1, none⟩ = some (.int .u64 e) ∧ w'.cell? ⟨w.heap.size, 2, none⟩ = some (.int .u64 b) ∧ w'.cell? ⟨w.heap.size, 3, none⟩ = some (.int .u8 k))
      (first | with_reducible exact ⟨kW, b0, b1, b2, b3⟩ | with_reducible exact ⟨kW.drew, dcell b0, dcell b1, dcell b2, dcell b3⟩)
      (first
      | (go_at_call 32; ((with_reducible refine (print_any _ _ (by first | exact he | exact hb)).mono ?_); rintro r w2 ⟨rfl, g⟩; (first | with_reducible (replace kW := kW.trans g; replace b0 := g.cell b0; replace b1 := g.cell b1; replace b2 := g.cell b2; replace b3 := g.cell b3) | with_reducible (replace kW := kW.drew.trans g; replace b0 := g.cell (dcell b0); replace b1 := g.cell (dcell b1); replace b2 := g.cell (dcell b2); replace b3 := g.cell (dcell b3))); clear g))
      | (go_at_call 17; ((with_reducible refine (name_any _ _ (hN.kept (by first | exact kW | exact kW.drew)) hk).mono ?_); rintro r w2 ⟨rfl, rfl⟩)))
    all_goals
      rename_i hH
      obtain ⟨kF, f0, f1, f2, f3⟩ := hH
      have dz1 := dig_size e he
      have dz2 := dig_size b hb
      have dz3 := nam_size k
      by_cases hp : p.size = 0
      · have hz := toList_none p hp
        have HP := Lib.hid hp
        clear hp
        go_wp2
        go_ret
        refine ⟨⟨_, 4, rfl, by omega, ?_⟩, (kF.alloc _ _).2⟩
        try rw [if_pos HP.out]
        refine sts_alloc _ [defS, dig e, dig b, namS k] 9 ?_
        intro x hx
        simp only [List.mem_cons, List.not_mem_nil, or_false] at hx
        rcases hx with rfl | rfl | rfl | rfl
        · decide
        · omega
        · omega
        · omega
      · have hz := toList_ne p (by omega)
        have HP := Lib.hid hp
        clear hp
        go_wp2_with (go_at_call 33; refine (clone_any _ _ hs).mono ?_; rintro r w3 ⟨rfl, g3⟩)
        go_ret
        refine ⟨⟨_, 5, rfl, by omega, ?_⟩, (kbq kF.2 g3).alloc (kbq kF.2 g3).size _⟩
        try rw [if_neg HP.out]
        refine sts_alloc _ [rulS, p, dig e, dig b, namS k] 9 ?_
        intro x hx
        simp only [List.mem_cons, List.not_mem_nil, or_false] at hx
        rcases hx with rfl | rfl | rfl | rfl | rfl
        · decide
        · omega
        · omega
        · omega
        · omega
  · have e0 : prW p e b k = [] := by unfold prW; rw [if_pos (by simpa using h)]
    rw [e0]
    have c1 : (ruE p e b k != 0) = true := by simpa using h
    have c2 : (ruE p e b k == 0) = false := by simpa using h
    generalize ruE p e b k = E at *
    clear e0 h
    go_enter Tryd.func20, Tryd.ntmps20
    go_wp2_with (go_at_call 21; refine (RA _).mono ?_; rintro r w1 ⟨rfl, k1⟩)
    go_ret
    exact ⟨⟨none, 0, rfl, by omega, Sts.nil _ _⟩, (((Kept.refl w).alloc _ _).trans k1).2⟩
end Go.Proofs.YtpkpmbigljkneaaDoor.Wd
