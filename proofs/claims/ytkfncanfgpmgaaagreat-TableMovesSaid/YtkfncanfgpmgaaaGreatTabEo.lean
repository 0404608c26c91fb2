/- A table that is there, or a new one in the place of none; Entries; no conditions but those that each names. -/
import Derived.Test.YtkfncanfgpmgaaaGreatTabEn
namespace Go.Proofs.YtkfncanfgpmgaaaGreat.Wd
open Go Go.RowKit Go.Deep Go.Shelf
set_option linter.unusedVariables false
set_option maxRecDepth 100000

/-- Whose table it is: one that is there, or a new one in the place of none. -/
structure Ent (o : Option Addr) (w : World) (QT B : Nat → Prop) (m c : Int) (S : List Sl) : Prop where
  go : ∀ V, Below w.heap.size w V → Calls Tryz.prog 39 #[.pointer o] V fun e w1 => ∃ T, e = .returned (ptr T) ∧ Below V.heap.size V w1 ∧ QT T ∧ Tbl w1 T B m c S
theorem Ent.yes {w : World} {T : Nat} {B : Nat → Prop} {m c : Int} {S : List Sl} (h : Tbl w T B m c S) : Ent (some ⟨T, 0, none⟩) w (fun x => x = T) B m c S := ⟨fun V g => (ornew_yes T V).mono (by
  rintro e w1 ⟨rfl, rfl⟩
  exact ⟨T, rfl, Below.refl _ _, rfl, h.below g⟩)⟩
theorem Ent.no (w : World) : Ent none w (fun _ => True) (fun k => w.heap.size ≤ k) 1 0 [] := ⟨fun V g => (ornew_no V).mono (by
  rintro e w1 ⟨rfl, hb, ht, hs⟩
  exact ⟨_, rfl, hb, trivial, ht.mono (fun k hk => Nat.le_trans g.size hk.1)⟩)⟩
theorem Ent.below {o : Option Addr} {w w' : World} {QT B : Nat → Prop} {m c : Int} {S : List Sl} (h : Ent o w QT B m c S) (g : Below w.heap.size w w') : Ent o w' QT B m c S := ⟨fun V k => h.go V (kbq g k)⟩
theorem Tbm.setBox {w : World} {T M : Nat} {B : Nat → Prop} {m c : Int} {S : List Sl} (h : Tbm w T M B m c S) {R : Nat} {t : TypeId} {v : Value} (hb : Boxed w R t v) (ht : ¬ (t = TTab ∨ t = Tsl ∨ t = Tps)) (u : Value) : Tbm (w.setCell ⟨R, 0, none⟩ u) T M B m c S := by
  have hM : ¬ R = M := by
    rintro rfl
    obtain ⟨F, bs, h1, _⟩ := h
    exact h1.map.nocells hb
  refine (h.sure.keep (fun k hk _ => Below.heap_setCell _ _ _ _ (fun e => ?_))).mono (fun _ hk => hk.1)
  subst e
  rcases hk.2 with e | ⟨cs, t', h1, h2⟩
  · exact hM e
  · have hb : w.heap[k]? = some (.cells #[v] t) := hb
    rw [hb] at h1; cases h1; exact ht h2
theorem box_put {w : World} {R : Nat} {t : TypeId} {v : Value} (hb : Boxed w R t v) (u : Value) : Boxed (w.setCell ⟨R, 0, none⟩ u) R t u := Blk.set (cs := #[v]) hb 0 u
theorem own_base {w : World} {a b : Nat} {e : TypeId} {size k : Nat} {v : Value} {xs : List Value} (hab : a ≤ b) (h : w.ownsRow b e size v k xs) : w.ownsRow a e size v k xs := ⟨h.1, by
  rcases h.2 with hn | ⟨g, cap, cur, e, hb, rest⟩
  · exact .inl hn
  · exact .inr ⟨g, cap, cur, e, Nat.le_trans hab hb, rest⟩⟩
theorem Told.of_keys {S xs : List Sl} (hw : S.Pairwise (fun x y => x.key ≠ y.key)) (h2 : ∀ x ∈ xs, x ∈ S) (h3 : Allk S (xs.map (fun x => x.key))) : Told S xs := told_of hw h2 h3
theorem entries_of (o : Option Addr) (QT B : Nat → Prop) (m c : Int) (S : List Sl) (w : World) (h : Ent o w QT B m c S) (hsort : SortC S.length) :
    Calls Tryz.prog 27 #[.pointer o] w fun e w' => ∃ v, ∃ xs : List Sl, e = .returned v ∧ OwE w' w.heap.size v (xs.map (entS c)) ∧ Told S xs ∧ Below w.heap.size w w' := by
  have CO := Lib.hid h.go
  have b0 := Boxed.new w Ttp (.pointer o)
  have k0 := (Below.refl _ w).alloc (Nat.le_refl _) (.cells #[.pointer o] Ttp)
  have HS := Lib.hid hsort
  clear h hsort
  go_enter Tryz.func27, Tryz.ntmps27
  go_wp2_with (go_at_call 39; refine (CO.out _ k0).mono ?_; rintro e w2 ⟨T, rfl, g2, hQ, hT⟩; refine stopHere ?_)
  unfold Stop
  obtain ⟨M, hM⟩ := hT.tbm
  have b2 : Boxed w2 w.heap.size Ttp (.pointer o) := (g2.block _ (heap_lt b0)).trans b0
  have k2 := kbq k0 g2
  have hs2 := k2.size
  have hM3 := hM.setBox b2 (by decide) (ptr T)
  have b3 := box_put b2 (ptr T)
  have k3 := k2.setCell (p := ⟨w.heap.size, 0, none⟩) (Nat.le_refl _) (ptr T)
  have C := callsIn_wide.1 (eall_in 8 (by omega) w.heap.size T M B m c S _ hM3 HS.out b3.cell)
  have hw := hM.wf.ap
  have c2 := b2.cell
  have f2 := b2.frozen
  clear hM hM3 hT b2 g2 k0 b0 HS CO
  have c3 := b3.cell
  have hs3 : (w2.setCell ⟨w.heap.size, 0, none⟩ (ptr T)).heap.size = w2.heap.size := by simp
  clear b3
  go_wp2_with (go_at_call 48; refine C.mono ?_; rintro e w4 ⟨v, xs, rfl, h1, h2, h3, h4⟩)
  go_ret
  exact ⟨_, _, rfl, own_base (by omega) h1, Told.of_keys hw h2 h3, k3.trans (h4.mono (by omega))⟩
theorem entries_any (T : Nat) (B : Nat → Prop) (m c : Int) (S : List Sl) (w : World) (h : Tbl w T B m c S) (hsort : SortC S.length) :
    Calls Tryz.prog 27 #[ptr T] w fun e w' => ∃ v, ∃ xs : List Sl, e = .returned v ∧ OwE w' w.heap.size v (xs.map (entS c)) ∧ Told S xs ∧ Below w.heap.size w w' := entries_of _ _ B m c S w (Ent.yes h) hsort
end Go.Proofs.YtkfncanfgpmgaaaGreat.Wd
