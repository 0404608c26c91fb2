/- The chapter's example stands (tollerlaw10.known); rows of words read cell by cell; no conditions but those that each names. -/
import Derived.Test.YtdjeehnjodbmaaaWrdK
import Derived.Lib.SlBytesConst
import Derived.Lib.SmallJoins
namespace Go.Proofs.Ytdjeehnjodbmaaa.Wd
open Go Go.RowKit
set_option linter.unusedVariables false

theorem WRow.form {w : World} {base : Nat} {u : Value} {ws : List Wo} (h : WRow w base u ws) (h0 : 0 < ws.length) : ∃ g c, u = .slice (some ⟨g, 0, none⟩) ws.length c ∧ g < w.heap.size ∧
    ∀ k x, ws[k]? = some x → w.cell? ⟨g, k * 3, none⟩ = some (.string (str x.1)) ∧ w.cell? ⟨g, k * 3 + 1, none⟩ = some (.int .i64 (x.2.1 : Int)) ∧ w.cell? ⟨g, k * 3 + 2, none⟩ = some (.int .i64 (x.2.2 : Int)) := by
  obtain ⟨g, c, rfl, _, hlt⟩ := World.ownsRow.form h h0
  refine ⟨g, c, rfl, hlt, fun k x hx => ?_⟩
  have hk : k < ws.length := (List.getElem?_eq_some_iff.1 hx).1
  obtain ⟨e0, e1, e2⟩ := flatW_at ws k x hx
  have hc := World.ownsRow.cellAt (h : w.ownsRow base 39 3 _ ws.length (flatW ws))
  exact ⟨(hc (k * 3) (by omega)).trans e0, (hc (k * 3 + 1) (by omega)).trans e1, (hc (k * 3 + 2) (by omega)).trans e2⟩
theorem WRow.slice {w : World} {base : Nat} {u : Value} {ws : List Wo} (h : WRow w base u ws) : ∃ A c, u = .slice A ws.length c := own_slice h
theorem WRows.slice {w : World} {v : Value} {wss : List (List Wo)} (h : WRows w v wss) : ∃ A c, v = .slice A wss.length c := by
  obtain ⟨us, h1, h2⟩ := h
  exact own_slice h1
theorem WRows.form {w : World} {v : Value} {wss : List (List Wo)} (h : WRows w v wss) (h0 : 0 < wss.length) : ∃ g c, v = .slice (some ⟨g, 0, none⟩) wss.length c ∧ g < w.heap.size ∧
    ∀ k ws, wss[k]? = some ws → ∃ u, w.cell? ⟨g, k, none⟩ = some u ∧ WRow w 0 u ws := by
  obtain ⟨us, h1, h2⟩ := h
  obtain ⟨g, c, rfl, _, hlt⟩ := h1.form h0
  refine ⟨g, c, rfl, hlt, fun k ws hk => ?_⟩
  obtain ⟨u, hu, hr⟩ := Each.at k ws h2 hk
  have hk' : k < wss.length := (List.getElem?_eq_some_iff.1 hk).1
  exact ⟨u, (h1.cellAt k (by omega)).trans hu, hr⟩

theorem spl_k1 : spl [97, 32, 32, 98, 10, 35, 32, 99, 10, 10, 32, 100, 10] = .ok [[([97], 1, 1), ([98], 1, 4)], [([100], 4, 2)]] := by rfl
theorem spl_k2 : spl [97, 10, 32, 98, 255] = .bad 2 3 := by rfl

theorem txt_lit {W : World} (l : List UInt8) (cs : Array Value) (t : TypeId) (fr : Nat × Nat) (h : cs.toList = bvs l) : Txt (W.alloc (.cells cs t fr)) (some ⟨W.heap.size, 0, none⟩) l.length l := by
  refine ⟨rfl, fun _ => ⟨W.heap.size, 0, rfl, by simp, fun k hk => ?_⟩⟩
  have e : (W.alloc (.cells cs t fr)).heap[W.heap.size]? = some (.cells cs t fr) := heap_alloc_new W _
  rw [Nat.zero_add, cell_of_row _ _ _ _ _ _ e, ← Array.getElem?_toList, h, bvs, List.getElem?_map, List.getD_eq_getElem?_getD, List.getElem?_eq_getElem hk]; rfl

set_option maxRecDepth 100000 in
set_option maxHeartbeats 1000000 in
theorem known_any (w : World) : Calls Try.prog 9 #[] w fun e w' => e = .returned (.bool true) ∧ Below w.heap.size w w' := by
  have C1 : ∀ W : World, Calls Try.prog 14 #[.slice (some ⟨W.heap.size, 0, none⟩) 13 13] (W.alloc (.cells #[.int .u8 97, .int .u8 32, .int .u8 32, .int .u8 98, .int .u8 10, .int .u8 35, .int .u8 32, .int .u8 99, .int .u8 10, .int .u8 10, .int .u8 32, .int .u8 100, .int .u8 10] 5 (13, 14))) fun e w' => ∃ v, e = .returned (.tuple #[v, .int .u16 0, .agg #[.int .i64 0, .int .i64 0]]) ∧ WRows w' v [[([97], 1, 1), ([98], 1, 4)], [([100], 4, 2)]] ∧ Below W.heap.size W w' := fun W => by
    refine (split_any (some ⟨W.heap.size, 0, none⟩) 13 13 _ _ (txt_lit (W := W) [97, 32, 32, 98, 10, 35, 32, 99, 10, 10, 32, 100, 10] #[.int .u8 97, .int .u8 32, .int .u8 32, .int .u8 98, .int .u8 10, .int .u8 35, .int .u8 32, .int .u8 99, .int .u8 10, .int .u8 10, .int .u8 32, .int .u8 100, .int .u8 10] 5 (13, 14) rfl) (by decide) (by decide)).mono ?_
    rw [spl_k1]
    rintro e w' ⟨v, rfl, hr, g⟩
    exact ⟨v, rfl, hr, kbq ((Below.refl _ W).alloc (Nat.le_refl _) _) g⟩
  have C2 : ∀ (W : World) (b : Nat), b = W.heap.size → Calls Try.prog 14 #[.slice (some ⟨b, 0, none⟩) 5 5] (W.alloc (.cells #[.int .u8 97, .int .u8 10, .int .u8 32, .int .u8 98, .int .u8 255] 5 (5, 6))) fun e w' => ∃ v, e = .returned (.tuple #[v, .int .u16 20, .agg #[.int .i64 2, .int .i64 3]]) ∧ Below W.heap.size W w' := fun W b hb => by
    subst hb
    refine (split_any (some ⟨W.heap.size, 0, none⟩) 5 5 _ _ (txt_lit (W := W) [97, 10, 32, 98, 255] #[.int .u8 97, .int .u8 10, .int .u8 32, .int .u8 98, .int .u8 255] 5 (5, 6) rfl) (by decide) (by decide)).mono ?_
    rw [spl_k2]
    rintro e w' ⟨v, rfl, hr, g⟩
    exact ⟨v, rfl, kbq ((Below.refl _ W).alloc (Nat.le_refl _) _) g⟩
  have v1 := fun W => Lib.run_convert_bytes_const (P := Try.prog) W 22 5 #[.int .u8 97, .int .u8 32, .int .u8 32, .int .u8 98, .int .u8 10, .int .u8 35, .int .u8 32, .int .u8 99, .int .u8 10, .int .u8 10, .int .u8 32, .int .u8 100, .int .u8 10] 13 13 Try.underlying22 Try.underlying5
  have v2 := fun (W : World) (o : Obj) => Go.Joins.run_convert_bytes_const_at (P := Try.prog) (W.alloc o) 22 5 #[.int .u8 97, .int .u8 10, .int .u8 32, .int .u8 98, .int .u8 255] 5 5 (W.heap.size + 1) (by simp) Try.underlying22 Try.underlying5
  simp only [List.size_toArray, List.length_cons, List.length_nil] at v1 v2
  have K1 := Lib.hid C1
  have K2 := Lib.hid C2
  clear C1 C2
  go_enter Try.func9, Try.ntmps9
  go_wp2_with (go_at_call 14; first
    | ((with_reducible refine (K1.out _).mono ?_); rintro e w1 ⟨x1, rfl, hr1, g1⟩)
    | ((with_reducible refine (K2.out _ _ (by simp)).mono ?_); rintro e w2 ⟨x2, rfl, g2⟩; refine stopHere ?_))
  unfold Stop
  have g3 := (Below.refl _ w1).alloc (Nat.le_refl _) (.cells #[.int .i64 0, .int .i64 0] 34)
  have q0 : w2.cell? ⟨w1.heap.size, 0, none⟩ = some (.int .i64 0) := celln g2 (by simp)
  have q1 : w2.cell? ⟨w1.heap.size, 1, none⟩ = some (.int .i64 0) := celln g2 (by simp)
  have hw1 : w1.heap.size < w2.heap.size := lt_of_cell q0
  have hr2 := (hr1.below g3).below g2
  have gA := kbq (kbq g1 g3) g2
  obtain ⟨g, c, rfl, hg, hrows⟩ := hr2.form (by decide)
  obtain ⟨u0, hu0, r0⟩ := hrows 0 _ rfl
  obtain ⟨u1, hu1, r1⟩ := hrows 1 _ rfl
  obtain ⟨h0, d0, rfl, hh0, f0⟩ := r0.form (by decide)
  obtain ⟨h1, d1, rfl, hh1, f1⟩ := r1.form (by decide)
  obtain ⟨y0, y1, y2⟩ := f0 1 _ rfl
  obtain ⟨z0, z1, z2⟩ := f1 0 _ rfl
  clear hrows hr1 hr2 r0 r1 f0 f1 g1 g2 g3 K1 K2 v1 v2
  simp only [List.length_cons, List.length_nil, Nat.zero_add, Nat.reduceAdd, Nat.one_mul, Nat.zero_mul] at hu0 hu1 y0 y1 y2 z0 z1 z2
  go_wp2
  go_ret
  exact ⟨rfl, gA.alloc gA.size _⟩
end Go.Proofs.Ytdjeehnjodbmaaa.Wd
