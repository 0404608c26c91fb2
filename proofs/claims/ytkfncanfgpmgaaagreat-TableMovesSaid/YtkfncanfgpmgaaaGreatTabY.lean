/- When two answers are the same; the chapter's example (known); no conditions but those that each names. -/
import Derived.Test.YtkfncanfgpmgaaaGreatTabG2
import Derived.Laws.BytesArg
namespace Go.Proofs.YtkfncanfgpmgaaaGreat.Wd
open Go Go.RowKit Go.Shelf Go.Deep
set_option linter.unusedVariables false
set_option maxRecDepth 100000

set_option maxHeartbeats 2000000 in
theorem answers_same (a : An) (w : World) : Calls Tryz.prog 24 #[a.v, a.v] w fun e w' => e = .returned (.bool true) ∧ Below w.heap.size w w' := by
  have hcv : ∀ W : World, (convert 37 9 (.slice none 0 0)).run Tryz.prog W = .ok (.string ⟨#[]⟩) W := fun W => run_convert_bytes_nil W 37 5 Tryz.underlying37 Tryz.underlying5 0 0 _ Tryz.underlying9
  obtain ⟨x0, x1, x2, x3, x4, x5, x6, x7⟩ := a
  go_enter Tryz.func24, Tryz.ntmps24
  go_wp2
  go_ret
  exact ⟨rfl, ((Below.refl _ w).alloc (Nat.le_refl _) _).alloc (by simp) _⟩

abbrev rK : Rl := ⟨⟨#[]⟩, 10, 2, 1⟩
abbrev tA : ByteArray := ⟨#[97]⟩
abbrev tB : ByteArray := ⟨#[98]⟩
theorem kn1 : chA 1 0 [] tA rK 2 = ⟨1, 0, 2, 0, 1, 0, 0, false⟩ := by kernel_rfl
theorem kn2 : chN 1 0 [] tA rK 2 = [⟨tA, rK, 1, 20, 0⟩] := by kernel_rfl
theorem kn3 : chA 1 0 [⟨tA, rK, 1, 20, 0⟩] tB rK 1 = ⟨3, 0, 2, 0, 0, 0, 0, false⟩ := by kernel_rfl
theorem Tch.low {B : Nat → Prop} {a b : World} {n : Nat} (h : Tch B a b) (hB : ∀ k, B k → n ≤ k) (hn : n ≤ a.heap.size) : Below n a b :=
  ⟨h.os, h.tape, h.output, h.size, fun k hk => h.block k (by omega) (fun x => by have := hB k x; omega)⟩
theorem okr_K : Okr rK := ⟨by decide, by unfold U; decide, by unfold U; decide, by decide⟩
set_option maxHeartbeats 2000000 in
theorem known_any (w : World) : Calls Tryz.prog 9 #[] w fun e w' => e = .returned (.bool true) ∧ Below w.heap.size w w' := by
  go_enter Tryz.func9, Tryz.ntmps9
  go_wp2_with (go_at_call 13; refine (new_any 1 _).mono ?_; rintro e W1 ⟨rfl, kb, ht, hs⟩; refine stopHere ?_)
  unfold Stop
  have H1 := Lib.hid (show Tbl W1 (w.heap.size + 1) (fun k => w.heap.size ≤ k ∧ k < W1.heap.size) 1 0 [] from ht)
  have K1 := Lib.hid kb
  clear kb ht
  go_wp2_with fail
  have H2 := Lib.hid (H1.out.below ((Below.refl _ W1).alloc (Nat.le_refl _) (.cells #[.string ⟨#[]⟩, .int .u64 10, .int .u64 2, .int .u8 1] 42)))
  have K2 := Lib.hid (K1.out.alloc K1.out.size (.cells #[.string ⟨#[]⟩, .int .u64 10, .int .u64 2, .int .u8 1] 42))
  have B2 := Lib.hid (Blk.new W1 #[.string ⟨#[]⟩, .int .u64 10, .int .u64 2, .int .u8 1] 42)
  generalize W1.alloc (.cells #[.string ⟨#[]⟩, .int .u64 10, .int .u64 2, .int .u8 1] 42) = W2 at *
  have C1 := charge_tab _ _ 1 0 [] tA rK 2 W2 H2.out (by decide) okr_K (by unfold U; decide)
  rw [kn1, kn2] at C1
  have C1 := Lib.hid C1
  obtain ⟨x0, x1, x2, x3, _⟩ := blk4 B2.out
  clear hs
  go_wp2_with fail
  go_at_call 18
  with_reducible refine C1.out.mono ?_
  rintro e W3 ⟨rfl, g3, h3⟩
  have hlo : ∀ k, (w.heap.size ≤ k ∧ k < W1.heap.size) → w.heap.size ≤ k := fun k h => h.1
  have hw2 := K2.out.size
  have K3 := Lib.hid (K2.out.trans (g3.low (fun k h => h.1) hw2))
  have B3 := Lib.hid (g3.blk B2.out (fun x => by have := x.2; omega))
  have H3 := Lib.hid (h3.mono (C := fun k => w.heap.size ≤ k) (fun k hk => hk.elim (fun x => x.1) (fun x => Nat.le_trans hw2 x)))
  clear C1 H1 H2 K1 K2 B2 x0 x1 x2 x3 g3 h3 hlo hw2
  have H4 := Lib.hid (H3.out.low.below ((Below.refl _ W3).alloc (Nat.le_refl _) (.cells #[.int .u8 1, .int .u16 0, .int .u64 2, .int .u64 0, .int .u64 1, .int .u64 0, .int .u64 0, .bool false, .int .i64 0, .slice none 0 0] 52)))
  have B4 := Lib.hid (B3.out.alloc (.cells #[.int .u8 1, .int .u16 0, .int .u64 2, .int .u64 0, .int .u64 1, .int .u64 0, .int .u64 0, .bool false, .int .i64 0, .slice none 0 0] 52))
  have K4 := Lib.hid (K3.out.alloc K3.out.size (.cells #[.int .u8 1, .int .u16 0, .int .u64 2, .int .u64 0, .int .u64 1, .int .u64 0, .int .u64 0, .bool false, .int .i64 0, .slice none 0 0] 52))
  have N4 := Lib.hid (show Blk (W3.alloc (.cells #[.int .u8 1, .int .u16 0, .int .u64 2, .int .u64 0, .int .u64 1, .int .u64 0, .int .u64 0, .bool false, .int .i64 0, .slice none 0 0] 52)) W3.heap.size _ _ from Blk.new W3 _ _)
  have C1 := charge_tab _ _ 1 0 [⟨tA, rK, 1, 20, 0⟩] tB rK 1 (W3.alloc (.cells #[.int .u8 1, .int .u16 0, .int .u64 2, .int .u64 0, .int .u64 1, .int .u64 0, .int .u64 0, .bool false, .int .i64 0, .slice none 0 0] 52)) H4.out (by decide) okr_K (by unfold U; decide)
  rw [kn3] at C1
  have C1 := Lib.hid C1
  obtain ⟨x0, x1, x2, x3, _⟩ := blk4 B4.out
  have hs4 : (W3.alloc (.cells #[.int .u8 1, .int .u16 0, .int .u64 2, .int .u64 0, .int .u64 1, .int .u64 0, .int .u64 0, .bool false, .int .i64 0, .slice none 0 0] 52)).heap.size = W3.heap.size + 1 := by simp
  have HS4 := Lib.hid hs4
  have h31 : w.heap.size ≤ W3.heap.size := K3.out.size
  clear hs4
  go_wp2_with fail
  go_at_call 18
  with_reducible refine C1.out.mono ?_
  rintro e W5 ⟨rfl, g5, h5⟩
  have K5 := Lib.hid (K4.out.trans (g5.low (fun k h => h.1) K4.out.size))
  have N5 := Lib.hid (g5.blk N4.out (fun x => by have := x.2; omega))
  obtain ⟨n0, n1, n2, n3, n4, n5, n6, n7, n8, n9, _⟩ := blk10 (Blk.alloc N5.out (.cells #[.int .u8 3, .int .u16 0, .int .u64 2, .int .u64 0, .int .u64 0, .int .u64 0, .int .u64 0, .bool false, .int .i64 0, .slice none 0 0] 52))
  clear C1 H4 K4 N4 g5 h5 x0 x1 x2 x3 B4 B3 H3 K3
  go_wp2
  go_ret
  exact ⟨rfl, K5.out.alloc K5.out.size _⟩
end Go.Proofs.YtkfncanfgpmgaaaGreat.Wd
