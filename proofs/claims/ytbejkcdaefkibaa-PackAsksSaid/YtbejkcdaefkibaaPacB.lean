/- tollerlaw16.again, Bent; tollerref16.Same; no conditions but those that each names. -/
import Derived.Test.YtbejkcdaefkibaaPacX
import Derived.Laws.StructEq
import Derived.Deep.RegionLaw
namespace Go.Proofs.Ytbejkcdaefkibaa.Wd
open Go Go.RowKit Go.Shelf Go.Deep Go.Lib
set_option linter.unusedVariables false
set_option maxRecDepth 100000

set_option maxHeartbeats 2000000 in
theorem rentry_any (A : Option Addr) (n cap : Nat) (A' : Option Addr) (cap' : Nat) (xs : List En) (w : World) (h : Ens w A n xs) (h' : Ens w A' n xs) (hn : n ≤ 1000000) :
    Calls Try.prog 27 #[.slice A n cap, .slice A' n cap'] w fun e w' => e = .returned (.bool true) ∧ Drew w w' := by
  have H := Lib.hid h
  have H' := Lib.hid h'
  clear h h'
  go_enter Try.func27, Try.ntmps27
  go_wp2
  go_loopw [5] (fun s5 wr => ∃ k : Nat, s5 = .int .i64 (k : Int) ∧ k ≤ n ∧ Drew w wr) (fun s5 _ => n - (intOf s5).toNat)
  case atStart => exact ⟨0, rfl, by omega, Drew.refl _⟩
  case round =>
    obtain ⟨k, rfl, hk, hd⟩ := hrel
    by_cases hlt : k < n
    · obtain ⟨b, off, rfl, _, hc⟩ := (H.out.below hd.kept.2).2 (by omega)
      obtain ⟨b', off', rfl, _, hc'⟩ := (H'.out.below hd.kept.2).2 (by omega)
      obtain ⟨c0, c1⟩ := hc k hlt
      obtain ⟨d0, d1⟩ := hc' k hlt
      clear hc hc'
      generalize atE xs k = x at *
      obtain ⟨s, u⟩ := x
      dsimp only at c0 c1 d0 d1
      go_wp2_with fail
      go_quiet (fail)
      go_wp2
      go_roundw
      case rel => exact ⟨k + 1, by go_num, by omega, hd.trans ⟨_, rfl⟩⟩
      case measure => simp [intOf]; omega
    · go_wp2
      go_ret
      exact ⟨rfl, hd⟩
set_option maxHeartbeats 2000000 in
theorem rsame_any (c : Nat) (A : Option Addr) (n cap : Nat) (A' : Option Addr) (cap' : Nat) (xs : List En) (w : World) (h : Ens w A n xs) (h' : Ens w A' n xs) (hn : n ≤ 1000000) :
    Calls Try.prog 20 #[snV c A n cap, snV c A' n cap'] w fun e w' => e = .returned (.bool true) ∧ Below w.heap.size w w' := by
  have q0 := Lib.hid ((Blk.new w (snC c A n cap) Tsn).alloc (.cells (snC c A' n cap') Tsn))
  have q1 := Blk.new (w.alloc (.cells (snC c A n cap) Tsn)) (snC c A' n cap') Tsn
  rw [show (w.alloc (.cells (snC c A n cap) Tsn)).heap.size = w.heap.size + 1 by simp] at q1
  replace q1 := Lib.hid q1
  have k0 := Lib.hid (((Below.refl _ w).alloc (Nat.le_refl _) (.cells (snC c A n cap) Tsn)).alloc (by simp) (.cells (snC c A' n cap') Tsn))
  have H := Lib.hid (h.below k0.out)
  have H' := Lib.hid (h'.below k0.out)
  clear h h'
  go_enter Try.func20, Try.ntmps20
  go_upto_region 1 with fail
  generalize (w.alloc (.cells (snC c A n cap) Tsn)).alloc (.cells (snC c A' n cap') Tsn) = W at *
  have x0 := q0.out.cell 0
  have x1 := q0.out.cell 1
  have y0 := q1.out.cell 0
  have y1 := q1.out.cell 1
  simp at x0 x1 y0 y1
  go_wp2_with (go_at_call 27; refine (rentry_any A n cap A' cap' xs _ H.out H'.out hn).mono ?_; rintro e w1 ⟨rfl, hd⟩)
  go_ret
  exact ⟨rfl, kbq k0.out hd.kept.2⟩
end Go.Proofs.Ytbejkcdaefkibaa.Wd
