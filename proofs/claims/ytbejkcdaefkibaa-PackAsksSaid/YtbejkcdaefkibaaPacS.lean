/- What pack.Size answers, for any entries whose weight is small; no conditions but those that each names. -/
import Derived.Test.YtbejkcdaefkibaaPacC
namespace Go.Proofs.Ytbejkcdaefkibaa.Wd
open Go Go.RowKit Go.Shelf Go.Deep Go.Lib
set_option linter.unusedVariables false
set_option maxRecDepth 100000

/-- A snapshot, as a value. -/
abbrev snV (c : Nat) (A : Option Addr) (n cap : Nat) : Value := .agg #[.int .u64 (c : Int), .slice A n cap]
abbrev snC (c : Nat) (A : Option Addr) (n cap : Nat) : Array Value := #[.int .u64 (c : Int), .slice A n cap]
abbrev Tsn : TypeId := 25
theorem wgt_step (xs : List En) (k : Nat) (h : k < xs.length) : wgt (xs.take (k + 1)) = wgt (xs.take k) + (9 + (atE xs k).1.size) := by
  rw [List.take_add_one, List.getElem?_eq_getElem h, wgt_app, atE, List.getD_eq_getElem?_getD, List.getElem?_eq_getElem h]
  show _ = wgt (xs.take k) + (9 + (xs[k]).1.size)
  simp [wgt]
set_option maxHeartbeats 2000000 in
theorem psize_any (c : Nat) (A : Option Addr) (n cap : Nat) (xs : List En) (w : World) (h : Ens w A n xs) (hw : wgt xs ≤ 1000000) :
    Calls Try.prog 13 #[snV c A n cap] w fun e w' => e = .returned (.int .i64 ((16 + wgt xs : Nat) : Int)) ∧ Below w.heap.size w w' := by
  have hn9 := wgt_len xs
  have hln := h.1
  have HL := Lib.hid hln
  have HW := Lib.hid (fun (k : Nat) (hk : k < n) => wgt_step xs k (by omega))
  have HT := Lib.hid (fun (k : Nat) => wgt_take xs k)
  have q0 := Lib.hid (Blk.new w (snC c A n cap) Tsn)
  have k0 := Lib.hid ((Below.refl _ w).alloc (Nat.le_refl _) (.cells (snC c A n cap) Tsn))
  have H := Lib.hid (h.below k0.out)
  have hn : n ≤ 1000000 := by omega
  clear h hn9 hln
  go_enter Try.func13, Try.ntmps13
  go_upto_region 2 with fail
  generalize w.alloc (.cells (snC c A n cap) Tsn) = W at *
  have x0 := q0.out.cell 0
  have x1 := q0.out.cell 1
  simp at x0 x1
  go_wp2_with fail
  clear x0 x1
  go_loopw [3, 5, 9] (fun s3 s5 s9 wr => ∃ (k m : Nat) (p : Value), s3 = .int .i64 (m : Int) ∧ s5 = p ∧ s9 = .int .i64 (k : Int) ∧ k ≤ n ∧ Hid (m = 16 + wgt (xs.take k)) ∧ Below W.heap.size W wr) (fun _ _ s9 _ => n - (intOf s9).toNat)
  case atStart => exact ⟨0, 16, _, rfl, rfl, rfl, by omega, Lib.hid rfl, Below.refl _ _⟩
  case round =>
    obtain ⟨k, m, p, rfl, rfl, rfl, hk, E, hB⟩ := hrel
    by_cases hlt : k < n
    · obtain ⟨b, off, rfl, hb, hc⟩ := (H.out.below hB).2 (by omega)
      obtain ⟨c0, c1⟩ := hc k hlt
      have hkx := key_size (atE_mem (xs := xs) (k := k) (by rw [HL.out]; exact hlt)) hw
      have HWk := Lib.hid (HW.out k hlt)
      have hm : m ≤ 1000016 := by have := HT.out k; have := E.out; omega
      clear hc
      generalize hX : atE xs k = x at *
      obtain ⟨s, u⟩ := x
      dsimp only at c0 c1 hkx HWk
      have q1 := Lib.hid (Blk.new wr (En.cs (s, u)) Tae)
      have kq := Lib.hid ((Below.refl _ wr).alloc (Nat.le_refl _) (.cells (En.cs (s, u)) Tae))
      go_upto_region 5 with fail
      generalize wr.alloc (.cells #[.string s, .int .u64 (u : Int)] Tae) = W1 at *
      obtain ⟨y0, y1⟩ := q1.out.two
      dsimp only at y0 y1
      go_wp2
      go_roundw
      case rel => exact ⟨k + 1, m + (9 + s.size), _, by go_num, rfl, by go_num, by omega, Lib.hid (by rw [HWk.out, E.out]; omega), kbq hB kq.out⟩
      case measure => simp [intOf]; omega
    · obtain rfl : k = n := by omega
      have e : m = 16 + wgt xs := by have := E.out; rwa [List.take_of_length_le (by rw [HL.out]; exact Nat.le_refl _)] at this
      subst e
      go_wp2
      go_ret
      exact ⟨rfl, kbq k0.out hB⟩
end Go.Proofs.Ytbejkcdaefkibaa.Wd
