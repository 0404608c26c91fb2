/- What pack.right, Size and Encode answer, for any entries whose weight is small; no conditions but those that each names. -/
import Derived.Test.YtbejkcdaefkibaaPacE
import Derived.Deep.CutRange
namespace Go.Proofs.Ytbejkcdaefkibaa.Wd
open Go Go.RowKit Go.Shelf Go.Deep Go.Lib
set_option linter.unusedVariables false
set_option maxRecDepth 100000

theorem ORow.below {w w' : World} {base : Nat} {v : Value} {xs : List ByteArray} (h : ORow w base v xs) (g : Below w.heap.size w w') : ORow w' base v xs := own_below h g
theorem take_keys (xs : List En) (k : Nat) (h : k < xs.length) : ksE (xs.take (k + 1)) = ksE (xs.take k) ++ [(atE xs k).1] := by
  unfold ksE
  rw [List.take_add_one, List.getElem?_eq_getElem h, List.map_append, atE, List.getD_eq_getElem?_getD, List.getElem?_eq_getElem h]; rfl
theorem key_size {xs : List En} {x : En} (hx : x ∈ xs) (hw : wgt xs ≤ 1000000) : x.1.size ≤ 1000000 := by have := wgt_mem hx; omega
theorem allR_no {xs : List En} {x : En} (hx : x ∈ xs) (h : rtB (lb x.1) = false) : allR xs = false := by
  rw [← Bool.not_eq_true, allR, List.all_eq_true]
  intro g
  have := g x hx
  rw [h] at this; cases this
theorem allR_yes {xs : List En} (h : ∀ k, k < xs.length → rtB (lb (atE xs k).1) = true) : allR xs = true := by
  rw [allR, List.all_eq_true]
  intro x hx
  obtain ⟨k, hk, rfl⟩ := List.getElem_of_mem hx
  have := h k hk
  rwa [atE, List.getD_eq_getElem?_getD, List.getElem?_eq_getElem hk] at this

set_option maxHeartbeats 2000000 in
theorem pright_any (A : Option Addr) (n cap : Nat) (xs : List En) (w : World) (h : Ens w A n xs) (hw : wgt xs ≤ 1000000) :
    Calls Try.prog 21 #[.slice A n cap] w fun e w' => e = .returned (.int .u16 (rgE xs : Int)) ∧ Below w.heap.size w w' := by
  have hn9 := wgt_len xs
  have hln := h.1
  have HN := Lib.hid (fun (k : Nat) (hk : k < n) (g : rtB (lb (atE xs k).1) = false) => (show rgE xs = 12 by unfold rgE; rw [allR_no (atE_mem (by omega)) g]; rfl))
  have HY := Lib.hid (fun (g : ∀ k, k < n → rtB (lb (atE xs k).1) = true) => (show rgE xs = if soB (ksE xs) = true then 0 else 42 by unfold rgE; rw [allR_yes (fun k hk => g k (by omega)), if_pos rfl]))
  generalize rgE xs = R at *
  have H := Lib.hid h
  have HL := Lib.hid hln
  have hn : n ≤ 1000000 := by omega
  have hnn : ¬ (4294967296 : Int) ≤ (n : Int) := by omega
  clear h hn9 hln
  go_enter Try.func21, Try.ntmps21
  go_wp2_with fail
  go_loopw [3, 5, 12] (fun s3 s5 s12 wr => ∃ (k : Nat) (v p : Value), s3 = v ∧ s5 = p ∧ s12 = .int .i64 (k : Int) ∧ k ≤ n ∧ ORow wr w.heap.size v (ksE (xs.take k)) ∧ Hid (∀ j, j < k → rtB (lb (atE xs j).1) = true) ∧ Below w.heap.size w wr) (fun _ _ s12 _ => n - (intOf s12).toNat)
  case atStart => exact ⟨0, _, _, rfl, rfl, rfl, by omega, ORow.nil _ _, Lib.hid (fun j hj => absurd hj (by omega)), Below.refl _ _⟩
  case round =>
    obtain ⟨k, v, p, rfl, rfl, rfl, hk, OR, D, hB⟩ := hrel
    by_cases hlt : k < n
    · obtain ⟨b, off, rfl, hb, hc⟩ := (H.out.below hB).2 (by omega)
      obtain ⟨c0, c1⟩ := hc k hlt
      have hkx := key_size (atE_mem (xs := xs) (k := k) (by rw [HL.out]; exact hlt)) hw
      have TK := Lib.hid (take_keys xs k (by rw [HL.out]; exact hlt))
      have HNk := Lib.hid (HN.out k hlt)
      have HD : Hid (rtB (lb (atE xs k).1) = true → ∀ j, j < k + 1 → rtB (lb (atE xs j).1) = true) := Lib.hid (fun g j hj => by
        by_cases e : j = k
        · subst e; exact g
        · exact D.out j (by omega))
      have hlen : (ksE (xs.take k)).length = k := by rw [List.length_map, List.length_take, HL.out]; omega
      have HLEN := Lib.hid hlen
      clear hc hlen
      generalize hX : atE xs k = x at *
      generalize hKS : ksE (xs.take k) = ks at *
      obtain ⟨s, u⟩ := x
      dsimp only at c0 c1 hkx
      have CR := Lib.hid (fun W => right_any s W (by omega))
      have q0 := Lib.hid (Blk.new wr (En.cs (s, u)) Tae)
      have kq := Lib.hid ((Below.refl _ wr).alloc (Nat.le_refl _) (.cells (En.cs (s, u)) Tae))
      have OR2 := Lib.hid (OR.below kq.out)
      clear OR D HN
      go_upto_region 7 with fail
      generalize wr.alloc (.cells #[.string s, .int .u64 (u : Int)] Tae) = W1 at *
      obtain ⟨x0, x1⟩ := q0.out.two
      dsimp only at HNk HD TK CR x0 x1
      obtain ⟨r, hr⟩ : ∃ r, r = rtB (lb s) := ⟨_, rfl⟩
      rw [← hr] at CR HNk HD
      have hsz := kq.out.size
      have hwr := hB.size
      cases r with
      | false =>
        have e := HNk.out rfl
        subst e
        clear hr
        go_wp2_with (go_at_call 28; refine (CR.out _).mono ?_; rintro e w1 ⟨rfl, rfl⟩)
        go_ret
        exact ⟨rfl, kbq hB kq.out⟩
      | true =>
        clear hr
        have hl1 : ks.length + 1 ≤ 1099511627776 := by rw [HLEN.out]; omega
        go_wp2_with (first
          | (go_at_call 28; refine (CR.out _).mono ?_; rintro e w1 ⟨rfl, rfl⟩)
          | (have OR3 := OR2.out.below ((Below.refl _ _).alloc (Nat.le_refl _) (.cells #[.string s] 9)); refine wpList_app_tx _ rfl _ _ rfl w.heap.size _ ks rfl OR3 W1.heap.size 0 1 s rfl (Blk.cell (Blk.new W1 #[.string s] 9) 0) hl1 (by simp; omega) ?_; intro g cap2 w2 o2 b2))
        go_roundw
        case rel => exact ⟨k + 1, _, _, rfl, rfl, by go_num, by omega, by rw [TK.out]; exact o2, Lib.hid (HD.out (by trivial)), (kbq hB kq.out).trans (((Below.refl _ W1).alloc (Nat.le_refl _) _).mono (by omega) |>.trans b2)⟩
        case measure => simp [intOf]; omega
    · obtain rfl : k = n := by omega
      have e := HY.out (fun j hj => D.out j hj)
      rw [List.take_of_length_le (by rw [HL.out]; exact Nat.le_refl _)] at OR
      have hkx : ∀ x ∈ ksE xs, x.size ≤ 9223372036854775807 := fun x hx => by
        obtain ⟨y, hy, rfl⟩ := List.mem_map.1 hx
        have := key_size hy hw; omega
      obtain ⟨A2, c2, rfl, hc1, hc2, hS⟩ := OR.sts hkx
      have hlen : (ksE xs).length = k := by rw [List.length_map, HL.out]
      rw [hlen] at hS hc1
      have CS := Lib.hid (fun (W : World) (g : Below wr.heap.size wr W) => sorted_any A2 k c2 (ksE xs) W (hS.below g) (by omega))
      clear hkx OR HY HN D hS
      generalize soB (ksE xs) = r at *
      rw [hlen]
      clear hlen
      cases r with
      | false =>
        replace e : R = 42 := e
        subst e
        go_wp2_with (go_at_call 29; refine (CS.out _ (Below.refl _ _)).mono ?_; rintro e w1 ⟨rfl, g1⟩)
        go_ret
        exact ⟨rfl, kbq hB g1⟩
      | true =>
        replace e : R = 0 := e
        subst e
        go_wp2_with (go_at_call 29; refine (CS.out _ (Below.refl _ _)).mono ?_; rintro e w1 ⟨rfl, g1⟩)
        go_ret
        exact ⟨rfl, kbq hB g1⟩
end Go.Proofs.Ytbejkcdaefkibaa.Wd
