/- The document's answers of chapter 16: put, get, Size; no conditions but those that each names. -/
import Derived.Test.YtbejkcdaefkibaaPacT
namespace Go.Proofs.Ytbejkcdaefkibaa.Wd
open Go Go.RowKit Go.Shelf Go.Deep Go.Lib
set_option linter.unusedVariables false
set_option maxRecDepth 100000

set_option maxHeartbeats 4000000 in
theorem rput_any (base : Nat) (v : Value) (acc : List UInt8) (n m : Nat) (w : World) (h : BRow w base v acc) (hn : n < 18446744073709551616) (hm : m ≤ 8) (hl : acc.length ≤ 100000000) (hb : base ≤ w.heap.size) :
    Calls Try.prog 17 #[v, .int .u64 (n : Int), .int .i64 (m : Int)] w fun e w' => ∃ v', e = .returned v' ∧ BRow w' base v' (acc ++ be m n) ∧ Gr base w w' := by
  have H := Lib.hid h
  clear h
  go_enter Try.func17, Try.ntmps17
  go_wp2_with fail
  go_loopw [0, 7] (fun s0 s7 wr => ∃ (r : Nat) (u : Value) (x : Int) (P : List UInt8), s0 = u ∧ s7 = .int .i64 x ∧ Hid (x = (r : Int) - 1) ∧ r ≤ m ∧ P.length ≤ 8 ∧ Hid (P ++ be r n = be m n) ∧ BRow wr base u (acc ++ P) ∧ Gr base w wr) (fun _ s7 _ => (intOf s7 + 1).toNat)
  case atStart => exact ⟨m, v, _, [], rfl, rfl, Lib.hid rfl, Nat.le_refl _, by simp, Lib.hid rfl, by rw [List.append_nil]; exact H.out, Gr.refl _ _⟩
  case round =>
    obtain ⟨r, u, x, P, rfl, rfl, hx, hr, hP, D, O, g⟩ := hrel
    cases r with
    | zero =>
      have e : x = -1 := by have := hx.out; omega
      subst e
      clear hx
      have e2 : P = be m n := by have := D.out; rwa [be, List.append_nil] at this
      subst e2
      go_wp2
      go_ret
      exact ⟨_, rfl, O, g⟩
    | succ k =>
      have e : x = (k : Int) := by have := hx.out; omega
      subst e
      clear hx
      have OA := Lib.hid O
      obtain ⟨Y, hY⟩ : ∃ Y, Y = n / 256 ^ k % 256 := ⟨_, rfl⟩
      have hYb : Y < 256 := by rw [hY]; exact Nat.mod_lt _ (by decide)
      have HY : Hid (UInt8.ofNat (n / 256 ^ k) = UInt8.ofNat Y) := Lib.hid (by
        apply UInt8.toNat_inj.1
        show n / 256 ^ k % 256 = Y % 256
        omega)
      have T0 : Txt (wr.alloc (.cells #[.int .u8 (Y : Int)] 5)) (some ⟨wr.heap.size, 0, none⟩) 1 [UInt8.ofNat Y] := by
        have z := txt_one wr (UInt8.ofNat Y)
        rwa [show ((UInt8.ofNat Y).toNat : Int) = (Y : Int) by show ((Y % 256 : Nat) : Int) = _; omega] at z
      replace T0 := Lib.hid T0
      have OB := Lib.hid (O.below ((Below.refl _ wr).alloc (Nat.le_refl _) (.cells #[.int .u8 (Y : Int)] 5)))
      have hgs' : base ≤ (wr.alloc (.cells #[.int .u8 (Y : Int)] 5)).heap.size := Nat.le_trans (Nat.le_trans hb g.size) (by simp)
      have hPl : Hid (P.length + (k + 1) = m) := Lib.hid (by have := congrArg List.length D.out; rw [List.length_append, be_len, be_len] at this; exact this)
      have hY' := Lib.hid hY
      have hlp : (acc ++ P).length + 1 ≤ 140737488355328 := by rw [List.length_append]; omega
      have hgs : base ≤ _ := Nat.le_trans hb g.size
      have hwk : IntKind.u64.wrap (8 * (k : Int)) = 8 * (k : Int) := by rw [IntKind.wrap_u64]; omega
      have hwk2 : IntKind.i64.wrap (8 * (k : Int)) = 8 * (k : Int) := by rw [IntKind.wrap_i64]; omega
      have hk7 : k ≤ 7 := by omega
      have DK : Hid ((P ++ [UInt8.ofNat Y]) ++ be k n = be m n) := Lib.hid (by have := D.out; rw [be_cons, HY.out] at this; rw [← this]; simp)
      have HK := Lib.hid hr
      clear D O hY
      rcases (by omega : k = 0 ∨ k = 1 ∨ k = 2 ∨ k = 3 ∨ k = 4 ∨ k = 5 ∨ k = 6 ∨ k = 7) with rfl | rfl | rfl | rfl | rfl | rfl | rfl | rfl
      · have hy : (n : Int) % 256 = (Y : Int) := by have := hY'.out; simp only [Nat.reducePow] at this; omega
        clear hY'
        go_wp2_with (refine wpList_app_bytes _ rfl _ _ rfl base _ (acc ++ P) rfl OB.out (some ⟨wr.heap.size, 0, none⟩) 1 1 [UInt8.ofNat Y] rfl T0.out (fun e => by cases e) (fun ad e => by cases e; rfl) hlp hgs' ?_; intro v5 w5 o5 g5; have G5 := Lib.hid (Gr.row OB.out hgs' g5))
        go_roundw
        case rel => exact ⟨0, _, _, P ++ [UInt8.ofNat Y], rfl, rfl, Lib.hid (by omega), by have := HK.out; omega, by have := hPl.out; rw [List.length_append, List.length_singleton]; omega, DK, by rw [← List.append_assoc]; exact o5, g.trans ((Gr.of ((Below.refl _ wr).alloc (Nat.le_refl _) _) hgs).trans G5.out)⟩
        case measure => simp [intOf]
      · have hy : (n : Int) / 256 % 256 = (Y : Int) := by have := hY'.out; simp only [Nat.reducePow] at this; omega
        clear hY'
        go_wp2_with (refine wpList_app_bytes _ rfl _ _ rfl base _ (acc ++ P) rfl OB.out (some ⟨wr.heap.size, 0, none⟩) 1 1 [UInt8.ofNat Y] rfl T0.out (fun e => by cases e) (fun ad e => by cases e; rfl) hlp hgs' ?_; intro v5 w5 o5 g5; have G5 := Lib.hid (Gr.row OB.out hgs' g5))
        go_roundw
        case rel => exact ⟨1, _, _, P ++ [UInt8.ofNat Y], rfl, rfl, Lib.hid (by omega), by have := HK.out; omega, by have := hPl.out; rw [List.length_append, List.length_singleton]; omega, DK, by rw [← List.append_assoc]; exact o5, g.trans ((Gr.of ((Below.refl _ wr).alloc (Nat.le_refl _) _) hgs).trans G5.out)⟩
        case measure => simp [intOf]
      · have hy : (n : Int) / 65536 % 256 = (Y : Int) := by have := hY'.out; simp only [Nat.reducePow] at this; omega
        clear hY'
        go_wp2_with (refine wpList_app_bytes _ rfl _ _ rfl base _ (acc ++ P) rfl OB.out (some ⟨wr.heap.size, 0, none⟩) 1 1 [UInt8.ofNat Y] rfl T0.out (fun e => by cases e) (fun ad e => by cases e; rfl) hlp hgs' ?_; intro v5 w5 o5 g5; have G5 := Lib.hid (Gr.row OB.out hgs' g5))
        go_roundw
        case rel => exact ⟨2, _, _, P ++ [UInt8.ofNat Y], rfl, rfl, Lib.hid (by omega), by have := HK.out; omega, by have := hPl.out; rw [List.length_append, List.length_singleton]; omega, DK, by rw [← List.append_assoc]; exact o5, g.trans ((Gr.of ((Below.refl _ wr).alloc (Nat.le_refl _) _) hgs).trans G5.out)⟩
        case measure => simp [intOf]
      · have hy : (n : Int) / 16777216 % 256 = (Y : Int) := by have := hY'.out; simp only [Nat.reducePow] at this; omega
        clear hY'
        go_wp2_with (refine wpList_app_bytes _ rfl _ _ rfl base _ (acc ++ P) rfl OB.out (some ⟨wr.heap.size, 0, none⟩) 1 1 [UInt8.ofNat Y] rfl T0.out (fun e => by cases e) (fun ad e => by cases e; rfl) hlp hgs' ?_; intro v5 w5 o5 g5; have G5 := Lib.hid (Gr.row OB.out hgs' g5))
        go_roundw
        case rel => exact ⟨3, _, _, P ++ [UInt8.ofNat Y], rfl, rfl, Lib.hid (by omega), by have := HK.out; omega, by have := hPl.out; rw [List.length_append, List.length_singleton]; omega, DK, by rw [← List.append_assoc]; exact o5, g.trans ((Gr.of ((Below.refl _ wr).alloc (Nat.le_refl _) _) hgs).trans G5.out)⟩
        case measure => simp [intOf]
      · have hy : (n : Int) / 4294967296 % 256 = (Y : Int) := by have := hY'.out; simp only [Nat.reducePow] at this; omega
        clear hY'
        go_wp2_with (refine wpList_app_bytes _ rfl _ _ rfl base _ (acc ++ P) rfl OB.out (some ⟨wr.heap.size, 0, none⟩) 1 1 [UInt8.ofNat Y] rfl T0.out (fun e => by cases e) (fun ad e => by cases e; rfl) hlp hgs' ?_; intro v5 w5 o5 g5; have G5 := Lib.hid (Gr.row OB.out hgs' g5))
        go_roundw
        case rel => exact ⟨4, _, _, P ++ [UInt8.ofNat Y], rfl, rfl, Lib.hid (by omega), by have := HK.out; omega, by have := hPl.out; rw [List.length_append, List.length_singleton]; omega, DK, by rw [← List.append_assoc]; exact o5, g.trans ((Gr.of ((Below.refl _ wr).alloc (Nat.le_refl _) _) hgs).trans G5.out)⟩
        case measure => simp [intOf]
      · have hy : (n : Int) / 1099511627776 % 256 = (Y : Int) := by have := hY'.out; simp only [Nat.reducePow] at this; omega
        clear hY'
        go_wp2_with (refine wpList_app_bytes _ rfl _ _ rfl base _ (acc ++ P) rfl OB.out (some ⟨wr.heap.size, 0, none⟩) 1 1 [UInt8.ofNat Y] rfl T0.out (fun e => by cases e) (fun ad e => by cases e; rfl) hlp hgs' ?_; intro v5 w5 o5 g5; have G5 := Lib.hid (Gr.row OB.out hgs' g5))
        go_roundw
        case rel => exact ⟨5, _, _, P ++ [UInt8.ofNat Y], rfl, rfl, Lib.hid (by omega), by have := HK.out; omega, by have := hPl.out; rw [List.length_append, List.length_singleton]; omega, DK, by rw [← List.append_assoc]; exact o5, g.trans ((Gr.of ((Below.refl _ wr).alloc (Nat.le_refl _) _) hgs).trans G5.out)⟩
        case measure => simp [intOf]
      · have hy : (n : Int) / 281474976710656 % 256 = (Y : Int) := by have := hY'.out; simp only [Nat.reducePow] at this; omega
        clear hY'
        go_wp2_with (refine wpList_app_bytes _ rfl _ _ rfl base _ (acc ++ P) rfl OB.out (some ⟨wr.heap.size, 0, none⟩) 1 1 [UInt8.ofNat Y] rfl T0.out (fun e => by cases e) (fun ad e => by cases e; rfl) hlp hgs' ?_; intro v5 w5 o5 g5; have G5 := Lib.hid (Gr.row OB.out hgs' g5))
        go_roundw
        case rel => exact ⟨6, _, _, P ++ [UInt8.ofNat Y], rfl, rfl, Lib.hid (by omega), by have := HK.out; omega, by have := hPl.out; rw [List.length_append, List.length_singleton]; omega, DK, by rw [← List.append_assoc]; exact o5, g.trans ((Gr.of ((Below.refl _ wr).alloc (Nat.le_refl _) _) hgs).trans G5.out)⟩
        case measure => simp [intOf]
      · have hy : (n : Int) / 72057594037927936 = (Y : Int) := by have := hY'.out; simp only [Nat.reducePow] at this; omega
        clear hY'
        go_wp2_with (refine wpList_app_bytes _ rfl _ _ rfl base _ (acc ++ P) rfl OB.out (some ⟨wr.heap.size, 0, none⟩) 1 1 [UInt8.ofNat Y] rfl T0.out (fun e => by cases e) (fun ad e => by cases e; rfl) hlp hgs' ?_; intro v5 w5 o5 g5; have G5 := Lib.hid (Gr.row OB.out hgs' g5))
        go_roundw
        case rel => exact ⟨7, _, _, P ++ [UInt8.ofNat Y], rfl, rfl, Lib.hid (by omega), by have := HK.out; omega, by have := hPl.out; rw [List.length_append, List.length_singleton]; omega, DK, by rw [← List.append_assoc]; exact o5, g.trans ((Gr.of ((Below.refl _ wr).alloc (Nat.le_refl _) _) hgs).trans G5.out)⟩
        case measure => simp [intOf]

set_option maxHeartbeats 2000000 in
theorem rget_any (A : Option Addr) (n cap : Nat) (l : List UInt8) (w : World) (hT : Txt w A n l) (hn : n ≤ 8) :
    Calls Try.prog 26 #[.slice A n cap] w fun e w' => e = .returned (.int .u64 (vl l : Int)) ∧ w = w' := by
  have hl : l.length = n := hT.1
  have HT := Lib.hid hT
  clear hT
  go_enter Try.func26, Try.ntmps26
  go_wp2
  go_loop [3, 4] (fun s3 s4 => ∃ k m : Nat, s3 = .int .u64 (m : Int) ∧ s4 = .int .i64 (k : Int) ∧ k ≤ n ∧ Hid (m = vl (l.take k))) (fun _ s4 => n - (intOf s4).toNat)
  case atStart => exact ⟨0, 0, rfl, rfl, by omega, Lib.hid rfl⟩
  case round =>
    obtain ⟨k, m, rfl, rfl, hk, E⟩ := hrel
    by_cases hlt : k < n
    · obtain ⟨b, off, rfl, _, hc⟩ := HT.out.2 (by omega)
      have c0 := hc k hlt
      obtain ⟨d, hd⟩ : ∃ d : Nat, (l.getD k 0).toNat = d := ⟨_, rfl⟩
      have hdb : d < 256 := by rw [← hd]; exact (l.getD k 0).toNat_lt
      rw [hd] at c0
      have hm : m < 72057594037927936 := by
        rw [E.out]
        have h := vl_lt k (l.take k) (by rw [List.length_take]; omega)
        have h2 : 256 ^ k ≤ 256 ^ 7 := Nat.pow_le_pow_right (by decide) (by omega)
        exact Nat.lt_of_lt_of_le h h2
      have E2 : Hid (m * 256 + d = vl (l.take (k + 1))) := Lib.hid (by
        rw [vl_take l k (by omega), E.out, ← hd, List.getD_eq_getElem?_getD, List.getElem?_eq_getElem (by omega)]; rfl)
      have hw1 : IntKind.u64.wrap ((m : Int) * 256) = (m : Int) * 256 := by rw [IntKind.wrap_u64]; omega
      have hw2 : IntKind.u64.wrap ((m : Int) * 256 + (d : Int)) = (m : Int) * 256 + (d : Int) := by rw [IntKind.wrap_u64]; omega
      have hwd : IntKind.u64.wrap (d : Int) = (d : Int) := by rw [IntKind.wrap_u64]; omega
      clear hc E hd
      go_wp2
      go_round
      case rel => exact ⟨k + 1, m * 256 + d, by go_num, by go_num, by omega, E2⟩
      case measure => simp [intOf]; omega
    · obtain rfl : k = n := by omega
      have e : m = vl l := by rw [E.out, List.take_of_length_le (by omega)]
      subst e
      go_wp2
      go_ret
      exact ⟨rfl, rfl⟩
set_option maxHeartbeats 2000000 in
theorem rsize_any (c : Nat) (A : Option Addr) (n cap : Nat) (xs : List En) (w : World) (h : Ens w A n xs) (hw : wgt xs ≤ 1000000) :
    Calls Try.prog 18 #[snV c A n cap] w fun e w' => e = .returned (.int .i64 ((16 + wgt xs : Nat) : Int)) ∧ Below w.heap.size w w' := by
  have hn9 := wgt_len xs
  have hln := h.1
  have HL := Lib.hid hln
  have HW := Lib.hid (fun (k : Nat) (hk : k < n) => wgt_step xs k (by omega))
  have HT := Lib.hid (fun (k : Nat) => wgt_take xs k)
  have q0 := Lib.hid (Blk.new w (snC c A n cap) Tsn)
  have k0 := Lib.hid ((Below.refl _ w).alloc (Nat.le_refl _) (.cells (snC c A n cap) Tsn))
  have H := Lib.hid (h.below k0.out)
  have hn : n ≤ 1000000 := by omega
  clear h hn9 hln
  go_enter Try.func18, Try.ntmps18
  go_upto_region 2 with fail
  generalize w.alloc (.cells (snC c A n cap) Tsn) = W at *
  have x0 := q0.out.cell 0
  have x1 := q0.out.cell 1
  simp at x0 x1
  go_wp2_with fail
  go_loopw [3, 4] (fun s3 s4 wr => ∃ k m : Nat, s3 = .int .i64 (m : Int) ∧ s4 = .int .i64 (k : Int) ∧ k ≤ n ∧ Hid (m = 16 + wgt (xs.take k)) ∧ wr = W) (fun _ s4 _ => n - (intOf s4).toNat)
  case atStart => exact ⟨0, 16, rfl, rfl, by omega, Lib.hid rfl, rfl⟩
  case round =>
    obtain ⟨k, m, rfl, rfl, hk, E, rfl⟩ := hrel
    by_cases hlt : k < n
    · obtain ⟨b, off, rfl, hb, hc⟩ := H.out.2 (by omega)
      obtain ⟨c0, c1⟩ := hc k hlt
      have hkx := key_size (atE_mem (xs := xs) (k := k) (by rw [HL.out]; exact hlt)) hw
      have HWk := Lib.hid (HW.out k hlt)
      have hm : m ≤ 1000016 := by have := HT.out k; have := E.out; omega
      clear hc
      generalize hX : atE xs k = x at *
      obtain ⟨s, u⟩ := x
      dsimp only at c0 c1 hkx HWk
      go_wp2
      go_roundw
      case rel => exact ⟨k + 1, m + (9 + s.size), by go_num, by go_num, by omega, Lib.hid (by rw [HWk.out, E.out]; omega), by first | rfl | trivial⟩
      case measure => simp [intOf]; omega
    · obtain rfl : k = n := by omega
      have e : m = 16 + wgt xs := by have := E.out; rwa [List.take_of_length_le (by rw [HL.out]; exact Nat.le_refl _)] at this
      subst e
      go_wp2
      go_ret
      exact ⟨rfl, k0.out⟩
end Go.Proofs.Ytbejkcdaefkibaa.Wd
