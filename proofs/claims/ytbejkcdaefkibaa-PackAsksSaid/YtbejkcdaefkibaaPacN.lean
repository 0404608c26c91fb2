/- What pack.Encode answers, for any snapshot of small weight; no conditions but those that each names. -/
import Derived.Test.YtbejkcdaefkibaaPacS
namespace Go.Proofs.Ytbejkcdaefkibaa.Wd
open Go Go.RowKit Go.Shelf Go.Deep Go.Lib
set_option linter.unusedVariables false
set_option maxRecDepth 100000

/-- A text behind bytes. -/
theorem wpList_app_str (w : World) {ops : Array Oper} {rest : List Oper} {o : Oper} {a : Act} {Q : Exit → Act → World → Prop} (hgd : o.guard = none) (s x : Operand)
    (ho : o.op = .call { callee := .builtin .append, args := #[s, x], argTypes := #[26, 9] })
    (base : Nat) (v : Value) (acc : List UInt8) (hs : a.eval s = v) (hown : BRow w base v acc) (t : ByteArray) (hx : a.eval x = .string t)
    (hsz : acc.length + t.size ≤ 140737488355328) (hbase : base ≤ w.heap.size)
    (h : ∀ v' w', BRow w' base v' (acc ++ lb t) → w.grownBy w' v.ownBlock → wpList Try.prog ops Q rest (a.put o.dst v') w') : wpList Try.prog ops Q (o :: rest) a w := by
  obtain ⟨i0, hz, hz0, hz1, hz2⟩ := info_parts infoByte
  refine wpList_append_own_string w hgd s x 26 9 ho base 5 i0 Try.underlying26 Try.underlying9 hz hz0 hz1 hz2 v acc.length (bvs acc) hs hown t hx (by unfold maxLen; omega) hsz hbase ?_
  intro v' w' own grow _
  refine h v' w' ?_ grow
  unfold BRow
  rw [bvs_append, List.length_append, list_size]
  exact own
theorem make_bytes (c : Nat) (hc : c ≤ 1000000000) : ∃ arr : Array Value, (∀ W : World, (Instr.makeSlice 26 (.int .i64 0) (.int .i64 (c : Int))).run Try.prog W = .ok (.slice (some ⟨W.heap.size, 0, none⟩) 0 c) (W.alloc (.cells arr 5))) ∧
    ∀ (W : World) (base : Nat), base ≤ W.heap.size → BRow (W.alloc (.cells arr 5)) base (.slice (some ⟨W.heap.size, 0, none⟩) 0 c) [] := by
  obtain ⟨i0, hz, hz0, hz1, hz2⟩ := info_parts infoByte
  refine ⟨madeCells #[.int .u8 0] (c * 1), fun W => ?_, fun W base hb => World.ownsRow_made W _ c hb (by unfold maxLen; omega) (size_madeCells _ _)⟩
  have h := run_make (P := Try.prog) W 26 5 i0 (.int .u8 0) Try.underlying26 hz hz0 .i64 .i64 0 (c : Int) (by omega) (by omega) (by rw [hz2]; omega) (by omega)
  rw [hz1] at h
  rw [h]
  simp [Value.cells]
/-- Bytes that are built, beside the snapshot's own block. -/
structure Ec (b : Nat) (cs : Array Value) (W wr : World) (v : Value) (acc : List UInt8) : Prop where
  own : BRow wr b v acc
  blk : Blk wr b cs Tsn
  gr : Gr b W wr
  le : b ≤ wr.heap.size
theorem Ec.step {b : Nat} {cs : Array Value} {W wr w' : World} {v v' : Value} {acc acc' : List UInt8} (h : Ec b cs W wr v acc) (o : BRow w' b v' acc') (g : Gr b wr w') : Ec b cs W w' v' acc' :=
  ⟨o, g.blk (by decide) h.blk, h.gr.trans g, Nat.le_trans h.le g.size⟩
theorem Ec.bel {b : Nat} {cs : Array Value} {W wr w' : World} {v : Value} {acc : List UInt8} (h : Ec b cs W wr v acc) (g : Below wr.heap.size wr w') : Ec b cs W w' v acc := h.step (h.own.below g) (Gr.of g h.le)
theorem Ec.put {b : Nat} {cs : Array Value} {W wr : World} {v : Value} {acc : List UInt8} (h : Ec b cs W wr v acc) (n k : Nat) (hn : n < 18446744073709551616) (hk : k ≤ 8) (hk0 : 0 < k) (hl : acc.length ≤ 100000000) :
    Calls Try.prog 22 #[v, .int .u64 (n : Int), .int .i64 (k : Int)] wr fun e w' => ∃ v', e = .returned v' ∧ Ec b cs W w' v' (acc ++ be k n) ∧ Gr b wr w' :=
  (put_any b v acc n k wr h.own hn hk hk0 hl h.le).mono (by rintro e w' ⟨v', rfl, o, g⟩; exact ⟨v', rfl, h.step o g, g⟩)
/-- What Encode tells. -/
def enO (c : Nat) (xs : List En) : List UInt8 := if rgE xs = 0 then enB c xs else []
theorem enL_step (xs : List En) (k : Nat) (h : k < xs.length) : enL (xs.take (k + 1)) = enL (xs.take k) ++ enE (atE xs k) := by
  rw [List.take_add_one, List.getElem?_eq_getElem h, enL_app, atE, List.getD_eq_getElem?_getD, List.getElem?_eq_getElem h]
  simp [enL]
theorem rgE_cases (xs : List En) : rgE xs = 0 ∨ rgE xs = 42 ∨ rgE xs = 12 := by
  unfold rgE; split
  · split
    · exact .inl rfl
    · exact .inr (.inl rfl)
  · exact .inr (.inr rfl)
set_option maxHeartbeats 4000000 in
theorem encode_any (c : Nat) (A : Option Addr) (n cap : Nat) (xs : List En) (w : World) (hc : c < 18446744073709551616) (h : Ens w A n xs) (hw : wgt xs ≤ 1000000) (hu : ∀ x ∈ xs, x.2 < 18446744073709551616) :
    Calls Try.prog 11 #[snV c A n cap] w fun e w' => ∃ v, e = .returned (.tuple #[v, .int .u16 (rgE xs : Int)]) ∧ BRow w' w.heap.size v (enO c xs) ∧ Below w.heap.size w w' := by
  have hn9 := wgt_len xs
  have HL := Lib.hid h.1
  have hn : n ≤ 1000000 := by have := HL.out; omega
  have HT := Lib.hid (fun (k : Nat) => wgt_take xs k)
  have q0 := Lib.hid (Blk.new w (snC c A n cap) Tsn)
  have k0 := Lib.hid ((Below.refl _ w).alloc (Nat.le_refl _) (.cells (snC c A n cap) Tsn))
  have H := Lib.hid (h.below k0.out)
  have H0 := Lib.hid h
  have HW := Lib.hid (fun (k : Nat) (hk : k < n) => enL_step xs k (by have := h.1; omega))
  have CR := Lib.hid (fun (W : World) (g : Below (w.alloc (.cells (snC c A n cap) Tsn)).heap.size (w.alloc (.cells (snC c A n cap) Tsn)) W) => pright_any A n cap xs W (H.out.below g) hw)
  have CS := Lib.hid (fun (W : World) (g : Below (w.alloc (.cells (snC c A n cap) Tsn)).heap.size (w.alloc (.cells (snC c A n cap) Tsn)) W) => psize_any c A n cap xs W (H.out.below g) hw)
  obtain ⟨Z, hZ⟩ : ∃ Z, Z = 16 + wgt xs := ⟨_, rfl⟩
  rw [← hZ] at CS
  have HZ := Lib.hid hZ
  have hz6 : Z ≤ 1000016 := by omega
  clear h hZ
  rcases rgE_cases xs with hr | hr
  · have HO : Hid (enO c xs = enB c xs) := Lib.hid (by unfold enO; rw [if_pos hr])
    rw [hr] at CR
    rw [hr]
    clear hr
    generalize enO c xs = eo at *
    go_enter Try.func11, Try.ntmps11
    go_upto_region 1 with fail
    generalize w.alloc (.cells (snC c A n cap) Tsn) = W at *
    have x0 := q0.out.cell 0
    have x1 := q0.out.cell 1
    simp at x0 x1
    go_wp2_with (go_at_call 21; refine (CR.out _ (Below.refl _ _)).mono ?_; rintro e w1 ⟨rfl, g1⟩; refine stopHere ?_)
    unfold Stop
    have HB : w.heap.size ≤ W.heap.size := k0.out.size
    have hc32 : n < 4294967296 := by omega
    have q1 := Lib.hid (q0.out.below g1)
    replace x0 := celln g1 x0
    replace x1 := celln g1 x1
    obtain ⟨arr, hmk, hbr⟩ := make_bytes Z (by omega)
    go_upto_region 5 with (go_at_call 13; refine (CS.out _ g1).mono ?_; rintro e w2 ⟨rfl, g2⟩)
    have q2 := Lib.hid (q1.out.below g2)
    have g12 := kbq g1 g2
    have hs2 := g12.size
    clear x0 x1 q1 g1 g2 CS CR
    have G2 := Lib.hid (Gr.of g12 HB)
    have o0 := hbr w2 w.heap.size (by omega)
    have E0 : Ec w.heap.size (snC c A n cap) W (w2.alloc (.cells arr 5)) (.slice (some ⟨w2.heap.size, 0, none⟩) 0 Z) [] :=
      ⟨o0, q2.out.alloc _, G2.out.trans (Gr.of (base := w.heap.size) ((Below.refl _ w2).alloc (Nat.le_refl _) (.cells arr 5)) (by omega)), by simp; omega⟩
    replace E0 := Lib.hid E0
    clear hmk hbr q2 G2 o0
    generalize w2.alloc (.cells arr 5) = W3 at *
    generalize Value.slice (some ⟨w2.heap.size, 0, none⟩) 0 Z = v0 at *
    go_upto_region 6 with (refine wpList_app_str _ rfl _ _ rfl w.heap.size v0 [] rfl E0.out.own ⟨#[84, 76, 82, 49]⟩ rfl (by decide) E0.out.le ?_; intro v1 w4 o1 gr1)
    have E1 := E0.out.step o1 (Gr.row E0.out.own E0.out.le gr1)
    rw [show ([] ++ lb ⟨#[84, 76, 82, 49]⟩ : List UInt8) = mg from rfl] at E1
    replace E1 := Lib.hid E1
    clear E0 o1 gr1
    have x0 := E1.out.blk.cell 0
    simp at x0
    go_upto_region 7 with (go_at_call 22; refine (E1.out.put c 8 hc (by decide) (by decide) (by decide)).mono ?_; rintro e w5 ⟨v2, rfl, E2, _⟩)
    replace E2 := Lib.hid E2
    clear E1 x0
    have x1 := E2.out.blk.cell 1
    simp at x1
    have hwn : IntKind.u64.wrap (n : Int) = (n : Int) := by rw [IntKind.wrap_u64]; omega
    go_upto_region 8 with (go_at_call 22; refine (E2.out.put n 4 (by omega) (by decide) (by decide) (by rw [List.length_append, be_len]; decide)).mono ?_; rintro e w6 ⟨v3, rfl, E3, _⟩)
    replace E3 := Lib.hid E3
    clear E2 x1 hwn
    have x1 := E3.out.blk.cell 1
    simp at x1
    go_wp2_with fail
    clear x1
    have HLN := Lib.hid (fun (k : Nat) => (show (mg ++ be 8 c ++ be 4 n ++ enL (xs.take k)).length ≤ 1000016 by
      rw [List.length_append, List.length_append, List.length_append, be_len, be_len, enL_len]; have := HT.out k; show 4 + 8 + 4 + _ ≤ _; omega))
    go_loopw [5, 7, 32] (fun s5 s7 s32 wr => ∃ (k : Nat) (v p : Value), s5 = v ∧ s7 = p ∧ s32 = .int .i64 (k : Int) ∧ k ≤ n ∧ Ec w.heap.size (snC c A n cap) W wr v (mg ++ be 8 c ++ be 4 n ++ enL (xs.take k))) (fun _ _ s32 _ => n - (intOf s32).toNat)
    case atStart => exact ⟨0, _, _, rfl, rfl, rfl, by omega, by have z := E3.out; rw [List.take_zero, show enL [] = [] from rfl, List.append_nil]; exact z⟩
    case round =>
      obtain ⟨k, v, p, rfl, rfl, rfl, hk, E⟩ := hrel
      by_cases hlt : k < n
      · obtain ⟨b, off, rfl, hb, hcc⟩ := (H0.out.below (k0.out.trans E.gr.below)).2 (by omega)
        obtain ⟨c0, c1⟩ := hcc k hlt
        have hkm := atE_mem (xs := xs) (k := k) (by rw [HL.out]; exact hlt)
        have hkx := key_size hkm hw
        have hux := hu _ hkm
        have HWk := Lib.hid (HW.out k hlt)
        have hln := HLN.out k
        clear hcc hkm
        generalize hX : atE xs k = x at *
        generalize hAC : mg ++ be 8 c ++ be 4 n ++ enL (xs.take k) = ac at *
        have HAC := Lib.hid hAC
        obtain ⟨s, u⟩ := x
        dsimp only at c0 c1 hkx HWk hux
        have q1 := Lib.hid (Blk.new wr (En.cs (s, u)) Tae)
        have F0 := Lib.hid (E.bel ((Below.refl _ wr).alloc (Nat.le_refl _) (.cells (En.cs (s, u)) Tae)))
        clear hX hAC HW HLN HT H H0 hu
        go_upto_region 11 with fail
        clear E c0 c1
        generalize wr.alloc (.cells #[.string s, .int .u64 (u : Int)] Tae) = W1 at *
        obtain ⟨y0, y1⟩ := q1.out.two
        dsimp only at y0 y1
        have hws : IntKind.u64.wrap (s.size : Int) = (s.size : Int) := by rw [IntKind.wrap_u64]; omega
        go_upto_region 12 with (go_at_call 22; refine (F0.out.put s.size 1 (by omega) (by decide) (by decide) (by omega)).mono ?_; rintro e W2 ⟨u1, rfl, F1, gr1⟩)
        have q2 := Lib.hid (gr1.blk (by decide) q1.out)
        replace F1 := Lib.hid F1
        clear F0 y0 y1 gr1 hws q1
        obtain ⟨y0, y1⟩ := q2.out.two
        dsimp only at y0 y1
        have hl1 : (ac ++ be 1 s.size).length ≤ 1000017 := by rw [List.length_append, be_len]; omega
        go_upto_region 13 with (refine wpList_app_str _ rfl _ _ rfl w.heap.size _ (ac ++ be 1 s.size) rfl F1.out.own s rfl (by omega) F1.out.le ?_; intro u2 W3 o1 gr1)
        have F2 := Lib.hid (F1.out.step o1 (Gr.row F1.out.own F1.out.le gr1))
        have q3 := Lib.hid ((Gr.row F1.out.own F1.out.le gr1).blk (by decide) q2.out)
        clear F1 y0 y1 gr1 q2 o1
        obtain ⟨y0, y1⟩ := q3.out.two
        dsimp only at y0 y1
        have hl2 : (ac ++ be 1 s.size ++ lb s).length ≤ 2000017 := by rw [List.length_append, list_size]; omega
        go_upto_region 14 with (go_at_call 22; refine (F2.out.put u 8 hux (by decide) (by decide) (by omega)).mono ?_; rintro e W4 ⟨u3, rfl, F3, gr1⟩)
        go_wp2
        go_roundw
        case rel =>
          refine ⟨k + 1, _, _, rfl, rfl, by go_num, by omega, ?_⟩
          rw [HWk.out, ← List.append_assoc, HAC.out]
          have z : ac ++ enE (s, u) = ac ++ be 1 s.size ++ lb s ++ be 8 u := by simp [enE]
          rw [z]; exact F3
        case measure => simp [intOf]; omega
      · obtain rfl : k = n := by omega
        rw [List.take_of_length_le (by rw [HL.out]; exact Nat.le_refl _)] at E
        have hE : mg ++ be 8 c ++ be 4 k ++ enL xs = eo := by rw [HO.out, enB, HL.out]
        rw [hE] at E
        clear hE HLN HW HT H0 H
        go_wp2
        refine bodyPost_ret (v := .tuple #[_, .int .u16 0]) ?_ rfl ⟨_, rfl, E.own, k0.out.trans E.gr.below⟩
        simp [results, Try.results11, go_sem]
  · have HO : Hid (enO c xs = []) := Lib.hid (by unfold enO; rw [if_neg (by omega)])
    have hr0 : rgE xs ≠ 0 := by omega
    have hrb : rgE xs < 65536 := by omega
    rw [HO.out]
    clear hr HO
    generalize rgE xs = R at *
    have hd : ((R : Int) != 0) = true := by simp; omega
    go_enter Try.func11, Try.ntmps11
    go_upto_region 1 with fail
    generalize w.alloc (.cells (snC c A n cap) Tsn) = W at *
    have x0 := q0.out.cell 0
    have x1 := q0.out.cell 1
    simp at x0 x1
    go_wp2_with (go_at_call 21; refine (CR.out _ (Below.refl _ _)).mono ?_; rintro e w1 ⟨rfl, g1⟩)
    refine bodyPost_ret (v := .tuple #[.slice none 0 0, .int .u16 (R : Int)]) ?_ rfl ⟨_, rfl, BRow.nil _ _, kbq k0.out g1⟩
    simp [results, Try.results11, go_sem]
end Go.Proofs.Ytbejkcdaefkibaa.Wd
