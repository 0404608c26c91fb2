/- What a snapshot of choices is (tollerlaw16.Snap): right entries that rise, ten at most; no conditions but those that each names. -/
import Derived.Test.YtbejkcdaefkibaaPacP
namespace Go.Proofs.Ytbejkcdaefkibaa.Wd
open Go Go.RowKit Go.Shelf Go.Deep Go.Lib
set_option linter.unusedVariables false
set_option maxRecDepth 100000

abbrev sn0 : Array Value := #[.int .u64 0, .slice none 0 0]
/-- A snapshot that is built: its result's block, its own, and its row. -/
structure Si (w wr : World) (c : Nat) (v : Value) (xs : List En) : Prop where
  b6 : Blk wr w.heap.size sn0 Tsn
  b7 : Blk wr (w.heap.size + 1) #[.int .u64 (c : Int), v] Tsn
  own : OwE wr (w.heap.size + 2) v xs
  bel : Below w.heap.size w wr
theorem Si.next {w wr w' : World} {c : Nat} {v : Value} {xs : List En} (h : Si w wr c v xs) (g : Below wr.heap.size wr w') : Si w w' c v xs := ⟨h.b6.below g, h.b7.below g, h.own.below g, kbq h.bel g⟩
theorem Si.size {w wr : World} {c : Nat} {v : Value} {xs : List En} (h : Si w wr c v xs) : w.heap.size + 2 ≤ wr.heap.size := by have := h.b7.lt; omega
theorem Si.far {w wr w' : World} {c : Nat} {v : Value} {xs : List En} (h : Si w wr c v xs) (g : Tch (fun b => wr.heap.size ≤ b) wr w') : Si w w' c v xs := h.next (g.below (Nat.le_refl _) (fun k e => e))

/-- A row that is built anew. -/
structure Lo (wd wr : World) (v : Value) (acc : List En) : Prop where
  own : OwE wr wd.heap.size v acc
  bel : Below wd.heap.size wd wr
theorem Lo.size {wd wr : World} {v : Value} {acc : List En} (h : Lo wd wr v acc) : wd.heap.size ≤ wr.heap.size := h.bel.size
theorem Lo.nil (wd : World) : Lo wd wd (.slice none 0 0) [] := ⟨OwE.nil _ _, Below.refl _ _⟩
theorem Lo.app {wd a b : World} {v v' : Value} {acc acc' : List En} (h : Lo wd a v acc) (o : OwE b wd.heap.size v' acc') (g : a.grownBy b v.ownBlock) : Lo wd b v' acc' :=
  ⟨o, h.bel.trans ((Tch.own h.own g).below h.size (fun k e => e))⟩
theorem Lo.next {wd a b : World} {v : Value} {acc : List En} (h : Lo wd a v acc) (g : Below a.heap.size a b) : Lo wd b v acc := ⟨h.own.below g, kbq h.bel g⟩
theorem atE_len {xs : List En} {k : Nat} (h : k < xs.length) {kk : Nat} (O : Okx kk xs) : (atE xs k).1.size ≤ 12 := (O.sz _ (atE_mem h)).1

theorem text_same {a b : ByteArray} : (a.toList == b.toList) = decide (a = b) := by
  rw [Bool.eq_iff_iff, beq_iff_eq, decide_eq_true_eq, ByteArray.toList_eq, ByteArray.toList_eq]
  constructor
  · intro h; rw [← str_lb a, ← str_lb b, lb, lb, h]
  · intro h; rw [h]
/-- A test tells this. -/
def Tst (t : Bool) (p : Prop) : Prop := t = true ↔ p
set_option maxHeartbeats 8000000 in
theorem snap_any (c : Nat) (A : Option Addr) (n cap : Nat) (F : Option Addr) (m fcap : Nat) (w : World) (hc : c < 18446744073709551616) (h : Rws w A n) (hn : n ≤ 9223372036854775807) (hF : U16s w F m) (hm : m ≤ 9223372036854775807) :
    Calls Try.prog 6 #[.int .u64 (c : Int), .slice A n cap, .slice F m fcap] w fun e w' => ∃ B k d xs, e = .returned (snV c B k d) ∧ OwE w' w.heap.size (.slice B k d) xs ∧ Hid (Okx 10 xs) ∧ Below w.heap.size w w' := by
  have s0 : Si w ((w.alloc (.cells sn0 Tsn)).alloc (.cells #[.int .u64 (c : Int), .slice none 0 0] Tsn)) c (.slice none 0 0) [] := by
    have k0 := (((Below.refl _ w).alloc (Nat.le_refl _) (.cells sn0 Tsn)).alloc (by simp) (.cells #[.int .u64 (c : Int), .slice none 0 0] Tsn))
    have q := Blk.new (w.alloc (.cells sn0 Tsn)) #[.int .u64 (c : Int), .slice none 0 0] Tsn
    rw [show (w.alloc (.cells sn0 Tsn)).heap.size = w.heap.size + 1 by simp] at q
    exact ⟨(Blk.new w _ Tsn).alloc _, q, OwE.nil _ _, k0⟩
  replace s0 := Lib.hid s0
  have H := Lib.hid h
  have HF := Lib.hid hF
  clear h hF
  go_enter Try.func6, Try.ntmps6
  go_wp2_with fail
  generalize (w.alloc (.cells sn0 Tsn)).alloc (.cells #[.int .u64 (c : Int), .slice none 0 0] Tsn) = W at *
  go_loopw [8, 9, 10, 11] (fun s8 s9 s10 s11 wr => ∃ (k : Nat) (v v9 v10 v11 : Value) (xs : List En), s8 = .int .i64 (k : Int) ∧ s9 = v9 ∧ s10 = v10 ∧ s11 = v11 ∧ k ≤ n ∧ k ≤ 10 ∧ Si w wr c v xs ∧ Hid (Okx k xs)) (fun s8 _ _ _ _ => 10 - (intOf s8).toNat)
  case atStart => exact ⟨0, _, _, _, _, [], rfl, rfl, rfl, rfl, by omega, by omega, s0.out, Lib.hid Okx.nil⟩
  case round =>
    obtain ⟨k, v, v9, v10, v11, xs, rfl, rfl, rfl, rfl, hk, hk10, S, O⟩ := hrel
    clear s0
    by_cases hgo : k < n ∧ k < 10
    · obtain ⟨h1, h2⟩ := hgo
      have d1 : decide ((k : Int) < (n : Int)) = true := decide_eq_true (by omega)
      have d2 : decide ((k : Int) < 10) = true := decide_eq_true (by omega)
      obtain ⟨bA, oA, A', n', c', rfl, hcA, hn', hby⟩ := (H.out.below S.bel) k h1
      have CK := Lib.hid (fun W' (g : Below wr.heap.size wr W') => key_any A' n' c' W' (hby.below g) hn')
      obtain ⟨u1, hu1⟩ : ∃ u1 : Nat, IntKind.u64.wrap ((c : Int) + 1) = (u1 : Int) := ⟨(IntKind.u64.wrap ((c : Int) + 1)).toNat, by rw [IntKind.wrap_u64]; omega⟩
      have hu1b : u1 < 18446744073709551616 := by rw [IntKind.wrap_u64] at hu1; omega
      have SS := Lib.hid S
      have hsz := S.size
      clear S hby
      go_upto_region 6 with (go_at_call 14; refine (CK.out _ (Below.refl _ _)).mono ?_; rintro e w1 ⟨s, rfl, hs, hs12, g1⟩)
      have q1 := Lib.hid (Blk.new w1 (En.cs (s, u1)) Tae)
      have T1 := Lib.hid ((Tch.of (S := fun b => wr.heap.size ≤ b) (g1.alloc g1.size (.cells (En.cs (s, u1)) Tae))))
      have F1 := Lib.hid ((HF.out.below (SS.out.bel)).below (g1.alloc g1.size (.cells (En.cs (s, u1)) Tae)))
      have hXb := g1.size
      clear CK hcA g1 hn'
      generalize hX : w1.heap.size = X at *
      generalize w1.alloc (.cells #[.string s, .int .u64 (u1 : Int)] Tae) = W1 at *
      go_upto_if 35 with fail
      go_cut [43] from 36 to 43 (fun _ wx => ∃ u : Nat, Hid (u < 18446744073709551616) ∧ Hid (Blk wx X (En.cs (s, u)) Tae) ∧ Hid (Tch (fun b => wr.heap.size ≤ b) wr wx))
      case first =>
        by_cases hlt : k < m
        rotate_left
        · go_wp2
          go_meet
          case rel => exact ⟨u1, Lib.hid hu1b, q1, T1⟩
        · have hltI : (k : Int) < (m : Int) := by omega
          obtain ⟨bF, oF, vF, rfl, hcF, hvF⟩ := F1.out k hlt
          obtain ⟨u2, hu2⟩ : ∃ u2 : Nat, IntKind.u64.wrap ((c : Int) + (vF : Int)) = (u2 : Int) := ⟨(IntKind.u64.wrap ((c : Int) + (vF : Int))).toNat, by rw [IntKind.wrap_u64]; omega⟩
          have hu2b : u2 < 18446744073709551616 := by rw [IntKind.wrap_u64] at hu2; omega
          have hwF : IntKind.u64.wrap (vF : Int) = (vF : Int) := by rw [IntKind.wrap_u64]; omega
          obtain ⟨y0, y1⟩ := q1.out.two
          have z1 := q1.out.fz 1
          dsimp only at y0 y1
          clear F1 HF
          go_wp2
          go_meet
          case rel =>
            refine ⟨u2, Lib.hid hu2b, Lib.hid ?_, Lib.hid (T1.out.trans (Tch.set _ _ _ _ (by omega)))⟩
            have z := q1.out.set 1 (.int .u64 (u2 : Int))
            exact z
      case rest =>
      obtain ⟨u, hub, q2, T2⟩ := hcut
      have S2 := Lib.hid (SS.out.far T2.out)
      have hwc : w.heap.size + 2 ≤ wc.heap.size := S2.out.size
      clear T1 F1 q1 SS T2
      obtain ⟨Av, cv, rfl, hc1, hc2, hEn, hA0, hAs⟩ := S2.out.own.form2
      have HE := Lib.hid hEn
      have HA0 := Lib.hid hA0
      have HAs := Lib.hid hAs
      have hlen : xs.length ≤ 10 := by have := O.out.len; omega
      clear hEn hA0 hAs
      go_wp2_with fail
      go_loopw [10] (fun s10 wd => ∃ j : Nat, s10 = .int .i64 (j : Int) ∧ j ≤ xs.length ∧ Hid (∀ i, i < j → ls (lb (atE xs i).1) (lb s) = true) ∧ Drew wc wd) (fun s10 _ => xs.length - (intOf s10).toNat)
      case atStart => exact ⟨0, rfl, by omega, Lib.hid (fun i hi => absurd hi (by omega)), Drew.refl _⟩
      case round =>
        obtain ⟨j, rfl, hj, D, hd⟩ := hrel
        have S3 := Lib.hid (S2.out.next hd.kept.2)
        have q3 := Lib.hid (q2.out.below hd.kept.2)
        have E3 := Lib.hid (HE.out.below hd.kept.2)
        clear S2 q2 HE
        have x1 := S3.out.b7.cell 1
        simp at x1
        obtain ⟨y0, y1⟩ := q3.out.two
        dsimp only at y0 y1
        go_upto_region 9 with fail
        go_cut [59] from 44 to 59 (fun v wx => ∃ t : Bool, v = .bool t ∧ Hid (Tst t (j < xs.length ∧ ls (lb (atE xs j).1) (lb s) = true)) ∧ Drew wr wx)
        case first =>
          by_cases hjl : j < xs.length
          · obtain ⟨bv, ov, rfl, hbv, hcv⟩ := E3.out.2 (by omega)
            obtain ⟨e0, e1⟩ := hcv j hjl
            have hks := atE_len hjl O.out
            have d3 : decide ((j : Int) < (xs.length : Int)) = true := decide_eq_true (by omega)
            obtain ⟨r, hr⟩ : ∃ r, r = ls (lb (atE xs j).1) (lb s) := ⟨_, rfl⟩
            have L1 := Lib.hid (fun W' => rless_any (atE xs j).1 s W' (by omega) (by omega))
            rw [← hr] at L1
            have HR := Lib.hid hr
            clear hr
            obtain ⟨ky, hky⟩ : ∃ ky, ky = (atE xs j).1 := ⟨_, rfl⟩
            rw [← hky] at L1 e0 hks
            clear hcv hbv hky
            go_wp2_with fail
            go_quiet ((go_at_call 15; exact Calls.quiet_of (L1.out _)))
            go_wp2
            go_meet
            case rel => exact ⟨r, rfl, Lib.hid ⟨fun e => ⟨hjl, HR.out.symm.trans e⟩, fun e => HR.out.trans e.2⟩, ⟨_, rfl⟩⟩
          · have d3 : decide ((j : Int) < (xs.length : Int)) = false := decide_eq_false (by omega)
            go_wp2_with fail
            go_quiet (fail)
            go_wp2
            go_meet
            case rel => exact ⟨false, rfl, Lib.hid ⟨(fun e => by cases e), fun e => absurd e.1 hjl⟩, ⟨_, rfl⟩⟩
        case rest =>
        obtain ⟨t, rfl, ht, hdr⟩ := hcut
        cases t with
        | true =>
          obtain ⟨g1, g2⟩ := ht.out.1 rfl
          clear S3 q3 E3 x1 y0 y1
          go_wp2
          go_roundw
          case rel =>
            refine ⟨j + 1, by go_num, by omega, Lib.hid (fun i hi => ?_), hd.trans hdr⟩
            by_cases e : i = j
            · subst e; exact g2
            · exact D.out i (by omega)
          case measure => simp [intOf]; omega
        | false =>
          have hno : Hid (j < xs.length → ls (lb (atE xs j).1) (lb s) = false) := Lib.hid (fun g => by
            cases e : ls (lb (atE xs j).1) (lb s) with
            | false => rfl
            | true => exact absurd (ht.out.2 ⟨g, e⟩) (by decide))
          have S4 := Lib.hid (S3.out.next hdr.kept.2)
          have q4 := Lib.hid (q3.out.below hdr.kept.2)
          have E4 := Lib.hid (E3.out.below hdr.kept.2)
          clear S3 q3 E3 x1 y0 y1 ht hdr
          have x1 := S4.out.b7.cell 1
          simp at x1
          obtain ⟨y0, y1⟩ := q4.out.two
          dsimp only at y0 y1
          go_upto_region 11 with fail
          go_cut [77] from 62 to 77 (fun v wx => ∃ t : Bool, v = .bool t ∧ Hid (Tst t (j < xs.length ∧ (atE xs j).1 = s)) ∧ Drew wc wx)
          case first =>
            by_cases hjl : j < xs.length
            · obtain ⟨bv, ov, rfl, hbv, hcv⟩ := E4.out.2 (by omega)
              obtain ⟨e0, e1⟩ := hcv j hjl
              have d3 : decide ((j : Int) < (xs.length : Int)) = true := decide_eq_true (by omega)
              obtain ⟨ky, hky⟩ : ∃ ky, ky = (atE xs j).1 := ⟨_, rfl⟩
              rw [← hky] at e0
              have HKY := Lib.hid hky
              clear hcv hbv hky
              go_wp2_with fail
              go_quiet (fail)
              go_wp2
              go_meet
              case rel => exact ⟨decide (ky = s), by rw [text_same], Lib.hid ⟨fun e => ⟨hjl, HKY.out.symm.trans (of_decide_eq_true e)⟩, fun e => decide_eq_true (HKY.out.trans e.2)⟩, ⟨_, rfl⟩⟩
            · have d3 : decide ((j : Int) < (xs.length : Int)) = false := decide_eq_false (by omega)
              go_wp2_with fail
              go_quiet (fail)
              go_wp2
              go_meet
              case rel => exact ⟨false, rfl, Lib.hid ⟨(fun e => by cases e), fun e => absurd e.1 hjl⟩, ⟨_, rfl⟩⟩
          case rest =>
          obtain ⟨t, rfl, ht, hdr⟩ := hcut
          have S5 := Lib.hid (S4.out.next hdr.kept.2)
          have q5 := Lib.hid (q4.out.below hdr.kept.2)
          have E5 := Lib.hid (E4.out.below hdr.kept.2)
          clear S4 q4 E4 x1 y0 y1
          cases t with
          | true =>
            go_wp2
            go_roundw
            case rel => exact ⟨k + 1, _, _, _, _, xs, by go_num, rfl, rfl, rfl, by omega, by omega, S5.out, Lib.hid O.out.next⟩
            case measure => simp [intOf]; omega
          | false =>
            have OI : Hid (Okx (k + 1) (xs.take j ++ [(s, u)] ++ xs.drop j)) := Lib.hid (O.out.ins hs.out hub.out hj D.out (fun hlt => ⟨hno.out hlt, fun e => absurd (ht.out.2 ⟨hlt, e⟩) (by decide)⟩))
            clear ht hno D O
            have hfr := eslice_front Av xs.length cv j (by omega) hc2
            obtain ⟨A2, hbk, hbE, hbn, hbs⟩ := eslice_rest Av xs.length cv j hj hc1 HA0.out
            have HE6 := Lib.hid (E5.out.front hj)
            have HE7 := Lib.hid (hbE wc xs E5.out)
            have HBS := Lib.hid (hbs HAs.out)
            have HBN := Lib.hid hbn
            have L0 := Lib.hid (Lo.nil wc)
            have hwb : w.heap.size + 2 ≤ wc.heap.size := S5.out.size
            have hXw : X < wc.heap.size := q5.out.lt
            clear hbE hbs hbn E5
            have x1 := S5.out.b7.cell 1
            simp at x1
            go_upto_region 14 with (refine wpList_app_en _ rfl _ _ rfl wc.heap.size _ [] rfl L0.out.own Av j cv (xs.take j) rfl HE6.out HA0.out HAs.out (by simp; omega) (Nat.le_refl _) ?_; intro v4 w4 o4 g4)
            have L1 := Lib.hid (L0.out.app o4 g4)
            rw [List.nil_append] at L1
            have q6 := Lib.hid (q5.out.below L1.out.bel)
            clear L0 o4 g4 x1 q5
            obtain ⟨y0, y1⟩ := q6.out.two
            dsimp only at y0 y1
            have NE := Lib.hid (ens_one w4 (s, u))
            have L2 := Lib.hid (L1.out.next ((Below.refl _ w4).alloc (Nat.le_refl _) (.cells (En.cs (s, u)) Tae)))
            have hb2 : wc.heap.size ≤ (w4.alloc (.cells (En.cs (s, u)) Tae)).heap.size := L2.out.size
            have hl2 : (xs.take j).length + 1 ≤ 1099511627776 := by rw [List.length_take]; omega
            go_upto_region 15 with (refine wpList_app_en _ rfl _ _ rfl wc.heap.size _ (xs.take j) rfl L2.out.own (some ⟨w4.heap.size, 0, none⟩) 1 1 [(s, u)] rfl NE.out (fun e => by cases e) (fun ad e => by cases e; rfl) hl2 hb2 ?_; intro v5 w5 o5 g5)
            have L3 := Lib.hid (L2.out.app o5 g5)
            clear L1 L2 NE o5 g5 y0 y1 q6
            have S6 := Lib.hid (S5.out.next L3.out.bel)
            have x1 := S6.out.b7.cell 1
            simp at x1
            have HE8 := Lib.hid (HE7.out.below L3.out.bel)
            have hb3 : wc.heap.size ≤ w5.heap.size := L3.out.size
            have hl3 : (xs.take j ++ [(s, u)]).length + (xs.length - j) ≤ 1099511627776 := by simp; omega
            go_upto_region 16 with (refine wpList_app_en _ rfl _ _ rfl wc.heap.size _ (xs.take j ++ [(s, u)]) rfl L3.out.own A2 (xs.length - j) (cv - j) (xs.drop j) rfl HE8.out HBN.out HBS.out hl3 hb3 ?_; intro v6 w6 o6 g6)
            have L4 := Lib.hid (L3.out.app o6 g6)
            clear L3 o6 g6 x1 S6 HE8
            obtain ⟨A6, c6, rfl, _, _, _, _, _⟩ := L4.out.own.form2
            generalize hL6 : (xs.take j ++ [(s, u)] ++ xs.drop j).length = n6 at *
            have S7 := Lib.hid (S5.out.next L4.out.bel)
            have x1 := S7.out.b7.cell 1
            have f1 := S7.out.b7.fz 1
            simp at x1
            go_wp2
            go_roundw
            case rel =>
              refine ⟨k + 1, .slice A6 n6 c6, _, _, _, xs.take j ++ [(s, u)] ++ xs.drop j, by go_num, rfl, rfl, rfl, by omega, by omega, ?_, OI⟩
              have tt := Tch.set (S := fun b => b = w.heap.size + 1) w6 (w.heap.size + 1) 1 (.slice A6 n6 c6) rfl
              refine ⟨S7.out.b6.other _ _ (by omega), by have z := S7.out.b7.set 1 (.slice A6 n6 c6); exact z, ?_, S7.out.bel.setCell (p := ⟨w.heap.size + 1, 1, none⟩) (Nat.le_succ _) _⟩
              exact OwE.mono (own_tch L4.out.own tt (fun kk hk _ e => by omega)) hwb
            case measure => simp [intOf]; omega
    · have O2 : Hid (Okx 10 xs) := Lib.hid ⟨O.out.up, by have := O.out.len; omega, O.out.sz⟩
      have HS := Lib.hid S
      obtain ⟨Av, cv, rfl, _, _, _, _, _⟩ := HS.out.own.form2
      have x0 := HS.out.b7.cell 0
      have x1 := HS.out.b7.cell 1
      have z0 := HS.out.b6.cell 0
      have z1 := HS.out.b6.cell 1
      have f0 := HS.out.b6.fz 0
      have f1 := HS.out.b6.fz 1
      simp at x0 x1 z0 z1
      clear S O H HF
      by_cases hkn : k < n
      · have d1 : decide ((k : Int) < (n : Int)) = true := decide_eq_true (by omega)
        have d2 : decide ((k : Int) < 10) = false := decide_eq_false (by omega)
        go_wp2
        have z := (HS.out.b6.set 0 (.int .u64 (c : Int))).set 1 (.slice Av xs.length cv)
        have y0 := z.cell 0
        have y1 := z.cell 1
        simp at y0 y1
        have tt : Tch (fun b => b = w.heap.size) wr ((wr.setCell ⟨w.heap.size, 0, none⟩ (.int .u64 (c : Int))).setCell ⟨w.heap.size, 1, none⟩ (.slice Av xs.length cv)) := tset (tset (Tch.refl _ _) (.inl rfl)) (.inl rfl)
        refine bodyPost_ret (v := snV c Av xs.length cv) ?_ rfl ⟨Av, xs.length, cv, xs, rfl, OwE.mono (own_tch HS.out.own tt (fun kk hk _ e => by omega)) (Nat.le_add_right _ 2), O2, (HS.out.bel.setCell (p := ⟨w.heap.size, 0, none⟩) (Nat.le_refl _) _).setCell (p := ⟨w.heap.size, 1, none⟩) (Nat.le_refl _) _⟩
        simp [results, Try.f6, go_sem, y0, y1]
      · have d1 : decide ((k : Int) < (n : Int)) = false := decide_eq_false (by omega)
        go_wp2
        have z := (HS.out.b6.set 0 (.int .u64 (c : Int))).set 1 (.slice Av xs.length cv)
        have y0 := z.cell 0
        have y1 := z.cell 1
        simp at y0 y1
        have tt : Tch (fun b => b = w.heap.size) wr ((wr.setCell ⟨w.heap.size, 0, none⟩ (.int .u64 (c : Int))).setCell ⟨w.heap.size, 1, none⟩ (.slice Av xs.length cv)) := tset (tset (Tch.refl _ _) (.inl rfl)) (.inl rfl)
        refine bodyPost_ret (v := snV c Av xs.length cv) ?_ rfl ⟨Av, xs.length, cv, xs, rfl, OwE.mono (own_tch HS.out.own tt (fun kk hk _ e => by omega)) (Nat.le_add_right _ 2), O2, (HS.out.bel.setCell (p := ⟨w.heap.size, 0, none⟩) (Nat.le_refl _) _).setCell (p := ⟨w.heap.size, 1, none⟩) (Nat.le_refl _) _⟩
        simp [results, Try.f6, go_sem, y0, y1]
end Go.Proofs.Ytbejkcdaefkibaa.Wd
