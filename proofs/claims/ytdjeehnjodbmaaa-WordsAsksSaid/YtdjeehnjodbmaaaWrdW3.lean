/- tollerlaw10.WordsBlanks answers true, for any row of bytes and any number of 8 bits; no conditions. -/
import Derived.Test.YtdjeehnjodbmaaaWrdX
import Derived.Test.YtdjeehnjodbmaaaWrdW2
namespace Go.Proofs.Ytdjeehnjodbmaaa.Wd
open Go Go.RowKit
set_option linter.unusedVariables false
set_option linter.unusedSimpArgs false

/-- A row of rows of words. -/
theorem WRows.row {w : World} {v : Value} {wss : List (List Wo)} (h : WRows w v wss) {k : Nat} {ws : List Wo} (hk : wss[k]? = some ws) (hne : ws ≠ []) :
    ∃ g c h d, v = .slice (some ⟨g, 0, none⟩) wss.length c ∧ w.cell? ⟨g, k, none⟩ = some (.slice (some ⟨h, 0, none⟩) ws.length d) ∧ (k < wss.length ∧ 0 < ws.length ∧ ws.length ≤ 9223372036854775807) ∧
      ∀ j x, ws[j]? = some x → w.cell? ⟨h, j * 3, none⟩ = some (.string (str x.1)) ∧ w.cell? ⟨h, j * 3 + 1, none⟩ = some (.int .i64 (x.2.1 : Int)) ∧ w.cell? ⟨h, j * 3 + 2, none⟩ = some (.int .i64 (x.2.2 : Int)) := by
  have hk' : k < wss.length := (List.getElem?_eq_some_iff.1 hk).1
  obtain ⟨g, c, rfl, _, hrow⟩ := h.form (by omega)
  obtain ⟨u, hu, hr⟩ := hrow k ws hk
  obtain ⟨h', d, rfl, _, hw⟩ := hr.form (List.length_pos_iff.2 hne)
  have hcap := own_caps hr
  exact ⟨g, c, h', d, rfl, hu, ⟨hk', List.length_pos_iff.2 hne, by omega⟩, hw⟩

set_option maxRecDepth 100000 in
set_option maxHeartbeats 2000000 in
theorem wordsBlanks_any (C : Option Addr) (N cap : Nat) (cs : List UInt8) (n : Int) (w : World) (hC : Txt w C N cs) (hN : N ≤ 9223372036854775807) (hn : 0 ≤ n ∧ n ≤ 255) :
    Calls Try.prog 8 #[.slice C N cap, .int .u8 n] w fun e w' => e = .returned (.bool true) ∧ Below w.heap.size w w' := by
  have C0 := Lib.hid known_any
  have K1 := Lib.hid (text_any C N cap cs w hC hN)
  have hl1 := tx_len cs
  obtain ⟨K, hK⟩ : ∃ K : Nat, n % 4 = (K : Int) := ⟨(n % 4).toNat, by omega⟩
  have hK4 : K < 4 := by omega
  clear hC
  go_enter Try.func8, Try.ntmps8
  go_wp2_with ((go_at_call 11; ((with_reducible refine K1.out.mono ?_); rintro e w1 ⟨v1, rfl, r1, g1⟩; refine stopHere ?_)))
  unfold Stop
  generalize htx : tx cs = t at *
  obtain ⟨A, c, rfl, hc, hT, hnone, hspot⟩ := r1.form2
  have HT := Lib.hid hT
  clear r1 K1 hT hnone hspot
  go_wp2
  go_loopw [6, 7] (fun v i wr => ∃ k : Nat, k ≤ t.length ∧ i = .int .i64 (k : Int) ∧ BRow wr w1.heap.size v (ins K (t.take k)) ∧ Below w1.heap.size w1 wr) (fun _ i _ => t.length - (intOf i).toNat)
  case atStart => exact ⟨0, Nat.zero_le _, rfl, BRow.nil _ _, Below.refl _ _⟩
  case round =>
    obtain ⟨k, hk, rfl, own, hB⟩ := hrel
    by_cases hlt : k < t.length
    · obtain ⟨b, off, rfl, hb, hcell⟩ := HT.out.2 (by omega)
      have hx1 := hcell k hlt
      have HF := ins_take K t k hlt
      have hlen : (ins K (t.take k)).length ≤ 2240 := by
        have h1 := ins_len K (t.take k)
        have h2 : (t.take k).length ≤ k := List.length_take_le _ _
        have h3 : (K + 1) * (t.take k).length ≤ 4 * 560 := Nat.mul_le_mul (by omega) (by omega)
        omega
      have HO := Lib.hid own
      clear hcell own
      generalize ins K (t.take k) = acc at *
      generalize t.getD k 0 = x at *
      have HX := Lib.hid (fun (W : World) (hW : Below w1.heap.size w1 W) => (hW.cell (p := ⟨b, off + k, none⟩) hb).trans hx1)
      have hx := HX.out _ hB
      have HFF := Lib.hid HF
      clear HF hx1
      go_wp2_with ((at_builtin; refine stopHere ?_))
      unfold Stop
      have e0 := (Below.refl _ wr).alloc (Nat.le_refl _) (.cells #[.int .u8 (x.toNat : Int)] 5)
      refine wpList_app_bytes _ rfl _ _ rfl w1.heap.size _ acc rfl (HO.out.below e0) (some ⟨wr.heap.size, 0, none⟩) 1 1 [x] rfl (txt_one wr x) (fun e => by cases e) (fun ad e => by cases e; rfl) (by omega) (kbq hB e0).size ?_
      intro v2 w2 own2 grow2
      have hB2 : Below w1.heap.size w1 w2 := (kbq hB e0).grown grow2 (kbq hB e0).size (own_block HO.out)
      have hx2 := HX.out _ hB2
      have hxl := x.toNat_lt
      clear HO grow2 hx e0
      by_cases h32 : x = 32
      · have HF2 := HFF.out
        rw [if_pos (.inl h32)] at HF2
        have hx3 := hx2
        rw [h32] at hx3
        clear hx2 HX HFF h32
        have HO2 := Lib.hid own2
        clear own2
        go_wp2
        go_loopw [6, 8] (fun v i wr2 => ∃ j : Nat, j ≤ K ∧ i = .int .i64 (j : Int) ∧ BRow wr2 w1.heap.size v (acc ++ x :: blk j) ∧ Below w1.heap.size w1 wr2) (fun _ i _ => K - (intOf i).toNat)
        case atStart => exact ⟨0, Nat.zero_le _, rfl, HO2.out, hB2⟩
        case round =>
          obtain ⟨j, hj, rfl, own3, hB3⟩ := hrel
          have HO3 := Lib.hid own3
          by_cases hjK : j < K
          · have hl3 : (acc ++ x :: blk j).length ≤ 2250 := by rw [List.length_append, List.length_cons, blk_len]; omega
            clear own3
            rcases (show j % 2 = 0 ∨ j % 2 = 1 by omega) with hm | hm
            · have hj2 : (j : Int) % 2 = 0 := by omega
              have HJ := Lib.hid hm
              clear hm
              go_wp2_with ((at_builtin; refine stopHere ?_))
              unfold Stop
              have e3 := ((Below.refl _ wr).alloc (Nat.le_refl _) (.cells #[.int .u8 32, .int .u8 9] 5)).alloc (by simp) (.cells #[.int .u8 32] 5)
              refine wpList_app_bytes _ rfl _ _ rfl w1.heap.size _ (acc ++ x :: blk j) rfl (HO3.out.below e3) (some ⟨wr.heap.size + 1, 0, none⟩) 1 1 [32] rfl (by have := txt_one (wr.alloc (.cells #[.int .u8 32, .int .u8 9] 5)) 32; simpa using this) (fun e => by cases e) (fun ad e => by cases e; rfl) (by omega) (kbq hB3 e3).size ?_
              intro v4 w4 own4 grow4
              have hB4 : Below w1.heap.size w1 w4 := (kbq hB3 e3).grown grow4 (kbq hB3 e3).size (own_block HO3.out)
              have own5 : BRow w4 w1.heap.size v4 (acc ++ x :: blk (j + 1)) := by
                rw [blk_succ, if_pos (by have := HJ.out; omega)]
                rw [List.append_assoc, List.cons_append] at own4
                exact own4
              clear own4 grow4 HO3
              go_wp2
              go_roundw
              case rel => exact ⟨j + 1, by omega, by go_num, own5, hB4⟩
              case measure => simp [intOf]; omega
            · have hj2 : (j : Int) % 2 = 1 := by omega
              have HJ := Lib.hid hm
              clear hm
              go_wp2_with ((at_builtin; refine stopHere ?_))
              unfold Stop
              have e3 := ((Below.refl _ wr).alloc (Nat.le_refl _) (.cells #[.int .u8 32, .int .u8 9] 5)).alloc (by simp) (.cells #[.int .u8 9] 5)
              refine wpList_app_bytes _ rfl _ _ rfl w1.heap.size _ (acc ++ x :: blk j) rfl (HO3.out.below e3) (some ⟨wr.heap.size + 1, 0, none⟩) 1 1 [9] rfl (by have := txt_one (wr.alloc (.cells #[.int .u8 32, .int .u8 9] 5)) 9; simpa using this) (fun e => by cases e) (fun ad e => by cases e; rfl) (by omega) (kbq hB3 e3).size ?_
              intro v4 w4 own4 grow4
              have hB4 : Below w1.heap.size w1 w4 := (kbq hB3 e3).grown grow4 (kbq hB3 e3).size (own_block HO3.out)
              have own5 : BRow w4 w1.heap.size v4 (acc ++ x :: blk (j + 1)) := by
                rw [blk_succ, if_neg (by have := HJ.out; omega)]
                rw [List.append_assoc, List.cons_append] at own4
                exact own4
              clear own4 grow4 HO3
              go_wp2
              go_roundw
              case rel => exact ⟨j + 1, by omega, by go_num, own5, hB4⟩
              case measure => simp [intOf]; omega
          · obtain rfl : j = K := by omega
            have HO4 := own3
            rw [← HF2] at HO4
            clear own3
            go_wp2
            go_roundw
            case rel => exact ⟨k + 1, by omega, by go_num, HO4, hB3⟩
            case measure => simp [intOf]; omega
      · by_cases h10 : x = 10
        · have HF2 := HFF.out
          rw [if_pos (.inr h10)] at HF2
          have hx3 := hx2
          rw [h10] at hx3
          clear hx2 HX HFF h10 h32
          have HO2 := Lib.hid own2
          clear own2
          go_wp2
          go_loopw [6, 8] (fun v i wr2 => ∃ j : Nat, j ≤ K ∧ i = .int .i64 (j : Int) ∧ BRow wr2 w1.heap.size v (acc ++ x :: blk j) ∧ Below w1.heap.size w1 wr2) (fun _ i _ => K - (intOf i).toNat)
          case atStart => exact ⟨0, Nat.zero_le _, rfl, HO2.out, hB2⟩
          case round =>
            obtain ⟨j, hj, rfl, own3, hB3⟩ := hrel
            have HO3 := Lib.hid own3
            by_cases hjK : j < K
            · have hl3 : (acc ++ x :: blk j).length ≤ 2250 := by rw [List.length_append, List.length_cons, blk_len]; omega
              clear own3
              rcases (show j % 2 = 0 ∨ j % 2 = 1 by omega) with hm | hm
              · have hj2 : (j : Int) % 2 = 0 := by omega
                have HJ := Lib.hid hm
                clear hm
                go_wp2_with ((at_builtin; refine stopHere ?_))
                unfold Stop
                have e3 := ((Below.refl _ wr).alloc (Nat.le_refl _) (.cells #[.int .u8 32, .int .u8 9] 5)).alloc (by simp) (.cells #[.int .u8 32] 5)
                refine wpList_app_bytes _ rfl _ _ rfl w1.heap.size _ (acc ++ x :: blk j) rfl (HO3.out.below e3) (some ⟨wr.heap.size + 1, 0, none⟩) 1 1 [32] rfl (by have := txt_one (wr.alloc (.cells #[.int .u8 32, .int .u8 9] 5)) 32; simpa using this) (fun e => by cases e) (fun ad e => by cases e; rfl) (by omega) (kbq hB3 e3).size ?_
                intro v4 w4 own4 grow4
                have hB4 : Below w1.heap.size w1 w4 := (kbq hB3 e3).grown grow4 (kbq hB3 e3).size (own_block HO3.out)
                have own5 : BRow w4 w1.heap.size v4 (acc ++ x :: blk (j + 1)) := by
                  rw [blk_succ, if_pos (by have := HJ.out; omega)]
                  rw [List.append_assoc, List.cons_append] at own4
                  exact own4
                clear own4 grow4 HO3
                go_wp2
                go_roundw
                case rel => exact ⟨j + 1, by omega, by go_num, own5, hB4⟩
                case measure => simp [intOf]; omega
              · have hj2 : (j : Int) % 2 = 1 := by omega
                have HJ := Lib.hid hm
                clear hm
                go_wp2_with ((at_builtin; refine stopHere ?_))
                unfold Stop
                have e3 := ((Below.refl _ wr).alloc (Nat.le_refl _) (.cells #[.int .u8 32, .int .u8 9] 5)).alloc (by simp) (.cells #[.int .u8 9] 5)
                refine wpList_app_bytes _ rfl _ _ rfl w1.heap.size _ (acc ++ x :: blk j) rfl (HO3.out.below e3) (some ⟨wr.heap.size + 1, 0, none⟩) 1 1 [9] rfl (by have := txt_one (wr.alloc (.cells #[.int .u8 32, .int .u8 9] 5)) 9; simpa using this) (fun e => by cases e) (fun ad e => by cases e; rfl) (by omega) (kbq hB3 e3).size ?_
                intro v4 w4 own4 grow4
                have hB4 : Below w1.heap.size w1 w4 := (kbq hB3 e3).grown grow4 (kbq hB3 e3).size (own_block HO3.out)
                have own5 : BRow w4 w1.heap.size v4 (acc ++ x :: blk (j + 1)) := by
                  rw [blk_succ, if_neg (by have := HJ.out; omega)]
                  rw [List.append_assoc, List.cons_append] at own4
                  exact own4
                clear own4 grow4 HO3
                go_wp2
                go_roundw
                case rel => exact ⟨j + 1, by omega, by go_num, own5, hB4⟩
                case measure => simp [intOf]; omega
            · obtain rfl : j = K := by omega
              have HO4 := own3
              rw [← HF2] at HO4
              clear own3
              go_wp2
              go_roundw
              case rel => exact ⟨k + 1, by omega, by go_num, HO4, hB3⟩
              case measure => simp [intOf]; omega
        · have HF2 := HFF.out
          rw [if_neg (by rintro (h | h); exact h32 h; exact h10 h)] at HF2
          have d32 : ((x.toNat : Int) == 32) = false := beq_eq_false_iff_ne.2 (by intro e; exact h32 (UInt8.toNat_inj.1 (by show _ = 32; omega)))
          have d10 : ((x.toNat : Int) == 10) = false := beq_eq_false_iff_ne.2 (by intro e; exact h10 (UInt8.toNat_inj.1 (by show _ = 10; omega)))
          rw [← HF2] at own2
          have HO2 := Lib.hid own2
          clear own2 HX HFF h10 h32
          go_wp2
          go_roundw
          case rel => exact ⟨k + 1, by omega, by go_num, HO2.out, hB2⟩
          case measure => simp [intOf]; omega
    · obtain rfl : k = t.length := by omega
      rw [List.take_length] at own
      have hlen : (ins K t).length ≤ 2240 := by
        have h1 := ins_len K t
        have h3 : (K + 1) * t.length ≤ 4 * 560 := Nat.mul_le_mul (by omega) (by omega)
        omega
      obtain ⟨hEE, hLe⟩ := spl_ins K t (by omega) (by omega)
      obtain ⟨B, d, rfl, hd, hT2, _, _⟩ := own.form2
      obtain ⟨E, hE⟩ : ∃ E : Nat, (spl t).er = E := ⟨_, rfl⟩
      have S1 := Lib.hid (split_er A t.length c t wr (HT.out.below hB) hc.1 hc.2 E hE)
      have S2 := Lib.hid (fun (W : World) (hW : Below wr.heap.size wr W) => split_er B (ins K t).length d (ins K t) W (hT2.below hW) hd.1 hd.2 E (hEE.symm.trans hE))
      have NX := Lib.hid (spl_ne t)
      have NY := Lib.hid (spl_ne (ins K t))
      have cX := spl_count t
      have HL := Lib.hid hLe
      have hlXY := hLe.len
      clear own hT2 hEE hE hLe
      generalize (spl t).rows = X at *
      generalize (spl (ins K t)).rows = Y at *
      generalize (ins K t).length = ns at *
      go_wp2_with (go_at_call 14; first
        | ((with_reducible refine S1.out.mono ?_); rintro e w5 ⟨x5, l5, c5, rfl, hX, g5⟩; have e5 := (Below.refl _ w5).alloc (Nat.le_refl _) (.cells #[.int .i64 l5, .int .i64 c5] 34))
        | ((with_reducible refine (S2.out _ (kbq g5 e5)).mono ?_); rintro e w6 ⟨x6, l6, c6, rfl, hY, g6⟩; refine stopHere ?_))
      unfold Stop
      have e6 := (Below.refl _ w6).alloc (Nat.le_refl _) (.cells #[.int .i64 l6, .int .i64 c6] 34)
      have hX1 := (hX.below (kbq e5 g6)).below e6
      have hY1 := hY.below e6
      have gT := kbq (kbq (kbq (kbq g1 hB) g5) (kbq e5 g6)) e6
      obtain ⟨Ax, kx, rfl⟩ := hX1.slice
      obtain ⟨Ay, ky, rfl⟩ := hY1.slice
      have HX := Lib.hid hX1
      have HY := Lib.hid hY1
      rw [← hlXY]
      clear hX hY S1 S2 hX1 hY1
      go_wp2
      generalize w6.alloc (.cells #[.int .i64 l6, .int .i64 c6] 34) = W at *
      go_loopw [15] (fun i wr2 => ∃ k : Nat, k ≤ X.length ∧ i = .int .i64 (k : Int) ∧ Below W.heap.size W wr2) (fun i _ => X.length - (intOf i).toNat)
      case atStart => exact ⟨0, Nat.zero_le _, rfl, Below.refl _ _⟩
      case round =>
        obtain ⟨k, hk, rfl, hB2⟩ := hrel
        by_cases hltX : k < X.length
        · obtain ⟨ws, hws⟩ : ∃ ws, X[k]? = some ws := ⟨_, List.getElem?_eq_getElem hltX⟩
          obtain ⟨ws', hws', hle⟩ := LeLL.at k ws HL.out hws
          obtain ⟨gx, dx, hx, fx, ex, cx0, lx, cx⟩ := HX.out.row hws (NX.out ws (List.mem_of_getElem? hws))
          obtain ⟨gy, dy, hy, fy, ey, cy0, ly, cy⟩ := HY.out.row hws' (NY.out ws' (List.mem_of_getElem? hws'))
          simp only [Value.slice.injEq] at ex ey
          obtain ⟨rfl, -, rfl⟩ := ex
          obtain ⟨rfl, -, rfl⟩ := ey
          rw [← hle.len] at cy0
          have HLE := Lib.hid hle
          have HCX := Lib.hid cx
          have HCY := Lib.hid cy
          have CX0 := Lib.hid cx0
          have CY0 := Lib.hid cy0
          have dx0 := celln hB2 cx0
          have dy0 := celln hB2 cy0
          have hlw := lx.2.1
          have hlm := lx.2.2
          have hlk : (k : Int) < (X.length : Int) := by omega
          clear hle cx cy hws hws' lx ly cx0 cy0
          go_wp2
          go_quiet (fail)
          go_wp2
          clear dx0 dy0
          go_loopw [16] (fun i wr3 => ∃ j : Nat, j ≤ ws.length ∧ i = .int .i64 (j : Int) ∧ Below W.heap.size W wr3) (fun i _ => ws.length - (intOf i).toNat)
          case atStart => exact ⟨0, Nat.zero_le _, rfl, below_drewN hB2 _⟩
          case round =>
            obtain ⟨j, hj, rfl, hB3⟩ := hrel
            have dx0 := celln hB3 CX0.out
            have dy0 := celln hB3 CY0.out
            by_cases hjl : j < ws.length
            · obtain ⟨⟨t0, n0, c0⟩, hx0⟩ : ∃ x, ws[j]? = some x := ⟨_, List.getElem?_eq_getElem hjl⟩
              obtain ⟨⟨t1, n1, c1⟩, hy0, q1, q2, q3⟩ := LeL.at j _ HLE.out hx0
              obtain ⟨a1, a2, a3⟩ := HCX.out j _ hx0
              obtain ⟨b1, b2, b3⟩ := HCY.out j _ hy0
              simp only at q1 q2 q3
              subst q1 q2
              replace a1 := celln hB3 a1
              replace a2 := celln hB3 a2
              replace a3 := celln hB3 a3
              replace b1 := celln hB3 b1
              replace b2 := celln hB3 b2
              replace b3 := celln hB3 b3
              have hjl' : (j : Int) < (ws.length : Int) := by omega
              have q3' : decide ((c1 : Int) < (c0 : Int)) = false := decide_eq_false (by omega)
              have q4 : ¬ (c1 < c0) := by omega
              have q5 : decide (c1 < c0) = false := decide_eq_false (by omega)
              clear hx0 hy0
              simp only at a1 a2 a3 b1 b2 b3
              go_wp2
              go_quiet (fail)
              go_wp2
              go_roundw
              case rel => exact ⟨j + 1, by omega, by go_num, below_drewN hB3 _⟩
              case measure => simp [intOf]; omega
            · obtain rfl : j = ws.length := by omega
              go_wp2
              go_roundw
              case rel => exact ⟨k + 1, by omega, by go_num, hB3⟩
              case measure => simp [intOf]; omega
        · obtain rfl : k = X.length := by omega
          go_wp2_with ((go_at_call 9; (refine (C0.out _).mono ?_); rintro e w12 ⟨rfl, g12⟩))
          go_ret
          exact ⟨rfl, kbq (kbq gT hB2) g12⟩
end Go.Proofs.Ytdjeehnjodbmaaa.Wd
