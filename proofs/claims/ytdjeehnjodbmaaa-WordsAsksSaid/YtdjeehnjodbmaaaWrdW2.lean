/- tollerlaw10.WordsParts answers true, for any two rows of bytes; no conditions. -/
import Derived.Test.YtdjeehnjodbmaaaWrdQ
import Derived.Test.YtdjeehnjodbmaaaWrdW1
namespace Go.Proofs.Ytdjeehnjodbmaaa.Wd
open Go Go.RowKit
set_option linter.unusedVariables false
set_option linter.unusedSimpArgs false

/-- A word of rows of words. -/
theorem WRows.word {w : World} {v : Value} {wss : List (List Wo)} (h : WRows w v wss) {k j : Nat} {ws : List Wo} {x : Wo} (hk : wss[k]? = some ws) (hx : ws[j]? = some x) :
    ∃ g c h d, v = .slice (some ⟨g, 0, none⟩) wss.length c ∧ w.cell? ⟨g, k, none⟩ = some (.slice (some ⟨h, 0, none⟩) ws.length d) ∧ (k < wss.length ∧ j < ws.length) ∧
      w.cell? ⟨h, j * 3, none⟩ = some (.string (str x.1)) ∧ w.cell? ⟨h, j * 3 + 1, none⟩ = some (.int .i64 (x.2.1 : Int)) ∧ w.cell? ⟨h, j * 3 + 2, none⟩ = some (.int .i64 (x.2.2 : Int)) := by
  have hk' : k < wss.length := (List.getElem?_eq_some_iff.1 hk).1
  have hj' : j < ws.length := (List.getElem?_eq_some_iff.1 hx).1
  obtain ⟨g, c, rfl, _, hrow⟩ := h.form (by omega)
  obtain ⟨u, hu, hr⟩ := hrow k ws hk
  obtain ⟨h', d, rfl, _, hw⟩ := hr.form (by omega)
  exact ⟨g, c, h', d, rfl, hu, ⟨hk', hj'⟩, hw j x hx⟩
theorem cnt_take (l : List UInt8) (k : Nat) (h : k < l.length) : cnt (l.take (k + 1)) = cnt (l.take k) + (if l.getD k 0 = 10 then 1 else 0) := by
  rw [List.take_add_one, cnt_app, List.getD_eq_getElem?_getD, List.getElem?_eq_getElem h]
  by_cases e : l[k] = 10
  · simp [cnt, e]
  · simp [cnt, e]
theorem below_drewN {N : Nat} {w a : World} (h : Below N w a) (n : Nat) : Below N w (a.drewN n) := ⟨h.os, h.tape, h.output, h.size, h.block⟩
theorem er_if (p : Bool) : (if p = true then 20 else 0) = if p then 20 else 0 := rfl

set_option maxRecDepth 100000 in
set_option maxHeartbeats 1000000 in
theorem wordsParts_any (C : Option Addr) (N cap : Nat) (cs : List UInt8) (D : Option Addr) (M cap2 : Nat) (ds : List UInt8) (w : World) (hC : Txt w C N cs) (hN : N ≤ 9223372036854775807) (hD : Txt w D M ds) (hM : M ≤ 9223372036854775807) :
    Calls Try.prog 7 #[.slice C N cap, .slice D M cap2] w fun e w' => e = .returned (.bool true) ∧ Below w.heap.size w w' := by
  have C0 := Lib.hid known_any
  have K1 := Lib.hid (text_any C N cap cs w hC hN)
  have K2 := Lib.hid (fun (W : World) (hW : Below w.heap.size w W) => text_any D M cap2 ds W (hD.below hW) hM)
  have hl1 := tx_len cs
  have hl2 := tx_len ds
  clear hC hD
  go_enter Try.func7, Try.ntmps7
  go_wp2_with (first
    | (go_at_call 11; ((with_reducible refine K1.out.mono ?_); rintro e w1 ⟨v1, rfl, r1, g1⟩))
    | (at_builtin; refine stopHere ?_))
  unfold Stop
  generalize htx : tx cs = p at *
  generalize htd : tx ds = q at *
  have g2 := g1.alloc g1.size (.cells #[.int .u8 10] 5)
  have z2 := g2.size
  have gg := (Below.refl _ w1).alloc (Nat.le_refl _) (.cells #[.int .u8 10] 5)
  refine wpList_app_bytes _ rfl _ _ rfl w.heap.size v1 p rfl (r1.below gg) (some ⟨w1.heap.size, 0, none⟩) 1 1 [10] rfl (txt_one w1 10) (fun e => by cases e) (fun ad e => by cases e; rfl) (by omega) z2 ?_
  intro v3 w3 own3 grow3
  have g3 : Below w.heap.size w w3 := g2.grown grow3 z2 (own_block r1)
  obtain ⟨A, c, rfl, hc, hT, hnone, hspot⟩ := own3.form2
  clear r1 g1 g2 z2 gg own3 grow3 K1
  obtain ⟨a, ha⟩ : ∃ a, p ++ [10] = a := ⟨_, rfl⟩
  have hla : a.length ≤ 561 := by rw [← ha]; simp; omega
  rw [ha] at hT hc ⊢
  have HT := Lib.hid hT
  have HN := Lib.hid hnone
  have HS := Lib.hid hspot
  obtain ⟨E1, hE1⟩ : ∃ E1 : Nat, (spl a).er = E1 := ⟨_, rfl⟩
  have S1 := Lib.hid (fun (W : World) (hW : Below w3.heap.size w3 W) => split_er A a.length c a W (hT.below hW) hc.1 hc.2 E1 hE1)
  clear hT hnone hspot
  go_wp2_with (first
    | (go_at_call 11; ((with_reducible refine (K2.out _ g3).mono ?_); rintro e w4 ⟨v4, rfl, r4, g4⟩))
    | (go_at_call 14; ((with_reducible refine (S1.out _ g4).mono ?_); rintro e w5 ⟨x5, l5, c5, rfl, hX, g5⟩; refine stopHere ?_)))
  unfold Stop
  obtain ⟨B, d, rfl, hd, hT2, hnone, hspot⟩ := r4.form2
  have HT2 := Lib.hid hT2
  have HN2 := Lib.hid hnone
  have HS2 := Lib.hid hspot
  obtain ⟨E2, hE2⟩ : ∃ E2 : Nat, (spl q).er = E2 := ⟨_, rfl⟩
  have S2 := Lib.hid (fun (W : World) (hW : Below w4.heap.size w4 W) => split_er B q.length d q W (HT2.out.below hW) hd.1 hd.2 E2 hE2)
  have e5 := (Below.refl _ w5).alloc (Nat.le_refl _) (.cells #[.int .i64 l5, .int .i64 c5] 34)
  clear hT2 hnone hspot r4
  go_wp2_with (first
    | (go_at_call 14; ((with_reducible refine (S2.out _ (kbq g5 e5)).mono ?_); rintro e w6 ⟨x6, l6, c6, rfl, hY, g7⟩))
    | (at_builtin; refine stopHere ?_))
  unfold Stop
  have k56 := kbq e5 g7
  have e6 := (Below.refl _ w6).alloc (Nat.le_refl _) (.cells #[.int .i64 l6, .int .i64 c6] 34)
  have n36 := kbq (kbq g4 g5) k56
  refine wpList_app_bytes _ rfl _ _ rfl w6.heap.size (.slice none 0 0) [] rfl (BRow.nil _ _) A a.length c a rfl (HT.out.below (kbq n36 e6)) HN.out (fun ad e => (HS.out ad e).1) (by simp; omega) e6.size ?_
  intro v9 w9 own9 grow9
  have n69 : Below w6.heap.size w6 w9 := e6.grown grow9 e6.size (fun k e => by cases e)
  rw [List.nil_append] at own9
  have HO9 := Lib.hid own9
  clear own9 grow9
  go_wp2_with (at_builtin; refine stopHere ?_)
  unfold Stop
  refine wpList_app_bytes _ rfl _ _ rfl w6.heap.size v9 a rfl HO9.out B q.length d q rfl (HT2.out.below (kbq (kbq g5 k56) n69)) HN2.out (fun ad e => (HS2.out ad e).1) (by omega) n69.size ?_
  intro v10 w10 own10 grow10
  have n610 : Below w6.heap.size w6 w10 := n69.grown grow10 n69.size (own_block HO9.out)
  obtain ⟨F, c10, rfl, hc10, hT10, _, _⟩ := own10.form2
  obtain ⟨E3, hE3⟩ : ∃ E3 : Nat, (spl (a ++ q)).er = E3 := ⟨_, rfl⟩
  have S3 := Lib.hid (split_er F _ c10 _ w10 hT10 hc10.1 hc10.2 E3 hE3)
  have hl10 : (a ++ q).length = a.length + q.length := List.length_append
  rw [hl10] at S3 ⊢
  clear own10 grow10 hT10 HO9 hc10
  go_wp2_with ((go_at_call 14; ((with_reducible refine S3.out.mono ?_); rintro e w11 ⟨x11, l11, c11, rfl, hZ, g11⟩; refine stopHere ?_)))
  unfold Stop
  have n611 := kbq n610 g11
  have e11 := (Below.refl _ w11).alloc (Nat.le_refl _) (.cells #[.int .i64 l11, .int .i64 c11] 34)
  have gT := kbq (kbq (kbq g3 n36) n611) e11
  have hX1 := (hX.below k56).below (kbq n611 e11)
  have hY1 := hY.below (kbq n611 e11)
  have hZ1 := hZ.below e11
  have HT1 := Lib.hid (HT.out.below (kbq (kbq n36 n611) e11))
  rw [spl_er a (by omega)] at hE1
  rw [spl_er q (by omega)] at hE2
  rw [spl_er (a ++ q) (by omega), bad_app] at hE3
  clear S1 S2 S3 K2 HT HT2 HN HN2 HS HS2 hX hY hZ e6 n69 n610 k56 g4 g5 g7 e5 n36 g3 n611 g11
  by_cases hb : badB a = true ∨ badB q = true
  · have hE3' : E3 = 20 := by
      rcases hb with hb | hb
      · rw [hb] at hE3; simpa using hE3.symm
      · rw [hb] at hE3; simpa using hE3.symm
    have hE12 : E1 = 20 ∨ (E1 = 0 ∧ E2 = 20) := by
      by_cases h1 : badB a = true
      · rw [h1] at hE1; left; simpa using hE1.symm
      · have h2 : badB q = true := hb.resolve_left h1
        rw [h2] at hE2
        rw [Bool.eq_false_iff.2 h1] at hE1
        right
        exact ⟨by simpa using hE1.symm, by simpa using hE2.symm⟩
    subst hE3'
    clear hE1 hE2 hE3 hX1 hY1 hZ1 hb
    rcases hE12 with rfl | ⟨rfl, rfl⟩
    all_goals
      go_wp2_with ((go_at_call 9; (refine (C0.out _).mono ?_); rintro e w12 ⟨rfl, g12⟩))
      go_ret
      exact ⟨rfl, kbq gT g12⟩
  · have hb1 : badB a = false := Bool.eq_false_iff.2 fun h => hb (.inl h)
    have hb2 : badB q = false := Bool.eq_false_iff.2 fun h => hb (.inr h)
    rw [hb1] at hE1
    rw [hb2] at hE2
    rw [hb1, hb2] at hE3
    obtain rfl : E1 = 0 := by simpa using hE1.symm
    obtain rfl : E2 = 0 := by simpa using hE2.symm
    obtain rfl : E3 = 0 := by simpa using hE3.symm
    rw [show ((0 : Nat) : Int) = 0 from rfl]
    have hbp : badB p = false := by rw [← ha, bad_app, Bool.or_eq_false_iff] at hb1; exact hb1.1
    have hrows := spl_parts p q hbp hb2 (by rw [ha]; omega)
    rw [ha] at hrows
    have nX := spl_ne a
    have nY := spl_ne q
    have bY := spl_bd q
    have bX := spl_bd a
    have cX := spl_count a
    have cY := spl_count q
    have hcl := cnt_le a
    rw [hrows] at hZ1
    clear hrows hE1 hE2 hE3 hb
    generalize (spl a).rows = X at *
    generalize (spl q).rows = Y at *
    have HX := Lib.hid hX1
    have HY := Lib.hid hY1
    have HZ := Lib.hid hZ1
    obtain ⟨Ax, kx, rfl⟩ := hX1.slice
    obtain ⟨Ay, ky, rfl⟩ := hY1.slice
    obtain ⟨Az, kz, rfl⟩ := hZ1.slice
    have hlZ : (X ++ Y.map fun l => l.map (shf (cnt a))).length = X.length + Y.length := by simp
    rw [hlZ]
    have NX := Lib.hid nX
    have NY := Lib.hid nY
    have BY := Lib.hid bY
    have BX := Lib.hid bX
    clear hX1 hY1 hZ1 nX nY bY bX
    go_wp2
    generalize w11.alloc (.cells #[.int .i64 l11, .int .i64 c11] 34) = W at *
    go_loopw [17, 18] (fun l i wr => ∃ k : Nat, k ≤ a.length ∧ i = .int .i64 (k : Int) ∧ l = .int .i64 ((cnt (a.take k) : Nat) : Int) ∧ wr = W) (fun _ i _ => a.length - (intOf i).toNat)
    case atStart => exact ⟨0, Nat.zero_le _, rfl, rfl, rfl⟩
    case round =>
      obtain ⟨k, hk, rfl, rfl, rfl⟩ := hrel
      by_cases hlt : k < a.length
      · obtain ⟨ba, oa, rfl, hba, hca⟩ := HT1.out.2 (by omega)
        have hx := hca k hlt
        have hct := cnt_take a k hlt
        have hcb : cnt (a.take k) ≤ k := Nat.le_trans (cnt_le _) (List.length_take_le _ _)
        clear hca
        generalize cnt (a.take k) = c0 at *
        by_cases h10 : a.getD k 0 = 10
        · rw [if_pos h10] at hct
          rw [h10] at hx
          have HCT := Lib.hid hct
          clear hct
          go_wp2
          go_roundw
          case rel => exact ⟨k + 1, by omega, by go_num, by rw [HCT.out]; go_num, by first | rfl | trivial⟩
          case measure => simp [intOf]; omega
        · rw [if_neg h10] at hct
          have HCT := Lib.hid hct
          clear hct
          have hne : (((a.getD k 0).toNat : Int) == 10) = false := beq_eq_false_iff_ne.2 (by intro e; exact h10 (UInt8.toNat_inj.1 (by show _ = 10; omega)))
          generalize (a.getD k 0).toNat = y at *
          go_wp2
          go_roundw
          case rel => exact ⟨k + 1, by omega, by go_num, by rw [HCT.out]; rfl, by first | rfl | trivial⟩
          case measure => simp [intOf]; omega
      · obtain rfl : k = a.length := by omega
        rw [List.take_length]
        have hkZ : ∀ n : Nat, n ≤ X.length + Y.length → (n : Int) ≤ 2097152 := fun n h => by omega
        go_wp2
        go_loopw [19] (fun i wr2 => ∃ k : Nat, k ≤ X.length + Y.length ∧ i = .int .i64 (k : Int) ∧ Below wr.heap.size wr wr2) (fun i _ => X.length + Y.length - (intOf i).toNat)
        case atStart => exact ⟨0, Nat.zero_le _, rfl, Below.refl _ _⟩
        case round =>
          obtain ⟨k, hk, rfl, hB⟩ := hrel
          by_cases hlt : k < X.length + Y.length
          · have hlt' : decide ((k : Int) < (X.length : Int) + (Y.length : Int)) = true := decide_eq_true (by omega)
            have hlt2 : (k : Int) < (X.length : Int) + (Y.length : Int) := by omega
            have hk0 : (0 : Int) ≤ (k : Int) := by omega
            by_cases hkx : k < X.length
            · obtain ⟨ws, hws⟩ : ∃ ws, X[k]? = some ws := ⟨_, List.getElem?_eq_getElem hkx⟩
              have hwne : ws ≠ [] := NX.out ws (List.mem_of_getElem? hws)
              obtain ⟨⟨tx0, n0, c0⟩, hx0⟩ : ∃ x, ws[0]? = some x := ⟨_, List.getElem?_eq_getElem (List.length_pos_iff.2 hwne)⟩
              obtain ⟨gx, dx, hx, fx, ex, cx0, ⟨_, lx⟩, cx1, cx2, cx3⟩ := (HX.out.below hB).word (k := k) (j := 0) hws hx0
              obtain ⟨gz, dz, hz, fz, ez, cz0, ⟨_, lz⟩, cz1, cz2, cz3⟩ := (HZ.out.below hB).word (k := k) (j := 0) ((List.getElem?_append_left hkx).trans hws) hx0
              simp only [Value.slice.injEq] at ex ez
              obtain ⟨rfl, -, rfl⟩ := ex
              obtain ⟨rfl, -, rfl⟩ := ez
              have hd : decide ((k : Int) < (X.length : Int)) = true := decide_eq_true (by omega)
              have hbd' : (n0 : Int) ≤ 1048577 := by have : n0 ≤ 1048577 := (BX.out ws (List.mem_of_getElem? hws) _ (List.mem_of_getElem? hx0)).2.1; omega
              have hwr : IntKind.i64.wrap (n0 : Int) = (n0 : Int) := by rw [IntKind.wrap_i64]; omega
              have b1 := lt_of_cell cx0
              have b2 := lt_of_cell cx1
              have b3 := lt_of_cell cz0
              have b4 := lt_of_cell cz1
              simp only [Nat.zero_mul, Nat.zero_add] at cx1 cx2 cx3 cz1 cz2 cz3
              (try rw [List.length_map] at lz)
              (try rw [List.length_map] at cz0)
              clear hws
              generalize ws.length = lw at *
              go_wp2
              go_quiet (fail)
              go_wp2
              go_roundw
              case rel => exact ⟨k + 1, by omega, by go_num, kbq hB (below_drewN ((Below.refl _ _).alloc (Nat.le_refl _) _) _)⟩
              case measure => simp [intOf]; omega
            · obtain ⟨j, hj⟩ : ∃ j, k = X.length + j := ⟨k - X.length, by omega⟩
              have hjY : j < Y.length := by omega
              obtain ⟨ws, hws⟩ : ∃ ws, Y[j]? = some ws := ⟨_, List.getElem?_eq_getElem hjY⟩
              have hwne : ws ≠ [] := NY.out ws (List.mem_of_getElem? hws)
              have hwb := BY.out ws (List.mem_of_getElem? hws)
              obtain ⟨⟨tx0, n0, c0⟩, hx0⟩ : ∃ x, ws[0]? = some x := ⟨_, List.getElem?_eq_getElem (List.length_pos_iff.2 hwne)⟩
              have hbd := (hwb _ (List.mem_of_getElem? hx0)).2.1
              have hz0 : (ws.map (shf (cnt a)))[0]? = some (tx0, n0 + cnt a, c0) := by rw [List.getElem?_map, hx0]; rfl
              have hZk : (X ++ Y.map fun l => l.map (shf (cnt a)))[k]? = some (ws.map (shf (cnt a))) := by
                rw [List.getElem?_append_right (by omega), List.getElem?_map, show k - X.length = j by omega, hws]; rfl
              obtain ⟨gx, dx, hx, fx, ex, cx0, ⟨_, lx⟩, cx1, cx2, cx3⟩ := (HY.out.below hB).word (k := j) (j := 0) hws hx0
              obtain ⟨gz, dz, hz, fz, ez, cz0, ⟨_, lz⟩, cz1, cz2, cz3⟩ := (HZ.out.below hB).word (k := k) (j := 0) hZk hz0
              simp only [Value.slice.injEq] at ex ez
              obtain ⟨rfl, -, rfl⟩ := ex
              obtain ⟨rfl, -, rfl⟩ := ez
              have hd : decide ((k : Int) < (X.length : Int)) = false := decide_eq_false (by omega)
              have hjk : (k : Int) - (X.length : Int) = (j : Int) := by omega
              have hjY' : (j : Int) < (Y.length : Int) := by omega
              clear hj
              have hbd' : (n0 : Int) ≤ 1048577 := by have : n0 ≤ 1048577 := hbd; omega
              have hwr : IntKind.i64.wrap ((n0 : Int) + ((cnt a : Nat) : Int)) = (n0 : Int) + ((cnt a : Nat) : Int) := by rw [IntKind.wrap_i64]; omega
              have b1 := lt_of_cell cx0
              have b2 := lt_of_cell cx1
              have b3 := lt_of_cell cz0
              have b4 := lt_of_cell cz1
              simp only [Nat.zero_mul, Nat.zero_add] at cx1 cx2 cx3 cz1 cz2 cz3
              (try rw [List.length_map] at lz)
              (try rw [List.length_map] at cz0)
              clear hws
              generalize ws.length = lw at *
              go_wp2
              go_quiet (fail)
              go_wp2
              go_roundw
              case rel => exact ⟨k + 1, by omega, by go_num, kbq hB (below_drewN ((Below.refl _ _).alloc (Nat.le_refl _) _) _)⟩
              case measure => simp [intOf]; omega
          · obtain rfl : k = X.length + Y.length := by omega
            go_wp2_with ((go_at_call 9; (refine (C0.out _).mono ?_); rintro e w12 ⟨rfl, g12⟩))
            go_ret
            exact ⟨rfl, kbq (kbq gT hB) g12⟩
end Go.Proofs.Ytdjeehnjodbmaaa.Wd
