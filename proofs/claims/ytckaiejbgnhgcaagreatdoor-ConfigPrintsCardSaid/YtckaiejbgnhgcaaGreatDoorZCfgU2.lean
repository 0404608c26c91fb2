/- What tollerref12.Print answers, for any policy; no conditions but those that each names. -/
import Derived.Test.YtckaiejbgnhgcaaGreatDoorZCfgU
import Derived.Test.YtckaiejbgnhgcaaGreatDoorZI
import Derived.Test.YtckaiejbgnhgcaaGreatDoorZE
namespace Go.Proofs.YtckaiejbgnhgcaaGreatDoor.Wd
open Go Go.RowKit
set_option linter.unusedVariables false
set_option maxRecDepth 100000
theorem Rls.grown2 {w w' : World} {A : Option Addr} {n : Nat} {rs : List Rl} {row : Option Nat} (h : Rls w A n rs) (g : w.grownBy w' row) (hne : ∀ b off, A = some ⟨b, off, none⟩ → row ≠ some b) : Rls w' A n rs :=
  ⟨h.1, h.2.1, fun hn => by
    obtain ⟨b, off, e, hb, hc⟩ := h.2.2 hn
    exact ⟨b, off, e, Nat.lt_of_lt_of_le hb g.size, fun j hj => (hc j hj).of_block (g.block _ hb (fun e2 => hne b off e e2.symm))⟩⟩

set_option maxHeartbeats 2000000 in
theorem rprint12_any (m : Int) (A : Option Addr) (n cap : Nat) (rs : List Rl) (w : World) (h : Rls w A n rs) (hn : n ≤ 1000000000) (hm : -9223372036854775808 ≤ m ∧ m ≤ 9223372036854775807) :
    Calls Tryz.prog 25 #[.agg #[.int .i64 m, .slice A n cap]] w fun e w' => (∃ v, e = .returned (.tuple #[v, .int .i64 (riE m rs)]) ∧ Ws.BRow w' w.heap.size v (if riE m rs = 0 then prTx m rs else [])) ∧ Below w.heap.size w w' := by
  have H := Lib.hid h
  have hl := h.1
  have B0 := (Below.refl _ w).alloc (Nat.le_refl _) (.cells #[.int .i64 m, .slice A n cap] 28)
  have CR := fun W (g : Below w.heap.size w W) => rright12_any m A n cap rs W (h.below g) (by omega) hm
  have CO := fun W (g : Below w.heap.size w W) => rorder12_any m A n cap rs W (h.below g) hn
  clear h
  by_cases hr : riE m rs = 0
  · obtain ⟨⟨m1, m2⟩, hlen, r3, r4, r5⟩ := riE_0 hr
    have HSZ := Lib.hid (prTx_len hr H.out.2.1)
    obtain ⟨M, rfl⟩ : ∃ M : Nat, m = (M : Int) := ⟨m.toNat, by omega⟩
    rw [if_pos hr]
    rw [hr] at CR ⊢
    have hw : IntKind.u64.wrap (M : Int) = (M : Int) := by rw [IntKind.wrap_u64]; omega
    clear r3 r4 r5 hr
    go_enter Tryz.func25, Tryz.ntmps25
    go_wp2_with (first
      | (go_at_call 27; refine (CR _ B0).mono ?_; rintro e w1 ⟨rfl, k1⟩; have d0 : w1.cell? ⟨w.heap.size, 0, none⟩ = some (.int .i64 (M : Int)) := celln k1 (by simp); have d1 : w1.cell? ⟨w.heap.size, 1, none⟩ = some (.slice A n cap) := celln k1 (by simp); have B1 := kbq B0 k1)
      | (go_at_call 21; refine (refPrint_any M _ (by omega)).mono ?_; rintro e w2 ⟨rfl, rfl⟩; refine stopHere ?_))
    unfold Stop
    have B2 := B1
    have hdz := dig_size M (by omega)
    have T0 : Sts (w1.alloc (.cells #[.string sizS, .string (str (Lib.decDigits M))] 9)) (some ⟨w1.heap.size, 0, none⟩) 2 [sizS, dig M] := sts_alloc w1 [sizS, dig M] 9 (fun x hx => by
      have e0 : sizS.size = 4 := rfl
      simp only [List.mem_cons, List.not_mem_nil, or_false] at hx
      rcases hx with rfl | rfl <;> omega)
    have O0 := OLn.lit (w := w1.alloc (.cells #[.string sizS, .string (str (Lib.decDigits M))] 9)) (base := w.heap.size) (B := w1.heap.size + 1) (c := 2) (by have := B2.size; simp; omega) (by simp) T0 (fun b off e _ => by injection e with e; injection e with e1; simp; omega)
    have B3 := (B2.alloc B2.size (.cells #[.string sizS, .string (str (Lib.decDigits M))] 9)).alloc (by have := B2.size; simp; omega) (.cells #[.slice (some ⟨w1.heap.size, 0, none⟩) 2 2] 32)
    have g2 := ((Below.refl _ w1).alloc (Nat.le_refl _) (.cells #[.string sizS, .string (str (Lib.decDigits M))] 9)).alloc (by simp) (.cells #[.slice (some ⟨w1.heap.size, 0, none⟩) 2 2] 32)
    have hlt0 := cell_lt d0
    have CO3 := CO _ B3
    have hs3 : ((w1.alloc (.cells #[.string sizS, .string (str (Lib.decDigits M))] 9)).alloc (.cells #[.slice (some ⟨w1.heap.size, 0, none⟩) 2 2] 32)).heap.size = w1.heap.size + 2 := by simp
    have hs3' := hs3
    clear CR CO T0 hs3
    go_wp2_with (go_at_call 28; refine stopHere ?_)
    unfold Stop
    refine CO3.mono ?_
    rintro e w4 ⟨⟨A4, c4, rfl, hA4, hR⟩, k4⟩
    have O4 := O0.below k4
    have B4 := kbq B3 k4
    rw [hs3'] at hA4
    have kQ := (Below.refl _ w4).alloc (Nat.le_refl _) (.cells #[.int .i64 (M : Int), .slice A4 n c4] 28)
    have O5 := O4.below kQ
    have R5 := hR.below kQ
    have PQ := PB.new w4 (M : Int) (.slice A4 n c4)
    have B5 := kbq B4 kQ
    have hA4' : Hid (∀ b off, A4 = some ⟨b, off, none⟩ → w1.heap.size + 2 ≤ b) := Lib.hid hA4
    have hsz4 : w1.heap.size + 2 ≤ w4.heap.size := by have := k4.size; rw [hs3'] at this; exact this
    have HLEN := hR.1
    have hne0 : Hid (∀ b off, A4 = some ⟨b, off, none⟩ → (Value.slice (some ⟨w1.heap.size + 1, 0, none⟩) 1 1).ownBlock ≠ some b) := Lib.hid (fun b off e e2 => by
      have := hA4'.out b off e
      simp only [Value.ownBlock, Option.some.injEq] at e2
      omega)
    have hnq0 : (Value.slice (some ⟨w1.heap.size + 1, 0, none⟩) 1 1).ownBlock ≠ some w4.heap.size := by simp only [Value.ownBlock, ne_eq, Option.some.injEq]; omega
    have HB5 := Lib.hid B5
    clear O0 O4 k4 CO3 g2 hA4 B3 B4 kQ hR B5 B2 B1 B0 hs3'
    go_wp2
    generalize hW : w4.alloc (.cells #[.int .i64 (M : Int), .slice A4 n c4] 28) = W5 at *
    clear hW
    go_loopw [4, 6] (fun v i wr => ∃ k : Nat, i = .int .i64 (k : Int) ∧ k ≤ n ∧ OLn wr w.heap.size v ((prLb M rs).take (k + 1)) ∧ Rls wr A4 n (ordL rs) ∧ Hid (∀ b off, A4 = some ⟨b, off, none⟩ → v.ownBlock ≠ some b) ∧ PB wr w4.heap.size (M : Int) (.slice A4 n c4) ∧ v.ownBlock ≠ some w4.heap.size ∧ Below w.heap.size w wr) (fun _ i _ => n - (intOf i).toNat)
    case atStart => exact ⟨0, rfl, Nat.zero_le _, by simpa [prLb] using O5, R5, hne0, PQ, hnq0, HB5.out⟩
    case round =>
      clear R5 O5 HB5 hne0 PQ hnq0
      obtain ⟨k, rfl, hk, hO, hR, hne, hP, hnq, hBw⟩ := hrel
      have HP := Lib.hid hP
      obtain ⟨p0, p1, f0, f1⟩ := hP
      have i0 : (0 : Int) ≤ (k : Int) := by omega
      by_cases hkn : k < n
      · have i1 : (k : Int) < (n : Int) := by omega
        have ok := hR.ok k
        have ht := prLb_take M rs k (by omega)
        have hacc : ((prLb M rs).take (k + 1)).length = k + 1 := by rw [List.length_take, prLb_len]; omega
        have hown : ∀ bb, u4.ownBlock = some bb → bb < wr.heap.size := by
          obtain ⟨us, h1, _⟩ := hO
          exact fun bb hb => (h1.lt bb hb).2
        have HR := Lib.hid hR
        obtain ⟨b, off, e4, hb, hc⟩ := hR.2.2 (by omega)
        subst e4
        obtain ⟨x0, x1, x2, x3⟩ := hc k hkn
        have hOW := Lib.hid hown
        generalize hX : fnOf (ordL rs) k = x at *
        obtain ⟨tp, te, tb, tk⟩ := x
        obtain ⟨ok1, ok2, ok3, ok4⟩ := ok
        dsimp only at x0 x1 x2 x3 ok1 ok2 ok3 ok4
        obtain ⟨E, rfl⟩ : ∃ E : Nat, te = (E : Int) := ⟨te.toNat, by have := ok2.1; omega⟩
        obtain ⟨F, rfl⟩ : ∃ F : Nat, tb = (F : Int) := ⟨tb.toNat, by have := ok3.1; omega⟩
        have ht2 : (prLb M rs).take (k + 2) = (prLb M rs).take (k + 1) ++ [prW tp E F tk] := ht
        have hsm := Lib.hid (pr_ok tp E F tk ok1 (by have := ok2.2; omega) (by have := ok3.2; omega))
        have Cx := refprint_any tp E F tk wr ok1 (by have := ok2.2; omega) (by have := ok3.2; omega) ok4
        have HT2 := Lib.hid ht2
        have HACC := Lib.hid hacc
        generalize (prLb M rs).take (k + 1) = acc at *
        clear hX ht hc ok2 ok3 ok4 hown hacc ht2 ok1 hR
        go_wp2_with (go_at_call 22; refine stopHere ?_)
        unfold Stop
        refine Cx.mono ?_
        rintro e w5 ⟨⟨v5, rfl, hO5'⟩, k5⟩
        obtain ⟨A5, c5, rfl, hc5, hc5', hS5⟩ := hO5'.sts (small_words hsm.out)
        have hO5 := hO.below k5
        have B5 := kbq hBw k5
        generalize hn5 : (prW tp E F tk).length = n5 at *
        have Bz := (Below.refl _ w5).alloc (Nat.le_refl _) (.cells #[.slice A5 n5 c5] 32)
        have sz5 := B5.size
        have frr : ∀ b off, A5 = some ⟨b, off, none⟩ → 0 < n5 → u4.ownBlock ≠ some b := fun b off e _ h => by
          have h1 := (World.ownsRow.lt hO5' b (by rw [e]; rfl)).1
          have h2 := hOW.out b h
          omega
        have hO6' := Lib.hid (hO5.below Bz)
        have hS6 := Lib.hid (hS5.below Bz)
        have HFR := Lib.hid frr
        have HPz := Lib.hid ((HP.out.below k5).below Bz)
        have HRz := Lib.hid ((HR.out.below k5).below Bz)
        have HBz := Lib.hid (B5.trans (Bz.mono sz5))
        have hszz : w.heap.size ≤ (w5.alloc (.cells #[.slice A5 n5 c5] 32)).heap.size := HBz.out.size
        have hwsz := Lib.hid k5.size
        have hqz : w4.heap.size < w5.heap.size := by have := HP.out.lt; have := k5.size; omega
        clear Cx frr Bz hO5 hS5 hO B5 hO5' k5
        go_wp2_with (refine wpList_app_line _ rfl _ _ rfl w.heap.size u4 acc rfl hO6'.out w5.heap.size 1 rfl A5 n5 c5 (prW tp E F tk) (by simp) hS6.out HFR.out (by have := HACC.out; omega) hszz ?_; intro g cp w6 hO6 kb gw gg; refine stopHere ?_)
        unfold Stop
        have hO6z : OLn w6 w.heap.size (.slice (some ⟨g, 0, none⟩) (acc.length + 1) cp) ((prLb M rs).take (k + 1 + 1)) := by
          rw [show k + 1 + 1 = k + 2 from rfl, HT2.out]; exact hO6
        have hO6z := Lib.hid hO6z
        have hRy := Lib.hid (HRz.out.grown2 gw hne.out)
        have hPy := Lib.hid (HPz.out.grown gw hnq)
        have hneY : Hid (∀ b' off', some (⟨b, off, none⟩ : Addr) = some ⟨b', off', none⟩ → (Value.slice (some ⟨g, 0, none⟩) (acc.length + 1) cp).ownBlock ≠ some b') := Lib.hid (fun b' off' e e2 => by
          simp only [Value.ownBlock, Option.some.injEq] at e2
          subst e2
          rcases gg with gg | gg
          · exact hne.out g off' e gg
          · injection e with e; injection e with e1; subst e1
            have := HR.out.2.2 (by omega)
            obtain ⟨b9, o9, e9, hb9, _⟩ := this
            injection e9 with e9; injection e9 with e91; subst e91
            have := hOW.out
            have hsz : wr.heap.size ≤ w5.heap.size := hwsz.out
            rw [World.size_alloc] at gg
            omega)
        have hnqY : (Value.slice (some ⟨g, 0, none⟩) (acc.length + 1) cp).ownBlock ≠ some w4.heap.size := by
          simp only [Value.ownBlock, ne_eq, Option.some.injEq]
          rcases gg with gg | gg
          · intro e; exact hnq (by rw [gg, e])
          · rw [World.size_alloc] at gg; omega
        have hnqY := Lib.hid hnqY
        have hBy := Lib.hid (HBz.out.trans kb)
        clear hO6 kb gw gg
        go_wp2
        go_roundw
        case rel => exact ⟨k + 1, by go_num, hkn, by have := hO6z.out; simp only [HACC.out] at this ⊢; exact this, hRy.out, by have := hneY; simp only [HACC.out] at this ⊢; exact this, hPy.out, by have := hnqY.out; simp only [HACC.out] at this ⊢; exact this, hBy.out⟩
        case measure => simp [intOf]; omega
      · obtain rfl : k = n := by omega
        have i1 : ¬ (k : Int) < (k : Int) := by omega
        rw [show (prLb M rs).take (k + 1) = prLb M rs from List.take_of_length_le (by rw [prLb_len]; omega)] at hO
        obtain ⟨A6, c6, e6, hc1, hc2, hLR⟩ := hO.lrows (fun l hl => by
          unfold prLb at hl
          rcases List.mem_cons.1 hl with rfl | hl
          · simp only [List.length_cons, List.length_nil]; omega
          · obtain ⟨r, _, rfl⟩ := List.mem_map.1 hl
            have := rlW_len r; omega)
        have CJ := Ws.rjoin_any A6 (prLb M rs).length c6 (lbs (prLb M rs)) wr hLR (by rw [prLb_len]; omega) (by have := HSZ.out; unfold prTx at this; omega)
        subst e6
        rw [show Ws.jn (lbs (prLb M rs)) = prTx M rs from rfl] at CJ
        generalize (prLb M rs).length = N at *
        clear HSZ hO hR hLR
        go_wp2_with (go_at_call 45; refine CJ.mono ?_; rintro e w6 ⟨v6, rfl, hv, k6⟩)
        refine bodyPost_ret (v := .tuple #[v6, .int .i64 0]) ?_ rfl ⟨⟨_, rfl, own_low hv hBw.size⟩, kbq hBw k6⟩
        simp [results, Tryz.results25, go_sem]
  · rw [if_neg hr]
    have c1 : (riE m rs != 0) = true := by simpa using hr
    have c2 : (riE m rs == 0) = false := by simpa using hr
    generalize riE m rs = R at *
    clear hr CO
    go_enter Tryz.func25, Tryz.ntmps25
    go_wp2_with (go_at_call 27; refine (CR _ (by first | exact B1 | exact B0)).mono ?_; rintro e w1 ⟨rfl, k1⟩; first | (have Z := B1; have B2 := kbq B1 k1) | (have B1 := kbq B0 k1; have d0 : w1.cell? ⟨w.heap.size, 0, none⟩ = some (.int .i64 m) := celln k1 (by simp); have d1 : w1.cell? ⟨w.heap.size, 1, none⟩ = some (.slice A n cap) := celln k1 (by simp)))
    refine bodyPost_ret (v := .tuple #[.slice none 0 0, .int .i64 R]) ?_ rfl ⟨⟨_, rfl, Ws.BRow.nil _ _⟩, B2⟩
    simp [results, Tryz.results25, go_sem]
end Go.Proofs.YtckaiejbgnhgcaaGreatDoor.Wd
