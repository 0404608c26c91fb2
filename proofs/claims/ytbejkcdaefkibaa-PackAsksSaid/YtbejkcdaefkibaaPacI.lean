/- The document's Decode; no conditions but those that each names. -/
import Derived.Test.YtbejkcdaefkibaaPacG
import Derived.Test.YtbejkcdaefkibaaPacW3
import Derived.Test.YtbejkcdaefkibaaPacU
namespace Go.Proofs.Ytbejkcdaefkibaa.Wd
open Go Go.RowKit Go.Shelf Go.Deep Go.Lib
set_option linter.unusedVariables false
set_option maxRecDepth 100000

theorem drop_none {l : List UInt8} {at_ : Nat} (h : l.length ≤ at_) : stp (l.drop at_) = none := by rw [List.drop_eq_nil_of_le h]; rfl
theorem drop_some {l : List UInt8} {at_ : Nat} (h : at_ < l.length) : l.drop at_ = l.getD at_ 0 :: l.drop (at_ + 1) := by
  rw [List.drop_eq_getElem_cons h, List.getD_eq_getElem?_getD, List.getElem?_eq_getElem h]; rfl
theorem stp_short {l : List UInt8} {at_ : Nat} (h : at_ < l.length) (h2 : l.length < at_ + 9 + (l.getD at_ 0).toNat) : stp (l.drop at_) = none := by
  rw [drop_some h, stp, if_pos (by rw [List.length_drop]; omega)]
theorem stp_long {l : List UInt8} {at_ : Nat} (h : at_ < l.length) (h2 : at_ + 9 + (l.getD at_ 0).toNat ≤ l.length) : stp (l.drop at_) = some ((l.drop (at_ + 1)).take (l.getD at_ 0).toNat, vl ((l.drop (at_ + 1 + (l.getD at_ 0).toNat)).take 8), l.drop (at_ + 9 + (l.getD at_ 0).toNat)) := by
  rw [drop_some h, stp, if_neg (by rw [List.length_drop]; omega), List.drop_drop, List.drop_drop]
  rw [show at_ + 1 + ((l.getD at_ 0).toNat + 8) = at_ + 9 + (l.getD at_ 0).toNat by omega]
/-- The document's snapshot that is read: its result's block, its own, and its row. -/
structure Ds (w wr : World) (P ck : Nat) (v : Value) (acc : List En) : Prop where
  b2 : Blk wr w.heap.size #[.int .u64 0, .slice none 0 0] Tsn
  b4 : Blk wr P #[.int .u64 (ck : Int), v] Tsn
  own : OwE wr (P + 1) v acc
  bel : Below w.heap.size w wr
theorem Ds.next {w wr w' : World} {P ck : Nat} {v : Value} {acc : List En} (h : Ds w wr P ck v acc) (g : Below wr.heap.size wr w') : Ds w w' P ck v acc := ⟨h.b2.below g, h.b4.below g, h.own.below g, kbq h.bel g⟩
theorem Ds.app {w V w6 : World} {P ck : Nat} {v v6 : Value} {acc l : List En} (h : Ds w V P ck v acc) (g : V.grownBy w6 v.ownBlock) (o : OwE w6 (P + 1) v6 (acc ++ l)) (hwP : w.heap.size < P) :
    Blk w6 P #[.int .u64 (ck : Int), v] Tsn ∧ Ds w (w6.setCell ⟨P, 1, none⟩ v6) P ck v6 (acc ++ l) := by
  have hP := h.b4.lt
  have tt : Tch (fun b => P + 1 ≤ b) V w6 := Tch.own h.own g
  have z := tt.blk h.b4 (by omega)
  refine ⟨z, ⟨?_, ?_, ?_, ?_⟩⟩
  · exact (Tch.set (S := fun b => b = P) w6 P 1 v6 rfl).blk (tt.blk h.b2 (by omega)) (by omega)
  · exact z.set 1 v6
  · exact own_tch o (Tch.set (S := fun b => b = P) w6 P 1 v6 rfl) (fun kk hk _ e => by omega)
  · exact (h.bel.trans (tt.below (by omega) (fun kk e => by omega))).setCell (p := ⟨P, 1, none⟩) (by show w.heap.size ≤ P; omega) v6
theorem own_low {V : World} {R P : Nat} {v p0 p1 : Value} {xs : List En} (h : OwE V (P + 1) v xs) (hR : R < P) : OwE ((V.setCell ⟨R, 0, none⟩ p0).setCell ⟨R, 1, none⟩ p1) R v xs := by
  have h1 : OwE ((V.setCell ⟨R, 0, none⟩ p0).setCell ⟨R, 1, none⟩ p1) (P + 1) v xs :=
    own_tch (own_tch h (Tch.set (S := fun b => b = R) V R 0 p0 rfl) (fun kk hk _ e => by omega)) (Tch.set (S := fun b => b = R) _ R 1 p1 rfl) (fun kk hk _ e => by omega)
  refine ⟨h1.1, ?_⟩
  rcases h1.2 with hn | ⟨g, cap, cur, e, hb, rest⟩
  · exact .inl hn
  · exact .inr ⟨g, cap, cur, e, by omega, rest⟩
set_option maxHeartbeats 16000000 in
theorem rdecode_any (A : Option Addr) (n cap : Nat) (l : List UInt8) (w : World) (hT : Txt w A n l) (hc1 : n ≤ cap) (hc2 : cap ≤ 9223372036854775807) (hl6 : n ≤ 100000) (e c : Nat) (xs : List En) (hX : dcA l = (e, c, xs)) :
    Calls Try.prog 19 #[.slice A n cap] w fun r w' => ∃ v, r = .returned (.tuple #[.agg #[.int .u64 (c : Int), v], .int .i64 (e : Int)]) ∧ OwE w' w.heap.size v xs ∧ Below w.heap.size w w' := by
  have hl : l.length = n := hT.1
  have k0 := Lib.hid ((Below.refl _ w).alloc (Nat.le_refl _) (.cells #[.int .u64 0, .slice none 0 0] Tsn))
  have q0 := Lib.hid (Blk.new w #[.int .u64 0, .slice none 0 0] Tsn)
  have T0 := Lib.hid (hT.below k0.out)
  unfold dcA at hX
  have hf : 4 ≤ n → ∀ W : World, (Instr.slice 26 (.slice A n cap) none (some (.int .i64 4)) none).run Try.prog W = .ok (.slice A 4 cap) W := fun h W => bslice_front A n cap 4 (by omega) hc2 W
  clear hT
  go_enter Try.func19, Try.ntmps19
  go_upto_region 1 with fail
  generalize w.alloc (.cells #[.int .u64 0, .slice none 0 0] Tsn) = W at *
  have z0 := q0.out.cell 0
  have z1 := q0.out.cell 1
  have f0 := q0.out.fz 0
  have f1 := q0.out.fz 1
  simp at z0 z1
  by_cases h4 : l.take 4 = mg
  · rw [if_pos h4] at hX
    have hn4 : 4 ≤ n := by have := congrArg List.length h4; rw [List.length_take, hl] at this; simp at this; omega
    have T4 := T0.out.front (i := 4) hn4
    rw [h4] at T4
    have cv4 := all_str T4 cap
    have hf4 := hf hn4
    have hn4I : ¬ (n : Int) < 4 := by omega
    have he : (([84, 76, 82, 49] : List UInt8) == [84, 76, 82, 49]) = true := rfl
    by_cases h16 : 16 ≤ l.length
    · rw [if_pos h16] at hX
      have hn16 : ¬ (n : Int) < 16 := by omega
      generalize hv : rdA (vl ((l.drop 12).take 4)) [] (l.drop 16) [] = v at hX
      obtain ⟨E, ys, r⟩ := v
      simp only at hX
      obtain ⟨D4, m4, n4⟩ := bslice_mid A n cap 4 12 (by omega) (by omega) hc1 hc2
      obtain ⟨D5, m5, n5⟩ := bslice_mid A n cap 12 16 (by omega) (by omega) hc1 hc2
      rw [show 12 - 4 = 8 from rfl, show ((4 : Nat) : Int) = 4 from rfl, show ((12 : Nat) : Int) = 12 from rfl] at m4
      rw [show 16 - 12 = 4 from rfl, show ((16 : Nat) : Int) = 16 from rfl, show ((12 : Nat) : Int) = 12 from rfl] at m5
      have CG4 := Lib.hid (fun W' (g : Below W.heap.size W W') => rget_any D4 8 (cap - 4) _ W' (n4 W' l (T0.out.below g)) (by decide))
      have CG5 := Lib.hid (fun W' (g : Below W.heap.size W W') => rget_any D5 4 (cap - 12) _ W' (n5 W' l (T0.out.below g)) (by decide))
      have hm : vl ((l.drop 12).take 4) < 4294967296 := vl_lt 4 _ (by rw [List.length_take, List.length_drop]; omega)
      have hck : vl ((l.drop 4).take 8) < 18446744073709551616 := vl_lt 8 _ (by rw [List.length_take, List.length_drop]; omega)
      rw [show 12 - 4 = 8 from rfl] at CG4
      rw [show 16 - 12 = 4 from rfl] at CG5
      generalize vl ((l.drop 12).take 4) = m at *
      generalize vl ((l.drop 4).take 8) = ck at *
      have HX := Lib.hid hX
      have HV := Lib.hid hv
      clear hX hv n4 n5
      have hPb : w.heap.size < W.heap.size := q0.out.lt
      go_upto_region 6 with (go_at_call 26; refine (CG4.out _ (Below.refl _ _)).mono ?_; rintro e w1 ⟨rfl, rfl⟩)
      have S0 := Lib.hid (show Ds w (W.alloc (.cells #[.int .u64 (ck : Int), .slice none 0 0] Tsn)) W.heap.size ck (.slice none 0 0) [] from
        ⟨q0.out.alloc _, Blk.new W _ Tsn, OwE.nil _ _, k0.out.alloc k0.out.size _⟩)
      have KA := Lib.hid ((Below.refl _ W).alloc (Nat.le_refl _) (.cells #[.int .u64 (ck : Int), .slice none 0 0] Tsn))
      clear z0 z1 f0 f1 cv4 T4 hf hf4 CG4 m4
      generalize hP : W.heap.size = P at *
      generalize W.alloc (.cells #[.int .u64 (ck : Int), .slice none 0 0] Tsn) = W1 at *
      go_wp2_with fail
      go_loopw [5, 6, 7, 8, 9] (fun s5 s6 s7 s8 s9 wx => ∃ (k at_ : Nat) (v p8 p9 : Value) (last : ByteArray) (acc : List En), s5 = .int .i64 (at_ : Int) ∧ s6 = .string last ∧ s7 = .int .u64 (k : Int) ∧ s8 = p8 ∧ s9 = p9 ∧ k ≤ m ∧ k ≤ at_ ∧ at_ ≤ n ∧ last.size ≤ 255 ∧ acc.length = k ∧ Hid (rdA (m - k) (lb last) (l.drop at_) acc = (E, ys, r)) ∧ Ds w wx P ck v acc ∧ Hid (Below P W wx)) (fun _ _ s7 _ _ _ => m - (intOf s7).toNat)
      case atStart => exact ⟨0, 16, _, _, _, ⟨#[]⟩, [], rfl, rfl, rfl, rfl, rfl, by omega, by omega, by omega, by decide, rfl, Lib.hid HV.out, S0.out, Lib.hid (by rw [← hP] at *; exact KA.out)⟩
      case round =>
        obtain ⟨k, at_, v, p8, p9, last, acc, rfl, rfl, rfl, rfl, rfl, hk, hka, hat, hls, hacc, D, S, HB⟩ := hrel
        generalize wr = V at *
        have HBW := Lib.hid (show Below W.heap.size W V from by rw [hP]; exact HB.out)
        have CG := Lib.hid (CG5.out V HB.out)
        have TV := Lib.hid (T0.out.below HBW.out)
        have b0 := S.b2.cell 0
        have b1 := S.b2.cell 1
        have f0 := S.b2.fz 0
        have f1 := S.b2.fz 1
        simp at b0 b1
        clear S0 HV
        by_cases hkm : k < m
        · obtain ⟨d, hd⟩ : ∃ d, m - k = d + 1 := ⟨m - k - 1, by omega⟩
          have QZ := Lib.hid S.b2
          have KZ := Lib.hid S.bel
          have SS := Lib.hid S
          have HACC := Lib.hid hacc
          have hkI : (k : Int) < (m : Int) := by omega
          by_cases ha1 : at_ < n
          · obtain ⟨bA, oA, rfl, _, hcA⟩ := TV.out.2 (by omega)
            have cA := hcA at_ ha1
            obtain ⟨N, hN⟩ : ∃ N, (l.getD at_ 0).toNat = N := ⟨_, rfl⟩
            have hNb : N < 256 := by rw [← hN]; exact (l.getD at_ 0).toNat_lt
            rw [hN] at cA
            have ha1I : ¬ (n : Int) ≤ (at_ : Int) := by omega
            clear hcA
            by_cases ha2 : at_ + 9 + N ≤ n
            · have hst := stp_long (l := l) (at_ := at_) (by omega) (by rw [hN, hl]; exact ha2)
              rw [hN] at hst
              have e0 := D.out
              rw [hd, rd_one hst] at e0
              have ha2I : ¬ (n : Int) < (at_ : Int) + 9 + (N : Int) := by omega
              obtain ⟨D6, m6, n6⟩ := bslice_mid (some ⟨bA, oA, none⟩) n cap (at_ + 1) (at_ + 1 + N) (by omega) (by omega) hc1 hc2
              obtain ⟨D7, m7, n7⟩ := bslice_mid (some ⟨bA, oA, none⟩) n cap (at_ + 1 + N) (at_ + 9 + N) (by omega) (by omega) hc1 hc2
              rw [show at_ + 1 + N - (at_ + 1) = N by omega, show ((at_ + 1 : Nat) : Int) = (at_ : Int) + 1 from rfl, show ((at_ + 1 + N : Nat) : Int) = (at_ : Int) + 1 + (N : Int) from rfl] at m6
              rw [show at_ + 9 + N - (at_ + 1 + N) = 8 by omega, show ((at_ + 1 + N : Nat) : Int) = (at_ : Int) + 1 + (N : Int) from rfl, show ((at_ + 9 + N : Nat) : Int) = (at_ : Int) + 9 + (N : Int) from rfl] at m7
              have T6 := n6 V l TV.out
              rw [show at_ + 1 + N - (at_ + 1) = N by omega] at T6
              have n8 : ∀ W', Txt W' (some ⟨bA, oA, none⟩) n l → Txt W' D7 8 ((l.drop (at_ + 1 + N)).take 8) := fun W' g => by have := n7 W' l g; rwa [show at_ + 9 + N - (at_ + 1 + N) = 8 by omega] at this
              have CG7 := Lib.hid (fun W' (g : Txt W' (some ⟨bA, oA, none⟩) n l) => rget_any D7 8 (cap - (at_ + 1 + N)) _ W' (n8 W' g) (by decide))
              generalize cap - (at_ + 1 + N) = cc at m7 CG7
              have hkl : ((l.drop (at_ + 1)).take N).length ≤ 255 := by rw [List.length_take]; omega
              generalize (l.drop (at_ + 1)).take N = key at *
              generalize vl ((l.drop (at_ + 1 + N)).take 8) = u at *
              have cv6 := all_str T6 (cap - (at_ + 1))
              have hks : (str key).size ≤ 255 := by rw [← list_size]; exact hkl
              have CR := Lib.hid (fun W' => rright_any (str key) W' (by omega))
              have CL := Lib.hid (fun W' => rless_any last (str key) W' (by omega) (by omega))
              rw [lb_str key] at CR CL
              have hlk : lb (str key) = key := lb_str key
              obtain ⟨s, hS⟩ : ∃ s, s = str key := ⟨_, rfl⟩
              rw [← hS] at cv6 CR CL hks hlk
              have HS := Lib.hid hS
              have HLK := Lib.hid hlk
              have HE := Lib.hid e0
              clear hS hlk e0 n6 n7 n8 T6 hst S D hacc hkl
              generalize rtB key = r1 at *
              generalize ls (lb last) key = r2 at *
              cases r1 with
              | false =>
                have e1 := HE.out
                rw [if_neg (by decide)] at e1
                simp only [Prod.mk.injEq] at e1
                obtain ⟨rfl, rfl, rfl⟩ := e1
                clear HE
                have hz := HX.out
                rw [if_neg (by decide)] at hz
                simp only [Prod.mk.injEq] at hz
                obtain ⟨rfl, rfl, rfl⟩ := hz
                clear SS
                go_wp2_with (first
                  | (go_at_call 26; refine CG.out.mono ?_; rintro e w2 ⟨rfl, rfl⟩)
                  | (go_at_call 16; refine (CR.out _).mono ?_; rintro e w2 ⟨rfl, rfl⟩))
                have z := (QZ.out.set 0 (.int .u64 0)).set 1 (.slice none 0 0)
                have y0 := z.cell 0
                have y1 := z.cell 1
                simp at y0 y1
                refine bodyPost_ret (v := .tuple #[.agg #[.int .u64 0, .slice none 0 0], .int .i64 12]) ?_ rfl ⟨_, rfl, OwE.nil _ _, (KZ.out.setCell (p := ⟨w.heap.size, 0, none⟩) (Nat.le_refl _) _).setCell (p := ⟨w.heap.size, 1, none⟩) (Nat.le_refl _) _⟩
                simp [results, Try.f19, go_sem, y0, y1]
              | true =>
                cases r2 with
                | false =>
                  have e1 := HE.out
                  rw [if_pos rfl, if_neg (by decide)] at e1
                  simp only [Prod.mk.injEq] at e1
                  obtain ⟨rfl, rfl, rfl⟩ := e1
                  clear HE
                  have hz := HX.out
                  rw [if_neg (by decide)] at hz
                  simp only [Prod.mk.injEq] at hz
                  obtain ⟨rfl, rfl, rfl⟩ := hz
                  clear SS
                  have HQ := Lib.hid (fun (x : World) (g : Drew V x) => (show Blk x w.heap.size #[.int .u64 0, .slice none 0 0] Tsn from QZ.out.below g.kept.2))
                  clear b0 b1 f0 f1
                  go_wp2_with (first
                    | (go_at_call 26; refine CG.out.mono ?_; rintro e w2 ⟨rfl, rfl⟩)
                    | (go_at_call 16; refine (CR.out _).mono ?_; rintro e w2 ⟨rfl, rfl⟩)
                    | (go_at_call 15; refine (CL.out _).mono ?_; rintro e w3 ⟨rfl, g3⟩; have b0 := (HQ.out _ g3).cell 0; have b1 := (HQ.out _ g3).cell 1; have f0 := (HQ.out _ g3).fz 0; have f1 := (HQ.out _ g3).fz 1; simp at b0 b1))
                  replace QZ := Lib.hid (HQ.out _ g3)
                  replace KZ := Lib.hid (kbq KZ.out g3.kept.2)
                  have z := (QZ.out.set 0 (.int .u64 0)).set 1 (.slice none 0 0)
                  have y0 := z.cell 0
                  have y1 := z.cell 1
                  simp at y0 y1
                  refine bodyPost_ret (v := .tuple #[.agg #[.int .u64 0, .slice none 0 0], .int .i64 42]) ?_ rfl ⟨_, rfl, OwE.nil _ _, (KZ.out.setCell (p := ⟨w.heap.size, 0, none⟩) (Nat.le_refl _) _).setCell (p := ⟨w.heap.size, 1, none⟩) (Nat.le_refl _) _⟩
                  simp [results, Try.f19, go_sem, y0, y1]
                | true =>
                  have e1 := HE.out
                  rw [if_pos rfl, if_pos rfl] at e1
                  replace HE := Lib.hid e1
                  clear e1
                  go_upto_region 19 with (first
                    | (go_at_call 26; refine CG.out.mono ?_; rintro e w2 ⟨rfl, rfl⟩)
                    | (go_at_call 16; refine (CR.out _).mono ?_; rintro e w2 ⟨rfl, rfl⟩)
                    | (go_at_call 15; refine (CL.out _).mono ?_; rintro e w3 ⟨rfl, g3⟩))
                  have S3 := Lib.hid (SS.out.next g3.kept.2)
                  have TA := Lib.hid (TV.out.below g3.kept.2)
                  have HB3 := Lib.hid (HB.out.trans (g3.kept.2.mono (by have := SS.out.b4.lt; omega)))
                  clear b0 b1 f0 f1 QZ KZ CR CL CG TV HBW SS cA
                  have hPl : P < w3.heap.size := S3.out.b4.lt
                  have z0 := S3.out.b4.cell 1
                  have f0 := S3.out.b4.fz 1
                  simp at z0
                  go_cut [] from 76 to 93 (fun wy => ∃ v6, Hid (Ds w wy P ck v6 (acc ++ [(s, u)])) ∧ Hid (Below P w3 wy))
                  case first =>
                    have SA := Lib.hid (S3.out.next ((Below.refl _ w3).alloc (Nat.le_refl _) (.cells (En.cs (s, u)) Tae)))
                    have SB := Lib.hid ((S3.out.next ((Below.refl _ w3).drew)).next ((Below.refl _ w3.drew).alloc (Nat.le_refl _) (.cells (En.cs (s, u)) Tae)))
                    have EA := Lib.hid (ens_one w3 (s, u))
                    have EB := Lib.hid (ens_one w3.drew (s, u))
                    have CA := Lib.hid (CG7.out w3 TA.out)
                    have CB := Lib.hid (CG7.out w3.drew (TA.out.below ((Below.refl _ w3).drew)))
                    have hbA : P + 1 ≤ (w3.alloc (.cells (En.cs (s, u)) Tae)).heap.size := by simp; omega
                    have hbB : P + 1 ≤ (w3.drew.alloc (.cells (En.cs (s, u)) Tae)).heap.size := by have e : w3.drew.heap.size = w3.heap.size := rfl; simp; omega
                    have hkb : acc.length + 1 ≤ 1000000 := by have := HACC.out; omega
                    have HZ := Lib.hid (fun (X : World) (hx : Ds w X P ck v acc) (hb : Below P w3 X) v6 (w6 : World) (o : OwE w6 (P + 1) v6 (acc ++ [(s, u)])) (g : X.grownBy w6 v.ownBlock) => (show Blk w6 P #[.int .u64 (ck : Int), v] Tsn ∧ Hid (Ds w (w6.setCell ⟨P, 1, none⟩ v6) P ck v6 (acc ++ [(s, u)])) ∧ Hid (Below P w3 (w6.setCell ⟨P, 1, none⟩ v6)) from
                      ⟨(hx.app g o hPb).1, Lib.hid (hx.app g o hPb).2, Lib.hid ((hb.trans ((Tch.own hx.own g).below (by have := hb.size; omega) (fun kk e => by omega))).setCell (p := ⟨P, 1, none⟩) (Nat.le_refl _) v6)⟩))
                    have KA2 := Lib.hid ((Below.refl P w3).alloc (by omega) (.cells (En.cs (s, u)) Tae))
                    have KB2 := Lib.hid (((Below.refl P w3).drew).alloc (by show P ≤ w3.heap.size; omega) (.cells (En.cs (s, u)) Tae))
                    have hwa : IntKind.i64.wrap ((at_ : Int) + 9) = (at_ : Int) + 9 := by rw [IntKind.wrap_i64]; omega
                    have hwb : IntKind.i64.wrap ((at_ : Int) + 9 + (N : Int)) = (at_ : Int) + 9 + (N : Int) := by rw [IntKind.wrap_i64]; omega
                    have hwc : IntKind.i64.wrap ((at_ : Int) + 1) = (at_ : Int) + 1 := by rw [IntKind.wrap_i64]; omega
                    have hwd : IntKind.i64.wrap ((at_ : Int) + 1 + (N : Int)) = (at_ : Int) + 1 + (N : Int) := by rw [IntKind.wrap_i64]; omega
                    have el : (acc ++ [(s, u)]).length = acc.length + 1 := by rw [List.length_append]; rfl
                    go_wp2_with fail
                    go_region_law (first
                      | (refine step_app_en (by rfl) _ _ (by rfl) (P + 1) v acc (by rfl) (by first | exact SA.out.own | exact SB.out.own) ⟨_, 0, none⟩ 1 1 [(s, u)] (by rfl) (by first | exact EA.out | exact EB.out) rfl hkb (by first | exact hbA | exact hbB) ?_; intro v6 w6 o6 g6; obtain ⟨z6, hD, hB⟩ := (by first | exact HZ.out _ SA.out KA2.out _ _ o6 g6 | exact HZ.out _ SB.out KB2.out _ _ o6 g6); have y1 := z6.cell 1; have f1 := z6.fz 1; simp at y1; obtain ⟨A6, c6, rfl, _⟩ := o6.form2; rw [el] at hD hB; clear g6 z6 o6)
                      | (go_simp; go_at_call 26; (first | with_reducible refine CB.out.mono ?_ | with_reducible refine CA.out.mono ?_); rintro e w2 ⟨rfl, rfl⟩))
                    all_goals
                      go_wp2
                      go_meet
                      case rel => exact ⟨_, hD, hB⟩
                  case rest =>
                  obtain ⟨v6, S6, B6⟩ := hcut
                  have hP6 : (V.heap.size) ≤ V.heap.size := Nat.le_refl _
                  clear z0 f0 CG7 m5 m6 m7 cv6
                  go_wp2
                  go_roundw
                  case rel =>
                    refine ⟨k + 1, at_ + 9 + N, _, _, _, s, acc ++ [(s, u)], by go_num, rfl, by go_num, rfl, rfl, by omega, by omega, by omega, hks, by rw [List.length_append, HACC.out]; rfl, Lib.hid ?_, S6.out, Lib.hid (HB3.out.trans B6.out)⟩
                    rw [show m - (k + 1) = d by omega, HLK.out, HS.out, ← HE.out]
                  case measure => simp [intOf]; omega
            · have hst := stp_short (l := l) (at_ := at_) (by omega) (by rw [hN, hl]; omega)
              have e0 := D.out
              rw [hd, rd_none hst] at e0
              simp only [Prod.mk.injEq] at e0
              obtain ⟨rfl, rfl, rfl⟩ := e0
              have ha2I : (n : Int) < (at_ : Int) + 9 + (N : Int) := by omega
              clear S D hacc SS
              have hz := HX.out
              rw [if_neg (by decide)] at hz
              simp only [Prod.mk.injEq] at hz
              obtain ⟨rfl, rfl, rfl⟩ := hz
              go_wp2_with (go_at_call 26; refine CG.out.mono ?_; rintro e w2 ⟨rfl, rfl⟩)
              have z := (QZ.out.set 0 (.int .u64 0)).set 1 (.slice none 0 0)
              have y0 := z.cell 0
              have y1 := z.cell 1
              simp at y0 y1
              refine bodyPost_ret (v := .tuple #[.agg #[.int .u64 0, .slice none 0 0], .int .i64 41]) ?_ rfl ⟨_, rfl, OwE.nil _ _, (KZ.out.setCell (p := ⟨w.heap.size, 0, none⟩) (Nat.le_refl _) _).setCell (p := ⟨w.heap.size, 1, none⟩) (Nat.le_refl _) _⟩
              simp [results, Try.f19, go_sem, y0, y1]
          · have hst := drop_none (l := l) (at_ := at_) (by omega)
            have e0 := D.out
            rw [hd, rd_none hst] at e0
            simp only [Prod.mk.injEq] at e0
            obtain ⟨rfl, rfl, rfl⟩ := e0
            have ha1I : (n : Int) ≤ (at_ : Int) := by omega
            clear S D hacc SS
            have hz := HX.out
            rw [if_neg (by decide)] at hz
            simp only [Prod.mk.injEq] at hz
            obtain ⟨rfl, rfl, rfl⟩ := hz
            go_wp2_with (go_at_call 26; refine CG.out.mono ?_; rintro e w2 ⟨rfl, rfl⟩)
            have z := (QZ.out.set 0 (.int .u64 0)).set 1 (.slice none 0 0)
            have y0 := z.cell 0
            have y1 := z.cell 1
            simp at y0 y1
            refine bodyPost_ret (v := .tuple #[.agg #[.int .u64 0, .slice none 0 0], .int .i64 41]) ?_ rfl ⟨_, rfl, OwE.nil _ _, (KZ.out.setCell (p := ⟨w.heap.size, 0, none⟩) (Nat.le_refl _) _).setCell (p := ⟨w.heap.size, 1, none⟩) (Nat.le_refl _) _⟩
            simp [results, Try.f19, go_sem, y0, y1]
        · obtain rfl : k = m := by omega
          have e0 := D.out
          rw [Nat.sub_self] at e0
          simp only [rdA, Prod.mk.injEq] at e0
          obtain ⟨rfl, rfl, rfl⟩ := e0
          have hz := HX.out
          rw [if_pos rfl] at hz
          have hkI : ¬ (k : Int) < (k : Int) := by omega
          obtain ⟨Av, cv, rfl, _⟩ := S.own.form2
          have y4 := S.b4.cell 0
          have y5 := S.b4.cell 1
          simp at y4 y5
          have QZ := Lib.hid S.b2
          have KZ := Lib.hid S.bel
          have OZ := Lib.hid S.own
          by_cases ha3 : at_ < n
          · have hne : ¬ l.drop at_ = [] := by intro e; have := congrArg List.length e; rw [List.length_drop, hl] at this; simp at this; omega
            rw [if_neg hne] at hz
            simp only [Prod.mk.injEq] at hz
            obtain ⟨rfl, rfl, rfl⟩ := hz
            have haI : (at_ : Int) < (n : Int) := by omega
            clear S D hacc hne
            go_wp2_with (go_at_call 26; refine CG.out.mono ?_; rintro e w2 ⟨rfl, rfl⟩)
            have z := (QZ.out.set 0 (.int .u64 0)).set 1 (.slice none 0 0)
            have y0 := z.cell 0
            have y1 := z.cell 1
            simp at y0 y1
            refine bodyPost_ret (v := .tuple #[.agg #[.int .u64 0, .slice none 0 0], .int .i64 43]) ?_ rfl ⟨_, rfl, OwE.nil _ _, (KZ.out.setCell (p := ⟨w.heap.size, 0, none⟩) (Nat.le_refl _) _).setCell (p := ⟨w.heap.size, 1, none⟩) (Nat.le_refl _) _⟩
            simp [results, Try.f19, go_sem, y0, y1]
          · have hem : l.drop at_ = [] := List.drop_eq_nil_of_le (by omega)
            rw [if_pos hem] at hz
            simp only [Prod.mk.injEq] at hz
            obtain ⟨rfl, rfl, rfl⟩ := hz
            have haI : ¬ (at_ : Int) < (n : Int) := by omega
            clear S D hacc hem
            generalize acc.length = la at *
            go_wp2_with (go_at_call 26; refine CG.out.mono ?_; rintro e w2 ⟨rfl, rfl⟩)
            have z := (QZ.out.set 0 (.int .u64 (ck : Int))).set 1 (.slice Av la cv)
            have y0 := z.cell 0
            have y1 := z.cell 1
            simp at y0 y1
            refine bodyPost_ret (v := .tuple #[.agg #[.int .u64 (ck : Int), .slice Av la cv], .int .i64 0]) ?_ rfl ⟨_, rfl, own_low OZ.out hPb, (KZ.out.setCell (p := ⟨w.heap.size, 0, none⟩) (Nat.le_refl _) _).setCell (p := ⟨w.heap.size, 1, none⟩) (Nat.le_refl _) _⟩
            simp [results, Try.f19, go_sem, y0, y1]
    · rw [if_neg h16] at hX
      simp only [Prod.mk.injEq] at hX
      obtain ⟨rfl, rfl, rfl⟩ := hX
      have hn16 : (n : Int) < 16 := by omega
      go_wp2
      have z := (q0.out.set 0 (.int .u64 0)).set 1 (.slice none 0 0)
      have y0 := z.cell 0
      have y1 := z.cell 1
      simp at y0 y1
      refine bodyPost_ret (v := .tuple #[.agg #[.int .u64 0, .slice none 0 0], .int .i64 41]) ?_ rfl ⟨_, rfl, OwE.nil _ _, (k0.out.setCell (p := ⟨w.heap.size, 0, none⟩) (Nat.le_refl _) _).setCell (p := ⟨w.heap.size, 1, none⟩) (Nat.le_refl _) _⟩
      simp [results, Try.f19, go_sem, y0, y1]
  · rw [if_neg h4] at hX
    simp only [Prod.mk.injEq] at hX
    obtain ⟨rfl, rfl, rfl⟩ := hX
    by_cases hn4 : 4 ≤ n
    · have T4 := T0.out.front (i := 4) hn4
      have cv4 := all_str T4 cap
      have hf4 := hf hn4
      have hn4I : ¬ (n : Int) < 4 := by omega
      generalize hK : l.take 4 = key at *
      have hne : (key == [84, 76, 82, 49]) = false := beq_eq_false_iff_ne.2 h4
      go_wp2
      have z := (q0.out.set 0 (.int .u64 0)).set 1 (.slice none 0 0)
      have y0 := z.cell 0
      have y1 := z.cell 1
      simp at y0 y1
      refine bodyPost_ret (v := .tuple #[.agg #[.int .u64 0, .slice none 0 0], .int .i64 40]) ?_ rfl ⟨_, rfl, OwE.nil _ _, (k0.out.setCell (p := ⟨w.heap.size, 0, none⟩) (Nat.le_refl _) _).setCell (p := ⟨w.heap.size, 1, none⟩) (Nat.le_refl _) _⟩
      simp [results, Try.f19, go_sem, y0, y1]
    · have hn4I : (n : Int) < 4 := by omega
      go_wp2
      have z := (q0.out.set 0 (.int .u64 0)).set 1 (.slice none 0 0)
      have y0 := z.cell 0
      have y1 := z.cell 1
      simp at y0 y1
      refine bodyPost_ret (v := .tuple #[.agg #[.int .u64 0, .slice none 0 0], .int .i64 40]) ?_ rfl ⟨_, rfl, OwE.nil _ _, (k0.out.setCell (p := ⟨w.heap.size, 0, none⟩) (Nat.le_refl _) _).setCell (p := ⟨w.heap.size, 1, none⟩) (Nat.le_refl _) _⟩
      simp [results, Try.f19, go_sem, y0, y1]
end Go.Proofs.Ytbejkcdaefkibaa.Wd
