/- What encodes and decodes answer: true; no conditions but those that each names. -/
import Derived.Test.YtbejkcdaefkibaaPacI
import Derived.Test.YtbejkcdaefkibaaPacB
namespace Go.Proofs.Ytbejkcdaefkibaa.Wd
open Go Go.RowKit Go.Shelf Go.Deep Go.Lib
set_option linter.unusedVariables false
set_option maxRecDepth 100000
theorem dc_small {l : List UInt8} {e c : Nat} {xs : List En} (h : dcA l = (e, c, xs)) (hl : l.length ≤ 100000) : e < 65536 ∧ xs.length ≤ 1000000 := by
  constructor
  · unfold dcA at h
    split at h
    · split at h
      · have q := rd_er (vl ((l.drop 12).take 4)) [] (l.drop 16) []
        generalize rdA (vl ((l.drop 12).take 4)) [] (l.drop 16) [] = v at h q
        obtain ⟨a, b, r⟩ := v
        simp only at h q
        split at h
        · split at h <;> simp only [Prod.mk.injEq] at h <;> omega
        · simp only [Prod.mk.injEq] at h; omega
      · simp only [Prod.mk.injEq] at h; omega
    · simp only [Prod.mk.injEq] at h; omega
  · by_cases e0 : e = 0
    · subst e0
      obtain ⟨_, _, _, _, hen⟩ := dc_some h
      have h1 := enB_len c xs
      rw [hen] at h1
      have := wgt_len xs
      omega
    · have h1 := dc_bad l (by rw [h]; exact e0)
      rw [h] at h1
      simp only [Prod.mk.injEq] at h1
      rw [h1.2]; simp
set_option maxHeartbeats 8000000 in
theorem encodes_any (c : Nat) (A : Option Addr) (n cap : Nat) (xs : List En) (w : World) (hc : c < 18446744073709551616) (h : Ens w A n xs) (hw : wgt xs ≤ 1000000) (hu : ∀ x ∈ xs, x.2 < 18446744073709551616) :
    Calls Try.prog 8 #[snV c A n cap] w fun e w' => e = .returned (.bool true) ∧ Below w.heap.size w w' := by
  have q0 := Lib.hid (Blk.new w (snC c A n cap) Tsn)
  have G0 := Lib.hid ((Below.refl _ w).alloc (Nat.le_refl _) (.cells (snC c A n cap) Tsn))
  have E0 := Lib.hid (h.below G0.out)
  clear h
  go_enter Try.func8, Try.ntmps8
  go_upto_region 1 with fail
  generalize w.alloc (.cells (snC c A n cap) Tsn) = W at *
  have x0 := q0.out.cell 0
  have x1 := q0.out.cell 1
  simp at x0 x1
  have CA := Lib.hid (encode_any c A n cap xs W hc E0.out hw hu)
  obtain ⟨R, hR⟩ : ∃ R, rgE xs = R := ⟨_, rfl⟩
  obtain ⟨L, hL⟩ : ∃ L, enO c xs = L := ⟨_, rfl⟩
  obtain ⟨Z, hZ⟩ : ∃ Z, 16 + wgt xs = Z := ⟨_, rfl⟩
  have hR3 : R < 65536 := by rw [← hR]; unfold rgE; split <;> (try split) <;> omega
  rw [hR, hL] at CA
  have CB := Lib.hid (fun (W' : World) (g : Below W.heap.size W W') => rencode_any c A n cap xs W' hc (E0.out.below g) hw hu)
  rw [hR, hL] at CB
  have CP := Lib.hid (fun (W' : World) (g : Below W.heap.size W W') => psize_any c A n cap xs W' (E0.out.below g) hw)
  have CQ := Lib.hid (fun (W' : World) (g : Below W.heap.size W W') => rsize_any c A n cap xs W' (E0.out.below g) hw)
  rw [hZ] at CP CQ
  clear hR hL hZ
  go_upto_region 2 with (go_at_call 11; refine CA.out.mono ?_; rintro e w1 ⟨v1, rfl, o1, g1⟩; obtain ⟨A1, c1, rfl, _, T1, _, _⟩ := o1.form2)
  have q1 := Lib.hid (q0.out.below g1)
  have K1 := Lib.hid g1
  have T1' := Lib.hid T1
  clear x0 x1 q0 CA o1 T1 g1
  have x0 := q1.out.cell 0
  have x1 := q1.out.cell 1
  simp at x0 x1
  go_upto_region 3 with (go_at_call 7; refine (CB.out _ K1.out).mono ?_; rintro e w2 ⟨v2, rfl, o2, g2⟩; obtain ⟨A2, c2, rfl, _, T2, _, _⟩ := o2.form2)
  have p1 := T1'.out.below g2
  have p2 := T2
  have kW := Below.refl w2.heap.size w2
  have K2 := Lib.hid (kbq K1.out g2)
  have q2 := Lib.hid (q1.out.below g2)
  clear x0 x1 q1 CB o2 T2 g2 T1' K1
  have x0 := q2.out.cell 0
  have x1 := q2.out.cell 1
  simp at x0 x1
  have CP2 := Lib.hid (fun (W' : World) (g : Below w2.heap.size w2 W') => CP.out W' (kbq K2.out g))
  have CQ2 := Lib.hid (fun (W' : World) (g : Below w2.heap.size w2 W') => CQ.out W' (kbq K2.out g))
  have G2 := Lib.hid (kbq G0.out K2.out)
  have he : (L == L) = true := beq_self_eq_true _
  have hwR : IntKind.i64.wrap (R : Int) = (R : Int) := by rw [IntKind.wrap_i64]; omega
  clear CP CQ q2 K2 G0 E0
  generalize L.length = ll at *
  go_wp2_with fail
  go_region_held3 (fun w' => Below w2.heap.size w2 w' ∧ w'.cell? ⟨w.heap.size, 0, none⟩ = some (.int .u64 (c : Int)) ∧ w'.cell? ⟨w.heap.size, 1, none⟩ = some (.slice A n cap) ∧ (convert 26 9 (.slice A1 ll c1)).run Try.prog w' = .ok (.string (str L)) w' ∧ (convert 26 9 (.slice A2 ll c2)).run Try.prog w' = .ok (.string (str L)) w')
    (first | with_reducible exact ⟨kW, x0, x1, all_str p1 c1, all_str p2 c2⟩ | with_reducible exact ⟨kW.drew, dcell x0, dcell x1, all_str (txt_drew p1) c1, all_str (txt_drew p2) c2⟩)
    (first
      | (go_at_call 13; (first
        | (with_reducible refine (CP2.out _ kW).mono ?_; rintro r w4 ⟨rfl, g⟩; with_reducible (replace kW := kbq kW g; replace p1 := p1.below g; replace p2 := p2.below g; replace x0 := celln g x0; replace x1 := celln g x1))
        | (with_reducible refine (CP2.out _ kW.drew).mono ?_; rintro r w4 ⟨rfl, g⟩; with_reducible (replace kW := kbq kW.drew g; replace p1 := (txt_drew p1).below g; replace p2 := (txt_drew p2).below g; replace x0 := celln g (dcell x0); replace x1 := celln g (dcell x1)))))
      | (go_at_call 18; (first
        | (with_reducible refine (CQ2.out _ kW).mono ?_; rintro r w5 ⟨rfl, g⟩; with_reducible (replace kW := kbq kW g; replace p1 := p1.below g; replace p2 := p2.below g; replace x0 := celln g x0; replace x1 := celln g x1))
        | (with_reducible refine (CQ2.out _ kW.drew).mono ?_; rintro r w5 ⟨rfl, g⟩; with_reducible (replace kW := kbq kW.drew g; replace p1 := (txt_drew p1).below g; replace p2 := (txt_drew p2).below g; replace x0 := celln g (dcell x0); replace x1 := celln g (dcell x1))))))
  all_goals
    rename_i hH
    have hH1 := hH.1
    clear hH
    go_wp2
    go_ret
    exact ⟨rfl, kbq G2.out hH1⟩
set_option maxHeartbeats 4000000 in
theorem decodes_any (A : Option Addr) (n cap : Nat) (l : List UInt8) (w : World) (hT : Txt w A n l) (hc1 : n ≤ cap) (hc2 : cap ≤ 9223372036854775807) (hn : n ≤ 100000) :
    Calls Try.prog 9 #[.slice A n cap] w fun e w' => e = .returned (.bool true) ∧ Below w.heap.size w w' := by
  have hl : l.length = n := hT.1
  generalize hX : dcA l = v
  obtain ⟨e, c, xs⟩ := v
  have he16 : e < 65536 ∧ xs.length ≤ 1000000 := dc_small hX (by omega)
  have CD := Lib.hid (decode_all A n cap l w hT hc1 hc2 (by omega) e c xs hX)
  have CR := Lib.hid (fun W (g : Below w.heap.size w W) => rdecode_any A n cap l W (hT.below g) hc1 hc2 hn e c xs hX)
  have hw2 : IntKind.i64.wrap (e : Int) = (e : Int) := by rw [IntKind.wrap_i64]; omega
  clear hT hX
  go_enter Try.func9, Try.ntmps9
  go_upto_region 2 with (go_at_call 12; refine CD.out.mono ?_; rintro r w1 ⟨v1, rfl, o1, g1⟩; obtain ⟨A1, c1, rfl, _, _, hE, _⟩ := o1.form)
  have q1 := Lib.hid (Blk.new w1 (snC c A1 xs.length c1) Tsn)
  have E1 := Lib.hid (hE.below ((Below.refl _ w1).alloc (Nat.le_refl _) (.cells (snC c A1 xs.length c1) Tsn)))
  have G1 := Lib.hid (g1.alloc g1.size (.cells (snC c A1 xs.length c1) Tsn))
  clear hE g1 o1 CD
  generalize w1.alloc (.cells (snC c A1 xs.length c1) Tsn) = W at *
  go_upto_region 3 with (go_at_call 19; refine (CR.out _ G1.out).mono ?_; rintro r w2 ⟨v2, rfl, o2, g2⟩; obtain ⟨A2, c2, rfl, _, _, hE2, _⟩ := o2.form)
  have g3 : Below w2.heap.size w2 (w2.alloc (.cells (snC c A2 xs.length c2) Tsn)) := (Below.refl _ w2).alloc (Nat.le_refl _) _
  have q2 := Lib.hid (Blk.new w2 (snC c A2 xs.length c2) Tsn)
  have q3 := Lib.hid ((q1.out.below g2).below g3)
  have E2 := Lib.hid (hE2.below g3)
  have E3 := Lib.hid ((E1.out.below g2).below g3)
  have G3 := Lib.hid (kbq (kbq G1.out g2) g3)
  clear hE2 g2 g3 o2 CR q1 E1 G1
  generalize w2.alloc (.cells (snC c A2 xs.length c2) Tsn) = V at *
  have x0 := q2.out.cell 0
  have x1 := q2.out.cell 1
  have y0 := q3.out.cell 0
  have y1 := q3.out.cell 1
  simp at x0 x1 y0 y1
  have CS := Lib.hid (rsame_any c A1 xs.length c1 A2 c2 xs V E3.out E2.out (by omega))
  go_wp2_with (go_at_call 20; refine CS.out.mono ?_; rintro r w3 ⟨rfl, g⟩)
  go_ret
  exact ⟨rfl, kbq G3.out g⟩
end Go.Proofs.Ytbejkcdaefkibaa.Wd
