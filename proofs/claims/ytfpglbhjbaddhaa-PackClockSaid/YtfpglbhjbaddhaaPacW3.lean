/- PackClock answers true, for any numbers and choices; no conditions. -/
import Derived.Test.YtfpglbhjbaddhaaPacW2
namespace Go.Proofs.Ytfpglbhjbaddhaa.Wd
open Go Go.RowKit Go.Shelf Go.Deep Go.Lib
set_option linter.unusedVariables false
set_option maxRecDepth 100000

theorem txt_drew {w : World} {A : Option Addr} {n : Nat} {l : List UInt8} (h : Txt w A n l) : Txt w.drew A n l := h.below ((Below.refl _ w).drew)
/-- A part of bytes. -/
theorem bslice_mid (A : Option Addr) (n cap i j : Nat) (hij : i ≤ j) (hj : j ≤ n) (hn : n ≤ cap) (hc : cap ≤ 9223372036854775807) : ∃ A', (∀ W : World, (Instr.slice 26 (.slice A n cap) (some (.int .i64 (i : Int))) (some (.int .i64 (j : Int))) none).run Try.prog W = .ok (.slice A' (j - i) (cap - i)) W) ∧
    (∀ (W : World) (l : List UInt8), Txt W A n l → Txt W A' (j - i) ((l.drop i).take (j - i))) := by
  obtain ⟨i0, hz, hz0, hz1, hz2⟩ := info_parts infoByte
  refine ⟨if cap = i then A else A.map (·.add (i * 1)), fun W => ?_, fun W l h => ?_⟩
  · have h1 : j ≤ cap := by omega
    simp [go_sem, Try.underlying26, sizeOf, typeInfo, hz, hz1, hij, h1, sliced]
  · refine ⟨by rw [List.length_take, List.length_drop, h.1]; omega, fun h0 => ?_⟩
    obtain ⟨b, off, rfl, hb, hcc⟩ := h.2 (by omega)
    rw [if_neg (by omega)]
    refine ⟨b, off + i, by simp [Go.WideShapes.add_plain], hb, fun k hk => ?_⟩
    rw [Nat.add_assoc, hcc (i + k) (by omega)]
    simp [List.getD_eq_getElem?_getD, hk]
set_option maxHeartbeats 4000000 in
theorem clock_walk (a b : Int) (A : Option Addr) (n cap : Nat) (w : World) (ha : 0 ≤ a ∧ a ≤ 18446744073709551615) (hb : 0 ≤ b ∧ b ≤ 18446744073709551615) (h : Rws w A n) (hn : n ≤ 9223372036854775807) :
    Calls Try.prog 8 #[.int .u64 a, .int .u64 b, .slice A n cap] w fun e w' => e = .returned (.bool true) ∧ Below w.heap.size w w' := by
  obtain ⟨a, rfl⟩ := Int.eq_ofNat_of_zero_le ha.1
  obtain ⟨b, rfl⟩ := Int.eq_ofNat_of_zero_le hb.1
  have ha64 : a < 18446744073709551616 := by omega
  have hb64 : b < 18446744073709551616 := by omega
  have CF := Lib.hid (few_any A n cap w h hn)
  have CS := Lib.hid (enc_snap 5 A n cap none 0 0 w (by decide) h hn (fun i hi => absurd hi (by omega)) (by decide))
  rw [show ((5 : Nat) : Int) = 5 from rfl] at CS
  have CK := Lib.hid (fun W => known_any W)
  clear h
  go_enter Try.func8, Try.ntmps8
  go_upto_region 1 with fail
  go_wp2_with (go_at_call 9; refine CF.out.mono ?_; rintro e w1 ⟨⟨bb, rfl⟩, rfl⟩; refine stopHere ?_)
  unfold Stop
  cases bb with
  | false =>
    go_wp2_with (go_at_call 10; refine (CK.out _).mono ?_; rintro e w1 ⟨rfl, g1⟩)
    go_ret
    exact ⟨rfl, g1⟩
  | true =>
    go_upto_region 7 with (first
      | (go_at_call 11; refine CS.out.mono ?_; rintro e w1 ⟨B, d, xs, rfl, hE, O, g1, _, _, _, _⟩))
    have q1 := Lib.hid ((Blk.new w1 (snC a B xs.length d) Tsn).alloc (.cells (snC b B xs.length d) Tsn))
    have q2 := Blk.new (w1.alloc (.cells (snC a B xs.length d) Tsn)) (snC b B xs.length d) Tsn
    rw [show (w1.alloc (.cells (snC a B xs.length d) Tsn)).heap.size = w1.heap.size + 1 by simp] at q2
    replace q2 := Lib.hid q2
    have k2 := Lib.hid (((Below.refl _ w1).alloc (Nat.le_refl _) (.cells (snC a B xs.length d) Tsn)).alloc (by simp) (.cells (snC b B xs.length d) Tsn))
    have E0 := Lib.hid (hE.below k2.out)
    have G0 := Lib.hid (kbq g1 k2.out)
    clear hE g1 k2 CS CF
    generalize (w1.alloc (.cells (snC a B xs.length d) Tsn)).alloc (.cells (snC b B xs.length d) Tsn) = W at *
    have x0 := q1.out.cell 0
    have x1 := q1.out.cell 1
    simp at x0 x1
    have CA := Lib.hid (enc_of a B d xs W ha64 E0.out O.out)
    have CB := Lib.hid (fun (W' : World) (g : Below W.heap.size W W') => enc_of b B d xs W' hb64 (E0.out.below g) O.out)
    have hPa := enB_parts a xs []
    have hPb := enB_parts b xs []
    rw [List.append_nil] at hPa hPb
    have hw := O.out.2.1
    have hLa := enB_len a xs
    have hLb := enB_len b xs
    obtain ⟨Z, hZ⟩ : ∃ Z, Z = 16 + wgt xs := ⟨_, rfl⟩
    rw [← hZ] at CA CB hLa hLb
    have hz16 : 16 ≤ Z := by omega
    have hz226 : Z ≤ 226 := by omega
    have hda : (enB a xs).drop 12 = be 4 xs.length ++ enL xs := by
      rw [← List.take_append_drop 4 ((enB a xs).drop 12), hPa.2.2.1, List.drop_drop, hPa.2.2.2, List.append_nil]
    have hdb : (enB b xs).drop 12 = be 4 xs.length ++ enL xs := by
      rw [← List.take_append_drop 4 ((enB b xs).drop 12), hPb.2.2.1, List.drop_drop, hPb.2.2.2, List.append_nil]
    have hma := hPa.1
    have hmb := hPb.1
    have hca := hPa.2.1
    have hcb := hPb.2.1
    clear hPa hPb hw hZ O E0
    generalize be 4 xs.length ++ enL xs = tl at *
    generalize enB a xs = ea at *
    generalize enB b xs = eb at *
    go_upto_region 8 with (go_at_call 16; refine CA.out.mono ?_; rintro e w2 ⟨A2, c2, rfl, h21, h22, T2, _, _, g2⟩)
    have q3 := Lib.hid (q2.out.below g2)
    clear x0 x1 q1 q2 CA
    have x0 := q3.out.cell 0
    have x1 := q3.out.cell 1
    simp at x0 x1
    have T2' := Lib.hid T2
    clear T2
    go_upto_region 9 with (go_at_call 16; refine (CB.out _ g2).mono ?_; rintro e w3 ⟨A3, c3, rfl, h31, h32, T3, _, _, g3⟩)
    have U2 := T2'.out.below g3
    have G3 := Lib.hid (kbq (kbq G0.out g2) g3)
    clear x0 x1 q3 CB T2' g2 g3 G0
    have f2 := bslice_front A2 Z c2 4 (by omega) h22
    have f3 := bslice_front A3 Z c3 4 (by omega) h32
    obtain ⟨B2, r2, s2, _⟩ := bslice_rest A2 Z c2 12 (by omega) h21
    obtain ⟨B3, r3, s3, _⟩ := bslice_rest A3 Z c3 12 (by omega) h31
    obtain ⟨D2, m2, n2⟩ := bslice_mid A2 Z c2 4 12 (by omega) (by omega) h21 h22
    obtain ⟨D3, m3, n3⟩ := bslice_mid A3 Z c3 4 12 (by omega) (by omega) h31 h32
    have p1 := U2.front (i := 4) (by omega)
    have p2 := T3.front (i := 4) (by omega)
    have p3 := s2 _ _ U2
    have p4 := s3 _ _ T3
    have p5 := n2 _ _ U2
    have p6 := n3 _ _ T3
    rw [hma] at p1
    rw [hmb] at p2
    rw [hda] at p3
    rw [hdb] at p4
    rw [show 12 - 4 = 8 from rfl, hca] at p5
    rw [show 12 - 4 = 8 from rfl, hcb] at p6
    rw [show ((4 : Nat) : Int) = 4 from rfl] at f2 f3 m2 m3
    rw [show ((12 : Nat) : Int) = 12 from rfl] at r2 r3 m2 m3
    rw [show 12 - 4 = 8 from rfl] at m2 m3
    have hzz : ¬ (Z : Int) < 16 := by omega
    have hzN : ¬ Z < 16 := by omega
    have L1 := ls_be 8 a b
    rw [Nat.mod_eq_of_lt (show a < 256 ^ 8 from ha64), Nat.mod_eq_of_lt (show b < 256 ^ 8 from hb64)] at L1
    have L2 : (be 8 a = be 8 b) → a = b := fun e => be_inj (k := 8) ha64 hb64 e
    clear hma hmb hda hdb hca hcb U2 T3 s2 s3 n2 n3 hLa hLb
    go_upto_region 11 with fail
    rcases Nat.lt_trichotomy a b with hab | hab | hab
    · have h1 : ¬ a = b := by omega
      have h2 : (a : Int) < (b : Int) := by omega
      have h3 : ((a : Int) == (b : Int)) = false := beq_eq_false_iff_ne.2 (by omega)
      have h4 : (be 8 a == be 8 b) = false := beq_eq_false_iff_ne.2 (fun e => h1 (L2 e))
      have h5 : ls (be 8 a) (be 8 b) = true := L1.trans (decide_eq_true hab)
      generalize be 8 a = la at *
      generalize be 8 b = lc at *
      clear L1 L2
      have kW := Below.refl w3.heap.size w3
      go_wp2_with fail
      go_region_held3 (fun w' => Below w3.heap.size w3 w' ∧ (convert 26 9 (.slice A2 4 c2)).run Try.prog w' = .ok (.string (str mg)) w' ∧ (convert 26 9 (.slice A3 4 c3)).run Try.prog w' = .ok (.string (str mg)) w' ∧ (convert 26 9 (.slice B2 (Z - 12) (c2 - 12))).run Try.prog w' = .ok (.string (str tl)) w' ∧ (convert 26 9 (.slice B3 (Z - 12) (c3 - 12))).run Try.prog w' = .ok (.string (str tl)) w' ∧ (convert 26 9 (.slice D2 8 (c2 - 4))).run Try.prog w' = .ok (.string (str la)) w' ∧ (convert 26 9 (.slice D3 8 (c3 - 4))).run Try.prog w' = .ok (.string (str lc)) w')
        (first | exact ⟨kW, all_str p1 c2, all_str p2 c3, all_str p3 (c2 - 12), all_str p4 (c3 - 12), all_str p5 (c2 - 4), all_str p6 (c3 - 4)⟩ | exact ⟨kW.drew, all_str (txt_drew p1) c2, all_str (txt_drew p2) c3, all_str (txt_drew p3) (c2 - 12), all_str (txt_drew p4) (c3 - 12), all_str (txt_drew p5) (c2 - 4), all_str (txt_drew p6) (c3 - 4)⟩)
        (first
          | (go_at_call 10; ((with_reducible refine (CK.out _).mono ?_); rintro r w4 ⟨rfl, g⟩; (first | with_reducible (replace kW := kbq kW g; replace p1 := p1.below g; replace p2 := p2.below g; replace p3 := p3.below g; replace p4 := p4.below g; replace p5 := p5.below g; replace p6 := p6.below g) | with_reducible (replace kW := kbq kW.drew g; replace p1 := (txt_drew p1).below g; replace p2 := (txt_drew p2).below g; replace p3 := (txt_drew p3).below g; replace p4 := (txt_drew p4).below g; replace p5 := (txt_drew p5).below g; replace p6 := (txt_drew p6).below g)); clear g)))
      all_goals
        rename_i hH
        have hH1 := hH.1
        clear hH
        go_wp2
        go_ret
        exact ⟨rfl, kbq G3.out hH1⟩
    · subst hab
      have h5 : ls (be 8 a) (be 8 a) = false := ls_irrefl _
      have h4 : (be 8 a == be 8 a) = true := beq_self_eq_true _
      generalize be 8 a = la at *
      clear L1 L2
      have kW := Below.refl w3.heap.size w3
      go_wp2_with fail
      go_region_held3 (fun w' => Below w3.heap.size w3 w' ∧ (convert 26 9 (.slice A2 4 c2)).run Try.prog w' = .ok (.string (str mg)) w' ∧ (convert 26 9 (.slice A3 4 c3)).run Try.prog w' = .ok (.string (str mg)) w' ∧ (convert 26 9 (.slice B2 (Z - 12) (c2 - 12))).run Try.prog w' = .ok (.string (str tl)) w' ∧ (convert 26 9 (.slice B3 (Z - 12) (c3 - 12))).run Try.prog w' = .ok (.string (str tl)) w' ∧ (convert 26 9 (.slice D2 8 (c2 - 4))).run Try.prog w' = .ok (.string (str la)) w' ∧ (convert 26 9 (.slice D3 8 (c3 - 4))).run Try.prog w' = .ok (.string (str la)) w')
        (first | exact ⟨kW, all_str p1 c2, all_str p2 c3, all_str p3 (c2 - 12), all_str p4 (c3 - 12), all_str p5 (c2 - 4), all_str p6 (c3 - 4)⟩ | exact ⟨kW.drew, all_str (txt_drew p1) c2, all_str (txt_drew p2) c3, all_str (txt_drew p3) (c2 - 12), all_str (txt_drew p4) (c3 - 12), all_str (txt_drew p5) (c2 - 4), all_str (txt_drew p6) (c3 - 4)⟩)
        (first
          | (go_at_call 10; ((with_reducible refine (CK.out _).mono ?_); rintro r w4 ⟨rfl, g⟩; (first | with_reducible (replace kW := kbq kW g; replace p1 := p1.below g; replace p2 := p2.below g; replace p3 := p3.below g; replace p4 := p4.below g; replace p5 := p5.below g; replace p6 := p6.below g) | with_reducible (replace kW := kbq kW.drew g; replace p1 := (txt_drew p1).below g; replace p2 := (txt_drew p2).below g; replace p3 := (txt_drew p3).below g; replace p4 := (txt_drew p4).below g; replace p5 := (txt_drew p5).below g; replace p6 := (txt_drew p6).below g)); clear g)))
      all_goals
        rename_i hH
        have hH1 := hH.1
        clear hH
        go_wp2
        go_ret
        exact ⟨rfl, kbq G3.out hH1⟩
    · have h1 : ¬ a = b := by omega
      have h2 : ¬ (a : Int) < (b : Int) := by omega
      have h2' : ¬ a < b := by omega
      have h3 : ((a : Int) == (b : Int)) = false := beq_eq_false_iff_ne.2 (by omega)
      have h4 : (be 8 a == be 8 b) = false := beq_eq_false_iff_ne.2 (fun e => h1 (L2 e))
      have h5 : ls (be 8 a) (be 8 b) = false := L1.trans (decide_eq_false (by omega))
      generalize be 8 a = la at *
      generalize be 8 b = lc at *
      clear L1 L2
      have kW := Below.refl w3.heap.size w3
      go_wp2_with fail
      go_region_held3 (fun w' => Below w3.heap.size w3 w' ∧ (convert 26 9 (.slice A2 4 c2)).run Try.prog w' = .ok (.string (str mg)) w' ∧ (convert 26 9 (.slice A3 4 c3)).run Try.prog w' = .ok (.string (str mg)) w' ∧ (convert 26 9 (.slice B2 (Z - 12) (c2 - 12))).run Try.prog w' = .ok (.string (str tl)) w' ∧ (convert 26 9 (.slice B3 (Z - 12) (c3 - 12))).run Try.prog w' = .ok (.string (str tl)) w' ∧ (convert 26 9 (.slice D2 8 (c2 - 4))).run Try.prog w' = .ok (.string (str la)) w' ∧ (convert 26 9 (.slice D3 8 (c3 - 4))).run Try.prog w' = .ok (.string (str lc)) w')
        (first | exact ⟨kW, all_str p1 c2, all_str p2 c3, all_str p3 (c2 - 12), all_str p4 (c3 - 12), all_str p5 (c2 - 4), all_str p6 (c3 - 4)⟩ | exact ⟨kW.drew, all_str (txt_drew p1) c2, all_str (txt_drew p2) c3, all_str (txt_drew p3) (c2 - 12), all_str (txt_drew p4) (c3 - 12), all_str (txt_drew p5) (c2 - 4), all_str (txt_drew p6) (c3 - 4)⟩)
        (first
          | (go_at_call 10; ((with_reducible refine (CK.out _).mono ?_); rintro r w4 ⟨rfl, g⟩; (first | with_reducible (replace kW := kbq kW g; replace p1 := p1.below g; replace p2 := p2.below g; replace p3 := p3.below g; replace p4 := p4.below g; replace p5 := p5.below g; replace p6 := p6.below g) | with_reducible (replace kW := kbq kW.drew g; replace p1 := (txt_drew p1).below g; replace p2 := (txt_drew p2).below g; replace p3 := (txt_drew p3).below g; replace p4 := (txt_drew p4).below g; replace p5 := (txt_drew p5).below g; replace p6 := (txt_drew p6).below g)); clear g)))
      all_goals
        rename_i hH
        have hH1 := hH.1
        clear hH
        go_wp2
        go_ret
        exact ⟨rfl, kbq G3.out hH1⟩
end Go.Proofs.Ytfpglbhjbaddhaa.Wd
