/- PrefixAsks; no conditions but those that each names. -/
import Derived.Test.YtekpmepcacbloaaPreK
import Derived.Test.YtekpmepcacbloaaPreL
namespace Go.Proofs.Ytekpmepcacbloaa.Wd
open Go Go.RowKit Go.Shelf
set_option linter.unusedVariables false
set_option maxRecDepth 100000

theorem drop_ok {A : Option Addr} {n : Nat} {rs : List Rl} {w : World} (h : Rls w A n rs) (hp : ∀ i, (fnOf rs i).p.size ≤ 1000) (k : Nat) : ∀ i, (fnOf (rs.drop k) i).p.size ≤ 1000 := fun i => by
  rw [show fnOf (rs.drop k) i = fnOf rs (k + i) by simp [fnOf, List.getD_eq_getElem?_getD, List.getElem?_drop]]; exact hp _
set_option maxHeartbeats 4000000 in
theorem asks_walk (A : Option Addr) (n cap : Nat) (rs : List Rl) (K : ByteArray) (most : Int) (B : Option Addr) (nB cB : Nat) (X : Option Addr) (n1 c1 : Nat) (w : World) (h : Rls w A n rs) (hn : n ≤ 9223372036854775806) (hK : K.size ≤ 140737488355328)
    (hm : 0 ≤ most ∧ most ≤ 65535) (hB : Nmr w B nB) (hnB : nB ≤ 9223372036854775807) (hX : Byts w X n1) (hn1 : n1 ≤ 9223372036854775807) :
    Calls Try.prog 3 #[.slice A n cap, .string K, .int .u16 most, .slice B nB cB, .slice X n1 c1] w fun e w' => e = .returned (.bool true) ∧ Below w.heap.size w w' := by
  have K0 := Lib.hid known_any
  have H := Lib.hid h
  have HBN := Lib.hid hB
  have HX := Lib.hid hX
  clear h hB hX
  go_enter Try.func3, Try.ntmps3
  go_wp2
  go_loop [11, 12] (fun t i => ∃ (T : Int) (k : Nat), t = .int .i64 T ∧ i = .int .i64 (k : Int) ∧ k ≤ n ∧ (K.size : Int) ≤ T ∧ T ≤ 562949953421312 ∧ Hid (∀ j, j < k → ((fnOf rs j).p.size : Int) ≤ T)) (fun _ i => n - (intOf i).toNat)
  case atStart => exact ⟨_, 0, rfl, rfl, Nat.zero_le _, Int.le_refl _, by omega, Lib.hid (fun j hj => absurd hj (Nat.not_lt_zero _))⟩
  case round =>
    obtain ⟨T, k, rfl, rfl, hk, h1, h2, HT⟩ := hrel
    by_cases hlt : k < n
    · by_cases h8 : T ≤ 800
      · obtain ⟨b, off, rfl, hb, hc⟩ := H.out.2.2 (by omega)
        have e0 := (hc k hlt).1
        have hpk := (H.out.ok k).p
        have hw1 : IntKind.i64.wrap ((k : Int) + 1) = (k : Int) + 1 := by rw [IntKind.wrap_i64]; omega
        have hw2 : IntKind.i64.wrap (1 + ((fnOf rs k).p.size : Int)) = 1 + ((fnOf rs k).p.size : Int) := by rw [IntKind.wrap_i64]; omega
        have hw3 : IntKind.i64.wrap (T + (1 + ((fnOf rs k).p.size : Int))) = T + (1 + ((fnOf rs k).p.size : Int)) := by rw [IntKind.wrap_i64]; omega
        have HT2 : Hid (∀ j, j < k + 1 → ((fnOf rs j).p.size : Int) ≤ T + (1 + ((fnOf rs k).p.size : Int))) := Lib.hid (fun j hj => by
          by_cases c : j = k
          · subst c; omega
          · have := HT.out j (by omega); omega)
        generalize (fnOf rs k).p = P at *
        clear hc
        go_wp2
        go_round
        case rel => exact ⟨_, k + 1, rfl, by go_num, hlt, by omega, by omega, HT2⟩
        case measure => simp [intOf]; omega
      · have h9 : (800 : Int) < T := by omega
        go_wp2_with (go_at_call 8; refine (K0.out _).mono ?_; rintro e w1 ⟨rfl, g1⟩)
        go_ret
        exact ⟨rfl, g1⟩
    · obtain rfl : k = n := by omega
      by_cases h8 : T ≤ 800
      · have h9 : ¬ (800 : Int) < T := by omega
        have hKs : K.size ≤ 800 := by omega
        have HP := Lib.hid (show ∀ i, (fnOf rs i).p.size ≤ 1000 from fun i => by
          by_cases c : i < k
          · have := HT.out i c; omega
          · rw [fn_out (by rw [H.out.1]; omega)]; decide)
        by_cases h60 : 60 < k
        · go_wp2_with (go_at_call 8; refine (K0.out _).mono ?_; rintro e w1 ⟨rfl, g1⟩)
          go_ret
          exact ⟨rfl, g1⟩
        · have KK := Lib.hid (K0.out w)
          go_wp2_with (go_at_call 8; refine KK.out.mono ?_; rintro e w1 ⟨rfl, g1⟩; refine stopHere ?_)
          unfold Stop
          have k1 := Lib.hid g1
          have CP := Lib.hid (policy_any most B nB cB w1 hm (HBN.out.below g1) hnB)
          clear g1 KK
          go_wp2_with (go_at_call 9; refine CP.out.mono ?_; rintro e w2 ⟨⟨m, qs, v, rfl, hO, hlen, hP⟩, g2⟩; refine stopHere ?_)
          unfold Stop
          obtain ⟨A1, cp1, rfl, hc1, hR, _, _⟩ := hO.form3 (polr_ok hP.out) rfl
          have ka := (Below.refl _ w2).alloc (Nat.le_refl _) (.cells #[.int .i64 m, .slice A1 qs.length cp1] 31)
          have k2 := Lib.hid (kbq (kbq k1.out g2) ka)
          have R2 := Lib.hid (hR.below ka)
          have p2 := Lib.hid (Blk.new w2 #[.int .i64 m, .slice A1 qs.length cp1] 31)
          have HC1 := Lib.hid hc1
          clear hO hR g2 ka CP hc1
          have CK := Lib.hid (key_any X n1 c1 _ (HX.out.below k2.out) hn1)
          go_wp2_with (go_at_call 10; refine CK.out.mono ?_; rintro e w3 ⟨x, rfl, hS, hx, g3⟩; refine stopHere ?_)
          unfold Stop
          have k3 := Lib.hid (kbq k2.out g3)
          have R3 := Lib.hid (R2.out.below g3)
          have p3 := Lib.hid (p2.out.below g3)
          clear g3 CK k2 R2 p2
          have D1 := Lib.hid (asks_any A k cap rs K w3 (H.out.below k3.out) hn (by omega) HP.out)
          go_wp2_with (go_at_call 11; refine D1.out.mono ?_; rintro e w4 ⟨rfl, g4⟩; refine stopHere ?_)
          unfold Stop
          have k4 := Lib.hid (kbq k3.out g4)
          have R4' := Lib.hid (R3.out.below g4)
          have p4 := Lib.hid (p3.out.below g4)
          have c4 := p4.out.cell 1
          simp at c4
          have hq : ∀ i, (fnOf qs i).p.size ≤ 1000 := fun i => Nat.le_trans (polr_p hP.out i) (by omega)
          have HQ := Lib.hid hq
          have D2 := Lib.hid (asks_any A1 qs.length cp1 qs x w4 R4'.out (by omega) (by omega) hq)
          clear hq g4 D1 k3 R3 p3
          go_wp2_with (go_at_call 11; refine D2.out.mono ?_; rintro e w5 ⟨rfl, g5⟩; refine stopHere ?_)
          unfold Stop
          have k5 := Lib.hid (kbq k4.out g5)
          have R5 := Lib.hid (R4'.out.below g5)
          have p5 := Lib.hid (p4.out.below g5)
          clear c4
          have c5 := p5.out.cell 1
          simp at c5
          have hxK : x.size + K.size ≤ 1000 := by omega
          have D3 := Lib.hid (asks_any A1 qs.length cp1 qs (x ++ K) w5 R5.out (by omega) (by rw [ByteArray.size_append']; omega) HQ.out)
          clear g5 D2 k4 R4' p4
          go_wp2_with (go_at_call 11; refine D3.out.mono ?_; rintro e w6 ⟨rfl, g6⟩; refine stopHere ?_)
          unfold Stop
          have k6 := Lib.hid (kbq k5.out g6)
          have R6 := Lib.hid (R5.out.below g6)
          have p6 := Lib.hid (p5.out.below g6)
          clear c5
          have D4 := Lib.hid (asks_any A k cap rs x w6 (H.out.below k6.out) hn (by omega) HP.out)
          clear g6 D3 k5 R5 p5
          go_wp2_with (go_at_call 11; refine D4.out.mono ?_; rintro e w7 ⟨rfl, g7⟩; refine stopHere ?_)
          unfold Stop
          have k7 := Lib.hid (kbq k6.out g7)
          have R7 := Lib.hid (R6.out.below g7)
          have p7 := Lib.hid (p6.out.below g7)
          have c7 := p7.out.cell 1
          simp at c7
          obtain ⟨A2, hs2, hr2, _, _⟩ := rslice_rest A1 qs.length cp1 1 (polr_len hP.out) HC1.out.1
          have s2 : ∀ V : World, (Instr.slice 22 (.slice A1 qs.length cp1) (some (.int .i64 1)) none none).run Try.prog V = .ok (.slice A2 (qs.length - 1) (cp1 - 1)) V := hs2
          have D5 := Lib.hid (asks_any A2 (qs.length - 1) (cp1 - 1) (qs.drop 1) x w7 (hr2 _ _ R7.out) (by omega) (by omega) (drop_ok R7.out HQ.out 1))
          clear g7 D4 k6 R6 p6 hs2 hr2
          go_wp2_with (go_at_call 11; refine D5.out.mono ?_; rintro e w8 ⟨rfl, g8⟩)
          go_ret
          exact ⟨rfl, kbq k7.out g8⟩
      · have h9 : (800 : Int) < T := by omega
        go_wp2_with (go_at_call 8; refine (K0.out _).mono ?_; rintro e w1 ⟨rfl, g1⟩)
        go_ret
        exact ⟨rfl, g1⟩
end Go.Proofs.Ytekpmepcacbloaa.Wd
