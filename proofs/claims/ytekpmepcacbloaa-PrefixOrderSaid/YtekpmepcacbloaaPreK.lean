/- The chapter's example stands (tollerlaw13.known); what asks answers; no conditions but those that each names. -/
import Derived.Test.YtekpmepcacbloaaPreR
import Derived.Test.YtekpmepcacbloaaPreE
import Derived.Test.YtekpmepcacbloaaPreG
import Derived.Laws.StructEq
namespace Go.Proofs.Ytekpmepcacbloaa.Wd
open Go Go.RowKit Go.Shelf Go.Sort
set_option linter.unusedVariables false
set_option maxRecDepth 100000

abbrev knL : List Rl := [⟨⟨#[]⟩, 1, 0, 0⟩, ⟨⟨#[97]⟩, 2, 0, 0⟩, ⟨⟨#[97, 98]⟩, 3, 0, 0⟩]
theorem kn_find1 : findR knL ⟨#[97, 98, 99]⟩ = some ⟨⟨#[97, 98]⟩, 3, 0, 0⟩ := rfl
theorem kn_find2 : findR knL ⟨#[98]⟩ = some ⟨⟨#[]⟩, 1, 0, 0⟩ := rfl
theorem kn_cnt : cntT knL knL.length = 3 := rfl
theorem kn_rls (w : World) : Rls (w.alloc (.cells #[.string ⟨#[]⟩, .int .u64 1, .int .u64 0, .int .u8 0, .string ⟨#[97]⟩, .int .u64 2, .int .u64 0, .int .u8 0, .string ⟨#[97, 98]⟩, .int .u64 3, .int .u64 0, .int .u8 0] 28)) (some ⟨w.heap.size, 0, none⟩) 3 knL := by
  refine ⟨rfl, fun r hr => ?_, fun _ => ⟨w.heap.size, 0, rfl, by simp, fun k hk => ?_⟩⟩
  · simp only [knL, List.mem_cons, List.not_mem_nil, or_false] at hr
    rcases hr with rfl | rfl | rfl <;> exact ⟨by decide, ⟨by decide, by decide⟩, ⟨by decide, by decide⟩, by decide, by decide⟩
  · have h := Blk.new w #[.string ⟨#[]⟩, .int .u64 1, .int .u64 0, .int .u8 0, .string ⟨#[97]⟩, .int .u64 2, .int .u64 0, .int .u8 0, .string ⟨#[97, 98]⟩, .int .u64 3, .int .u64 0, .int .u8 0] 28
    match k, hk with
    | 0, _ => exact ⟨h.cell 0, h.cell 1, h.cell 2, h.cell 3⟩
    | 1, _ => exact ⟨h.cell 4, h.cell 5, h.cell 6, h.cell 7⟩
    | 2, _ => exact ⟨h.cell 8, h.cell 9, h.cell 10, h.cell 11⟩
set_option maxHeartbeats 2000000 in
theorem known_any (w : World) : Calls Try.prog 8 #[] w fun e w' => e = .returned (.bool true) ∧ Below w.heap.size w w' := by
  have k0 := (Below.refl _ w).alloc (Nat.le_refl _) (.cells #[.string ⟨#[]⟩, .int .u64 1, .int .u64 0, .int .u8 0, .string ⟨#[97]⟩, .int .u64 2, .int .u64 0, .int .u8 0, .string ⟨#[97, 98]⟩, .int .u64 3, .int .u64 0, .int .u8 0] 28)
  have C1 := Lib.hid (new_any _ _ 3 knL _ (kn_rls w) (by decide))
  go_enter Try.func8, Try.ntmps8
  go_wp2_with (go_at_call 12; refine C1.out.mono ?_; rintro e w1 ⟨t, rfl, T1, g1⟩; refine stopHere ?_)
  unfold Stop
  have k1 := Lib.hid (kbq k0 g1)
  clear k0 g1 C1
  have C2 := Lib.hid (find_any t ⟨#[97, 98, 99]⟩ knL w1 (by decide) T1.out)
  go_wp2_with (go_at_call 13; refine C2.out.mono ?_; rintro e w2 ⟨rfl, g2⟩; refine stopHere ?_)
  unfold Stop
  simp only [kn_find1, Option.getD_some, Option.isSome_some]
  have k2 := Lib.hid (kbq k1.out g2)
  have T2 := Lib.hid (T1.out.below g2)
  clear k1 g2 C2 T1
  have ka := (Below.refl _ w2).alloc (Nat.le_refl _) (.cells #[.string ⟨#[97, 98]⟩, .int .u64 3, .int .u64 0, .int .u8 0] 28)
  have b2 := Blk.new w2 #[.string ⟨#[97, 98]⟩, .int .u64 3, .int .u64 0, .int .u8 0] 28
  have C3 := Lib.hid (find_any t ⟨#[98]⟩ knL _ (by decide) (T2.out.below ka))
  go_wp2_with (go_at_call 13; refine C3.out.mono ?_; rintro e w3 ⟨rfl, g3⟩; refine stopHere ?_)
  unfold Stop
  simp only [kn_find2, Option.getD_some, Option.isSome_some]
  have k3 := Lib.hid (kbq (kbq k2.out ka) g3)
  have T3 := Lib.hid ((T2.out.below ka).below g3)
  have b3 := b2.below g3
  have kb := (Below.refl _ w3).alloc (Nat.le_refl _) (.cells #[.string ⟨#[]⟩, .int .u64 1, .int .u64 0, .int .u8 0] 28)
  have b4 := Blk.new w3 #[.string ⟨#[]⟩, .int .u64 1, .int .u64 0, .int .u8 0] 28
  have d0 := (b3.alloc (.cells #[.string ⟨#[]⟩, .int .u64 1, .int .u64 0, .int .u8 0] 28)).cell 1
  have d1 := b4.cell 1
  simp at d0 d1
  have C4 := Lib.hid (len_any t knL _ (T3.out.below kb))
  have kz := Lib.hid (kbq k3.out kb)
  clear k2 T2 ka b2 C3 g3 b3 k3 T3 kb b4
  go_wp2_with (go_at_call 14; refine C4.out.mono ?_; rintro e w4 ⟨rfl, rfl⟩; simp only [kn_cnt])
  go_ret
  exact ⟨rfl, kz.out⟩

abbrev cs4 (r : Rl) : Array Value := #[.string r.p, .int .u64 r.e, .int .u64 r.b, .int .u8 r.k]
set_option maxHeartbeats 4000000 in
theorem asks_any (A : Option Addr) (n cap : Nat) (rs : List Rl) (K : ByteArray) (w : World) (h : Rls w A n rs) (hn : n ≤ 9223372036854775806) (hK : K.size ≤ 1000) (hp : ∀ i, (fnOf rs i).p.size ≤ 1000) :
    Calls Try.prog 11 #[.slice A n cap, .string K] w fun e w' => e = .returned (.bool true) ∧ Below w.heap.size w w' := by
  have H := Lib.hid h
  have HP := Lib.hid hp
  have C1 := Lib.hid (new_any A n cap rs w h hn)
  clear h hp
  go_enter Try.func11, Try.ntmps11
  go_wp2_with (go_at_call 12; refine C1.out.mono ?_; rintro e w1 ⟨t, rfl, T1, g1⟩; refine stopHere ?_)
  unfold Stop
  have k1 := Lib.hid g1
  clear g1 C1
  have C2 := Lib.hid (find_any t K rs w1 (by omega) T1.out)
  obtain ⟨r, hr⟩ : ∃ r, r = (findR rs K).getD rl0 := ⟨_, rfl⟩
  obtain ⟨q, hq⟩ : ∃ q, q = (findR rs K).isSome := ⟨_, rfl⟩
  have C3 := Lib.hid (fun (W : World) (g : Below w.heap.size w W) => rfind_any A n cap rs K W (H.out.below g) hn (by omega))
  rw [← hr, ← hq] at C2
  simp only [← hr, ← hq] at C3
  clear hr hq
  go_wp2_with (go_at_call 13; refine C2.out.mono ?_; rintro e w2 ⟨rfl, g2⟩; refine stopHere ?_)
  unfold Stop
  have k2 := Lib.hid (kbq k1.out g2)
  have T2 := Lib.hid (T1.out.below g2)
  clear k1 g2 C2 T1
  have ka := (Below.refl _ w2).alloc (Nat.le_refl _) (.cells (cs4 r) 28)
  have b2 := Blk.new w2 (cs4 r) 28
  have k3 := Lib.hid (kbq k2.out ka)
  have C4 := Lib.hid (C3.out _ k3.out)
  go_wp2_with (go_at_call 15; refine C4.out.mono ?_; rintro e w3 ⟨rfl, g3⟩; refine stopHere ?_)
  unfold Stop
  have k4 := Lib.hid (kbq k3.out g3)
  have T3 := Lib.hid ((T2.out.below ka).below g3)
  have b3 := Lib.hid (b2.below g3)
  have kb := (Below.refl _ w3).alloc (Nat.le_refl _) (.cells (cs4 r) 28)
  have b4 := Lib.hid (Blk.new w3 (cs4 r) 28)
  have b3' := Lib.hid (b3.out.below kb)
  have T4 := Lib.hid (T3.out.below kb)
  have kz := Lib.hid (kbq k4.out kb)
  have hne : w2.heap.size ≠ w3.heap.size := Nat.ne_of_lt b3.out.lt
  clear k2 T2 ka b2 C4 g3 b3 k3 k4 T3 kb
  generalize hWz : w3.alloc (.cells (cs4 r) 28) = Wz at *
  have hs3 : w3.heap.size < Wz.heap.size := b4.out.lt
  go_wp2
  go_loopw [10] (fun i wr => ∃ k : Nat, i = .int .i64 (k : Int) ∧ k ≤ n ∧ Below Wz.heap.size Wz wr) (fun i _ => n - (intOf i).toNat)
  case atStart => exact ⟨0, rfl, Nat.zero_le _, Below.refl _ _⟩
  case round =>
    obtain ⟨k, rfl, hk, hB⟩ := hrel
    have HB := Lib.hid hB
    have TR := Lib.hid (T4.out.below hB)
    have kr := Lib.hid (kbq kz.out hB)
    have hw1 : IntKind.i64.wrap ((k : Int) + 1) = (k : Int) + 1 := by rw [IntKind.wrap_i64]; omega
    have fin : Hid (∀ wr, Below Wz.heap.size Wz wr → True) := Lib.hid (fun _ _ => trivial)
    clear hB
    by_cases hlt : k < n
    · by_cases h8 : k < 8
      · have c8 : (k : Int) < 8 := by omega
        obtain ⟨b, off, rfl, hb, hc⟩ := (H.out.below kr.out).2.2 (by omega)
        have e0 := (hc k hlt).1
        have hpk := HP.out k
        have EK := Lib.hid (fun (V : World) (g : Below wr.heap.size wr V) => celln g e0)
        have X1 := Lib.hid (fun (V : World) (g : TreeAt V t rs) => find_any t (fnOf rs k).p rs V (by omega) g)
        have Y1 := Lib.hid (fun (V : World) (g : Below w.heap.size w V) => rfind_any (some ⟨b, off, none⟩) n cap rs (fnOf rs k).p V (H.out.below g) hn (by omega))
        have hpk2 : ((fnOf rs k).p ++ K).size ≤ 2000 := by rw [ByteArray.size_append']; omega
        have X2 := Lib.hid (fun (V : World) (g : TreeAt V t rs) => find_any t ((fnOf rs k).p ++ K) rs V (by omega) g)
        have Y2 := Lib.hid (fun (V : World) (g : Below w.heap.size w V) => rfind_any (some ⟨b, off, none⟩) n cap rs ((fnOf rs k).p ++ K) V (H.out.below g) hn (by omega))
        generalize (findR rs (fnOf rs k).p).getD rl0 = r1 at *
        generalize (findR rs (fnOf rs k).p).isSome = q1 at *
        generalize (findR rs ((fnOf rs k).p ++ K)).getD rl0 = r2 at *
        generalize (findR rs ((fnOf rs k).p ++ K)).isSome = q2 at *
        have hKs : K.size + 1000 ≤ 2000 := by omega
        clear e0
        generalize (fnOf rs k).p = P at *
        clear hc
        have m0 : Hid (Below wr.heap.size wr wr) := Lib.hid (Below.refl _ _)
        have x1 := Lib.hid (X1.out _ (TR.out.below m0.out))
        have e1 := EK.out _ m0.out
        go_wp2_with (go_at_call 13; refine x1.out.mono ?_; rintro e v1 ⟨rfl, g1⟩; refine stopHere ?_)
        unfold Stop
        have a1 := (Below.refl _ v1).alloc (Nat.le_refl _) (.cells (cs4 r1) 28)
        have p1 := Blk.new v1 (cs4 r1) 28
        have m1 := Lib.hid (kbq (kbq m0.out g1) a1)
        clear e1 x1 g1 a1
        have x2 := Lib.hid (Y1.out _ (kbq kr.out m1.out))
        have e2 := EK.out _ m1.out
        go_wp2_with (go_at_call 15; refine x2.out.mono ?_; rintro e v2 ⟨rfl, g2⟩; refine stopHere ?_)
        unfold Stop
        have a2 := (Below.refl _ v2).alloc (Nat.le_refl _) (.cells (cs4 r1) 28)
        have p2 := Blk.new v2 (cs4 r1) 28
        have m2 := Lib.hid (kbq (kbq m1.out g2) a2)
        have p1' := (p1.below g2).below a2
        clear p1
        have p1 := p1'
        clear p1'
        clear e2 x2 g2 a2
        have x3 := Lib.hid (X2.out _ (TR.out.below m2.out))
        have e3 := EK.out _ m2.out
        go_wp2_with (go_at_call 13; refine x3.out.mono ?_; rintro e v3 ⟨rfl, g3⟩; refine stopHere ?_)
        unfold Stop
        have a3 := (Below.refl _ v3).alloc (Nat.le_refl _) (.cells (cs4 r2) 28)
        have p3 := Blk.new v3 (cs4 r2) 28
        have m3 := Lib.hid (kbq (kbq m2.out g3) a3)
        have p1' := (p1.below g3).below a3
        clear p1
        have p1 := p1'
        clear p1'
        have p2' := (p2.below g3).below a3
        clear p2
        have p2 := p2'
        clear p2'
        clear e3 x3 g3 a3
        have x4 := Lib.hid (Y2.out _ (kbq kr.out m3.out))
        have e4 := EK.out _ m3.out
        go_wp2_with (go_at_call 15; refine x4.out.mono ?_; rintro e v4 ⟨rfl, g4⟩; refine stopHere ?_)
        unfold Stop
        have a4 := (Below.refl _ v4).alloc (Nat.le_refl _) (.cells (cs4 r2) 28)
        have p4 := Blk.new v4 (cs4 r2) 28
        have m4 := Lib.hid (kbq (kbq m3.out g4) a4)
        have p1' := (p1.below g4).below a4
        clear p1
        have p1 := p1'
        clear p1'
        have p2' := (p2.below g4).below a4
        clear p2
        have p2 := p2'
        clear p2'
        have p3' := (p3.below g4).below a4
        clear p3
        have p3 := p3'
        clear p3'
        clear e4 x4 g4 a4
        have d10 := p1.cell 0
        have d11 := p1.cell 1
        have d12 := p1.cell 2
        have d13 := p1.cell 3
        have d20 := p2.cell 0
        have d21 := p2.cell 1
        have d22 := p2.cell 2
        have d23 := p2.cell 3
        have d30 := p3.cell 0
        have d31 := p3.cell 1
        have d32 := p3.cell 2
        have d33 := p3.cell 3
        have d40 := p4.cell 0
        have d41 := p4.cell 1
        have d42 := p4.cell 2
        have d43 := p4.cell 3
        simp at d10 d11 d12 d13 d20 d21 d22 d23 d30 d31 d32 d33 d40 d41 d42 d43
        clear p1 p2 p3 p4
        go_wp2
        go_roundw
        case rel => exact ⟨k + 1, rfl, hlt, kbq HB.out m4.out⟩
        case measure => simp [intOf]; omega
      · have c8 : ¬ (k : Int) < 8 := by omega
        have p1 := b3'.out.below HB.out
        have p2 := b4.out.below HB.out
        have d10 := p1.cell 0
        have d11 := p1.cell 1
        have d12 := p1.cell 2
        have d13 := p1.cell 3
        have d20 := p2.cell 0
        have d21 := p2.cell 1
        have d22 := p2.cell 2
        have d23 := p2.cell 3
        simp at d10 d11 d12 d13 d20 d21 d22 d23
        have L1 := Lib.hid (len_any t rs wr TR.out)
        have L2 := Lib.hid (rlen_any A n cap rs wr (H.out.below kr.out) hn)
        generalize ((cntT rs rs.length : Nat) : Int) = m at *
        clear p1 p2
        go_wp2_with (first | (go_at_call 14; (with_reducible refine L1.out.mono ?_); rintro e x1 ⟨rfl, rfl⟩) | (go_at_call 16; (with_reducible refine L2.out.mono ?_); rintro e x2 ⟨rfl, g2⟩))
        go_ret
        exact ⟨rfl, kbq kr.out g2⟩
    · have p1 := b3'.out.below HB.out
      have p2 := b4.out.below HB.out
      have d10 := p1.cell 0
      have d11 := p1.cell 1
      have d12 := p1.cell 2
      have d13 := p1.cell 3
      have d20 := p2.cell 0
      have d21 := p2.cell 1
      have d22 := p2.cell 2
      have d23 := p2.cell 3
      simp at d10 d11 d12 d13 d20 d21 d22 d23
      have L1 := Lib.hid (len_any t rs wr TR.out)
      have L2 := Lib.hid (rlen_any A n cap rs wr (H.out.below kr.out) hn)
      generalize ((cntT rs rs.length : Nat) : Int) = m at *
      clear p1 p2
      go_wp2_with (first | (go_at_call 14; (with_reducible refine L1.out.mono ?_); rintro e x1 ⟨rfl, rfl⟩) | (go_at_call 16; (with_reducible refine L2.out.mono ?_); rintro e x2 ⟨rfl, g2⟩))
      go_ret
      exact ⟨rfl, kbq kr.out g2⟩
end Go.Proofs.Ytekpmepcacbloaa.Wd
