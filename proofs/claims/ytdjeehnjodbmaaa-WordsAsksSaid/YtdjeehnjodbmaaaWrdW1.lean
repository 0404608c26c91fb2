/- tollerlaw10.WordsLong answers true, for any row of bytes and any two numbers of 8 bits; no conditions. -/
import Derived.Test.YtdjeehnjodbmaaaWrdL
namespace Go.Proofs.Ytdjeehnjodbmaaa.Wd
open Go Go.RowKit
set_option linter.unusedVariables false
set_option linter.unusedSimpArgs false

theorem made_noughts (W : World) (arr : Array Value) (h : arr = madeCells #[.int .u8 0] 1048577) : Txt (W.alloc (.cells arr 5)) (some ⟨W.heap.size, 0, none⟩) 1048577 (List.replicate 1048577 0) := by
  have e := txt_lit (W := W) (List.replicate 1048577 0) arr 5 (0, 0) (by rw [h, toList_madeCells_one, bvs, List.map_replicate]; rfl)
  rw [List.length_replicate] at e
  exact e

theorem make_run : ∃ arr : Array Value, arr = madeCells #[.int .u8 0] 1048577 ∧ ∀ W : World, (Instr.makeSlice 22 (.int .i64 1048577) (.int .i64 1048577)).run Try.prog W = .ok (.slice (some ⟨W.heap.size, 0, none⟩) 1048577 1048577) (W.alloc (.cells arr 5)) := by
  obtain ⟨i0, hz, hz0, hz1, hz2⟩ := info_parts infoByte
  refine ⟨_, rfl, fun W => ?_⟩
  have h := run_make (P := Try.prog) W 22 5 i0 (.int .u8 0) Try.underlying22 hz hz0 .i64 .i64 1048577 1048577 (by omega) (by omega) (by rw [hz2]; omega) (by omega)
  rw [hz1] at h
  exact h

theorem spl_noughts : spl (List.replicate 1048577 0) = .long := if_pos (by rw [List.length_replicate]; omega)

theorem bad_put (t : List UInt8) (i : Nat) (b : UInt8) : badB (t.take i ++ [b] ++ t.drop i) = (badB t || decide (kd b = 1)) := by
  unfold badB
  rw [List.any_append, List.any_append]
  have e : t.any (fun b => decide (kd b = 1)) = ((t.take i).any (fun b => decide (kd b = 1)) || (t.drop i).any (fun b => decide (kd b = 1))) := by
    rw [← List.any_append, List.take_append_drop]
  rw [e]
  simp only [List.any_cons, List.any_nil, Bool.or_false]
  cases (t.take i).any (fun b => decide (kd b = 1)) <;> cases (t.drop i).any (fun b => decide (kd b = 1)) <;> cases decide (kd b = 1) <;> rfl

/-- What Split answers, its error a letter. -/
theorem split_er (A : Option Addr) (N cap : Nat) (bs : List UInt8) (w : World) (hT : Txt w A N bs) (hcap : N ≤ cap) (hcm : cap ≤ 9223372036854775807) (E : Nat) (hE : (spl bs).er = E) :
    Calls Try.prog 14 #[.slice A N cap] w fun e w' => ∃ v L C, e = .returned (.tuple #[v, .int .u16 (E : Int), .agg #[.int .i64 L, .int .i64 C]]) ∧ WRows w' v (spl bs).rows ∧ Below w.heap.size w w' := by
  refine (split_any A N cap bs w hT hcap hcm).mono ?_
  rintro e w' ⟨v, rfl, hr, g⟩
  rw [hE]
  exact ⟨v, _, _, rfl, hr, g⟩

set_option maxRecDepth 100000 in
set_option maxHeartbeats 1000000 in
theorem wordsLong_any (C : Option Addr) (N cap : Nat) (cs : List UInt8) (b : UInt8) (at_ : Int) (w : World) (hC : Txt w C N cs) (hN : N ≤ 9223372036854775807) (hat : 0 ≤ at_ ∧ at_ ≤ 255) :
    Calls Try.prog 6 #[.slice C N cap, .int .u8 (b.toNat : Int), .int .u8 at_] w fun e w' => e = .returned (.bool true) ∧ Below w.heap.size w w' := by
  obtain ⟨arr, harr, hmk⟩ := make_run
  have C0 := Lib.hid known_any
  have C1 : Calls Try.prog 14 #[.slice (some ⟨w.heap.size, 0, none⟩) 1048577 1048577] (w.alloc (.cells arr 5)) fun e w' => ∃ v, e = .returned (.tuple #[v, .int .u16 21, .agg #[.int .i64 0, .int .i64 0]]) ∧ Below w.heap.size w w' := by
    refine (split_any (some ⟨w.heap.size, 0, none⟩) 1048577 1048577 _ _ (made_noughts w arr harr) (by omega) (by omega)).mono ?_
    rw [spl_noughts]
    rintro e w' ⟨v, rfl, hr, g⟩
    exact ⟨v, rfl, kbq ((Below.refl _ w).alloc (Nat.le_refl _) _) g⟩
  have K1 := Lib.hid C1
  have K2 := Lib.hid (fun (W : World) (hW : Below w.heap.size w W) => text_any C N cap cs W (hC.below hW) hN)
  have hlen := tx_len cs
  clear C1 hC harr
  go_enter Try.func6, Try.ntmps6
  go_wp2_with (first
    | (go_at_call 14; ((with_reducible refine K1.out.mono ?_); rintro e w1 ⟨x1, rfl, g1⟩))
    | (go_at_call 11; ((with_reducible refine (K2.out _ (by exact g1.alloc g1.size _)).mono ?_); rintro e w2 ⟨v2, rfl, r2, g2⟩; refine stopHere ?_)))
  unfold Stop
  have q0 : w2.cell? ⟨w1.heap.size, 0, none⟩ = some (.int .i64 0) := celln g2 (by simp)
  have q1 : w2.cell? ⟨w1.heap.size, 1, none⟩ = some (.int .i64 0) := celln g2 (by simp)
  have gB := kbq (g1.alloc g1.size _) g2
  obtain ⟨A, c, rfl, hc, hT, hnone, hspot⟩ := r2.form2
  generalize htx : tx cs = t at *
  clear r2 g1 g2 K1 K2
  obtain ⟨E2, hE2⟩ : ∃ E2 : Nat, (spl t).er = E2 := ⟨_, rfl⟩
  have S2 := Lib.hid (split_er A t.length c t w2 hT hc.1 hc.2 E2 hE2)
  rw [spl_er t (by omega)] at hE2
  have HE2 := Lib.hid hE2
  have HT := Lib.hid hT
  obtain ⟨i, hi⟩ : ∃ i : Nat, at_ % ((t.length : Int) + 1) = (i : Int) := ⟨(at_ % ((t.length : Int) + 1)).toNat, by have := Int.emod_nonneg at_ (b := (t.length : Int) + 1) (by omega); omega⟩
  have hiL : i ≤ t.length := by have := Int.emod_lt_of_pos at_ (b := (t.length : Int) + 1) (by omega); omega
  have s1 := bslice_front A t.length c i (by omega) hc.2
  obtain ⟨A', s2, hT2, hA1, hA2⟩ := bslice_back A t.length c i hiL hc.1
  have HT2 := Lib.hid hT2
  have HN := Lib.hid hnone
  have HS := Lib.hid hspot
  have HA := Lib.hid (And.intro hA1 hA2)
  have hn0 : (((t.length : Int) + 1) == 0) = false := beq_eq_false_iff_ne.2 (by omega)
  clear hE2 hT hT2 hnone hspot hA1 hA2
  go_wp2_with (first
    | (go_at_call 14; ((with_reducible refine S2.out.mono ?_); rintro e w3 ⟨x3, l3, c3, rfl, _, g3⟩))
    | (at_builtin; refine stopHere ?_))
  unfold Stop
  have g4 := g3.alloc g3.size (.cells #[.int .i64 l3, .int .i64 c3] 34)
  have z4 := g4.size
  refine wpList_app_bytes _ rfl _ _ rfl w2.heap.size (.slice none 0 0) [] rfl (BRow.nil _ _) A i c (t.take i) rfl ((HT.out.below g4).front hiL) HN.out (fun ad e => (HS.out ad e).1) (by simp; omega) z4 ?_
  intro v5 w5 own5 grow5
  have g5 : Below w2.heap.size w2 w5 := g4.grown grow5 z4 (fun k e => by cases e)
  rw [List.nil_append] at own5
  have HO5 := Lib.hid own5
  clear own5 grow5
  go_wp2_with (at_builtin; refine stopHere ?_)
  unfold Stop
  have g6 := g5.alloc g5.size (.cells #[.int .u8 (b.toNat : Int)] 5)
  have z6 := g6.size
  refine wpList_app_bytes _ rfl _ _ rfl w2.heap.size v5 (t.take i) rfl (HO5.out.below ((Below.refl _ w5).alloc (Nat.le_refl _) _)) (some ⟨w5.heap.size, 0, none⟩) 1 1 [b] rfl (txt_one w5 b) (fun e => by cases e) (fun ad e => by cases e; rfl) (by rw [List.length_take]; omega) z6 ?_
  intro v7 w7 own7 grow7
  have g7 : Below w2.heap.size w2 w7 := g6.grown grow7 z6 (own_block HO5.out)
  have HO7 := Lib.hid own7
  clear own7 grow7
  go_wp2_with (at_builtin; refine stopHere ?_)
  unfold Stop
  have z7 := g7.size
  refine wpList_app_bytes _ rfl _ _ rfl w2.heap.size v7 (t.take i ++ [b]) rfl HO7.out A' (t.length - i) (c - i) (t.drop i) rfl (HT2.out w7 t (HT.out.below g7)) (fun e => by rw [HN.out (HA.out.1 e)]; omega) (HA.out.2 (fun ad e => (HS.out ad e).1)) (by rw [List.length_append, List.length_take]; simp; omega) z7 ?_
  intro v8 w8 own8 grow8
  have g8 : Below w2.heap.size w2 w8 := g7.grown grow8 z7 (own_block HO7.out)
  obtain ⟨A8, c8, rfl, hc8, hT8, _, _⟩ := own8.form2
  have hl8 : (t.take i ++ [b] ++ t.drop i).length = t.length + 1 := by simp; omega
  obtain ⟨E3, hE3⟩ : ∃ E3 : Nat, (spl (t.take i ++ [b] ++ t.drop i)).er = E3 := ⟨_, rfl⟩
  have S3 := Lib.hid (split_er A8 _ c8 _ w8 hT8 hc8.1 hc8.2 E3 hE3)
  rw [spl_er _ (by omega), bad_put] at hE3
  have HE3 := Lib.hid hE3
  rw [hl8] at S3 ⊢
  have Q0 := celln g8 q0
  have Q1 := celln g8 q1
  have gC := kbq gB g8
  clear own8 grow8 hc8 hT8 hE3 hl8 S2 HT HT2 HN HS HA HO5 HO7 g3 g4 g5 g6 g7 g8 z4 z6 z7 s1 s2 hi hiL hn0 q0 q1 gB
  go_wp2_with ((go_at_call 14; ((with_reducible refine S3.out.mono ?_); rintro e w9 ⟨x9, l9, c9, rfl, _, g9⟩; refine stopHere ?_)))
  unfold Stop
  have R0 := celln g9 Q0
  have R1 := celln g9 Q1
  have gD := kbq gC g9
  clear S3 Q0 Q1 gC g9
  have hb := b.toNat_lt
  have hkd := kd_bad b
  have e2 := HE2.out
  have e3 := HE3.out
  clear HE2 HE3
  generalize b.toNat = x at *
  generalize badB t = p at *
  have cases5 : (x = 9 ∧ decide (kd b = 1) = false) ∨ (x = 10 ∧ decide (kd b = 1) = false) ∨ ((x < 32 ∧ x ≠ 9 ∧ x ≠ 10) ∧ decide (kd b = 1) = true) ∨ ((32 ≤ x ∧ x ≤ 126) ∧ decide (kd b = 1) = false) ∨ (126 < x ∧ decide (kd b = 1) = true) := by
    by_cases h1 : x = 9
    · exact .inl ⟨h1, decide_eq_false (by omega)⟩
    · by_cases h2 : x = 10
      · exact .inr (.inl ⟨h2, decide_eq_false (by omega)⟩)
      · by_cases h3 : x < 32
        · exact .inr (.inr (.inl ⟨⟨h3, h1, h2⟩, decide_eq_true (by omega)⟩))
        · by_cases h4 : x ≤ 126
          · exact .inr (.inr (.inr (.inl ⟨by omega, decide_eq_false (by omega)⟩)))
          · exact .inr (.inr (.inr (.inr ⟨by omega, decide_eq_true (by omega)⟩)))
  generalize decide (kd b = 1) = q at *
  have gE := (Below.refl _ w9).alloc (Nat.le_refl _) (.cells #[.int .i64 l9, .int .i64 c9] 34)
  clear hkd
  have dec : (x = 9 ∨ x = 10 ∨ ((decide ((x : Int) < 32) = true ∧ ¬ ((x : Int) = 9) ∧ ¬ ((x : Int) = 10)) ∧ q = true) ∨ ((decide ((x : Int) < 32) = false ∧ decide ((126 : Int) < (x : Int)) = false) ∧ q = false) ∨ ((decide ((x : Int) < 32) = false ∧ decide ((126 : Int) < (x : Int)) = true) ∧ q = true)) ∧ (x = 9 ∨ x = 10 → q = false) := by
    refine ⟨?_, fun h => ?_⟩
    · rcases cases5 with ⟨h, _⟩ | ⟨h, _⟩ | ⟨h, k⟩ | ⟨h, k⟩ | ⟨h, k⟩
      · exact .inl h
      · exact .inr (.inl h)
      · exact .inr (.inr (.inl ⟨⟨decide_eq_true (by omega), by omega, by omega⟩, k⟩))
      · exact .inr (.inr (.inr (.inl ⟨⟨decide_eq_false (by omega), decide_eq_false (by omega)⟩, k⟩)))
      · exact .inr (.inr (.inr (.inr ⟨⟨decide_eq_false (by omega), decide_eq_true (by omega)⟩, k⟩)))
    · rcases cases5 with ⟨_, k⟩ | ⟨_, k⟩ | ⟨h', k⟩ | ⟨h', k⟩ | ⟨h', k⟩
      · exact k
      · exact k
      · omega
      · exact k
      · omega
  obtain ⟨dec, dq⟩ := dec
  clear cases5
  rcases dec with hx | hx | ⟨⟨d1, d2, d3⟩, rfl⟩ | ⟨⟨d1, d2⟩, rfl⟩ | ⟨⟨d1, d2⟩, rfl⟩
  all_goals
    first
      | (subst hx; obtain rfl := dq (by omega); clear dq)
      | clear dq
    cases p
    all_goals
      simp only [Bool.or_true, Bool.or_false, Bool.true_or, Bool.false_or, if_true, if_false, Bool.false_eq_true] at e2 e3
      subst e2
      subst e3
      go_wp2_with ((go_at_call 9; (refine (C0.out _).mono ?_); rintro e w10 ⟨rfl, g10⟩; replace R0 := celln g10 (celln gE R0); replace R1 := celln g10 (celln gE R1)))
      go_ret
      exact ⟨by first | rfl | simp, kbq (kbq gD gE) g10⟩

theorem wordsLong_all (C : Option Addr) (N cap : Nat) (cs : List UInt8) (b at_ : Int) (w : World) (hC : Txt w C N cs) (hN : N ≤ 9223372036854775807) (hb : 0 ≤ b ∧ b ≤ 255) (hat : 0 ≤ at_ ∧ at_ ≤ 255) :
    Calls Try.prog 6 #[.slice C N cap, .int .u8 b, .int .u8 at_] w fun e w' => e = .returned (.bool true) ∧ Below w.heap.size w w' := by
  obtain ⟨c, rfl⟩ : ∃ c : UInt8, (c.toNat : Int) = b := ⟨UInt8.ofNat b.toNat, by simp; omega⟩
  exact wordsLong_any C N cap cs c at_ w hC hN hat
end Go.Proofs.Ytdjeehnjodbmaaa.Wd
