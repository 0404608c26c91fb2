/- RuleEdge, walked; the kernels' names lie in the program's table. -/
import Derived.Test.YtpkpmbigljkneaaDoorRulPr
namespace Go.Proofs.YtpkpmbigljkneaaDoor.Wd
open Go Go.RowKit
set_option linter.unusedVariables false

theorem pow_split (s : Nat) (h : s ≤ 62) : (2 : Nat) ^ s * 2 ^ (62 - s) = 4611686018427387904 ∧ 1 ≤ 2 ^ s ∧ 1 ≤ 2 ^ (62 - s) := by
  refine ⟨?_, Nat.one_le_two_pow, Nat.one_le_two_pow⟩
  rw [← Nat.pow_add, show s + (62 - s) = 62 by omega]
theorem edge_fit (s : Nat) (h : s ≤ 62) : (2 : Nat) ^ s ≤ 4611686018427387904 ∧ (2 : Nat) ^ (62 - s) ≤ 4611686018427387904 ∧ sat (((2 ^ s : Nat) : Int) * ((2 ^ (62 - s) : Nat) : Int)) = 4611686018427387904 ∧ 4611686018427387904 < sat (((2 ^ s : Nat) : Int) * ((2 ^ (62 - s) + 1 : Nat) : Int)) := by
  obtain ⟨h1, h2, h3⟩ := pow_split s h
  generalize (2 : Nat) ^ s = E at *
  generalize (2 : Nat) ^ (62 - s) = B at *
  have e1 : ((E : Int) * (B : Int)) = 4611686018427387904 := by rw [← Int.natCast_mul, h1]; rfl
  have l1 : E * 1 ≤ E * B := Nat.mul_le_mul_left _ h3
  have l2 : 1 * B ≤ E * B := Nat.mul_le_mul_right _ h2
  refine ⟨by omega, by omega, by rw [e1]; rfl, ?_⟩
  have e2 : (E : Int) * ((B + 1 : Nat) : Int) = 4611686018427387904 + (E : Int) := by
    rw [Int.natCast_add, Int.mul_add, e1]; simp
  rw [e2]
  unfold sat
  split <;> omega

theorem edge_ans (s : Nat) (h : s ≤ 62) (c : Int) (hc : 1 ≤ c ∧ c ≤ 3) :
    ansA [defS, dig (2 ^ s), dig (2 ^ (62 - s)), namS c] = ⟨⟨#[]⟩, ((2 ^ s : Nat) : Int), ((2 ^ (62 - s) : Nat) : Int), c, 0, 0⟩ ∧
    ansA [defS, dig (2 ^ s), dig (2 ^ (62 - s) + 1), namS c] = zeroA 26 2 ∧ caI ⟨#[]⟩ ((2 ^ s : Nat) : Int) ((2 ^ (62 - s) : Nat) : Int) c = 4611686018427387904 := by
  obtain ⟨f1, f2, f3, f4⟩ := edge_fit s h
  obtain ⟨_, h2, h3⟩ := pow_split s h
  generalize (2 : Nat) ^ s = E at *
  generalize (2 : Nat) ^ (62 - s) = B at *
  have hR : ruE ⟨#[]⟩ (E : Int) (B : Int) c = 0 := by
    rw [ru_is, show pfB ⟨#[]⟩ = true by decide, if_neg (by decide), if_neg (by omega), if_neg (by omega), if_neg (by omega), show isK c = true from decide_eq_true hc, if_neg (by decide)]
  refine ⟨?_, ?_, ?_⟩
  · have := ans_print ⟨#[]⟩ E B c (by omega) (by omega) hR
    unfold prW at this
    rw [if_neg (by simp [hR]), if_pos (by decide)] at this
    exact this
  · rw [ans_def _ _ _ _ rfl, numA_2 _ _ _ _ _ (by rw [eEv_dig _ (by omega), if_neg (by omega)]) (by rw [eBu_dig _ _ (by omega) (by omega), if_neg (by omega), if_neg (by omega)]; decide)]
    rw [eBu_dig _ _ (by omega) (by omega), if_neg (by omega), if_neg (by omega)]
    rfl
  · unfold caI; rw [hR]; exact f3

set_option maxRecDepth 100000 in
set_option maxHeartbeats 2000000 in
theorem edge_core (k d c : Int) (s E B : Nat) (w : World) (hN : Nam w) (hs : k % 63 = (s : Int)) (hs2 : s ≤ 62) (hE : 2 ^ s = E) (hB : 2 ^ (62 - s) = B) (hc : 1 + d % 3 = c) (hk : 0 ≤ k ∧ k ≤ 255) (hd : 0 ≤ d ∧ d ≤ 255) :
    Calls Tryd.prog 8 #[.int .u8 k, .int .u8 d] w fun r w' => r = .returned (.bool true) ∧ Below w.heap.size w w' := by
  obtain ⟨f1, f2, _, _⟩ := edge_fit s hs2
  obtain ⟨g1, g2, g3⟩ := edge_ans s hs2 c (by omega)
  rw [hE] at f1 g1 g2 g3
  rw [hB] at f2 g1 g2 g3
  have e1 : k.tmod 63 = k % 63 := Int.tmod_eq_emod_of_nonneg hk.1
  have e2 : IntKind.u8.wrap (s : Int) = (s : Int) := IntWalk.u8_in _ (by omega)
  have e3 : IntKind.u64.wrap (s : Int) = (s : Int) := IntWalk.u64_in _ (by omega)
  have e4 : IntKind.u64.wrap (62 - (s : Int)) = 62 - (s : Int) := IntWalk.u64_in _ (by omega)
  have e7 : d.tmod 3 = d % 3 := Int.tmod_eq_emod_of_nonneg hd.1
  have e8 : IntKind.u8.wrap (d % 3) = d % 3 := IntWalk.u8_in _ (by omega)
  have e9 : IntKind.u8.wrap c = c := IntWalk.u8_in _ (by omega)
  have eA : (2 : Int) ^ s = (E : Int) := by rw [← hE]; simp
  have eB : (2 : Int) ^ (62 - s) = (B : Int) := by rw [← hB]; simp
  have eC : (62 - (s : Int)).toNat = 62 - s := by omega
  have w1 : IntKind.u64.wrap (E : Int) = (E : Int) := IntWalk.u64_in _ (by omega)
  have w2 : IntKind.u64.wrap (B : Int) = (B : Int) := IntWalk.u64_in _ (by omega)
  have w3 : IntKind.u64.wrap ((B : Int) + 1) = (B : Int) + 1 := IntWalk.u64_in _ (by omega)
  have p0 : (0 : Int) ≤ 62 - (s : Int) := by omega
  have KN := Lib.hid (fun W (h : Nam W) => known_any W h)
  have P1 := Lib.hid (fun W => refPrint_any E W (by omega))
  have P2 := Lib.hid (fun W => refPrint_any B W (by omega))
  have P3 : Hid (∀ W, Calls Tryd.prog 12 #[.int .u64 ((B : Int) + 1)] W fun e w' => e = .returned (.string (str (Lib.decDigits (B + 1)))) ∧ W = w') := Lib.hid (fun W => by
    have h := refPrint_any (B + 1) W (by omega)
    rw [Int.natCast_add] at h
    exact h)
  have NN := Lib.hid (fun W (h : Nam W) => name_any c W h (by omega))
  have dz1 := dig_size E (by omega)
  have dz2 := dig_size B (by omega)
  have dz3 := dig_size (B + 1) (by omega)
  have dz4 := nam_size c
  have b1 : Below w.heap.size w (w.alloc (.cells #[.string defS, .string (str (Lib.decDigits E)), .string (str (Lib.decDigits B)), .string (namS c)] 9)) := (Below.refl _ w).alloc (Nat.le_refl _) _
  have b2 : Below w.heap.size w ((w.alloc (.cells #[.string defS, .string (str (Lib.decDigits E)), .string (str (Lib.decDigits B)), .string (namS c)] 9)).alloc (.cells #[.string defS, .string (str (Lib.decDigits E)), .string (str (Lib.decDigits (B + 1))), .string (namS c)] 9)) := b1.alloc b1.size _
  have lim1 : Lim [defS, dig E, dig B, namS c] := by
    intro x hx
    simp only [List.mem_cons, List.not_mem_nil, or_false] at hx
    rcases hx with rfl | rfl | rfl | rfl
    · decide
    · omega
    · omega
    · omega
  have lim2 : Lim [defS, dig E, dig (B + 1), namS c] := by
    intro x hx
    simp only [List.mem_cons, List.not_mem_nil, or_false] at hx
    rcases hx with rfl | rfl | rfl | rfl
    · decide
    · omega
    · omega
    · omega
  have S1 : Sts ((w.alloc (.cells #[.string defS, .string (str (Lib.decDigits E)), .string (str (Lib.decDigits B)), .string (namS c)] 9)).alloc (.cells #[.string defS, .string (str (Lib.decDigits E)), .string (str (Lib.decDigits (B + 1))), .string (namS c)] 9)) (some ⟨w.heap.size, 0, none⟩) 4 [defS, dig E, dig B, namS c] :=
    (sts_alloc w [defS, dig E, dig B, namS c] 9 (small_words lim1)).below ((Below.refl _ _).alloc (Nat.le_refl _) _)
  have S2 : Sts ((w.alloc (.cells #[.string defS, .string (str (Lib.decDigits E)), .string (str (Lib.decDigits B)), .string (namS c)] 9)).alloc (.cells #[.string defS, .string (str (Lib.decDigits E)), .string (str (Lib.decDigits (B + 1))), .string (namS c)] 9)) (some ⟨w.heap.size + 1, 0, none⟩) 4 [defS, dig E, dig (B + 1), namS c] := by
    have h := sts_alloc (w.alloc (.cells #[.string defS, .string (str (Lib.decDigits E)), .string (str (Lib.decDigits B)), .string (namS c)] 9)) [defS, dig E, dig (B + 1), namS c] 9 (small_words lim2)
    rw [hp_size] at h
    exact h
  have C1 := Lib.hid (rparse_any (some ⟨w.heap.size, 0, none⟩) 4 4 _ _ S1 lim1 (hN.below b2))
  have C2 := Lib.hid (fun W hS hN => rparse_any (some ⟨w.heap.size + 1, 0, none⟩) 4 4 _ W hS lim2 hN)
  have C3 := Lib.hid (fun W => cap_any ⟨#[]⟩ E B c W (by decide) (UN E (by omega)) (UN B (by omega)))
  rw [g1] at C1
  rw [g2] at C2
  rw [g3] at C3
  have HS2 := Lib.hid S2
  have HN := Lib.hid hN
  have B1 := Lib.hid b1
  have B2 := Lib.hid b2
  clear hE hB b1 b2 S1 S2 lim1 lim2 hN dz1 dz2 dz3 dz4 g1 g2 g3
  go_enter Tryd.func8, Tryd.ntmps8
  go_wp2_with (first
    | (go_at_call 12; ((with_reducible refine (P1.out _).mono ?_); rintro r w2 ⟨rfl, rfl⟩))
    | (go_at_call 12; ((with_reducible refine (P2.out _).mono ?_); rintro r w2 ⟨rfl, rfl⟩))
    | (go_at_call 12; ((with_reducible refine (P3.out _).mono ?_); rintro r w2 ⟨rfl, rfl⟩))
    | (go_at_call 17; ((with_reducible refine (NN.out _ HN.out).mono ?_); rintro r w2 ⟨rfl, rfl⟩))
    | (go_at_call 17; ((with_reducible refine (NN.out _ (HN.out.below B1.out)).mono ?_); rintro r w2 ⟨rfl, rfl⟩)))
  refine C1.out.mono ?_
  rintro r w1 ⟨rfl, g1⟩
  have k1 := kbq B2.out g1
  have j1 := k1.alloc k1.size (.cells #[.string ⟨#[]⟩, .int .u64 E, .int .u64 B, .int .u8 c] 24)
  have q1 := HS2.out.below (g1.alloc g1.size (.cells #[.string ⟨#[]⟩, .int .u64 E, .int .u64 B, .int .u8 c] 24))
  have b0 : (w1.alloc (.cells #[.string ⟨#[]⟩, .int .u64 E, .int .u64 B, .int .u8 c] 24)).cell? ⟨w1.heap.size, 0, none⟩ = some (.string ⟨#[]⟩) := by simp
  have b1 : (w1.alloc (.cells #[.string ⟨#[]⟩, .int .u64 E, .int .u64 B, .int .u8 c] 24)).cell? ⟨w1.heap.size, 1, none⟩ = some (.int .u64 E) := by simp
  have b2 : (w1.alloc (.cells #[.string ⟨#[]⟩, .int .u64 E, .int .u64 B, .int .u8 c] 24)).cell? ⟨w1.heap.size, 2, none⟩ = some (.int .u64 B) := by simp
  have b3 : (w1.alloc (.cells #[.string ⟨#[]⟩, .int .u64 E, .int .u64 B, .int .u8 c] 24)).cell? ⟨w1.heap.size, 3, none⟩ = some (.int .u8 c) := by simp
  have HK := Lib.hid j1
  have HQ := Lib.hid q1
  clear k1 j1 q1 g1 C1 B1 B2 HS2
  go_wp2_with fail
  refine (C2.out _ HQ.out (HN.out.below HK.out)).mono ?_
  rintro r w2 ⟨rfl, g2⟩
  replace b0 := celln g2 b0; replace b1 := celln g2 b1; replace b2 := celln g2 b2; replace b3 := celln g2 b3
  have j2 := kbq HK.out g2
  have hz2 := lt_of_cell b0
  have hz3 := Nat.ne_of_lt hz2
  have bZ : Below w2.heap.size w2 (w2.alloc (.cells #[.string ⟨#[]⟩, .int .u64 0, .int .u64 0, .int .u8 0] 24)) := (Below.refl _ _).alloc (Nat.le_refl _) _
  have J2 := Lib.hid (kbq j2 bZ)
  replace b0 := celln bZ b0; replace b1 := celln bZ b1; replace b2 := celln bZ b2; replace b3 := celln bZ b3
  clear g2 HK HQ C2 j2 bZ
  go_wp2_with fail
  refine (KN.out _ (HN.out.below J2.out)).mono ?_
  rintro r w3 ⟨rfl, g3⟩
  have j3 := kbq J2.out g3
  replace b0 := celln g3 b0; replace b1 := celln g3 b1; replace b2 := celln g3 b2; replace b3 := celln g3 b3
  clear g3 J2
  go_wp2_with (go_at_call 24; ((with_reducible refine (C3.out _).mono ?_); rintro r w4 ⟨rfl, g4⟩))
  go_ret
  exact ⟨rfl, kbq j3 g4.2⟩

theorem edge_walk (k d : Int) (w : World) (hN : Nam w) (hk : 0 ≤ k ∧ k ≤ 255) (hd : 0 ≤ d ∧ d ≤ 255) :
    Calls Tryd.prog 8 #[.int .u8 k, .int .u8 d] w fun r w' => r = .returned (.bool true) ∧ Below w.heap.size w w' :=
  edge_core k d _ (k % 63).toNat _ _ w hN (by omega) (by omega) rfl rfl rfl hk hd
end Go.Proofs.YtpkpmbigljkneaaDoor.Wd
