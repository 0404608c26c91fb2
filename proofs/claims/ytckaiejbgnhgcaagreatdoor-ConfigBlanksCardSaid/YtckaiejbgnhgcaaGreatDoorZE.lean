/- The document's answer of chapter 11 on reading (tollerref11.Parse), for any words; no conditions but those that each names. The document's answer of chapter 11 on printing (tollerref11.Print), for any rule; no conditions but those that each names. What tollerlaw11.known, Rule, asks and parses answer; no conditions but those that each names. A rule of choices (tollerlaw11.Rule): it is right; no conditions but those that each names. RuleNames, walked; the kernels' names lie in the program's table. What is printed is read: plain facts on the words of a rule; no conditions but those that each names. Texts behind texts: append onto a row that the call owns; plain facts on lines that are none; no conditions but those that each names. RuleWords, walked; the kernels' names lie in the program's table. What is read is right, and printed as it was: plain facts; no conditions but those that each names. -/
import Derived.Test.YtckaiejbgnhgcaaGreatDoorZD
import Derived.Deep.AppendLies
import Derived.Test.YtckaiejbgnhgcaaGreatDoorZB
namespace Go.Proofs.YtckaiejbgnhgcaaGreatDoor.Wd
open Go Go.RowKit
set_option linter.unusedVariables false

theorem eEv_is (x : ByteArray) : eEv x = nuE (lb x) 24 := rfl
theorem eBu_1 (x y : ByteArray) (h : nuE (lb y) 25 ≠ 0) : eBu x y = nuE (lb y) 25 := by
  unfold eBu nuE at *
  split at h
  · rename_i g; rw [if_pos g, if_pos g]
  · rename_i g
    rw [if_neg g, if_neg g]
    split at h
    · rename_i g2; rw [if_pos g2, if_pos g2]
    · exact absurd rfl h
theorem eBu_2 (x y : ByteArray) (h : nuE (lb y) 25 = 0) : eBu x y = if sat (paN (lb x) * paN (lb y)) ≤ 4611686018427387904 then 0 else 26 := by
  have hE : paE (lb y) = 0 := by
    unfold nuE at h; split at h
    · assumption
    · rename_i g; exact Decidable.not_not.1 g
  have hN : paN (lb y) ≠ 0 := by
    unfold nuE at h; rw [if_neg (by simp [hE])] at h
    intro e; rw [if_pos e] at h; cases h
  unfold eBu
  rw [if_neg (by simp [hE]), if_neg hN]
theorem eKi_1 (z : ByteArray) (h : kinB z = true) : eKi z = 0 := by unfold eKi; rw [h]; rfl
theorem eKi_0 (z : ByteArray) (h : kinB z = false) : eKi z = 27 := by unfold eKi; rw [h]; rfl
theorem nuE_U (l : List UInt8) (c : Int) : True := trivial
theorem bne_of {a b : Int} (h : a ≠ b) : (a == b) = false ∧ (a != b) = true := ⟨by simpa using h, by simpa using h⟩

theorem refparse_none (A : Option Addr) (n cap : Nat) (xs : List ByteArray) (w : World) (h : Sts w A n xs) (h4 : ¬ (n = 4 ∧ (xs.getD 0 nob).toList = defL)) (h5 : ¬ (n = 5 ∧ (xs.getD 0 nob).toList = rulL)) :
    Calls Tryz.prog 70 #[.slice A n cap] w fun r w' => r = .returned (.tuple #[rul ⟨#[]⟩ 0 0 0, .int .i64 22, .int .i64 0]) ∧ Kept w w' := by
  by_cases c4 : n = 4
  · subst c4
    obtain ⟨b, off, rfl, hb, hc⟩ := h.2.2 (by omega)
    have c := hc 0 (by omega)
    rw [Nat.add_zero] at c
    have hx : ((xs.getD 0 nob).toList == [100, 101, 102, 97, 117, 108, 116]) = false := by
      rw [← Bool.not_eq_true, beq_iff_eq]; exact fun e => h4 ⟨rfl, e⟩
    generalize xs.getD 0 nob = x at *
    clear h4 h5 hc h
    have hbn : b ≠ w.heap.size := Nat.ne_of_lt hb
    have hbn2 : b ≠ w.heap.size + 1 := by omega
    go_enter Tryz.func70, Tryz.ntmps70
    go_wp2
    exact bodyPost_ret (v := .tuple #[rul ⟨#[]⟩ 0 0 0, .int .i64 22, .int .i64 0]) (by simp [results, Tryz.results70, go_sem]) rfl ⟨rfl, ((Kept.refl w).alloc _ _).alloc _ _⟩
  · by_cases c5 : n = 5
    · subst c5
      obtain ⟨b, off, rfl, hb, hc⟩ := h.2.2 (by omega)
      have c := hc 0 (by omega)
      rw [Nat.add_zero] at c
      have hx : ((xs.getD 0 nob).toList == [114, 117, 108, 101]) = false := by
        rw [← Bool.not_eq_true, beq_iff_eq]; exact fun e => h5 ⟨rfl, e⟩
      generalize xs.getD 0 nob = x at *
      clear h4 h5 hc h c4
      have hbn : b ≠ w.heap.size := Nat.ne_of_lt hb
      have hbn2 : b ≠ w.heap.size + 1 := by omega
      go_enter Tryz.func70, Tryz.ntmps70
      go_wp2
      exact bodyPost_ret (v := .tuple #[rul ⟨#[]⟩ 0 0 0, .int .i64 22, .int .i64 0]) (by simp [results, Tryz.results70, go_sem]) rfl ⟨rfl, ((Kept.refl w).alloc _ _).alloc _ _⟩
    · have e4 : ((n : Int) == 4) = false := by simp; omega
      have e5 : ((n : Int) == 5) = false := by simp; omega
      clear h4 h5 h c4 c5
      go_enter Tryz.func70, Tryz.ntmps70
      go_wp2
      exact bodyPost_ret (v := .tuple #[rul ⟨#[]⟩ 0 0 0, .int .i64 22, .int .i64 0]) (by simp [results, Tryz.results70, go_sem]) rfl ⟨rfl, ((Kept.refl w).alloc _ _).alloc _ _⟩

set_option maxRecDepth 100000 in
set_option maxHeartbeats 4000000 in
theorem refparse_def (b off cap : Nat) (x0 x1 x2 x3 : ByteArray) (A : Ans) (w : World) (hA : A = numA ⟨#[]⟩ 1 x1 x2 x3)
    (c0 : w.cell? ⟨b, off, none⟩ = some (.string x0)) (c1 : w.cell? ⟨b, off + 1, none⟩ = some (.string x1)) (c2 : w.cell? ⟨b, off + 2, none⟩ = some (.string x2)) (c3 : w.cell? ⟨b, off + 3, none⟩ = some (.string x3))
    (hx : x0.toList = defL) (s1 : x1.size ≤ 281474976710656) (s2 : x2.size ≤ 281474976710656) (s3 : x3.size ≤ 281474976710656) :
    Calls Tryz.prog 70 #[.slice (some ⟨b, off, none⟩) 4 cap] w fun r w' => r = .returned (.tuple #[A.rule, .int .i64 A.err, .int .i64 A.at_]) ∧ Kept w w' := by
  have hb := lt_of_cell c0
  have hbn : b ≠ w.heap.size := Nat.ne_of_lt hb
  have hbn2 : b ≠ w.heap.size + 1 := by omega
  have NX := fun c W => number_is x1 c W (by omega)
  have NY := fun c W => number_is x2 c W (by omega)
  have KZ := fun W => refKind_any x3 W
  have HA := Lib.hid hA
  clear hA
  by_cases z1 : eEv x1 = 0
  case neg =>
    have e1 := bne_of (show nuE (lb x1) 24 ≠ 0 from z1)
    obtain ⟨e1, e2⟩ := e1
    go_enter Tryz.func70, Tryz.ntmps70
    go_wp2_with (first
      | (go_at_call 97; (with_reducible refine (NX _ _).mono ?_); rintro r w1 ⟨rfl, rfl⟩))
    obtain rfl : A = zeroA (nuE (lb x1) 24) 1 := by (rw [HA.out, numA_1 _ _ _ _ _ z1] <;> rfl)
    exact bodyPost_ret (v := .tuple #[rul ⟨#[]⟩ 0 0 0, .int .i64 (nuE (lb x1) 24), .int .i64 1]) (by simp [results, Tryz.results70, go_sem]) rfl ⟨rfl, ((Kept.refl w).alloc _ _).alloc _ _⟩
  have g1 : nuE (lb x1) 24 = 0 := z1
  by_cases z2 : nuE (lb x2) 25 = 0
  case neg =>
    have zz := eBu_1 x1 x2 z2
    obtain ⟨e1, e2⟩ := bne_of z2
    go_enter Tryz.func70, Tryz.ntmps70
    go_wp2_with (first
      | (go_at_call 97; (with_reducible refine (NX _ _).mono ?_); rintro r w1 ⟨rfl, rfl⟩)
      | (go_at_call 97; (with_reducible refine (NY _ _).mono ?_); rintro r w2 ⟨rfl, rfl⟩))
    obtain rfl : A = zeroA (nuE (lb x2) 25) 2 := by (rw [HA.out, numA_2 _ _ _ _ _ z1 (by rw [zz]; exact z2), zz] <;> rfl)
    exact bodyPost_ret (v := .tuple #[rul ⟨#[]⟩ 0 0 0, .int .i64 (nuE (lb x2) 25), .int .i64 2]) (by simp [results, Tryz.results70, go_sem]) rfl ⟨rfl, ((Kept.refl w).alloc _ _).alloc _ _⟩
  have MM := fun W => ref_mul (paN (lb x1)) (paN (lb x2)) W (paN_U _) (paN_U _)
  have zz := eBu_2 x1 x2 z2
  by_cases z3 : sat (paN (lb x1) * paN (lb x2)) ≤ 4611686018427387904
  case neg =>
    rw [if_neg z3] at zz
    have ZZ := Lib.hid zz
    clear zz
    go_enter Tryz.func70, Tryz.ntmps70
    go_wp2_with (first
      | (go_at_call 97; (with_reducible refine (NX _ _).mono ?_); rintro r w1 ⟨rfl, rfl⟩)
      | (go_at_call 97; (with_reducible refine (NY _ _).mono ?_); rintro r w2 ⟨rfl, rfl⟩)
      | (go_at_call 62; (with_reducible refine (MM _).mono ?_); rintro r w3 ⟨rfl, rfl⟩))
    obtain rfl : A = zeroA (26) 2 := by (rw [HA.out, numA_2 _ _ _ _ _ z1 (by rw [ZZ.out]; decide), ZZ.out] <;> rfl)
    exact bodyPost_ret (v := .tuple #[rul ⟨#[]⟩ 0 0 0, .int .i64 (26), .int .i64 2]) (by simp [results, Tryz.results70, go_sem]) rfl ⟨rfl, ((Kept.refl w).alloc _ _).alloc _ _⟩
  rw [if_pos z3] at zz
  have ZZ := Lib.hid zz
  clear zz
  cases hk : kinB x3
  · have ZK := Lib.hid (eKi_0 _ hk)
    rw [hk] at KZ
    go_enter Tryz.func70, Tryz.ntmps70
    go_wp2_with (first
      | (go_at_call 97; (with_reducible refine (NX _ _).mono ?_); rintro r w1 ⟨rfl, rfl⟩)
      | (go_at_call 97; (with_reducible refine (NY _ _).mono ?_); rintro r w2 ⟨rfl, rfl⟩)
      | (go_at_call 62; (with_reducible refine (MM _).mono ?_); rintro r w3 ⟨rfl, rfl⟩)
      | (go_at_call 98; (with_reducible refine (KZ _).mono ?_); rintro r w4 ⟨rfl, rfl⟩))
    obtain rfl : A = zeroA (27) 3 := by (rw [HA.out, numA_3 _ _ _ _ _ z1 ZZ.out (by rw [ZK.out]; decide), ZK.out] <;> rfl)
    exact bodyPost_ret (v := .tuple #[rul ⟨#[]⟩ 0 0 0, .int .i64 (27), .int .i64 3]) (by simp [results, Tryz.results70, go_sem]) rfl ⟨rfl, ((Kept.refl w).alloc _ _).alloc _ _⟩
  · have ZK := Lib.hid (eKi_1 _ hk)
    rw [hk] at KZ
    go_enter Tryz.func70, Tryz.ntmps70
    go_wp2_with (first
      | (go_at_call 97; (with_reducible refine (NX _ _).mono ?_); rintro r w1 ⟨rfl, rfl⟩)
      | (go_at_call 97; (with_reducible refine (NY _ _).mono ?_); rintro r w2 ⟨rfl, rfl⟩)
      | (go_at_call 62; (with_reducible refine (MM _).mono ?_); rintro r w3 ⟨rfl, rfl⟩)
      | (go_at_call 98; (with_reducible refine (KZ _).mono ?_); rintro r w4 ⟨rfl, rfl⟩))
    obtain rfl : A = ⟨⟨#[]⟩, paN (lb x1), paN (lb x2), kinI x3, 0, 0⟩ := by (rw [HA.out, numA_4 _ _ _ _ _ z1 ZZ.out ZK.out] <;> rfl)
    exact bodyPost_ret (v := .tuple #[rul ⟨#[]⟩ (paN (lb x1)) (paN (lb x2)) (kinI x3), .int .i64 (0), .int .i64 0]) (by simp [results, Tryz.results70, go_sem]) rfl ⟨rfl, ((Kept.refl w).alloc _ _).alloc _ _⟩

set_option maxRecDepth 100000 in
set_option maxHeartbeats 4000000 in
theorem refparse_rule (b off cap : Nat) (x0 x1 x2 x3 x4 : ByteArray) (A : Ans) (w : World) (hA : A = (if ePr x1 ≠ 0 then zeroA 23 1 else numA x1 2 x2 x3 x4))
    (c0 : w.cell? ⟨b, off, none⟩ = some (.string x0)) (c1 : w.cell? ⟨b, off + 1, none⟩ = some (.string x1)) (c2 : w.cell? ⟨b, off + 2, none⟩ = some (.string x2)) (c3 : w.cell? ⟨b, off + 3, none⟩ = some (.string x3)) (c4 : w.cell? ⟨b, off + 4, none⟩ = some (.string x4))
    (hx : x0.toList = rulL) (s1 : x1.size ≤ 281474976710656) (s2 : x2.size ≤ 281474976710656) (s3 : x3.size ≤ 281474976710656) (s4 : x4.size ≤ 281474976710656) :
    Calls Tryz.prog 70 #[.slice (some ⟨b, off, none⟩) 5 cap] w fun r w' => r = .returned (.tuple #[A.rule, .int .i64 A.err, .int .i64 A.at_]) ∧ Kept w w' := by
  have hb := lt_of_cell c0
  have hbn : b ≠ w.heap.size := Nat.ne_of_lt hb
  have hbn2 : b ≠ w.heap.size + 1 := by omega
  have NX := fun c W => number_is x2 c W (by omega)
  have NY := fun c W => number_is x3 c W (by omega)
  have KZ := fun W => refKind_any x4 W
  have HA := Lib.hid hA
  clear hA
  have RP := fun W => rright_any x1 W (by omega)
  by_cases z0 : ePr x1 = 0
  case neg =>
    have hr : rtB (lb x1) = false := by unfold ePr at z0; split at z0 <;> simp_all
    rw [hr] at RP
    go_enter Tryz.func70, Tryz.ntmps70
    go_wp2_with (first
      | (go_at_call 61; (with_reducible refine (RP _).mono ?_); rintro r w0 ⟨rfl, rfl⟩))
    obtain rfl : A = zeroA (23) 1 := by rw [HA.out, if_pos z0]
    exact bodyPost_ret (v := .tuple #[rul ⟨#[]⟩ 0 0 0, .int .i64 (23), .int .i64 1]) (by simp [results, Tryz.results70, go_sem]) rfl ⟨rfl, ((Kept.refl w).alloc _ _).alloc _ _⟩
  have hr : rtB (lb x1) = true := by unfold ePr at z0; split at z0 <;> simp_all
  rw [hr] at RP
  by_cases z1 : eEv x2 = 0
  case neg =>
    have e1 := bne_of (show nuE (lb x2) 24 ≠ 0 from z1)
    obtain ⟨e1, e2⟩ := e1
    go_enter Tryz.func70, Tryz.ntmps70
    go_wp2_with (first
      | (go_at_call 61; (with_reducible refine (RP _).mono ?_); rintro r w0 ⟨rfl, rfl⟩)
      | (go_at_call 97; (with_reducible refine (NX _ _).mono ?_); rintro r w1 ⟨rfl, rfl⟩))
    obtain rfl : A = zeroA (nuE (lb x2) 24) 2 := by (rw [HA.out, if_neg (by simp [z0]), numA_1 _ _ _ _ _ z1] <;> rfl)
    exact bodyPost_ret (v := .tuple #[rul ⟨#[]⟩ 0 0 0, .int .i64 (nuE (lb x2) 24), .int .i64 2]) (by simp [results, Tryz.results70, go_sem]) rfl ⟨rfl, ((Kept.refl w).alloc _ _).alloc _ _⟩
  have g1 : nuE (lb x2) 24 = 0 := z1
  by_cases z2 : nuE (lb x3) 25 = 0
  case neg =>
    have zz := eBu_1 x2 x3 z2
    obtain ⟨e1, e2⟩ := bne_of z2
    go_enter Tryz.func70, Tryz.ntmps70
    go_wp2_with (first
      | (go_at_call 61; (with_reducible refine (RP _).mono ?_); rintro r w0 ⟨rfl, rfl⟩)
      | (go_at_call 97; (with_reducible refine (NX _ _).mono ?_); rintro r w1 ⟨rfl, rfl⟩)
      | (go_at_call 97; (with_reducible refine (NY _ _).mono ?_); rintro r w2 ⟨rfl, rfl⟩))
    obtain rfl : A = zeroA (nuE (lb x3) 25) 3 := by (rw [HA.out, if_neg (by simp [z0]), numA_2 _ _ _ _ _ z1 (by rw [zz]; exact z2), zz] <;> rfl)
    exact bodyPost_ret (v := .tuple #[rul ⟨#[]⟩ 0 0 0, .int .i64 (nuE (lb x3) 25), .int .i64 3]) (by simp [results, Tryz.results70, go_sem]) rfl ⟨rfl, ((Kept.refl w).alloc _ _).alloc _ _⟩
  have MM := fun W => ref_mul (paN (lb x2)) (paN (lb x3)) W (paN_U _) (paN_U _)
  have zz := eBu_2 x2 x3 z2
  by_cases z3 : sat (paN (lb x2) * paN (lb x3)) ≤ 4611686018427387904
  case neg =>
    rw [if_neg z3] at zz
    have ZZ := Lib.hid zz
    clear zz
    go_enter Tryz.func70, Tryz.ntmps70
    go_wp2_with (first
      | (go_at_call 61; (with_reducible refine (RP _).mono ?_); rintro r w0 ⟨rfl, rfl⟩)
      | (go_at_call 97; (with_reducible refine (NX _ _).mono ?_); rintro r w1 ⟨rfl, rfl⟩)
      | (go_at_call 97; (with_reducible refine (NY _ _).mono ?_); rintro r w2 ⟨rfl, rfl⟩)
      | (go_at_call 62; (with_reducible refine (MM _).mono ?_); rintro r w3 ⟨rfl, rfl⟩))
    obtain rfl : A = zeroA (26) 3 := by (rw [HA.out, if_neg (by simp [z0]), numA_2 _ _ _ _ _ z1 (by rw [ZZ.out]; decide), ZZ.out] <;> rfl)
    exact bodyPost_ret (v := .tuple #[rul ⟨#[]⟩ 0 0 0, .int .i64 (26), .int .i64 3]) (by simp [results, Tryz.results70, go_sem]) rfl ⟨rfl, ((Kept.refl w).alloc _ _).alloc _ _⟩
  rw [if_pos z3] at zz
  have ZZ := Lib.hid zz
  clear zz
  cases hk : kinB x4
  · have ZK := Lib.hid (eKi_0 _ hk)
    rw [hk] at KZ
    go_enter Tryz.func70, Tryz.ntmps70
    go_wp2_with (first
      | (go_at_call 61; (with_reducible refine (RP _).mono ?_); rintro r w0 ⟨rfl, rfl⟩)
      | (go_at_call 97; (with_reducible refine (NX _ _).mono ?_); rintro r w1 ⟨rfl, rfl⟩)
      | (go_at_call 97; (with_reducible refine (NY _ _).mono ?_); rintro r w2 ⟨rfl, rfl⟩)
      | (go_at_call 62; (with_reducible refine (MM _).mono ?_); rintro r w3 ⟨rfl, rfl⟩)
      | (go_at_call 98; (with_reducible refine (KZ _).mono ?_); rintro r w4 ⟨rfl, rfl⟩))
    obtain rfl : A = zeroA (27) 4 := by (rw [HA.out, if_neg (by simp [z0]), numA_3 _ _ _ _ _ z1 ZZ.out (by rw [ZK.out]; decide), ZK.out] <;> rfl)
    exact bodyPost_ret (v := .tuple #[rul ⟨#[]⟩ 0 0 0, .int .i64 (27), .int .i64 4]) (by simp [results, Tryz.results70, go_sem]) rfl ⟨rfl, ((Kept.refl w).alloc _ _).alloc _ _⟩
  · have ZK := Lib.hid (eKi_1 _ hk)
    rw [hk] at KZ
    go_enter Tryz.func70, Tryz.ntmps70
    go_wp2_with (first
      | (go_at_call 61; (with_reducible refine (RP _).mono ?_); rintro r w0 ⟨rfl, rfl⟩)
      | (go_at_call 97; (with_reducible refine (NX _ _).mono ?_); rintro r w1 ⟨rfl, rfl⟩)
      | (go_at_call 97; (with_reducible refine (NY _ _).mono ?_); rintro r w2 ⟨rfl, rfl⟩)
      | (go_at_call 62; (with_reducible refine (MM _).mono ?_); rintro r w3 ⟨rfl, rfl⟩)
      | (go_at_call 98; (with_reducible refine (KZ _).mono ?_); rintro r w4 ⟨rfl, rfl⟩))
    obtain rfl : A = ⟨x1, paN (lb x2), paN (lb x3), kinI x4, 0, 0⟩ := by (rw [HA.out, if_neg (by simp [z0]), numA_4 _ _ _ _ _ z1 ZZ.out ZK.out] <;> rfl)
    exact bodyPost_ret (v := .tuple #[rul x1 (paN (lb x2)) (paN (lb x3)) (kinI x4), .int .i64 (0), .int .i64 0]) (by simp [results, Tryz.results70, go_sem]) rfl ⟨rfl, ((Kept.refl w).alloc _ _).alloc _ _⟩

theorem refparse_any (A : Option Addr) (n cap : Nat) (xs : List ByteArray) (w : World) (h : Sts w A n xs) (hf : Lim xs) :
    Calls Tryz.prog 70 #[.slice A n cap] w fun r w' => r = .returned (.tuple #[(ansA xs).rule, .int .i64 (ansA xs).err, .int .i64 (ansA xs).at_]) ∧ Kept w w' := by
  have hl := h.1
  by_cases h4 : n = 4 ∧ (xs.getD 0 nob).toList = defL
  · obtain ⟨rfl, hx⟩ := h4
    obtain ⟨b, off, rfl, hb, hc⟩ := h.2.2 (by omega)
    exact refparse_def b off cap _ _ _ _ (ansA xs) w (by unfold ansA; rw [if_pos ⟨hl, hx⟩]) (hc 0 (by omega)) (hc 1 (by omega)) (hc 2 (by omega)) (hc 3 (by omega)) hx (hf.at 1) (hf.at 2) (hf.at 3)
  · by_cases h5 : n = 5 ∧ (xs.getD 0 nob).toList = rulL
    · obtain ⟨rfl, hx⟩ := h5
      obtain ⟨b, off, rfl, hb, hc⟩ := h.2.2 (by omega)
      exact refparse_rule b off cap _ _ _ _ _ (ansA xs) w (by unfold ansA; rw [if_neg (by omega), if_pos ⟨hl, hx⟩]) (hc 0 (by omega)) (hc 1 (by omega)) (hc 2 (by omega)) (hc 3 (by omega)) (hc 4 (by omega)) hx (hf.at 1) (hf.at 2) (hf.at 3) (hf.at 4)
    · have e : ansA xs = zeroA 22 0 := by unfold ansA; rw [hl, if_neg h4, if_neg h5]
      rw [e]
      exact refparse_none A n cap xs w h h4 h5
end Go.Proofs.YtckaiejbgnhgcaaGreatDoor.Wd
namespace Go.Proofs.YtckaiejbgnhgcaaGreatDoor.Wd
open Go Go.RowKit
set_option linter.unusedVariables false

theorem infoStr : (Tryz.prog.info? 9).map (fun i => (i.zero, i.size, i.bytes)) = some (some (.string ⟨#[]⟩), 1, 16) := by kernel_rfl
/-- Texts, as cells. -/
abbrev tvs (xs : List ByteArray) : List Value := xs.map Value.string
/-- A row of texts that a call owns. -/
def ORow (w : World) (base : Nat) (v : Value) (xs : List ByteArray) : Prop := w.ownsRow base 9 1 v xs.length (tvs xs)
theorem ORow.nil (w : World) (base : Nat) : ORow w base (.slice none 0 0) [] := World.ownsRow_nil _ _ _ _
theorem ORow.lit (w : World) (base : Nat) (xs : List ByteArray) (hb : base ≤ w.heap.size) (hl : xs.length ≤ 1000) :
    ORow (w.alloc (.cells (tvs xs).toArray 9)) base (.slice (some ⟨w.heap.size, 0, none⟩) xs.length xs.length) xs := by
  have h := World.ownsRow_lit (base := base) (e := 9) (size := 1) w (tvs xs).toArray xs.length hb (by unfold maxLen; omega) (by simp)
  simpa [ORow] using h
theorem ORow.sts {w : World} {base : Nat} {v : Value} {xs : List ByteArray} (h : ORow w base v xs) (hx : ∀ x ∈ xs, x.size ≤ 9223372036854775807) :
    ∃ A c, v = .slice A xs.length c ∧ xs.length ≤ c ∧ c ≤ 9223372036854775807 ∧ Sts w A xs.length xs := by
  obtain ⟨h1, h2⟩ := h
  rcases h2 with ⟨rfl, h0⟩ | ⟨g, cap, cur, rfl, hb, hg, hc1, hc2, hsz, htk⟩
  · have : xs = [] := List.eq_nil_of_length_eq_zero h0
    subst this
    exact ⟨none, 0, rfl, by simp, by omega, Sts.nil _ _⟩
  · refine ⟨_, cap, rfl, hc1, hc2, rfl, hx, fun hn => ⟨g, 0, rfl, lt_heap hg, fun k hk => ?_⟩⟩
    rw [Nat.zero_add, cell_of_row w g k cur 9 (0, 0) hg]
    have e : (cur.toList.take (xs.length * 1))[k]? = (tvs xs)[k]? := by rw [htk]
    rw [List.getElem?_take, if_pos (by omega)] at e
    rw [List.getD_eq_getElem?_getD, List.getElem?_eq_getElem hk]
    simpa [List.getElem?_map, List.getElem?_eq_getElem hk] using e

theorem own_low {w : World} {base base' : Nat} {e : TypeId} {size n : Nat} {v : Value} {xs : List Value} (h : w.ownsRow base e size v n xs) (hb : base' ≤ base) : w.ownsRow base' e size v n xs := by
  obtain ⟨h1, h2⟩ := h
  rcases h2 with h2 | ⟨g, cap, cur, hv, hg, h3⟩
  · exact ⟨h1, .inl h2⟩
  · exact ⟨h1, .inr ⟨g, cap, cur, hv, Nat.le_trans hb hg, h3⟩⟩
theorem news3 (W : World) (a b c : Value) (t : TypeId) : ∀ j u, [a, b, c][j]? = some u → (W.alloc (.cells #[a, b, c] t)).cell? ((⟨W.heap.size, 0, none⟩ : Addr).add j) = some u := World.news_of_block (MapKept.heap_alloc W _).1
theorem pr_ok (p : ByteArray) (e b : Nat) (k : Int) (hs : p.size ≤ 281474976710656) (he : e < 18446744073709551616) (hb : b < 18446744073709551616) : Lim (prW p e b k) := by
  have dz1 := dig_size e he
  have dz2 := dig_size b hb
  have dz3 := nam_size k
  intro x hx
  unfold prW at hx
  split at hx
  · cases hx
  · split at hx
    · simp only [List.mem_cons, List.not_mem_nil, or_false] at hx
      rcases hx with rfl | rfl | rfl | rfl
      · decide
      · omega
      · omega
      · omega
    · simp only [List.mem_cons, List.not_mem_nil, or_false] at hx
      rcases hx with rfl | rfl | rfl | rfl | rfl
      · decide
      · omega
      · omega
      · omega
      · omega
theorem own_lt {w : World} {base : Nat} {v : Value} {xs : List ByteArray} (h : ORow w base v xs) : ∀ k, v.ownBlock = some k → base ≤ k := fun k hk => (h.lt k hk).1

set_option maxRecDepth 100000 in
set_option maxHeartbeats 2000000 in
theorem refprint_any (p : ByteArray) (e b : Nat) (k : Int) (w : World) (hs : p.size ≤ 281474976710656) (he : e < 18446744073709551616) (hb : b < 18446744073709551616) (hk : 0 ≤ k ∧ k ≤ 255) :
    Calls Tryz.prog 22 #[rul p e b k] w fun r w' => (∃ v, r = .returned v ∧ ORow w' w.heap.size v (prW p e b k)) ∧ Below w.heap.size w w' := by
  have RA := fun W => refRight_any p e b k W (by omega) (UN e he) (UN b hb) hk
  obtain ⟨i0, hi, hy0, hy1, hy2⟩ := info_parts infoStr
  by_cases h : ruE p e b k = 0
  · have e0 : prW p e b k = if p.size = 0 then [defS, dig e, dig b, namS k] else [rulS, p, dig e, dig b, namS k] := by unfold prW; rw [if_neg (by simp [h])]
    rw [h] at RA
    by_cases hp : p.size = 0
    · have hz := toList_none p hp
      rw [if_pos hp] at e0
      rw [e0]
      clear e0 h hp
      go_enter Tryz.func22, Tryz.ntmps22
      go_wp2_with (go_at_call 38; refine (RA _).mono ?_; rintro r w1 ⟨rfl, k1⟩; have q0 : w1.cell? ⟨w.heap.size, 0, none⟩ = some (.string p) := k1.cell (by simp); have hq0 := lt_of_cell q0; have hq1 := Nat.ne_of_lt hq0)
      have kW : Kept w w1 := ((Kept.refl w).alloc _ _).trans k1
      have b1 : w1.cell? ⟨w.heap.size, 1, none⟩ = some (.int .u64 e) := k1.cell (by simp)
      have b2 : w1.cell? ⟨w.heap.size, 2, none⟩ = some (.int .u64 b) := k1.cell (by simp)
      have b3 : w1.cell? ⟨w.heap.size, 3, none⟩ = some (.int .u8 k) := k1.cell (by simp)
      have hz1 : w.heap.size < w1.heap.size := lt_of_cell b1
      obtain ⟨G, hG⟩ : ∃ G, G = w1.heap.size := ⟨_, rfl⟩
      have HO := ORow.lit w1 w1.heap.size [defS] (Nat.le_refl _) (by decide)
      have kF : Kept w (w1.alloc (.cells (tvs [defS]).toArray 9)) := kW.alloc _ _
      have kk : Kept w1 (w1.alloc (.cells (tvs [defS]).toArray 9)) := (Kept.refl w1).alloc _ _
      have d1 := kk.cell b1
      have d2 := kk.cell b2
      have d3 := kk.cell b3
      have hgW : w1.heap.size ≤ (w1.alloc (.cells (tvs [defS]).toArray 9)).heap.size := kk.size
      rw [← hG] at HO hgW hz1 ⊢
      clear kk
      generalize hW : World.alloc _ _ = W
      replace HO : ORow W G (.slice (some ⟨G, 0, none⟩) 1 1) [defS] := by rw [← hW]; exact HO
      replace kF : Kept w W := by rw [← hW]; exact kF
      replace d1 : W.cell? ⟨w.heap.size, 1, none⟩ = some (.int .u64 e) := by rw [← hW]; exact d1
      replace d2 : W.cell? ⟨w.heap.size, 2, none⟩ = some (.int .u64 b) := by rw [← hW]; exact d2
      replace d3 : W.cell? ⟨w.heap.size, 3, none⟩ = some (.int .u8 k) := by rw [← hW]; exact d3
      replace hgW : G ≤ W.heap.size := by rw [← hW]; exact hgW
      clear hW b1 b2 b3 k1 kW
      have hGb : w.heap.size < G := by omega
      clear hG
      have MK : Hid (∀ w', Below G W w' → Below G W w' ∧ w'.cell? ⟨w.heap.size, 1, none⟩ = some (.int .u64 e) ∧ w'.cell? ⟨w.heap.size, 2, none⟩ = some (.int .u64 b) ∧ w'.cell? ⟨w.heap.size, 3, none⟩ = some (.int .u8 k)) := Lib.hid (fun w' h => ⟨h, (h.cell (p := ⟨w.heap.size, 1, none⟩) hGb).trans d1, (h.cell (p := ⟨w.heap.size, 2, none⟩) hGb).trans d2, (h.cell (p := ⟨w.heap.size, 3, none⟩) hGb).trans d3⟩)
      have HOW := Lib.hid HO
      clear HO
      have hbW : Below G W W := Below.refl _ _
      go_region_held3 (fun w' => Below G W w' ∧ w'.cell? ⟨w.heap.size, 1, none⟩ = some (.int .u64 e) ∧ w'.cell? ⟨w.heap.size, 2, none⟩ = some (.int .u64 b) ∧ w'.cell? ⟨w.heap.size, 3, none⟩ = some (.int .u8 k))
        (exact MK.out _ (by first | with_reducible exact hbW | with_reducible exact hbW.drew | with_reducible exact hbW.alloc hgW _ | with_reducible exact (hbW.alloc hgW _).drew | with_reducible exact hbW.drew.alloc hgW _ | with_reducible exact hb3))
        (first
        | (go_at_call 21; ((with_reducible refine (refPrint_any _ _ (by first | exact he | exact hb)).mono ?_); rintro r w2 ⟨rfl, rfl⟩))
        | (go_at_call 39; ((with_reducible refine (refName_any _ _).mono ?_); rintro r w2 ⟨rfl, rfl⟩))
        | (refine step_append_lies _ (by rfl) _ _ 32 (by rfl) G 9 i0 (.string ⟨#[]⟩) 1 16 Tryz.underlying32 hi hy0 hy1 hy2 rfl (by decide) (.slice (some ⟨G, 0, none⟩) 1 1) 1 (tvs [defS]) (by rfl) (by first | exact HOW.out.alloc _ | exact (HOW.out.alloc _).drew) ⟨W.heap.size, 0, none⟩ 3 3 [.string (dig e), .string (dig b), .string (namS k)] (by rfl) (by rfl) (by first | exact news3 _ _ _ _ _ | exact fun j u hu => news3 W _ _ _ _ j u hu) (by simp [Value.oneCell']) (by decide) (by unfold maxLen; omega) (by omega) (by simp; omega) (W.heap.size + 1) (by simp) ?_; intro g cp w3 own3 grow3 at3 lt3; have hb3 : Below G W w3 := (by first | with_reducible exact (hbW.alloc hgW _).grown grow3 (by simp; omega) (own_lt HOW.out) | with_reducible exact (hbW.alloc hgW _).drew.grown grow3 (by simp; omega) (own_lt HOW.out))))
      all_goals
        go_wp2
        go_ret
        exact ⟨⟨_, rfl, own_low own3 (Nat.le_of_lt hGb)⟩, kF.2.trans (hb3.mono (Nat.le_of_lt hGb))⟩
    · have hz := toList_ne p (by omega)
      rw [if_neg hp] at e0
      rw [e0]
      clear e0 h hp
      go_enter Tryz.func22, Tryz.ntmps22
      go_wp2_with (go_at_call 38; refine (RA _).mono ?_; rintro r w1 ⟨rfl, k1⟩; have q0 : w1.cell? ⟨w.heap.size, 0, none⟩ = some (.string p) := k1.cell (by simp); have hq0 := lt_of_cell q0; have hq1 := Nat.ne_of_lt hq0)
      have kW : Kept w w1 := ((Kept.refl w).alloc _ _).trans k1
      have b1 : w1.cell? ⟨w.heap.size, 1, none⟩ = some (.int .u64 e) := k1.cell (by simp)
      have b2 : w1.cell? ⟨w.heap.size, 2, none⟩ = some (.int .u64 b) := k1.cell (by simp)
      have b3 : w1.cell? ⟨w.heap.size, 3, none⟩ = some (.int .u8 k) := k1.cell (by simp)
      have hz1 : w.heap.size < w1.heap.size := lt_of_cell b1
      obtain ⟨V, hV⟩ : ∃ V, V = w1.alloc (.cells (tvs [defS]).toArray 9) := ⟨_, rfl⟩
      obtain ⟨G, hG⟩ : ∃ G, G = V.heap.size := ⟨_, rfl⟩
      have hGs : G = w1.heap.size + 1 := by rw [hG, hV]; simp
      have HO := ORow.lit V V.heap.size [rulS, p] (Nat.le_refl _) (by simp)
      have kk : Kept w1 (V.alloc (.cells (tvs [rulS, p]).toArray 9)) := by rw [hV]; exact ((Kept.refl w1).alloc _ _).alloc _ _
      have kF := kW.trans kk
      have d1 := kk.cell b1
      have d2 := kk.cell b2
      have d3 := kk.cell b3
      have hgW : V.heap.size ≤ (V.alloc (.cells (tvs [rulS, p]).toArray 9)).heap.size := by simp
      rw [← hG] at HO hgW
      clear kk
      generalize hW : World.alloc _ _ = W
      replace HO : ORow W G (.slice (some ⟨G, 0, none⟩) 2 2) [rulS, p] := by rw [← hW]; subst hV; exact HO
      replace kF : Kept w W := by rw [← hW]; subst hV; exact kF
      replace d1 : W.cell? ⟨w.heap.size, 1, none⟩ = some (.int .u64 e) := by rw [← hW]; subst hV; exact d1
      replace d2 : W.cell? ⟨w.heap.size, 2, none⟩ = some (.int .u64 b) := by rw [← hW]; subst hV; exact d2
      replace d3 : W.cell? ⟨w.heap.size, 3, none⟩ = some (.int .u8 k) := by rw [← hW]; subst hV; exact d3
      replace hgW : G ≤ W.heap.size := by rw [← hW]; subst hV; exact hgW
      clear hW b1 b2 b3 k1 kW
      have hGb : w.heap.size < G := by omega
      rw [← hGs]
      clear hG hGs hV
      have MK : Hid (∀ w', Below G W w' → Below G W w' ∧ w'.cell? ⟨w.heap.size, 1, none⟩ = some (.int .u64 e) ∧ w'.cell? ⟨w.heap.size, 2, none⟩ = some (.int .u64 b) ∧ w'.cell? ⟨w.heap.size, 3, none⟩ = some (.int .u8 k)) := Lib.hid (fun w' h => ⟨h, (h.cell (p := ⟨w.heap.size, 1, none⟩) hGb).trans d1, (h.cell (p := ⟨w.heap.size, 2, none⟩) hGb).trans d2, (h.cell (p := ⟨w.heap.size, 3, none⟩) hGb).trans d3⟩)
      have HOW := Lib.hid HO
      clear HO
      have hbW : Below G W W := Below.refl _ _
      go_region_held3 (fun w' => Below G W w' ∧ w'.cell? ⟨w.heap.size, 1, none⟩ = some (.int .u64 e) ∧ w'.cell? ⟨w.heap.size, 2, none⟩ = some (.int .u64 b) ∧ w'.cell? ⟨w.heap.size, 3, none⟩ = some (.int .u8 k))
        (exact MK.out _ (by first | with_reducible exact hbW | with_reducible exact hbW.drew | with_reducible exact hbW.alloc hgW _ | with_reducible exact (hbW.alloc hgW _).drew | with_reducible exact hbW.drew.alloc hgW _ | with_reducible exact hb3))
        (first
        | (go_at_call 21; ((with_reducible refine (refPrint_any _ _ (by first | exact he | exact hb)).mono ?_); rintro r w2 ⟨rfl, rfl⟩))
        | (go_at_call 39; ((with_reducible refine (refName_any _ _).mono ?_); rintro r w2 ⟨rfl, rfl⟩))
        | (refine step_append_lies _ (by rfl) _ _ 32 (by rfl) G 9 i0 (.string ⟨#[]⟩) 1 16 Tryz.underlying32 hi hy0 hy1 hy2 rfl (by decide) (.slice (some ⟨G, 0, none⟩) 2 2) 2 (tvs [rulS, p]) (by rfl) (by first | exact HOW.out.alloc _ | exact (HOW.out.alloc _).drew) ⟨W.heap.size, 0, none⟩ 3 3 [.string (dig e), .string (dig b), .string (namS k)] (by rfl) (by rfl) (by first | exact news3 _ _ _ _ _ | exact fun j u hu => news3 W _ _ _ _ j u hu) (by simp [Value.oneCell']) (by decide) (by unfold maxLen; omega) (by omega) (by simp; omega) (W.heap.size + 1) (by simp) ?_; intro g cp w3 own3 grow3 at3 lt3; have hb3 : Below G W w3 := (by first | with_reducible exact (hbW.alloc hgW _).grown grow3 (by simp; omega) (own_lt HOW.out) | with_reducible exact (hbW.alloc hgW _).drew.grown grow3 (by simp; omega) (own_lt HOW.out))))
      all_goals
        go_wp2
        go_ret
        exact ⟨⟨_, rfl, own_low own3 (Nat.le_of_lt hGb)⟩, kF.2.trans (hb3.mono (Nat.le_of_lt hGb))⟩
  · have e0 : prW p e b k = [] := by unfold prW; rw [if_pos (by simpa using h)]
    rw [e0]
    have c1 : (ruE p e b k != 0) = true := by simpa using h
    have c2 : (ruE p e b k == 0) = false := by simpa using h
    generalize ruE p e b k = E at *
    clear e0 h
    go_enter Tryz.func22, Tryz.ntmps22
    go_wp2_with (go_at_call 38; refine (RA _).mono ?_; rintro r w1 ⟨rfl, k1⟩)
    go_ret
    exact ⟨⟨_, rfl, ORow.nil _ _⟩, (((Kept.refl w).alloc _ _).trans k1).2⟩
end Go.Proofs.YtckaiejbgnhgcaaGreatDoor.Wd
namespace Go.Proofs.YtckaiejbgnhgcaaGreatDoor.Wd
open Go Go.RowKit
set_option linter.unusedVariables false

theorem ans_U (xs : List ByteArray) : 0 ≤ (ansA xs).err ∧ (ansA xs).err ≤ 27 := by
  have h1 : ∀ x, 0 ≤ eEv x ∧ eEv x ≤ 27 := fun x => by unfold eEv paE; (repeat' split) <;> omega
  have h2 : ∀ x y, 0 ≤ eBu x y ∧ eBu x y ≤ 27 := fun x y => by unfold eBu paE; (repeat' split) <;> omega
  have h3 : ∀ x, 0 ≤ eKi x ∧ eKi x ≤ 27 := fun x => by unfold eKi; (repeat' split) <;> omega
  have hn : ∀ p o x y z, 0 ≤ (numA p o x y z).err ∧ (numA p o x y z).err ≤ 27 := fun p o x y z => by
    unfold numA; (repeat' split)
    · exact h1 _
    · exact h2 _ _
    · exact h3 _
    · exact ⟨Int.le_refl _, by show (0 : Int) ≤ 27; decide⟩
  unfold ansA
  split
  · exact hn _ _ _ _ _
  · split
    · split
      · exact ⟨by decide, by decide⟩
      · exact hn _ _ _ _ _
    · exact ⟨by decide, by decide⟩

/-! ### The example, and a rule of choices -/
theorem ans_rule (xs : List ByteArray) (p x y z : ByteArray) (h : xs = [rulS, p, x, y, z]) : ansA xs = if ePr p ≠ 0 then zeroA 23 1 else numA p 2 x y z := by
  subst h
  unfold ansA
  rw [if_neg (by simp), if_pos ⟨rfl, by show rulS.toList = rulL; rw [ByteArray.toList_eq]⟩]
  rfl
theorem ans_def (xs : List ByteArray) (x y z : ByteArray) (h : xs = [defS, x, y, z]) : ansA xs = numA ⟨#[]⟩ 1 x y z := by
  subst h
  unfold ansA
  rw [if_pos ⟨rfl, by show defS.toList = defL; rw [ByteArray.toList_eq]⟩]
  rfl
theorem known1 : ansA [rulS, ⟨#[97, 112, 105, 47]⟩, ⟨#[53, 48, 48]⟩, ⟨#[48]⟩, leakyS] = zeroA 25 3 := by
  rw [ans_rule _ _ _ _ _ rfl, if_neg (by decide), numA_2 _ _ _ _ _ (by decide) (by decide)]
  rfl
theorem known2 : ansA [defS, ⟨#[49, 48]⟩, ⟨#[53]⟩, gcraS] = ⟨⟨#[]⟩, 10, 5, 1, 0, 0⟩ := by
  rw [ans_def _ _ _ _ rfl, numA_4 _ _ _ _ _ (by decide) (by decide) (by decide)]
  rfl
theorem known3 : caI ⟨#[]⟩ 10 5 1 = 50 := by decide

end Go.Proofs.YtckaiejbgnhgcaaGreatDoor.Wd
namespace Go.Proofs.YtckaiejbgnhgcaaGreatDoor.Wd
open Go Go.RowKit
set_option linter.unusedVariables false

/-- What a rule of choices is: right, and small. -/
structure Own (s : ByteArray) (E B : Nat) (k : Int) : Prop where
  sz : s.size ≤ 12
  pf : pfB s = true
  e1 : 1 ≤ E
  e2 : E ≤ 4294967296
  b1 : 1 ≤ B
  b2 : B ≤ 65536
  k1 : 1 ≤ k
  k2 : k ≤ 3
theorem Own.fit {s : ByteArray} {E B : Nat} {k : Int} (h : Own s E B k) : sat ((E : Int) * (B : Int)) ≤ 4611686018427387904 ∧ sat ((E : Int) * (B : Int)) = (E : Int) * (B : Int) := by
  have h1 : E * B ≤ 4294967296 * 65536 := Nat.mul_le_mul h.e2 h.b2
  have h2 : ((E * B : Nat) : Int) = (E : Int) * (B : Int) := by simp
  have h3 : (E : Int) * (B : Int) ≤ 281474976710656 := by omega
  unfold sat
  rw [if_pos (by omega)]
  exact ⟨by omega, rfl⟩
theorem Own.right {s : ByteArray} {E B : Nat} {k : Int} (h : Own s E B k) : ruE s E B k = 0 := by
  have h1 := h.fit.1
  have := h.e1; have := h.b1; have := h.k1; have := h.k2
  rw [ru_is, h.pf, if_neg (by decide), if_neg (by omega), if_neg (by omega), if_neg (by omega), show isK k = true from decide_eq_true ⟨h.k1, h.k2⟩, if_neg (by decide)]
theorem short_pf {s : ByteArray} (h : Short s) : pfB s = true ∧ rtB (lb s) = true := by
  obtain ⟨⟨h1, h2⟩, h3⟩ := h
  have : rtB (lb s) = true := by unfold rtB; rw [list_size, decide_eq_true (by omega), h3]; rfl
  exact ⟨by unfold pfB; rw [this]; simp, this⟩

theorem own_mk (s : ByteArray) (hs : s.size = 0 ∨ Short s) (every burst kind : Int) (he : 0 ≤ every ∧ every ≤ 4294967295) (hb : 0 ≤ burst ∧ burst ≤ 65535) (hk : 0 ≤ kind ∧ kind ≤ 255) :
    ∃ E B : Nat, 1 + every = (E : Int) ∧ 1 + burst = (B : Int) ∧ Own s E B (1 + kind % 3) := by
  refine ⟨(1 + every).toNat, (1 + burst).toNat, by omega, by omega, ?_, ?_, by omega, by omega, by omega, by omega, by omega, by omega⟩
  · rcases hs with h | h
    · omega
    · exact h.1.2
  · rcases hs with h | h
    · unfold pfB; rw [decide_eq_true h]; rfl
    · exact (short_pf h).1

end Go.Proofs.YtckaiejbgnhgcaaGreatDoor.Wd
namespace Go.Proofs.YtckaiejbgnhgcaaGreatDoor.Wd
open Go Go.RowKit
set_option linter.unusedVariables false

theorem nam_kin (s : ByteArray) (h : kinB s = true) : namS (kinI s) = s := by
  unfold kinB at h
  unfold kinI
  have h := of_decide_eq_true h
  by_cases h1 : s = gcraS
  · subst h1; rfl
  by_cases h2 : s = bucketS
  · subst h2; rfl
  by_cases h3 : s = leakyS
  · subst h3; rfl
  exact absurd h (by simp [h1, h2, h3])
theorem kin_none (s : ByteArray) (h : kinB s = false) : kinI s = 0 := by
  unfold kinB at h
  have h := of_decide_eq_false h
  unfold kinI
  rw [if_neg (fun e => h (.inl e)), if_neg (fun e => h (.inr (.inl e))), if_neg (fun e => h (.inr (.inr e)))]
theorem kin_U (s : ByteArray) : 0 ≤ kinI s ∧ kinI s ≤ 3 := by unfold kinI; (repeat' split) <;> omega
theorem kin_nam (k : Int) (h : 1 ≤ k ∧ k ≤ 3) : kinI (namS k) = k ∧ kinB (namS k) = true ∧ (namS k).toList.isEmpty = false := by
  rcases (by omega : k = 1 ∨ k = 2 ∨ k = 3) with rfl | rfl | rfl
  · exact ⟨by decide, by decide, toList_ne _ (by decide)⟩
  · exact ⟨by decide, by decide, toList_ne _ (by decide)⟩
  · exact ⟨by decide, by decide, toList_ne _ (by decide)⟩
theorem kin_out (k : Int) (h : ¬ (1 ≤ k ∧ k ≤ 3)) : kinI (namS k) = 0 ∧ kinB (namS k) = false ∧ (namS k).toList.isEmpty = true := by
  have : namS k = ⟨#[]⟩ := by unfold namS; rw [if_neg (by omega), if_neg (by omega), if_neg (by omega)]
  rw [this]
  exact ⟨by decide, by decide, toList_none _ (by decide)⟩

end Go.Proofs.YtckaiejbgnhgcaaGreatDoor.Wd
namespace Go.Proofs.YtckaiejbgnhgcaaGreatDoor.Wd
open Go Go.RowKit
set_option linter.unusedVariables false

theorem dig_pa (n : Nat) (h : n < 18446744073709551616) : paN (lb (dig n)) = n ∧ paE (lb (dig n)) = 0 := by
  unfold dig lb; rw [str_data]; exact pa_dec n h
theorem eEv_dig (n : Nat) (h : n < 18446744073709551616) : eEv (dig n) = if n = 0 then 24 else 0 := by
  obtain ⟨h1, h2⟩ := dig_pa n h
  unfold eEv; rw [h2, if_neg (by decide), h1]
  by_cases c : n = 0
  · rw [if_pos c, if_pos (by omega)]
  · rw [if_neg c, if_neg (by omega)]
theorem eBu_dig (m n : Nat) (hm : m < 18446744073709551616) (h : n < 18446744073709551616) : eBu (dig m) (dig n) = if n = 0 then 25 else if sat ((m : Int) * (n : Int)) ≤ 4611686018427387904 then 0 else 26 := by
  obtain ⟨h1, h2⟩ := dig_pa n h
  obtain ⟨g1, g2⟩ := dig_pa m hm
  unfold eBu; rw [h2, if_neg (by decide), h1, g1]
  by_cases c : n = 0
  · rw [if_pos c, if_pos (by omega)]
  · rw [if_neg c, if_neg (by omega)]
theorem eKi_nam (c : Int) (h : 1 ≤ c ∧ c ≤ 3) : eKi (namS c) = 0 := by unfold eKi; rw [(kin_nam c h).2.1]; rfl
theorem ru_yes {p : ByteArray} {E B : Nat} {c : Int} (h : ruE p E B c = 0) : pfB p = true ∧ 1 ≤ E ∧ 1 ≤ B ∧ sat ((E : Int) * (B : Int)) ≤ 4611686018427387904 ∧ 1 ≤ c ∧ c ≤ 3 := by
  rw [ru_is] at h
  by_cases c0 : pfB p = false
  · rw [if_pos c0] at h; cases h
  rw [if_neg c0] at h
  by_cases c1 : 0 < (E : Int)
  · rw [if_neg (by omega)] at h
    by_cases c2 : 0 < (B : Int)
    · rw [if_neg (by omega)] at h
      by_cases c3 : sat ((E : Int) * (B : Int)) ≤ 4611686018427387904
      · rw [if_neg (by omega)] at h
        by_cases c4 : isK c = false
        · rw [if_pos c4] at h; cases h
        · have c5 : isK c = true := by simpa using c4
          have := of_decide_eq_true (show decide (1 ≤ c ∧ c ≤ 3) = true from c5)
          exact ⟨by simpa using c0, by omega, by omega, c3, this.1, this.2⟩
      · rw [if_pos c3] at h; cases h
    · rw [if_pos c2] at h; cases h
  · rw [if_pos c1] at h; cases h
/-- What is printed is read. -/
theorem ans_print (p : ByteArray) (E B : Nat) (c : Int) (hE : E < 18446744073709551616) (hB : B < 18446744073709551616) (h : ruE p E B c = 0) : ansA (prW p E B c) = ⟨p, E, B, c, 0, 0⟩ := by
  obtain ⟨y1, y2, y3, y4, y5, y6⟩ := ru_yes h
  have z1 : eEv (dig E) = 0 := by rw [eEv_dig E hE, if_neg (by omega)]
  have z2 : eBu (dig E) (dig B) = 0 := by rw [eBu_dig E B hE hB, if_neg (by omega), if_pos y4]
  have z3 := eKi_nam c ⟨y5, y6⟩
  have n1 := (dig_pa E hE).1
  have n2 := (dig_pa B hB).1
  have n3 := (kin_nam c ⟨y5, y6⟩).1
  unfold prW
  rw [if_neg (by simp [h])]
  by_cases hp : p.size = 0
  · rw [if_pos hp, ans_def _ _ _ _ rfl, numA_4 _ _ _ _ _ z1 z2 z3, n1, n2, n3]
    have : p = ⟨#[]⟩ := ByteArray.ext (Array.eq_empty_of_size_eq_zero hp)
    rw [this]
  · have z0 : ePr p = 0 := by
      unfold pfB at y1
      rw [decide_eq_false hp, Bool.false_or] at y1
      unfold ePr; rw [y1]; rfl
    rw [if_neg hp, ans_rule _ _ _ _ _ rfl, if_neg (by simp [z0]), numA_4 _ _ _ _ _ z1 z2 z3, n1, n2, n3]
end Go.Proofs.YtckaiejbgnhgcaaGreatDoor.Wd
namespace Go.Proofs.YtckaiejbgnhgcaaGreatDoor.Wd
open Go Go.RowKit
set_option linter.unusedVariables false

theorem ORow.below {w w' : World} {base : Nat} {v : Value} {xs : List ByteArray} (h : ORow w base v xs) (g : Below w.heap.size w w') : ORow w' base v xs := by
  obtain ⟨h1, h2⟩ := h
  refine ⟨h1, ?_⟩
  rcases h2 with h2 | ⟨gb, cap, cur, hv, hb, hg, h3⟩
  · exact .inl h2
  · exact .inr ⟨gb, cap, cur, hv, hb, (g.block _ (lt_heap hg)).trans hg, h3⟩
theorem sts_news {w : World} {b off m : Nat} {xs : List ByteArray} (h : Sts w (some ⟨b, off, none⟩) m xs) (hm : 0 < m) : ∀ j u, (tvs xs)[j]? = some u → w.cell? ((⟨b, off, none⟩ : Addr).add j) = some u := by
  intro j u hu
  obtain ⟨b', off', e, hb, hc⟩ := h.2.2 hm
  simp only [Option.some.injEq, Addr.mk.injEq, and_true] at e
  obtain ⟨rfl, rfl⟩ := e
  have hj : j < xs.length := by
    by_cases hj : j < xs.length
    · exact hj
    · rw [List.getElem?_eq_none (by simp; omega)] at hu; cases hu
  rw [Go.WideShapes.add_plain, hc j (by rw [← h.1]; exact hj), List.getD_eq_getElem?_getD, List.getElem?_eq_getElem hj]
  simpa [List.getElem?_map, List.getElem?_eq_getElem hj] using hu
theorem tvs_one (xs : List ByteArray) : ∀ u ∈ tvs xs, u.oneCell' = true := by
  intro u hu
  obtain ⟨x, _, rfl⟩ := List.mem_map.1 hu
  rfl
theorem wpList_app_texts (w : World) {ops : Array Oper} {rest : List Oper} {o : Oper} {a : Act} {Q : Exit → Act → World → Prop} (hgd : o.guard = none) (s x : Operand)
    (ho : o.op = .call { callee := .builtin .append, args := #[s, x], argTypes := #[32, 32] })
    (base : Nat) (v : Value) (acc : List ByteArray) (hs : a.eval s = v) (hown : ORow w base v acc) (b off m c : Nat) (xs : List ByteArray) (hx : a.eval x = .slice (some ⟨b, off, none⟩) m c) (hT : Sts w (some ⟨b, off, none⟩) m xs)
    (hm : 0 < m) (N : Nat) (hN : acc.length + m = N) (hsz : N ≤ 1000) (hbase : base ≤ w.heap.size)
    (h : ∀ g cap w', ORow w' base (.slice (some ⟨g, 0, none⟩) N cap) (acc ++ xs) → Below base w w' → wpList Tryz.prog ops Q rest (a.put o.dst (.slice (some ⟨g, 0, none⟩) N cap)) w') : wpList Tryz.prog ops Q (o :: rest) a w := by
  obtain ⟨i0, hi, hy0, hy1, hy2⟩ := info_parts infoStr
  subst hN
  refine wpList_append_lies w hgd s x 32 ho base 9 i0 (.string ⟨#[]⟩) 1 16 Tryz.underlying32 hi hy0 hy1 hy2 rfl (by decide) v acc.length (tvs acc) hs hown ⟨b, off, none⟩ m c (tvs xs) hx (by rw [List.length_map, hT.1]; omega) (sts_news hT hm) (tvs_one xs) hm (by unfold maxLen; omega) (by omega) hbase w.heap.size rfl ?_
  intro g cap w' own grow _ _
  refine h g cap w' ?_ ((Below.refl base w).grown grow hbase (own_lt hown))
  unfold ORow tvs
  rw [List.map_append, List.length_append, hT.1]
  exact own

/-! ### Lines that are none -/
theorem ans_short (xs : List ByteArray) (h : ¬ (xs.length = 4 ∧ (xs.getD 0 nob).toList = defL)) (h5 : ¬ (xs.length = 5 ∧ (xs.getD 0 nob).toList = rulL)) : ansA xs = zeroA 22 0 := by
  unfold ansA; rw [if_neg h, if_neg h5]
theorem defS_list : defS.toList = defL := by rw [ByteArray.toList_eq]
theorem rulS_list : rulS.toList = rulL := by rw [ByteArray.toList_eq]
theorem def_not_rul : ¬ defL = rulL := by decide
theorem take_def (x y z : ByteArray) (k : Nat) (h : k < 4) : ansA ([defS, x, y, z].take k) = zeroA 22 0 :=
  ans_short _ (fun g => by have := g.1; simp at this; omega) (fun g => by have := g.1; simp at this; omega)
theorem take_rul (p x y z : ByteArray) (k : Nat) (h : k < 5) : ansA ([rulS, p, x, y, z].take k) = zeroA 22 0 := by
  refine ans_short _ (fun g => ?_) (fun g => by have := g.1; simp at this; omega)
  have hk : k = 4 := by have := g.1; simp at this; omega
  subst hk
  have := g.2
  have e : ([rulS, p, x, y, z].take 4).getD 0 nob = rulS := rfl
  rw [e, rulS_list] at this
  exact absurd this (by decide)
theorem more_def (x y z v : ByteArray) : ansA ([defS, x, y, z] ++ [v]) = zeroA 22 0 := by
  refine ans_short _ (fun g => by have := g.1; simp at this) (fun g => ?_)
  have := g.2
  have e : ([defS, x, y, z] ++ [v]).getD 0 nob = defS := rfl
  rw [e, defS_list] at this
  exact absurd this (by decide)
theorem more_rul (p x y z v : ByteArray) : ansA ([rulS, p, x, y, z] ++ [v]) = zeroA 22 0 :=
  ans_short _ (fun g => by have := g.1; simp at this) (fun g => by have := g.1; simp at this)
theorem other_def (x y z v : ByteArray) (h : ¬ v = defS) : ansA [v, x, y, z] = zeroA 22 0 := by
  refine ans_short _ (fun g => ?_) (fun g => by have := g.1; simp at this)
  have := g.2
  have e : [v, x, y, z].getD 0 nob = v := rfl
  rw [e, ← defS_list] at this
  have e2 := @text_same v defS
  rw [this] at e2
  simp at e2
  exact h e2
theorem other_rul (p x y z v : ByteArray) (h : ¬ v = rulS) : ansA [v, p, x, y, z] = zeroA 22 0 := by
  refine ans_short _ (fun g => by have := g.1; simp at this) (fun g => ?_)
  have := g.2
  have e : [v, p, x, y, z].getD 0 nob = v := rfl
  rw [e, ← rulS_list] at this
  have e2 := @text_same v rulS
  rw [this] at e2
  simp at e2
  exact h e2
end Go.Proofs.YtckaiejbgnhgcaaGreatDoor.Wd
namespace Go.Proofs.YtckaiejbgnhgcaaGreatDoor.Wd
open Go Go.RowKit
set_option linter.unusedVariables false

/-- A place to halt a walk at. -/
def Stop (p : Prop) : Prop := p
theorem stopHere {p : Prop} (h : Stop p) : p := h
theorem Sts.slice_front {w : World} {b off n k : Nat} {xs : List ByteArray} (h : Sts w (some ⟨b, off, none⟩) n xs) (hk : k ≤ n) : Sts w (some ⟨b, off, none⟩) k (xs.take k) := h.front hk
theorem lim_take {xs : List ByteArray} (h : Lim xs) (k : Nat) : Lim (xs.take k) := fun x hx => h x (List.mem_of_mem_take hx)
theorem lim_app {xs ys : List ByteArray} (h : Lim xs) (g : Lim ys) : Lim (xs ++ ys) := fun x hx => by
  rcases List.mem_append.1 hx with hx | hx
  · exact h x hx
  · exact g x hx
theorem lim_one {x : ByteArray} (h : x.size ≤ 281474976710656) : Lim [x] := fun y hy => by
  rw [List.mem_singleton.1 hy]; exact h
theorem lim_drop {xs : List ByteArray} (h : Lim xs) (k : Nat) : Lim (xs.drop k) := fun x hx => h x (List.mem_of_mem_drop hx)
theorem ORow.rows {w : World} {base g N cap : Nat} {xs : List ByteArray} (h : ORow w base (.slice (some ⟨g, 0, none⟩) N cap) xs) (hl : Lim xs) : Sts w (some ⟨g, 0, none⟩) N xs ∧ xs.length = N ∧ N ≤ cap ∧ cap ≤ 9223372036854775807 := by
  obtain ⟨A, c, e, h1, h2, h3⟩ := h.sts (small_words hl)
  simp only [Value.slice.injEq] at e
  obtain ⟨rfl, rfl, rfl⟩ := e
  exact ⟨h3, rfl, h1, h2⟩


end Go.Proofs.YtckaiejbgnhgcaaGreatDoor.Wd
namespace Go.Proofs.YtckaiejbgnhgcaaGreatDoor.Wd
open Go Go.RowKit
set_option linter.unusedVariables false

theorem dig_back (x : ByteArray) (h : paE (lb x) = 0) : dig (paN (lb x)).toNat = x := by
  unfold dig; rw [pa_back _ h]; exact str_of x
theorem eEv_0 {x : ByteArray} (h : eEv x = 0) : paE (lb x) = 0 ∧ 0 < paN (lb x) := by
  have hu := paN_U (lb x)
  unfold eEv at h
  split at h
  · rename_i g; exact absurd h g
  · rename_i g
    refine ⟨Decidable.not_not.1 g, ?_⟩
    split at h
    · cases h
    · omega
theorem eBu_0 {x y : ByteArray} (h : eBu x y = 0) : paE (lb y) = 0 ∧ 0 < paN (lb y) ∧ sat (paN (lb x) * paN (lb y)) ≤ 4611686018427387904 := by
  have hu := paN_U (lb y)
  unfold eBu at h
  split at h
  · rename_i g; exact absurd h g
  · rename_i g
    refine ⟨Decidable.not_not.1 g, ?_⟩
    split at h
    · cases h
    · split at h
      · rename_i g2; exact ⟨by omega, g2⟩
      · cases h
theorem eKi_yes {z : ByteArray} (h : eKi z = 0) : kinB z = true := by
  unfold eKi at h; split at h
  · assumption
  · cases h
theorem kin_in {z : ByteArray} (h : kinB z = true) : 1 ≤ kinI z ∧ kinI z ≤ 3 := by
  have := isK_kin z
  rw [h] at this
  exact of_decide_eq_true (show decide (1 ≤ kinI z ∧ kinI z ≤ 3) = true from this)
theorem ePr_0 {p : ByteArray} (h : ePr p = 0) : rtB (lb p) = true ∧ p.size ≠ 0 := by
  unfold ePr at h; split at h
  · rename_i g
    refine ⟨g, fun e => ?_⟩
    unfold rtB at g
    rw [list_size, decide_eq_false (by omega)] at g
    cases g
  · cases h

/-- A line that is read: what it tells is right, and printed it is the line. -/
def ReadBack (xs : List ByteArray) : Prop := ∃ (p : ByteArray) (E B : Nat) (k : Int), ansA xs = ⟨p, E, B, k, 0, 0⟩ ∧ ruE p E B k = 0 ∧ prW p E B k = xs ∧ p.size ≤ 128 ∧ E < 18446744073709551616 ∧ B < 18446744073709551616 ∧ 0 ≤ k ∧ k ≤ 255
/-- A line that is none. -/
def NoLine (xs : List ByteArray) : Prop := ∃ err at_ : Int, ansA xs = zeroA err at_ ∧ 1 ≤ err ∧ err ≤ 27 ∧ 0 ≤ at_ ∧ (at_ < xs.length ∨ at_ = 0)

theorem num_read (p : ByteArray) (x y z : ByteArray) (hp : pfB p = true) (h1 : eEv x = 0) (h2 : eBu x y = 0) (h3 : eKi z = 0) :
    ∃ (E B : Nat) (k : Int), paN (lb x) = (E : Int) ∧ paN (lb y) = (B : Int) ∧ kinI z = k ∧ ruE p E B k = 0 ∧ dig E = x ∧ dig B = y ∧ namS k = z ∧ E < 18446744073709551616 ∧ B < 18446744073709551616 ∧ 0 ≤ k ∧ k ≤ 255 := by
  obtain ⟨a1, a2⟩ := eEv_0 h1
  obtain ⟨b1, b2, b3⟩ := eBu_0 h2
  have k1 := eKi_yes h3
  have k2 := kin_in k1
  have u1 := paN_U (lb x)
  have u2 := paN_U (lb y)
  refine ⟨(paN (lb x)).toNat, (paN (lb y)).toNat, kinI z, by omega, by omega, rfl, ?_, dig_back x a1, dig_back y b1, nam_kin z k1, by omega, by omega, by omega, by omega⟩
  rw [Int.toNat_of_nonneg u1.1, Int.toNat_of_nonneg u2.1, ru_is, hp, if_neg (by decide), if_neg (by omega), if_neg (by omega), if_neg (by omega), show isK (kinI z) = true from decide_eq_true k2, if_neg (by decide)]
theorem list4 {xs : List ByteArray} (h : xs.length = 4) : xs = [xs.getD 0 nob, xs.getD 1 nob, xs.getD 2 nob, xs.getD 3 nob] := by
  match xs, h with
  | [_, _, _, _], _ => rfl
theorem list5 {xs : List ByteArray} (h : xs.length = 5) : xs = [xs.getD 0 nob, xs.getD 1 nob, xs.getD 2 nob, xs.getD 3 nob, xs.getD 4 nob] := by
  match xs, h with
  | [_, _, _, _, _], _ => rfl
theorem text_eq {x : ByteArray} {l : List UInt8} (h : x.toList = l) : x = ⟨l.toArray⟩ := (text_is h.symm).symm
theorem err_pos (x : ByteArray) (h : eEv x ≠ 0) : 1 ≤ eEv x ∧ eEv x ≤ 27 := by
  have : 0 ≤ eEv x ∧ eEv x ≤ 27 := by unfold eEv paE; (repeat' split) <;> omega
  omega
theorem err_posB (x y : ByteArray) (h : eBu x y ≠ 0) : 1 ≤ eBu x y ∧ eBu x y ≤ 27 := by
  have : 0 ≤ eBu x y ∧ eBu x y ≤ 27 := by unfold eBu paE; (repeat' split) <;> omega
  omega
theorem err_posK (z : ByteArray) (h : eKi z ≠ 0) : 1 ≤ eKi z ∧ eKi z ≤ 27 := by
  have : 0 ≤ eKi z ∧ eKi z ≤ 27 := by unfold eKi; (repeat' split) <;> omega
  omega

theorem ans_read (xs : List ByteArray) : NoLine xs ∨ ReadBack xs := by
  by_cases h4 : xs.length = 4 ∧ (xs.getD 0 nob).toList = defL
  · obtain ⟨hl, hx⟩ := h4
    have e0 : xs.getD 0 nob = defS := text_eq hx
    have ex := list4 hl
    have eA := ans_def xs _ _ _ (by rw [← e0]; exact ex)
    by_cases h1 : eEv (xs.getD 1 nob) = 0
    · by_cases h2 : eBu (xs.getD 1 nob) (xs.getD 2 nob) = 0
      · by_cases h3 : eKi (xs.getD 3 nob) = 0
        · right
          obtain ⟨E, B, k, n1, n2, n3, hR, d1, d2, d3, l1, l2, l3, l4⟩ := num_read ⟨#[]⟩ _ _ _ (by decide) h1 h2 h3
          refine ⟨⟨#[]⟩, E, B, k, ?_, hR, ?_, by decide, l1, l2, l3, l4⟩
          · rw [eA, numA_4 _ _ _ _ _ h1 h2 h3, n1, n2, n3]
          · unfold prW
            rw [if_neg (fun g => g hR), if_pos (by decide), d1, d2, d3, ← e0]
            exact ex.symm
        · left
          exact ⟨_, _, by rw [eA, numA_3 _ _ _ _ _ h1 h2 h3], (err_posK _ h3).1, (err_posK _ h3).2, by omega, .inl (by omega)⟩
      · left
        exact ⟨_, _, by rw [eA, numA_2 _ _ _ _ _ h1 h2], (err_posB _ _ h2).1, (err_posB _ _ h2).2, by omega, .inl (by omega)⟩
    · left
      exact ⟨_, _, by rw [eA, numA_1 _ _ _ _ _ h1], (err_pos _ h1).1, (err_pos _ h1).2, by omega, .inl (by omega)⟩
  · by_cases h5 : xs.length = 5 ∧ (xs.getD 0 nob).toList = rulL
    · obtain ⟨hl, hx⟩ := h5
      have e0 : xs.getD 0 nob = rulS := text_eq hx
      have ex := list5 hl
      have eA := ans_rule xs _ _ _ _ (by rw [← e0]; exact ex)
      by_cases h0 : ePr (xs.getD 1 nob) = 0
      · rw [if_neg (fun g => g h0)] at eA
        obtain ⟨hr, hp⟩ := ePr_0 h0
        by_cases h1 : eEv (xs.getD 2 nob) = 0
        · by_cases h2 : eBu (xs.getD 2 nob) (xs.getD 3 nob) = 0
          · by_cases h3 : eKi (xs.getD 4 nob) = 0
            · right
              obtain ⟨E, B, k, n1, n2, n3, hR, d1, d2, d3, l1, l2, l3, l4⟩ := num_read (xs.getD 1 nob) _ _ _ (by unfold pfB; rw [hr]; simp) h1 h2 h3
              refine ⟨xs.getD 1 nob, E, B, k, ?_, hR, ?_, ?_, l1, l2, l3, l4⟩
              · rw [eA, numA_4 _ _ _ _ _ h1 h2 h3, n1, n2, n3]
              · unfold prW
                rw [if_neg (fun g => g hR), if_neg hp, d1, d2, d3, ← e0]
                exact ex.symm
              · unfold rtB at hr
                rw [list_size, Bool.and_eq_true] at hr
                have := of_decide_eq_true hr.1
                exact this.2
            · left
              exact ⟨_, _, by rw [eA, numA_3 _ _ _ _ _ h1 h2 h3], (err_posK _ h3).1, (err_posK _ h3).2, by omega, .inl (by omega)⟩
          · left
            exact ⟨_, _, by rw [eA, numA_2 _ _ _ _ _ h1 h2], (err_posB _ _ h2).1, (err_posB _ _ h2).2, by omega, .inl (by omega)⟩
        · left
          exact ⟨_, _, by rw [eA, numA_1 _ _ _ _ _ h1], (err_pos _ h1).1, (err_pos _ h1).2, by omega, .inl (by omega)⟩
      · left
        rw [if_pos h0] at eA
        exact ⟨_, _, eA, by omega, by omega, by omega, .inl (by omega)⟩
    · left
      exact ⟨_, _, ans_short xs h4 h5, by omega, by omega, by omega, .inr rfl⟩
end Go.Proofs.YtckaiejbgnhgcaaGreatDoor.Wd
