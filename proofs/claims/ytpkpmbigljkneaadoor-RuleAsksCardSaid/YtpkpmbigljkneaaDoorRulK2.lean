/- The document's answer of chapter 11 on reading (tollerref11.Parse), for any words; no conditions but those that each names. -/
import Derived.Test.YtpkpmbigljkneaaDoorRulJ
namespace Go.Proofs.YtpkpmbigljkneaaDoor.Wd
open Go Go.RowKit
set_option linter.unusedVariables false

theorem eEv_is (x : ByteArray) : eEv x = nuE (lb x) 24 := rfl
theorem eBu_1 (x y : ByteArray) (h : nuE (lb y) 25 ≠ 0) : eBu x y = nuE (lb y) 25 := by
  unfold eBu nuE at *
  split at h
  · rename_i g; rw [if_pos g, if_pos g]
  · rename_i g
    rw [if_neg g, if_neg g]
    split at h
    · rename_i g2; rw [if_pos g2, if_pos g2]
    · exact absurd rfl h
theorem eBu_2 (x y : ByteArray) (h : nuE (lb y) 25 = 0) : eBu x y = if sat (paN (lb x) * paN (lb y)) ≤ 4611686018427387904 then 0 else 26 := by
  have hE : paE (lb y) = 0 := by
    unfold nuE at h; split at h
    · assumption
    · rename_i g; exact Decidable.not_not.1 g
  have hN : paN (lb y) ≠ 0 := by
    unfold nuE at h; rw [if_neg (by simp [hE])] at h
    intro e; rw [if_pos e] at h; cases h
  unfold eBu
  rw [if_neg (by simp [hE]), if_neg hN]
theorem eKi_1 (z : ByteArray) (h : kinB z = true) : eKi z = 0 := by unfold eKi; rw [h]; rfl
theorem eKi_0 (z : ByteArray) (h : kinB z = false) : eKi z = 27 := by unfold eKi; rw [h]; rfl
theorem nuE_U (l : List UInt8) (c : Int) : True := trivial
theorem bne_of {a b : Int} (h : a ≠ b) : (a == b) = false ∧ (a != b) = true := ⟨by simpa using h, by simpa using h⟩

theorem refparse_none (A : Option Addr) (n cap : Nat) (xs : List ByteArray) (w : World) (h : Sts w A n xs) (h4 : ¬ (n = 4 ∧ (xs.getD 0 nob).toList = defL)) (h5 : ¬ (n = 5 ∧ (xs.getD 0 nob).toList = rulL)) :
    Calls Tryd.prog 28 #[.slice A n cap] w fun r w' => r = .returned (.tuple #[rul ⟨#[]⟩ 0 0 0, .int .i64 22, .int .i64 0]) ∧ Kept w w' := by
  by_cases c4 : n = 4
  · subst c4
    obtain ⟨b, off, rfl, hb, hc⟩ := h.2.2 (by omega)
    have c := hc 0 (by omega)
    rw [Nat.add_zero] at c
    have hx : ((xs.getD 0 nob).toList == [100, 101, 102, 97, 117, 108, 116]) = false := by
      rw [← Bool.not_eq_true, beq_iff_eq]; exact fun e => h4 ⟨rfl, e⟩
    generalize xs.getD 0 nob = x at *
    clear h4 h5 hc h
    have hbn : b ≠ w.heap.size := Nat.ne_of_lt hb
    have hbn2 : b ≠ w.heap.size + 1 := by omega
    go_enter Tryd.func28, Tryd.ntmps28
    go_wp2
    exact bodyPost_ret (v := .tuple #[rul ⟨#[]⟩ 0 0 0, .int .i64 22, .int .i64 0]) (by simp [results, Tryd.results28, go_sem]) rfl ⟨rfl, ((Kept.refl w).alloc _ _).alloc _ _⟩
  · by_cases c5 : n = 5
    · subst c5
      obtain ⟨b, off, rfl, hb, hc⟩ := h.2.2 (by omega)
      have c := hc 0 (by omega)
      rw [Nat.add_zero] at c
      have hx : ((xs.getD 0 nob).toList == [114, 117, 108, 101]) = false := by
        rw [← Bool.not_eq_true, beq_iff_eq]; exact fun e => h5 ⟨rfl, e⟩
      generalize xs.getD 0 nob = x at *
      clear h4 h5 hc h c4
      have hbn : b ≠ w.heap.size := Nat.ne_of_lt hb
      have hbn2 : b ≠ w.heap.size + 1 := by omega
      go_enter Tryd.func28, Tryd.ntmps28
      go_wp2
      exact bodyPost_ret (v := .tuple #[rul ⟨#[]⟩ 0 0 0, .int .i64 22, .int .i64 0]) (by simp [results, Tryd.results28, go_sem]) rfl ⟨rfl, ((Kept.refl w).alloc _ _).alloc _ _⟩
    · have e4 : ((n : Int) == 4) = false := by simp; omega
      have e5 : ((n : Int) == 5) = false := by simp; omega
      clear h4 h5 h c4 c5
      go_enter Tryd.func28, Tryd.ntmps28
      go_wp2
      exact bodyPost_ret (v := .tuple #[rul ⟨#[]⟩ 0 0 0, .int .i64 22, .int .i64 0]) (by simp [results, Tryd.results28, go_sem]) rfl ⟨rfl, ((Kept.refl w).alloc _ _).alloc _ _⟩

set_option maxRecDepth 100000 in
set_option maxHeartbeats 4000000 in
theorem refparse_def (b off cap : Nat) (x0 x1 x2 x3 : ByteArray) (A : Ans) (w : World) (hA : A = numA ⟨#[]⟩ 1 x1 x2 x3)
    (c0 : w.cell? ⟨b, off, none⟩ = some (.string x0)) (c1 : w.cell? ⟨b, off + 1, none⟩ = some (.string x1)) (c2 : w.cell? ⟨b, off + 2, none⟩ = some (.string x2)) (c3 : w.cell? ⟨b, off + 3, none⟩ = some (.string x3))
    (hx : x0.toList = defL) (s1 : x1.size ≤ 281474976710656) (s2 : x2.size ≤ 281474976710656) (s3 : x3.size ≤ 281474976710656) :
    Calls Tryd.prog 28 #[.slice (some ⟨b, off, none⟩) 4 cap] w fun r w' => r = .returned (.tuple #[A.rule, .int .i64 A.err, .int .i64 A.at_]) ∧ Kept w w' := by
  have hb := lt_of_cell c0
  have hbn : b ≠ w.heap.size := Nat.ne_of_lt hb
  have hbn2 : b ≠ w.heap.size + 1 := by omega
  have NX := fun c W => number_is x1 c W (by omega)
  have NY := fun c W => number_is x2 c W (by omega)
  have KZ := fun W => refKind_any x3 W
  have HA := Lib.hid hA
  clear hA
  by_cases z1 : eEv x1 = 0
  case neg =>
    have e1 := bne_of (show nuE (lb x1) 24 ≠ 0 from z1)
    obtain ⟨e1, e2⟩ := e1
    go_enter Tryd.func28, Tryd.ntmps28
    go_wp2_with (first
      | (go_at_call 38; (with_reducible refine (NX _ _).mono ?_); rintro r w1 ⟨rfl, rfl⟩))
    obtain rfl : A = zeroA (nuE (lb x1) 24) 1 := by (rw [HA.out, numA_1 _ _ _ _ _ z1] <;> rfl)
    exact bodyPost_ret (v := .tuple #[rul ⟨#[]⟩ 0 0 0, .int .i64 (nuE (lb x1) 24), .int .i64 1]) (by simp [results, Tryd.results28, go_sem]) rfl ⟨rfl, ((Kept.refl w).alloc _ _).alloc _ _⟩
  have g1 : nuE (lb x1) 24 = 0 := z1
  by_cases z2 : nuE (lb x2) 25 = 0
  case neg =>
    have zz := eBu_1 x1 x2 z2
    obtain ⟨e1, e2⟩ := bne_of z2
    go_enter Tryd.func28, Tryd.ntmps28
    go_wp2_with (first
      | (go_at_call 38; (with_reducible refine (NX _ _).mono ?_); rintro r w1 ⟨rfl, rfl⟩)
      | (go_at_call 38; (with_reducible refine (NY _ _).mono ?_); rintro r w2 ⟨rfl, rfl⟩))
    obtain rfl : A = zeroA (nuE (lb x2) 25) 2 := by (rw [HA.out, numA_2 _ _ _ _ _ z1 (by rw [zz]; exact z2), zz] <;> rfl)
    exact bodyPost_ret (v := .tuple #[rul ⟨#[]⟩ 0 0 0, .int .i64 (nuE (lb x2) 25), .int .i64 2]) (by simp [results, Tryd.results28, go_sem]) rfl ⟨rfl, ((Kept.refl w).alloc _ _).alloc _ _⟩
  have MM := fun W => ref_mul (paN (lb x1)) (paN (lb x2)) W (paN_U _) (paN_U _)
  have zz := eBu_2 x1 x2 z2
  by_cases z3 : sat (paN (lb x1) * paN (lb x2)) ≤ 4611686018427387904
  case neg =>
    rw [if_neg z3] at zz
    have ZZ := Lib.hid zz
    clear zz
    go_enter Tryd.func28, Tryd.ntmps28
    go_wp2_with (first
      | (go_at_call 38; (with_reducible refine (NX _ _).mono ?_); rintro r w1 ⟨rfl, rfl⟩)
      | (go_at_call 38; (with_reducible refine (NY _ _).mono ?_); rintro r w2 ⟨rfl, rfl⟩)
      | (go_at_call 23; (with_reducible refine (MM _).mono ?_); rintro r w3 ⟨rfl, rfl⟩))
    obtain rfl : A = zeroA (26) 2 := by (rw [HA.out, numA_2 _ _ _ _ _ z1 (by rw [ZZ.out]; decide), ZZ.out] <;> rfl)
    exact bodyPost_ret (v := .tuple #[rul ⟨#[]⟩ 0 0 0, .int .i64 (26), .int .i64 2]) (by simp [results, Tryd.results28, go_sem]) rfl ⟨rfl, ((Kept.refl w).alloc _ _).alloc _ _⟩
  rw [if_pos z3] at zz
  have ZZ := Lib.hid zz
  clear zz
  cases hk : kinB x3
  · have ZK := Lib.hid (eKi_0 _ hk)
    rw [hk] at KZ
    go_enter Tryd.func28, Tryd.ntmps28
    go_wp2_with (first
      | (go_at_call 38; (with_reducible refine (NX _ _).mono ?_); rintro r w1 ⟨rfl, rfl⟩)
      | (go_at_call 38; (with_reducible refine (NY _ _).mono ?_); rintro r w2 ⟨rfl, rfl⟩)
      | (go_at_call 23; (with_reducible refine (MM _).mono ?_); rintro r w3 ⟨rfl, rfl⟩)
      | (go_at_call 14; (with_reducible refine (KZ _).mono ?_); rintro r w4 ⟨rfl, rfl⟩))
    obtain rfl : A = zeroA (27) 3 := by (rw [HA.out, numA_3 _ _ _ _ _ z1 ZZ.out (by rw [ZK.out]; decide), ZK.out] <;> rfl)
    exact bodyPost_ret (v := .tuple #[rul ⟨#[]⟩ 0 0 0, .int .i64 (27), .int .i64 3]) (by simp [results, Tryd.results28, go_sem]) rfl ⟨rfl, ((Kept.refl w).alloc _ _).alloc _ _⟩
  · have ZK := Lib.hid (eKi_1 _ hk)
    rw [hk] at KZ
    go_enter Tryd.func28, Tryd.ntmps28
    go_wp2_with (first
      | (go_at_call 38; (with_reducible refine (NX _ _).mono ?_); rintro r w1 ⟨rfl, rfl⟩)
      | (go_at_call 38; (with_reducible refine (NY _ _).mono ?_); rintro r w2 ⟨rfl, rfl⟩)
      | (go_at_call 23; (with_reducible refine (MM _).mono ?_); rintro r w3 ⟨rfl, rfl⟩)
      | (go_at_call 14; (with_reducible refine (KZ _).mono ?_); rintro r w4 ⟨rfl, rfl⟩))
    obtain rfl : A = ⟨⟨#[]⟩, paN (lb x1), paN (lb x2), kinI x3, 0, 0⟩ := by (rw [HA.out, numA_4 _ _ _ _ _ z1 ZZ.out ZK.out] <;> rfl)
    exact bodyPost_ret (v := .tuple #[rul ⟨#[]⟩ (paN (lb x1)) (paN (lb x2)) (kinI x3), .int .i64 (0), .int .i64 0]) (by simp [results, Tryd.results28, go_sem]) rfl ⟨rfl, ((Kept.refl w).alloc _ _).alloc _ _⟩

set_option maxRecDepth 100000 in
set_option maxHeartbeats 4000000 in
theorem refparse_rule (b off cap : Nat) (x0 x1 x2 x3 x4 : ByteArray) (A : Ans) (w : World) (hA : A = (if ePr x1 ≠ 0 then zeroA 23 1 else numA x1 2 x2 x3 x4))
    (c0 : w.cell? ⟨b, off, none⟩ = some (.string x0)) (c1 : w.cell? ⟨b, off + 1, none⟩ = some (.string x1)) (c2 : w.cell? ⟨b, off + 2, none⟩ = some (.string x2)) (c3 : w.cell? ⟨b, off + 3, none⟩ = some (.string x3)) (c4 : w.cell? ⟨b, off + 4, none⟩ = some (.string x4))
    (hx : x0.toList = rulL) (s1 : x1.size ≤ 281474976710656) (s2 : x2.size ≤ 281474976710656) (s3 : x3.size ≤ 281474976710656) (s4 : x4.size ≤ 281474976710656) :
    Calls Tryd.prog 28 #[.slice (some ⟨b, off, none⟩) 5 cap] w fun r w' => r = .returned (.tuple #[A.rule, .int .i64 A.err, .int .i64 A.at_]) ∧ Kept w w' := by
  have hb := lt_of_cell c0
  have hbn : b ≠ w.heap.size := Nat.ne_of_lt hb
  have hbn2 : b ≠ w.heap.size + 1 := by omega
  have NX := fun c W => number_is x2 c W (by omega)
  have NY := fun c W => number_is x3 c W (by omega)
  have KZ := fun W => refKind_any x4 W
  have HA := Lib.hid hA
  clear hA
  have RP := fun W => rright_any x1 W (by omega)
  by_cases z0 : ePr x1 = 0
  case neg =>
    have hr : rtB (lb x1) = false := by unfold ePr at z0; split at z0 <;> simp_all
    rw [hr] at RP
    go_enter Tryd.func28, Tryd.ntmps28
    go_wp2_with (first
      | (go_at_call 36; (with_reducible refine (RP _).mono ?_); rintro r w0 ⟨rfl, rfl⟩))
    obtain rfl : A = zeroA (23) 1 := by rw [HA.out, if_pos z0]
    exact bodyPost_ret (v := .tuple #[rul ⟨#[]⟩ 0 0 0, .int .i64 (23), .int .i64 1]) (by simp [results, Tryd.results28, go_sem]) rfl ⟨rfl, ((Kept.refl w).alloc _ _).alloc _ _⟩
  have hr : rtB (lb x1) = true := by unfold ePr at z0; split at z0 <;> simp_all
  rw [hr] at RP
  by_cases z1 : eEv x2 = 0
  case neg =>
    have e1 := bne_of (show nuE (lb x2) 24 ≠ 0 from z1)
    obtain ⟨e1, e2⟩ := e1
    go_enter Tryd.func28, Tryd.ntmps28
    go_wp2_with (first
      | (go_at_call 36; (with_reducible refine (RP _).mono ?_); rintro r w0 ⟨rfl, rfl⟩)
      | (go_at_call 38; (with_reducible refine (NX _ _).mono ?_); rintro r w1 ⟨rfl, rfl⟩))
    obtain rfl : A = zeroA (nuE (lb x2) 24) 2 := by (rw [HA.out, if_neg (by simp [z0]), numA_1 _ _ _ _ _ z1] <;> rfl)
    exact bodyPost_ret (v := .tuple #[rul ⟨#[]⟩ 0 0 0, .int .i64 (nuE (lb x2) 24), .int .i64 2]) (by simp [results, Tryd.results28, go_sem]) rfl ⟨rfl, ((Kept.refl w).alloc _ _).alloc _ _⟩
  have g1 : nuE (lb x2) 24 = 0 := z1
  by_cases z2 : nuE (lb x3) 25 = 0
  case neg =>
    have zz := eBu_1 x2 x3 z2
    obtain ⟨e1, e2⟩ := bne_of z2
    go_enter Tryd.func28, Tryd.ntmps28
    go_wp2_with (first
      | (go_at_call 36; (with_reducible refine (RP _).mono ?_); rintro r w0 ⟨rfl, rfl⟩)
      | (go_at_call 38; (with_reducible refine (NX _ _).mono ?_); rintro r w1 ⟨rfl, rfl⟩)
      | (go_at_call 38; (with_reducible refine (NY _ _).mono ?_); rintro r w2 ⟨rfl, rfl⟩))
    obtain rfl : A = zeroA (nuE (lb x3) 25) 3 := by (rw [HA.out, if_neg (by simp [z0]), numA_2 _ _ _ _ _ z1 (by rw [zz]; exact z2), zz] <;> rfl)
    exact bodyPost_ret (v := .tuple #[rul ⟨#[]⟩ 0 0 0, .int .i64 (nuE (lb x3) 25), .int .i64 3]) (by simp [results, Tryd.results28, go_sem]) rfl ⟨rfl, ((Kept.refl w).alloc _ _).alloc _ _⟩
  have MM := fun W => ref_mul (paN (lb x2)) (paN (lb x3)) W (paN_U _) (paN_U _)
  have zz := eBu_2 x2 x3 z2
  by_cases z3 : sat (paN (lb x2) * paN (lb x3)) ≤ 4611686018427387904
  case neg =>
    rw [if_neg z3] at zz
    have ZZ := Lib.hid zz
    clear zz
    go_enter Tryd.func28, Tryd.ntmps28
    go_wp2_with (first
      | (go_at_call 36; (with_reducible refine (RP _).mono ?_); rintro r w0 ⟨rfl, rfl⟩)
      | (go_at_call 38; (with_reducible refine (NX _ _).mono ?_); rintro r w1 ⟨rfl, rfl⟩)
      | (go_at_call 38; (with_reducible refine (NY _ _).mono ?_); rintro r w2 ⟨rfl, rfl⟩)
      | (go_at_call 23; (with_reducible refine (MM _).mono ?_); rintro r w3 ⟨rfl, rfl⟩))
    obtain rfl : A = zeroA (26) 3 := by (rw [HA.out, if_neg (by simp [z0]), numA_2 _ _ _ _ _ z1 (by rw [ZZ.out]; decide), ZZ.out] <;> rfl)
    exact bodyPost_ret (v := .tuple #[rul ⟨#[]⟩ 0 0 0, .int .i64 (26), .int .i64 3]) (by simp [results, Tryd.results28, go_sem]) rfl ⟨rfl, ((Kept.refl w).alloc _ _).alloc _ _⟩
  rw [if_pos z3] at zz
  have ZZ := Lib.hid zz
  clear zz
  cases hk : kinB x4
  · have ZK := Lib.hid (eKi_0 _ hk)
    rw [hk] at KZ
    go_enter Tryd.func28, Tryd.ntmps28
    go_wp2_with (first
      | (go_at_call 36; (with_reducible refine (RP _).mono ?_); rintro r w0 ⟨rfl, rfl⟩)
      | (go_at_call 38; (with_reducible refine (NX _ _).mono ?_); rintro r w1 ⟨rfl, rfl⟩)
      | (go_at_call 38; (with_reducible refine (NY _ _).mono ?_); rintro r w2 ⟨rfl, rfl⟩)
      | (go_at_call 23; (with_reducible refine (MM _).mono ?_); rintro r w3 ⟨rfl, rfl⟩)
      | (go_at_call 14; (with_reducible refine (KZ _).mono ?_); rintro r w4 ⟨rfl, rfl⟩))
    obtain rfl : A = zeroA (27) 4 := by (rw [HA.out, if_neg (by simp [z0]), numA_3 _ _ _ _ _ z1 ZZ.out (by rw [ZK.out]; decide), ZK.out] <;> rfl)
    exact bodyPost_ret (v := .tuple #[rul ⟨#[]⟩ 0 0 0, .int .i64 (27), .int .i64 4]) (by simp [results, Tryd.results28, go_sem]) rfl ⟨rfl, ((Kept.refl w).alloc _ _).alloc _ _⟩
  · have ZK := Lib.hid (eKi_1 _ hk)
    rw [hk] at KZ
    go_enter Tryd.func28, Tryd.ntmps28
    go_wp2_with (first
      | (go_at_call 36; (with_reducible refine (RP _).mono ?_); rintro r w0 ⟨rfl, rfl⟩)
      | (go_at_call 38; (with_reducible refine (NX _ _).mono ?_); rintro r w1 ⟨rfl, rfl⟩)
      | (go_at_call 38; (with_reducible refine (NY _ _).mono ?_); rintro r w2 ⟨rfl, rfl⟩)
      | (go_at_call 23; (with_reducible refine (MM _).mono ?_); rintro r w3 ⟨rfl, rfl⟩)
      | (go_at_call 14; (with_reducible refine (KZ _).mono ?_); rintro r w4 ⟨rfl, rfl⟩))
    obtain rfl : A = ⟨x1, paN (lb x2), paN (lb x3), kinI x4, 0, 0⟩ := by (rw [HA.out, if_neg (by simp [z0]), numA_4 _ _ _ _ _ z1 ZZ.out ZK.out] <;> rfl)
    exact bodyPost_ret (v := .tuple #[rul x1 (paN (lb x2)) (paN (lb x3)) (kinI x4), .int .i64 (0), .int .i64 0]) (by simp [results, Tryd.results28, go_sem]) rfl ⟨rfl, ((Kept.refl w).alloc _ _).alloc _ _⟩

theorem refparse_any (A : Option Addr) (n cap : Nat) (xs : List ByteArray) (w : World) (h : Sts w A n xs) (hf : Lim xs) :
    Calls Tryd.prog 28 #[.slice A n cap] w fun r w' => r = .returned (.tuple #[(ansA xs).rule, .int .i64 (ansA xs).err, .int .i64 (ansA xs).at_]) ∧ Kept w w' := by
  have hl := h.1
  by_cases h4 : n = 4 ∧ (xs.getD 0 nob).toList = defL
  · obtain ⟨rfl, hx⟩ := h4
    obtain ⟨b, off, rfl, hb, hc⟩ := h.2.2 (by omega)
    exact refparse_def b off cap _ _ _ _ (ansA xs) w (by unfold ansA; rw [if_pos ⟨hl, hx⟩]) (hc 0 (by omega)) (hc 1 (by omega)) (hc 2 (by omega)) (hc 3 (by omega)) hx (hf.at 1) (hf.at 2) (hf.at 3)
  · by_cases h5 : n = 5 ∧ (xs.getD 0 nob).toList = rulL
    · obtain ⟨rfl, hx⟩ := h5
      obtain ⟨b, off, rfl, hb, hc⟩ := h.2.2 (by omega)
      exact refparse_rule b off cap _ _ _ _ _ (ansA xs) w (by unfold ansA; rw [if_neg (by omega), if_pos ⟨hl, hx⟩]) (hc 0 (by omega)) (hc 1 (by omega)) (hc 2 (by omega)) (hc 3 (by omega)) (hc 4 (by omega)) hx (hf.at 1) (hf.at 2) (hf.at 3) (hf.at 4)
    · have e : ansA xs = zeroA 22 0 := by unfold ansA; rw [hl, if_neg h4, if_neg h5]
      rw [e]
      exact refparse_none A n cap xs w h h4 h5
end Go.Proofs.YtpkpmbigljkneaaDoor.Wd
