/- RuleBack, walked; the kernels' names lie in the program's table. -/
import Derived.Test.YtpkpmbigljkneaaDoorRulRd
namespace Go.Proofs.YtpkpmbigljkneaaDoor.Wd
open Go Go.RowKit
set_option linter.unusedVariables false

theorem new_cells (W : World) (p : ByteArray) (e b k : Int) :
    (W.alloc (.cells #[.string p, .int .u64 e, .int .u64 b, .int .u8 k] 24)).cell? ⟨W.heap.size, 0, none⟩ = some (.string p) ∧ (W.alloc (.cells #[.string p, .int .u64 e, .int .u64 b, .int .u8 k] 24)).cell? ⟨W.heap.size, 1, none⟩ = some (.int .u64 e) ∧
    (W.alloc (.cells #[.string p, .int .u64 e, .int .u64 b, .int .u8 k] 24)).cell? ⟨W.heap.size, 2, none⟩ = some (.int .u64 b) ∧ (W.alloc (.cells #[.string p, .int .u64 e, .int .u64 b, .int .u8 k] 24)).cell? ⟨W.heap.size, 3, none⟩ = some (.int .u8 k) :=
  ⟨by simp, by simp, by simp, by simp⟩

set_option maxRecDepth 100000 in
set_option maxHeartbeats 4000000 in
theorem back_core (p : ByteArray) (e b : Nat) (k : Int) (A : Option Addr) (n cap : Nat) (xs : List ByteArray) (A2 : Option Addr) (n2 cap2 : Nat) (every burst kind : Int) (w : World) (hN : Nam w)
    (hp : p.size ≤ 281474976710656) (he : e < 18446744073709551616) (hb : b < 18446744073709551616) (hk : 0 ≤ k ∧ k ≤ 255)
    (hX : Sts w A n xs) (hf : Lim xs) (h : Byts w A2 n2) (hn : n2 ≤ 9223372036854775807)
    (hev : 0 ≤ every ∧ every ≤ 4294967295) (hbu : 0 ≤ burst ∧ burst ≤ 65535) (hki : 0 ≤ kind ∧ kind ≤ 255) (hnn : n ≤ 9223372036854775807) :
    Calls Tryd.prog 4 #[rul p e b k, .slice A n cap, .slice A2 n2 cap2, .int .u32 every, .int .u16 burst, .int .u8 kind] w fun r w' => r = .returned (.bool true) ∧ Below w.heap.size w w' := by
  have KN := Lib.hid (fun W (h : Nam W) => known_any W h)
  have hbx := (Below.refl w.heap.size w).alloc (Nat.le_refl _) (.cells #[.string p, .int .u64 e, .int .u64 b, .int .u8 k] 24)
  by_cases hl : 12 < n
  · go_enter Tryd.func4, Tryd.ntmps4
    go_wp2_with (go_at_call 9; refine (KN.out _ (hN.below hbx)).mono ?_; rintro r w1 ⟨rfl, g⟩)
    go_ret
    exact ⟨rfl, kbq hbx g⟩
  by_cases hl2 : 300 < p.size
  · go_enter Tryd.func4, Tryd.ntmps4
    go_wp2_with (go_at_call 9; refine (KN.out _ (hN.below hbx)).mono ?_; rintro r w1 ⟨rfl, g⟩)
    go_ret
    exact ⟨rfl, kbq hbx g⟩
  have RC := Lib.hid (rule_core A2 n2 cap2 every burst kind _ (h.below hbx) hn hev hbu hki)
  have OM := Lib.hid (fun s hs => own_mk s hs every burst kind hev hbu hki)
  have PR := Lib.hid (fun W hN => rprint_any p e b k W hN hp he hb hk)
  have RR := Lib.hid (fun W => right_any p e b k W (by omega) (UN e he) (UN b hb))
  have RN : Hid ((ruE p e b k = 0 ∧ ∀ n5 : Nat, (prW p e b k).length = n5 → n5 ≠ 0) ∨ (ruE p e b k ≠ 0 ∧ ∀ n5 : Nat, (prW p e b k).length = n5 → n5 = 0)) := Lib.hid (by
    by_cases hR : ruE p e b k = 0
    · refine .inl ⟨hR, fun n5 h5 => ?_⟩
      unfold prW at h5
      rw [if_neg (fun g => g hR)] at h5
      split at h5 <;> (simp at h5; omega)
    · refine .inr ⟨hR, fun n5 h5 => ?_⟩
      unfold prW at h5
      rw [if_pos hR] at h5
      simpa using h5.symm)
  obtain ⟨c, hc⟩ : ∃ c, 1 + kind % 3 = c := ⟨_, rfl⟩
  have HX := Lib.hid hX
  have HF := Lib.hid hf
  have HBX := Lib.hid hbx
  clear h hX hf hev hbu hn hp he hb hk hki hbx
  go_enter Tryd.func4, Tryd.ntmps4
  go_wp2_with fail
  refine RC.out.mono ?_
  rintro r w1 ⟨⟨s, rfl, hs⟩, g1⟩
  obtain ⟨E, B, hE, hB, O⟩ := OM.out s hs.out
  rw [hE, hB, hc]
  rw [hc] at O
  clear RC OM hs hE hB hc
  have o1 := O.sz
  have o2 := O.e2
  have o3 := O.b2
  have o4 := O.k1
  have o5 := O.k2
  have hA := ans_print s E B c (by omega) (by omega) O.right
  have hL := pr_ok s E B c (by omega) (by omega) (by omega)
  have P2 := Lib.hid (fun W hN => rprint_any s E B c W hN (by omega) (by omega) (by omega) (by omega))
  clear o1 o2 o3 o4 o5 O
  obtain ⟨r0, r1, r2, r3⟩ := new_cells w p e b k
  replace r0 := celln g1 r0; replace r1 := celln g1 r1; replace r2 := celln g1 r2; replace r3 := celln g1 r3
  have k1 := kbq HBX.out g1
  obtain ⟨x0, x1, x2, x3⟩ := new_cells w1 s E B c
  have g2 : Below w1.heap.size w1 (w1.alloc (.cells #[.string s, .int .u64 E, .int .u64 B, .int .u8 c] 24)) := (Below.refl _ _).alloc (Nat.le_refl _) _
  replace r0 := celln g2 r0; replace r1 := celln g2 r1; replace r2 := celln g2 r2; replace r3 := celln g2 r3
  have k2 := Lib.hid (kbq k1 g2)
  obtain ⟨X, hXe⟩ : ∃ X, X = w1.heap.size := ⟨_, rfl⟩
  clear k1 g1 g2 HBX
  go_wp2_with fail
  refine (P2.out _ (hN.below k2.out)).mono ?_
  rintro r w2 ⟨⟨A3, n3, rfl, hn3, hS3⟩, g3⟩
  replace r0 := celln g3 r0; replace r1 := celln g3 r1; replace r2 := celln g3 r2; replace r3 := celln g3 r3
  replace x0 := celln g3 x0; replace x1 := celln g3 x1; replace x2 := celln g3 x2; replace x3 := celln g3 x3
  have k3 := Lib.hid (kbq k2.out g3)
  have f3 := rparse_any A3 n3 n3 _ w2 hS3 hL (hN.below k3.out)
  rw [hA] at f3
  have F3 := Lib.hid f3
  rw [← hXe] at x0 x1 x2 x3 ⊢
  clear g3 k2 P2 hA hL hS3 hn3 f3 hXe
  go_wp2_with fail
  refine F3.out.mono ?_
  rintro r w3 ⟨rfl, g4⟩
  obtain ⟨y0, y1, y2, y3⟩ := new_cells w3 s E B c
  have g5 : Below w2.heap.size w2 (w3.alloc (.cells #[.string s, .int .u64 E, .int .u64 B, .int .u8 c] 24)) := kbq g4 ((Below.refl _ _).alloc (Nat.le_refl _) _)
  replace r0 := celln g5 r0; replace r1 := celln g5 r1; replace r2 := celln g5 r2; replace r3 := celln g5 r3
  replace x0 := celln g5 x0; replace x1 := celln g5 x1; replace x2 := celln g5 x2; replace x3 := celln g5 x3
  have k5 := Lib.hid (kbq k3.out g5)
  have F5 := Lib.hid (rparse_any A n cap xs _ (HX.out.below k5.out) HF.out (hN.below k5.out))
  obtain ⟨Y, hYe⟩ : ∃ Y, Y = w3.heap.size := ⟨_, rfl⟩
  clear g4 g5 k3 F3
  go_wp2_with fail
  refine F5.out.mono ?_
  rintro r w4 ⟨rfl, g6⟩
  have k6 := Lib.hid (kbq k5.out g6)
  replace r0 := celln g6 r0; replace r1 := celln g6 r1; replace r2 := celln g6 r2; replace r3 := celln g6 r3
  replace x0 := celln g6 x0; replace x1 := celln g6 x1; replace x2 := celln g6 x2; replace x3 := celln g6 x3
  replace y0 := celln g6 y0; replace y1 := celln g6 y1; replace y2 := celln g6 y2; replace y3 := celln g6 y3
  rw [← hYe] at y0 y1 y2 y3 ⊢
  have hxl := HX.out.1
  clear g6 k5 F5 hYe
  rcases ans_read xs with ⟨err, at_, hAx, he1, he2, ha1, ha2⟩ | ⟨p', E', B', k', hAx, hRx, hPx, z1, z2, z3, z4, z5⟩
  · rw [hAx]
    obtain ⟨v0, v1, v2, v3⟩ := new_cells w4 ⟨#[]⟩ 0 0 0
    have g7 : Below w4.heap.size w4 (w4.alloc (.cells #[.string ⟨#[]⟩, .int .u64 0, .int .u64 0, .int .u8 0] 24)) := (Below.refl _ _).alloc (Nat.le_refl _) _
    replace r0 := celln g7 r0; replace r1 := celln g7 r1; replace r2 := celln g7 r2; replace r3 := celln g7 r3; replace x0 := celln g7 x0; replace x1 := celln g7 x1; replace x2 := celln g7 x2; replace x3 := celln g7 x3; replace y0 := celln g7 y0; replace y1 := celln g7 y1; replace y2 := celln g7 y2; replace y3 := celln g7 y3
    have kW := kbq k6.out g7
    have q3 : (err == 0) = false := by simp; omega
    have q4 : (err != 0) = true := by simp; omega
    have ha3 : at_ < (n : Int) ∨ (at_ = 0 ∧ n = 0) := by rw [hxl] at ha2; omega
    clear hAx he1 he2 ha2 g7 k6 HX HF hxl
    have KV := Lib.hid kW
    clear kW
    rcases ha3 with ha3 | ⟨rfl, rfl⟩
    · go_wp2_with fail
      generalize hV : w4.alloc (.cells #[.string ⟨#[]⟩, .int .u64 0, .int .u64 0, .int .u8 0] 24) = V at *
      clear hV v0 v1 v2 v3
      have kW := KV.out
      rcases RN.out with ⟨hR0, hR1⟩ | ⟨hR0, hR1⟩
      · rw [hR0] at RR
        have N5 : Hid (∀ n5 : Nat, (prW p e b k).length = n5 → ((n5 : Int) == 0) = false) := Lib.hid (fun n5 h5 => by have := hR1 n5 h5; simp; omega)
        clear hR0 hR1 RN
        go_region_held3 (fun w' => Below w.heap.size w w' ∧ w'.cell? ⟨w.heap.size, 0, none⟩ = some (.string p) ∧ w'.cell? ⟨w.heap.size, 1, none⟩ = some (.int .u64 e) ∧ w'.cell? ⟨w.heap.size, 2, none⟩ = some (.int .u64 b) ∧ w'.cell? ⟨w.heap.size, 3, none⟩ = some (.int .u8 k) ∧ w'.cell? ⟨X, 0, none⟩ = some (.string s) ∧ w'.cell? ⟨X, 1, none⟩ = some (.int .u64 E) ∧ w'.cell? ⟨X, 2, none⟩ = some (.int .u64 B) ∧ w'.cell? ⟨X, 3, none⟩ = some (.int .u8 c) ∧ w'.cell? ⟨Y, 0, none⟩ = some (.string s) ∧ w'.cell? ⟨Y, 1, none⟩ = some (.int .u64 E) ∧ w'.cell? ⟨Y, 2, none⟩ = some (.int .u64 B) ∧ w'.cell? ⟨Y, 3, none⟩ = some (.int .u8 c))
          (first | with_reducible exact ⟨kW, r0, r1, r2, r3, x0, x1, x2, x3, y0, y1, y2, y3⟩ | with_reducible exact ⟨kW.drew, dcell r0, dcell r1, dcell r2, dcell r3, dcell x0, dcell x1, dcell x2, dcell x3, dcell y0, dcell y1, dcell y2, dcell y3⟩)
          (first
          | (go_at_call 9; ((with_reducible refine (KN.out _ (hN.below (by first | exact kW | exact kW.drew))).mono ?_); rintro r w7 ⟨rfl, g⟩; (first | with_reducible (replace kW := kbq kW g; replace r0 := celln g r0; replace r1 := celln g r1; replace r2 := celln g r2; replace r3 := celln g r3; replace x0 := celln g x0; replace x1 := celln g x1; replace x2 := celln g x2; replace x3 := celln g x3; replace y0 := celln g y0; replace y1 := celln g y1; replace y2 := celln g y2; replace y3 := celln g y3) | with_reducible (replace kW := kbq kW.drew g; replace r0 := celln g (dcell r0); replace r1 := celln g (dcell r1); replace r2 := celln g (dcell r2); replace r3 := celln g (dcell r3); replace x0 := celln g (dcell x0); replace x1 := celln g (dcell x1); replace x2 := celln g (dcell x2); replace x3 := celln g (dcell x3); replace y0 := celln g (dcell y0); replace y1 := celln g (dcell y1); replace y2 := celln g (dcell y2); replace y3 := celln g (dcell y3))); clear g))
          | (go_at_call 20; ((with_reducible refine (PR.out _ (hN.below (by first | exact kW | exact kW.drew))).mono ?_); rintro r w7 ⟨⟨A5, n5, rfl, hn5, hS5⟩, g⟩; have hz5 := N5.out n5 hS5.1; (first | with_reducible (replace kW := kbq kW g; replace r0 := celln g r0; replace r1 := celln g r1; replace r2 := celln g r2; replace r3 := celln g r3; replace x0 := celln g x0; replace x1 := celln g x1; replace x2 := celln g x2; replace x3 := celln g x3; replace y0 := celln g y0; replace y1 := celln g y1; replace y2 := celln g y2; replace y3 := celln g y3) | with_reducible (replace kW := kbq kW.drew g; replace r0 := celln g (dcell r0); replace r1 := celln g (dcell r1); replace r2 := celln g (dcell r2); replace r3 := celln g (dcell r3); replace x0 := celln g (dcell x0); replace x1 := celln g (dcell x1); replace x2 := celln g (dcell x2); replace x3 := celln g (dcell x3); replace y0 := celln g (dcell y0); replace y1 := celln g (dcell y1); replace y2 := celln g (dcell y2); replace y3 := celln g (dcell y3))); clear g))
          | (go_at_call 21; ((with_reducible refine (RR.out _).mono ?_); rintro r w7 ⟨rfl, g⟩; replace g := g.2; (first | with_reducible (replace kW := kbq kW g; replace r0 := celln g r0; replace r1 := celln g r1; replace r2 := celln g r2; replace r3 := celln g r3; replace x0 := celln g x0; replace x1 := celln g x1; replace x2 := celln g x2; replace x3 := celln g x3; replace y0 := celln g y0; replace y1 := celln g y1; replace y2 := celln g y2; replace y3 := celln g y3) | with_reducible (replace kW := kbq kW.drew g; replace r0 := celln g (dcell r0); replace r1 := celln g (dcell r1); replace r2 := celln g (dcell r2); replace r3 := celln g (dcell r3); replace x0 := celln g (dcell x0); replace x1 := celln g (dcell x1); replace x2 := celln g (dcell x2); replace x3 := celln g (dcell x3); replace y0 := celln g (dcell y0); replace y1 := celln g (dcell y1); replace y2 := celln g (dcell y2); replace y3 := celln g (dcell y3))); clear g)))
        all_goals
          rename_i hH
          go_wp2
          go_ret
          exact ⟨rfl, hH.1⟩
      · have N5 : Hid (∀ n5 : Nat, (prW p e b k).length = n5 → ((n5 : Int) == 0) = true) := Lib.hid (fun n5 h5 => by have := hR1 n5 h5; simp; omega)
        have q1 : (ruE p e b k == 0) = false := by simpa using hR0
        have q2 : (ruE p e b k != 0) = true := by simpa using hR0
        generalize ruE p e b k = R at *
        clear hR0 hR1 RN
        go_region_held3 (fun w' => Below w.heap.size w w' ∧ w'.cell? ⟨w.heap.size, 0, none⟩ = some (.string p) ∧ w'.cell? ⟨w.heap.size, 1, none⟩ = some (.int .u64 e) ∧ w'.cell? ⟨w.heap.size, 2, none⟩ = some (.int .u64 b) ∧ w'.cell? ⟨w.heap.size, 3, none⟩ = some (.int .u8 k) ∧ w'.cell? ⟨X, 0, none⟩ = some (.string s) ∧ w'.cell? ⟨X, 1, none⟩ = some (.int .u64 E) ∧ w'.cell? ⟨X, 2, none⟩ = some (.int .u64 B) ∧ w'.cell? ⟨X, 3, none⟩ = some (.int .u8 c) ∧ w'.cell? ⟨Y, 0, none⟩ = some (.string s) ∧ w'.cell? ⟨Y, 1, none⟩ = some (.int .u64 E) ∧ w'.cell? ⟨Y, 2, none⟩ = some (.int .u64 B) ∧ w'.cell? ⟨Y, 3, none⟩ = some (.int .u8 c))
          (first | with_reducible exact ⟨kW, r0, r1, r2, r3, x0, x1, x2, x3, y0, y1, y2, y3⟩ | with_reducible exact ⟨kW.drew, dcell r0, dcell r1, dcell r2, dcell r3, dcell x0, dcell x1, dcell x2, dcell x3, dcell y0, dcell y1, dcell y2, dcell y3⟩)
          (first
          | (go_at_call 9; ((with_reducible refine (KN.out _ (hN.below (by first | exact kW | exact kW.drew))).mono ?_); rintro r w7 ⟨rfl, g⟩; (first | with_reducible (replace kW := kbq kW g; replace r0 := celln g r0; replace r1 := celln g r1; replace r2 := celln g r2; replace r3 := celln g r3; replace x0 := celln g x0; replace x1 := celln g x1; replace x2 := celln g x2; replace x3 := celln g x3; replace y0 := celln g y0; replace y1 := celln g y1; replace y2 := celln g y2; replace y3 := celln g y3) | with_reducible (replace kW := kbq kW.drew g; replace r0 := celln g (dcell r0); replace r1 := celln g (dcell r1); replace r2 := celln g (dcell r2); replace r3 := celln g (dcell r3); replace x0 := celln g (dcell x0); replace x1 := celln g (dcell x1); replace x2 := celln g (dcell x2); replace x3 := celln g (dcell x3); replace y0 := celln g (dcell y0); replace y1 := celln g (dcell y1); replace y2 := celln g (dcell y2); replace y3 := celln g (dcell y3))); clear g))
          | (go_at_call 20; ((with_reducible refine (PR.out _ (hN.below (by first | exact kW | exact kW.drew))).mono ?_); rintro r w7 ⟨⟨A5, n5, rfl, hn5, hS5⟩, g⟩; have hz5 := N5.out n5 hS5.1; (first | with_reducible (replace kW := kbq kW g; replace r0 := celln g r0; replace r1 := celln g r1; replace r2 := celln g r2; replace r3 := celln g r3; replace x0 := celln g x0; replace x1 := celln g x1; replace x2 := celln g x2; replace x3 := celln g x3; replace y0 := celln g y0; replace y1 := celln g y1; replace y2 := celln g y2; replace y3 := celln g y3) | with_reducible (replace kW := kbq kW.drew g; replace r0 := celln g (dcell r0); replace r1 := celln g (dcell r1); replace r2 := celln g (dcell r2); replace r3 := celln g (dcell r3); replace x0 := celln g (dcell x0); replace x1 := celln g (dcell x1); replace x2 := celln g (dcell x2); replace x3 := celln g (dcell x3); replace y0 := celln g (dcell y0); replace y1 := celln g (dcell y1); replace y2 := celln g (dcell y2); replace y3 := celln g (dcell y3))); clear g))
          | (go_at_call 21; ((with_reducible refine (RR.out _).mono ?_); rintro r w7 ⟨rfl, g⟩; replace g := g.2; (first | with_reducible (replace kW := kbq kW g; replace r0 := celln g r0; replace r1 := celln g r1; replace r2 := celln g r2; replace r3 := celln g r3; replace x0 := celln g x0; replace x1 := celln g x1; replace x2 := celln g x2; replace x3 := celln g x3; replace y0 := celln g y0; replace y1 := celln g y1; replace y2 := celln g y2; replace y3 := celln g y3) | with_reducible (replace kW := kbq kW.drew g; replace r0 := celln g (dcell r0); replace r1 := celln g (dcell r1); replace r2 := celln g (dcell r2); replace r3 := celln g (dcell r3); replace x0 := celln g (dcell x0); replace x1 := celln g (dcell x1); replace x2 := celln g (dcell x2); replace x3 := celln g (dcell x3); replace y0 := celln g (dcell y0); replace y1 := celln g (dcell y1); replace y2 := celln g (dcell y2); replace y3 := celln g (dcell y3))); clear g)))
        all_goals
          rename_i hH
          go_wp2
          go_ret
          exact ⟨rfl, hH.1⟩
    · go_wp2_with fail
      generalize hV : w4.alloc (.cells #[.string ⟨#[]⟩, .int .u64 0, .int .u64 0, .int .u8 0] 24) = V at *
      clear hV v0 v1 v2 v3
      have kW := KV.out
      rcases RN.out with ⟨hR0, hR1⟩ | ⟨hR0, hR1⟩
      · rw [hR0] at RR
        have N5 : Hid (∀ n5 : Nat, (prW p e b k).length = n5 → ((n5 : Int) == 0) = false) := Lib.hid (fun n5 h5 => by have := hR1 n5 h5; simp; omega)
        clear hR0 hR1 RN
        go_region_held3 (fun w' => Below w.heap.size w w' ∧ w'.cell? ⟨w.heap.size, 0, none⟩ = some (.string p) ∧ w'.cell? ⟨w.heap.size, 1, none⟩ = some (.int .u64 e) ∧ w'.cell? ⟨w.heap.size, 2, none⟩ = some (.int .u64 b) ∧ w'.cell? ⟨w.heap.size, 3, none⟩ = some (.int .u8 k) ∧ w'.cell? ⟨X, 0, none⟩ = some (.string s) ∧ w'.cell? ⟨X, 1, none⟩ = some (.int .u64 E) ∧ w'.cell? ⟨X, 2, none⟩ = some (.int .u64 B) ∧ w'.cell? ⟨X, 3, none⟩ = some (.int .u8 c) ∧ w'.cell? ⟨Y, 0, none⟩ = some (.string s) ∧ w'.cell? ⟨Y, 1, none⟩ = some (.int .u64 E) ∧ w'.cell? ⟨Y, 2, none⟩ = some (.int .u64 B) ∧ w'.cell? ⟨Y, 3, none⟩ = some (.int .u8 c))
          (first | with_reducible exact ⟨kW, r0, r1, r2, r3, x0, x1, x2, x3, y0, y1, y2, y3⟩ | with_reducible exact ⟨kW.drew, dcell r0, dcell r1, dcell r2, dcell r3, dcell x0, dcell x1, dcell x2, dcell x3, dcell y0, dcell y1, dcell y2, dcell y3⟩)
          (first
          | (go_at_call 9; ((with_reducible refine (KN.out _ (hN.below (by first | exact kW | exact kW.drew))).mono ?_); rintro r w7 ⟨rfl, g⟩; (first | with_reducible (replace kW := kbq kW g; replace r0 := celln g r0; replace r1 := celln g r1; replace r2 := celln g r2; replace r3 := celln g r3; replace x0 := celln g x0; replace x1 := celln g x1; replace x2 := celln g x2; replace x3 := celln g x3; replace y0 := celln g y0; replace y1 := celln g y1; replace y2 := celln g y2; replace y3 := celln g y3) | with_reducible (replace kW := kbq kW.drew g; replace r0 := celln g (dcell r0); replace r1 := celln g (dcell r1); replace r2 := celln g (dcell r2); replace r3 := celln g (dcell r3); replace x0 := celln g (dcell x0); replace x1 := celln g (dcell x1); replace x2 := celln g (dcell x2); replace x3 := celln g (dcell x3); replace y0 := celln g (dcell y0); replace y1 := celln g (dcell y1); replace y2 := celln g (dcell y2); replace y3 := celln g (dcell y3))); clear g))
          | (go_at_call 20; ((with_reducible refine (PR.out _ (hN.below (by first | exact kW | exact kW.drew))).mono ?_); rintro r w7 ⟨⟨A5, n5, rfl, hn5, hS5⟩, g⟩; have hz5 := N5.out n5 hS5.1; (first | with_reducible (replace kW := kbq kW g; replace r0 := celln g r0; replace r1 := celln g r1; replace r2 := celln g r2; replace r3 := celln g r3; replace x0 := celln g x0; replace x1 := celln g x1; replace x2 := celln g x2; replace x3 := celln g x3; replace y0 := celln g y0; replace y1 := celln g y1; replace y2 := celln g y2; replace y3 := celln g y3) | with_reducible (replace kW := kbq kW.drew g; replace r0 := celln g (dcell r0); replace r1 := celln g (dcell r1); replace r2 := celln g (dcell r2); replace r3 := celln g (dcell r3); replace x0 := celln g (dcell x0); replace x1 := celln g (dcell x1); replace x2 := celln g (dcell x2); replace x3 := celln g (dcell x3); replace y0 := celln g (dcell y0); replace y1 := celln g (dcell y1); replace y2 := celln g (dcell y2); replace y3 := celln g (dcell y3))); clear g))
          | (go_at_call 21; ((with_reducible refine (RR.out _).mono ?_); rintro r w7 ⟨rfl, g⟩; replace g := g.2; (first | with_reducible (replace kW := kbq kW g; replace r0 := celln g r0; replace r1 := celln g r1; replace r2 := celln g r2; replace r3 := celln g r3; replace x0 := celln g x0; replace x1 := celln g x1; replace x2 := celln g x2; replace x3 := celln g x3; replace y0 := celln g y0; replace y1 := celln g y1; replace y2 := celln g y2; replace y3 := celln g y3) | with_reducible (replace kW := kbq kW.drew g; replace r0 := celln g (dcell r0); replace r1 := celln g (dcell r1); replace r2 := celln g (dcell r2); replace r3 := celln g (dcell r3); replace x0 := celln g (dcell x0); replace x1 := celln g (dcell x1); replace x2 := celln g (dcell x2); replace x3 := celln g (dcell x3); replace y0 := celln g (dcell y0); replace y1 := celln g (dcell y1); replace y2 := celln g (dcell y2); replace y3 := celln g (dcell y3))); clear g)))
        all_goals
          rename_i hH
          go_wp2
          go_ret
          exact ⟨rfl, hH.1⟩
      · have N5 : Hid (∀ n5 : Nat, (prW p e b k).length = n5 → ((n5 : Int) == 0) = true) := Lib.hid (fun n5 h5 => by have := hR1 n5 h5; simp; omega)
        have q1 : (ruE p e b k == 0) = false := by simpa using hR0
        have q2 : (ruE p e b k != 0) = true := by simpa using hR0
        generalize ruE p e b k = R at *
        clear hR0 hR1 RN
        go_region_held3 (fun w' => Below w.heap.size w w' ∧ w'.cell? ⟨w.heap.size, 0, none⟩ = some (.string p) ∧ w'.cell? ⟨w.heap.size, 1, none⟩ = some (.int .u64 e) ∧ w'.cell? ⟨w.heap.size, 2, none⟩ = some (.int .u64 b) ∧ w'.cell? ⟨w.heap.size, 3, none⟩ = some (.int .u8 k) ∧ w'.cell? ⟨X, 0, none⟩ = some (.string s) ∧ w'.cell? ⟨X, 1, none⟩ = some (.int .u64 E) ∧ w'.cell? ⟨X, 2, none⟩ = some (.int .u64 B) ∧ w'.cell? ⟨X, 3, none⟩ = some (.int .u8 c) ∧ w'.cell? ⟨Y, 0, none⟩ = some (.string s) ∧ w'.cell? ⟨Y, 1, none⟩ = some (.int .u64 E) ∧ w'.cell? ⟨Y, 2, none⟩ = some (.int .u64 B) ∧ w'.cell? ⟨Y, 3, none⟩ = some (.int .u8 c))
          (first | with_reducible exact ⟨kW, r0, r1, r2, r3, x0, x1, x2, x3, y0, y1, y2, y3⟩ | with_reducible exact ⟨kW.drew, dcell r0, dcell r1, dcell r2, dcell r3, dcell x0, dcell x1, dcell x2, dcell x3, dcell y0, dcell y1, dcell y2, dcell y3⟩)
          (first
          | (go_at_call 9; ((with_reducible refine (KN.out _ (hN.below (by first | exact kW | exact kW.drew))).mono ?_); rintro r w7 ⟨rfl, g⟩; (first | with_reducible (replace kW := kbq kW g; replace r0 := celln g r0; replace r1 := celln g r1; replace r2 := celln g r2; replace r3 := celln g r3; replace x0 := celln g x0; replace x1 := celln g x1; replace x2 := celln g x2; replace x3 := celln g x3; replace y0 := celln g y0; replace y1 := celln g y1; replace y2 := celln g y2; replace y3 := celln g y3) | with_reducible (replace kW := kbq kW.drew g; replace r0 := celln g (dcell r0); replace r1 := celln g (dcell r1); replace r2 := celln g (dcell r2); replace r3 := celln g (dcell r3); replace x0 := celln g (dcell x0); replace x1 := celln g (dcell x1); replace x2 := celln g (dcell x2); replace x3 := celln g (dcell x3); replace y0 := celln g (dcell y0); replace y1 := celln g (dcell y1); replace y2 := celln g (dcell y2); replace y3 := celln g (dcell y3))); clear g))
          | (go_at_call 20; ((with_reducible refine (PR.out _ (hN.below (by first | exact kW | exact kW.drew))).mono ?_); rintro r w7 ⟨⟨A5, n5, rfl, hn5, hS5⟩, g⟩; have hz5 := N5.out n5 hS5.1; (first | with_reducible (replace kW := kbq kW g; replace r0 := celln g r0; replace r1 := celln g r1; replace r2 := celln g r2; replace r3 := celln g r3; replace x0 := celln g x0; replace x1 := celln g x1; replace x2 := celln g x2; replace x3 := celln g x3; replace y0 := celln g y0; replace y1 := celln g y1; replace y2 := celln g y2; replace y3 := celln g y3) | with_reducible (replace kW := kbq kW.drew g; replace r0 := celln g (dcell r0); replace r1 := celln g (dcell r1); replace r2 := celln g (dcell r2); replace r3 := celln g (dcell r3); replace x0 := celln g (dcell x0); replace x1 := celln g (dcell x1); replace x2 := celln g (dcell x2); replace x3 := celln g (dcell x3); replace y0 := celln g (dcell y0); replace y1 := celln g (dcell y1); replace y2 := celln g (dcell y2); replace y3 := celln g (dcell y3))); clear g))
          | (go_at_call 21; ((with_reducible refine (RR.out _).mono ?_); rintro r w7 ⟨rfl, g⟩; replace g := g.2; (first | with_reducible (replace kW := kbq kW g; replace r0 := celln g r0; replace r1 := celln g r1; replace r2 := celln g r2; replace r3 := celln g r3; replace x0 := celln g x0; replace x1 := celln g x1; replace x2 := celln g x2; replace x3 := celln g x3; replace y0 := celln g y0; replace y1 := celln g y1; replace y2 := celln g y2; replace y3 := celln g y3) | with_reducible (replace kW := kbq kW.drew g; replace r0 := celln g (dcell r0); replace r1 := celln g (dcell r1); replace r2 := celln g (dcell r2); replace r3 := celln g (dcell r3); replace x0 := celln g (dcell x0); replace x1 := celln g (dcell x1); replace x2 := celln g (dcell x2); replace x3 := celln g (dcell x3); replace y0 := celln g (dcell y0); replace y1 := celln g (dcell y1); replace y2 := celln g (dcell y2); replace y3 := celln g (dcell y3))); clear g)))
        all_goals
          rename_i hH
          go_wp2
          go_ret
          exact ⟨rfl, hH.1⟩
  · rw [hAx]
    obtain ⟨v0, v1, v2, v3⟩ := new_cells w4 p' E' B' k'
    have g7 : Below w4.heap.size w4 (w4.alloc (.cells #[.string p', .int .u64 E', .int .u64 B', .int .u8 k'] 24)) := (Below.refl _ _).alloc (Nat.le_refl _) _
    replace r0 := celln g7 r0; replace r1 := celln g7 r1; replace r2 := celln g7 r2; replace r3 := celln g7 r3; replace x0 := celln g7 x0; replace x1 := celln g7 x1; replace x2 := celln g7 x2; replace x3 := celln g7 x3; replace y0 := celln g7 y0; replace y1 := celln g7 y1; replace y2 := celln g7 y2; replace y3 := celln g7 y3
    have kW := kbq k6.out g7
    have R6 := Lib.hid (fun W => right_any p' E' B' k' W (by omega) (UN E' z2) (UN B' z3))
    rw [hRx] at R6
    have P6 := Lib.hid (fun W hN => rprint_any p' E' B' k' W hN (by omega) z2 z3 ⟨z4, z5⟩)
    rw [hPx] at P6
    clear hAx hRx hPx z1 z2 z3 z4 z5 g7 k6 HF
    have KV := Lib.hid kW
    clear kW
    go_wp2_with fail
    refine (R6.out _).mono ?_
    rintro r w8 ⟨rfl, g8⟩
    replace g8 := g8.2
    replace r0 := celln g8 r0; replace r1 := celln g8 r1; replace r2 := celln g8 r2; replace r3 := celln g8 r3; replace x0 := celln g8 x0; replace x1 := celln g8 x1; replace x2 := celln g8 x2; replace x3 := celln g8 x3; replace y0 := celln g8 y0; replace y1 := celln g8 y1; replace y2 := celln g8 y2; replace y3 := celln g8 y3
    replace v0 := celln g8 v0; replace v1 := celln g8 v1; replace v2 := celln g8 v2; replace v3 := celln g8 v3
    replace KV := Lib.hid (kbq KV.out g8)
    clear g8 R6
    go_wp2_with fail
    refine (P6.out _ (hN.below KV.out)).mono ?_
    rintro r w9 ⟨⟨A9, n9, rfl, hn9, hS9⟩, g9⟩
    replace r0 := celln g9 r0; replace r1 := celln g9 r1; replace r2 := celln g9 r2; replace r3 := celln g9 r3; replace x0 := celln g9 x0; replace x1 := celln g9 x1; replace x2 := celln g9 x2; replace x3 := celln g9 x3; replace y0 := celln g9 y0; replace y1 := celln g9 y1; replace y2 := celln g9 y2; replace y3 := celln g9 y3
    replace KV := Lib.hid (kbq KV.out g9)
    have f9 := strings_any A9 A n9 n n9 cap xs xs w9 hS9 (HX.out.below KV.out) (by omega) hnn
    rw [show decide (xs = xs) = true from decide_eq_true rfl] at f9
    have F9 := Lib.hid f9
    clear g9 f9 P6 hS9 hn9 v0 v1 v2 v3 hnn
    go_wp2_with fail
    refine F9.out.mono ?_
    rintro r w10 ⟨rfl, g10⟩
    replace g10 := g10.kept.2
    replace r0 := celln g10 r0; replace r1 := celln g10 r1; replace r2 := celln g10 r2; replace r3 := celln g10 r3; replace x0 := celln g10 x0; replace x1 := celln g10 x1; replace x2 := celln g10 x2; replace x3 := celln g10 x3; replace y0 := celln g10 y0; replace y1 := celln g10 y1; replace y2 := celln g10 y2; replace y3 := celln g10 y3
    have kW := kbq KV.out g10
    have KV := Lib.hid kW
    clear g10 F9 HX hxl kW
    go_wp2_with fail
    have kW := KV.out
    rcases RN.out with ⟨hR0, hR1⟩ | ⟨hR0, hR1⟩
    · rw [hR0] at RR
      have N5 : Hid (∀ n5 : Nat, (prW p e b k).length = n5 → ((n5 : Int) == 0) = false) := Lib.hid (fun n5 h5 => by have := hR1 n5 h5; simp; omega)
      clear hR0 hR1 RN
      go_region_held3 (fun w' => Below w.heap.size w w' ∧ w'.cell? ⟨w.heap.size, 0, none⟩ = some (.string p) ∧ w'.cell? ⟨w.heap.size, 1, none⟩ = some (.int .u64 e) ∧ w'.cell? ⟨w.heap.size, 2, none⟩ = some (.int .u64 b) ∧ w'.cell? ⟨w.heap.size, 3, none⟩ = some (.int .u8 k) ∧ w'.cell? ⟨X, 0, none⟩ = some (.string s) ∧ w'.cell? ⟨X, 1, none⟩ = some (.int .u64 E) ∧ w'.cell? ⟨X, 2, none⟩ = some (.int .u64 B) ∧ w'.cell? ⟨X, 3, none⟩ = some (.int .u8 c) ∧ w'.cell? ⟨Y, 0, none⟩ = some (.string s) ∧ w'.cell? ⟨Y, 1, none⟩ = some (.int .u64 E) ∧ w'.cell? ⟨Y, 2, none⟩ = some (.int .u64 B) ∧ w'.cell? ⟨Y, 3, none⟩ = some (.int .u8 c))
        (first | with_reducible exact ⟨kW, r0, r1, r2, r3, x0, x1, x2, x3, y0, y1, y2, y3⟩ | with_reducible exact ⟨kW.drew, dcell r0, dcell r1, dcell r2, dcell r3, dcell x0, dcell x1, dcell x2, dcell x3, dcell y0, dcell y1, dcell y2, dcell y3⟩)
        (first
        | (go_at_call 9; ((with_reducible refine (KN.out _ (hN.below (by first | exact kW | exact kW.drew))).mono ?_); rintro r w7 ⟨rfl, g⟩; (first | with_reducible (replace kW := kbq kW g; replace r0 := celln g r0; replace r1 := celln g r1; replace r2 := celln g r2; replace r3 := celln g r3; replace x0 := celln g x0; replace x1 := celln g x1; replace x2 := celln g x2; replace x3 := celln g x3; replace y0 := celln g y0; replace y1 := celln g y1; replace y2 := celln g y2; replace y3 := celln g y3) | with_reducible (replace kW := kbq kW.drew g; replace r0 := celln g (dcell r0); replace r1 := celln g (dcell r1); replace r2 := celln g (dcell r2); replace r3 := celln g (dcell r3); replace x0 := celln g (dcell x0); replace x1 := celln g (dcell x1); replace x2 := celln g (dcell x2); replace x3 := celln g (dcell x3); replace y0 := celln g (dcell y0); replace y1 := celln g (dcell y1); replace y2 := celln g (dcell y2); replace y3 := celln g (dcell y3))); clear g))
        | (go_at_call 20; ((with_reducible refine (PR.out _ (hN.below (by first | exact kW | exact kW.drew))).mono ?_); rintro r w7 ⟨⟨A5, n5, rfl, hn5, hS5⟩, g⟩; have hz5 := N5.out n5 hS5.1; (first | with_reducible (replace kW := kbq kW g; replace r0 := celln g r0; replace r1 := celln g r1; replace r2 := celln g r2; replace r3 := celln g r3; replace x0 := celln g x0; replace x1 := celln g x1; replace x2 := celln g x2; replace x3 := celln g x3; replace y0 := celln g y0; replace y1 := celln g y1; replace y2 := celln g y2; replace y3 := celln g y3) | with_reducible (replace kW := kbq kW.drew g; replace r0 := celln g (dcell r0); replace r1 := celln g (dcell r1); replace r2 := celln g (dcell r2); replace r3 := celln g (dcell r3); replace x0 := celln g (dcell x0); replace x1 := celln g (dcell x1); replace x2 := celln g (dcell x2); replace x3 := celln g (dcell x3); replace y0 := celln g (dcell y0); replace y1 := celln g (dcell y1); replace y2 := celln g (dcell y2); replace y3 := celln g (dcell y3))); clear g))
        | (go_at_call 21; ((with_reducible refine (RR.out _).mono ?_); rintro r w7 ⟨rfl, g⟩; replace g := g.2; (first | with_reducible (replace kW := kbq kW g; replace r0 := celln g r0; replace r1 := celln g r1; replace r2 := celln g r2; replace r3 := celln g r3; replace x0 := celln g x0; replace x1 := celln g x1; replace x2 := celln g x2; replace x3 := celln g x3; replace y0 := celln g y0; replace y1 := celln g y1; replace y2 := celln g y2; replace y3 := celln g y3) | with_reducible (replace kW := kbq kW.drew g; replace r0 := celln g (dcell r0); replace r1 := celln g (dcell r1); replace r2 := celln g (dcell r2); replace r3 := celln g (dcell r3); replace x0 := celln g (dcell x0); replace x1 := celln g (dcell x1); replace x2 := celln g (dcell x2); replace x3 := celln g (dcell x3); replace y0 := celln g (dcell y0); replace y1 := celln g (dcell y1); replace y2 := celln g (dcell y2); replace y3 := celln g (dcell y3))); clear g)))
      all_goals
        rename_i hH
        go_wp2
        go_ret
        exact ⟨rfl, hH.1⟩
    · have N5 : Hid (∀ n5 : Nat, (prW p e b k).length = n5 → ((n5 : Int) == 0) = true) := Lib.hid (fun n5 h5 => by have := hR1 n5 h5; simp; omega)
      have q1 : (ruE p e b k == 0) = false := by simpa using hR0
      have q2 : (ruE p e b k != 0) = true := by simpa using hR0
      generalize ruE p e b k = R at *
      clear hR0 hR1 RN
      go_region_held3 (fun w' => Below w.heap.size w w' ∧ w'.cell? ⟨w.heap.size, 0, none⟩ = some (.string p) ∧ w'.cell? ⟨w.heap.size, 1, none⟩ = some (.int .u64 e) ∧ w'.cell? ⟨w.heap.size, 2, none⟩ = some (.int .u64 b) ∧ w'.cell? ⟨w.heap.size, 3, none⟩ = some (.int .u8 k) ∧ w'.cell? ⟨X, 0, none⟩ = some (.string s) ∧ w'.cell? ⟨X, 1, none⟩ = some (.int .u64 E) ∧ w'.cell? ⟨X, 2, none⟩ = some (.int .u64 B) ∧ w'.cell? ⟨X, 3, none⟩ = some (.int .u8 c) ∧ w'.cell? ⟨Y, 0, none⟩ = some (.string s) ∧ w'.cell? ⟨Y, 1, none⟩ = some (.int .u64 E) ∧ w'.cell? ⟨Y, 2, none⟩ = some (.int .u64 B) ∧ w'.cell? ⟨Y, 3, none⟩ = some (.int .u8 c))
        (first | with_reducible exact ⟨kW, r0, r1, r2, r3, x0, x1, x2, x3, y0, y1, y2, y3⟩ | with_reducible exact ⟨kW.drew, dcell r0, dcell r1, dcell r2, dcell r3, dcell x0, dcell x1, dcell x2, dcell x3, dcell y0, dcell y1, dcell y2, dcell y3⟩)
        (first
        | (go_at_call 9; ((with_reducible refine (KN.out _ (hN.below (by first | exact kW | exact kW.drew))).mono ?_); rintro r w7 ⟨rfl, g⟩; (first | with_reducible (replace kW := kbq kW g; replace r0 := celln g r0; replace r1 := celln g r1; replace r2 := celln g r2; replace r3 := celln g r3; replace x0 := celln g x0; replace x1 := celln g x1; replace x2 := celln g x2; replace x3 := celln g x3; replace y0 := celln g y0; replace y1 := celln g y1; replace y2 := celln g y2; replace y3 := celln g y3) | with_reducible (replace kW := kbq kW.drew g; replace r0 := celln g (dcell r0); replace r1 := celln g (dcell r1); replace r2 := celln g (dcell r2); replace r3 := celln g (dcell r3); replace x0 := celln g (dcell x0); replace x1 := celln g (dcell x1); replace x2 := celln g (dcell x2); replace x3 := celln g (dcell x3); replace y0 := celln g (dcell y0); replace y1 := celln g (dcell y1); replace y2 := celln g (dcell y2); replace y3 := celln g (dcell y3))); clear g))
        | (go_at_call 20; ((with_reducible refine (PR.out _ (hN.below (by first | exact kW | exact kW.drew))).mono ?_); rintro r w7 ⟨⟨A5, n5, rfl, hn5, hS5⟩, g⟩; have hz5 := N5.out n5 hS5.1; (first | with_reducible (replace kW := kbq kW g; replace r0 := celln g r0; replace r1 := celln g r1; replace r2 := celln g r2; replace r3 := celln g r3; replace x0 := celln g x0; replace x1 := celln g x1; replace x2 := celln g x2; replace x3 := celln g x3; replace y0 := celln g y0; replace y1 := celln g y1; replace y2 := celln g y2; replace y3 := celln g y3) | with_reducible (replace kW := kbq kW.drew g; replace r0 := celln g (dcell r0); replace r1 := celln g (dcell r1); replace r2 := celln g (dcell r2); replace r3 := celln g (dcell r3); replace x0 := celln g (dcell x0); replace x1 := celln g (dcell x1); replace x2 := celln g (dcell x2); replace x3 := celln g (dcell x3); replace y0 := celln g (dcell y0); replace y1 := celln g (dcell y1); replace y2 := celln g (dcell y2); replace y3 := celln g (dcell y3))); clear g))
        | (go_at_call 21; ((with_reducible refine (RR.out _).mono ?_); rintro r w7 ⟨rfl, g⟩; replace g := g.2; (first | with_reducible (replace kW := kbq kW g; replace r0 := celln g r0; replace r1 := celln g r1; replace r2 := celln g r2; replace r3 := celln g r3; replace x0 := celln g x0; replace x1 := celln g x1; replace x2 := celln g x2; replace x3 := celln g x3; replace y0 := celln g y0; replace y1 := celln g y1; replace y2 := celln g y2; replace y3 := celln g y3) | with_reducible (replace kW := kbq kW.drew g; replace r0 := celln g (dcell r0); replace r1 := celln g (dcell r1); replace r2 := celln g (dcell r2); replace r3 := celln g (dcell r3); replace x0 := celln g (dcell x0); replace x1 := celln g (dcell x1); replace x2 := celln g (dcell x2); replace x3 := celln g (dcell x3); replace y0 := celln g (dcell y0); replace y1 := celln g (dcell y1); replace y2 := celln g (dcell y2); replace y3 := celln g (dcell y3))); clear g)))
      all_goals
        rename_i hH
        go_wp2
        go_ret
        exact ⟨rfl, hH.1⟩

theorem back_walk (p : ByteArray) (e b k : Int) (A : Option Addr) (n cap : Nat) (xs : List ByteArray) (A2 : Option Addr) (n2 cap2 : Nat) (every burst kind : Int) (w : World) (hN : Nam w)
    (hp : p.size ≤ 281474976710656) (he : 0 ≤ e ∧ e ≤ 18446744073709551615) (hb : 0 ≤ b ∧ b ≤ 18446744073709551615) (hk : 0 ≤ k ∧ k ≤ 255)
    (hX : Sts w A n xs) (hf : Lim xs) (h : Byts w A2 n2) (hn : n2 ≤ 9223372036854775807)
    (hev : 0 ≤ every ∧ every ≤ 4294967295) (hbu : 0 ≤ burst ∧ burst ≤ 65535) (hki : 0 ≤ kind ∧ kind ≤ 255) (hnn : n ≤ 9223372036854775807) :
    Calls Tryd.prog 4 #[rul p e b k, .slice A n cap, .slice A2 n2 cap2, .int .u32 every, .int .u16 burst, .int .u8 kind] w fun r w' => r = .returned (.bool true) ∧ Below w.heap.size w w' := by
  obtain ⟨E, rfl⟩ := Int.eq_ofNat_of_zero_le he.1
  obtain ⟨B, rfl⟩ := Int.eq_ofNat_of_zero_le hb.1
  exact back_core p E B k A n cap xs A2 n2 cap2 every burst kind w hN hp (by omega) (by omega) hk hX hf h hn hev hbu hki hnn
end Go.Proofs.YtpkpmbigljkneaaDoor.Wd
