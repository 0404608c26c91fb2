/- RuleWords, walked; the kernels' names lie in the program's table. -/
import Derived.Test.YtpkpmbigljkneaaDoorRulApp
namespace Go.Proofs.YtpkpmbigljkneaaDoor.Wd
open Go Go.RowKit
set_option linter.unusedVariables false

/-- A place to halt a walk at. -/
def Stop (p : Prop) : Prop := p
theorem stopHere {p : Prop} (h : Stop p) : p := h
theorem Sts.slice_front {w : World} {b off n k : Nat} {xs : List ByteArray} (h : Sts w (some ⟨b, off, none⟩) n xs) (hk : k ≤ n) : Sts w (some ⟨b, off, none⟩) k (xs.take k) := h.front hk
theorem lim_take {xs : List ByteArray} (h : Lim xs) (k : Nat) : Lim (xs.take k) := fun x hx => h x (List.mem_of_mem_take hx)
theorem lim_app {xs ys : List ByteArray} (h : Lim xs) (g : Lim ys) : Lim (xs ++ ys) := fun x hx => by
  rcases List.mem_append.1 hx with hx | hx
  · exact h x hx
  · exact g x hx
theorem lim_one {x : ByteArray} (h : x.size ≤ 281474976710656) : Lim [x] := fun y hy => by
  rw [List.mem_singleton.1 hy]; exact h
theorem lim_drop {xs : List ByteArray} (h : Lim xs) (k : Nat) : Lim (xs.drop k) := fun x hx => h x (List.mem_of_mem_drop hx)
theorem ORow.rows {w : World} {base g N cap : Nat} {xs : List ByteArray} (h : ORow w base (.slice (some ⟨g, 0, none⟩) N cap) xs) (hl : Lim xs) : Sts w (some ⟨g, 0, none⟩) N xs ∧ xs.length = N ∧ N ≤ cap ∧ cap ≤ 9223372036854775807 := by
  obtain ⟨A, c, e, h1, h2, h3⟩ := h.sts (small_words hl)
  simp only [Value.slice.injEq] at e
  obtain ⟨rfl, rfl, rfl⟩ := e
  exact ⟨h3, rfl, h1, h2⟩


set_option maxRecDepth 100000 in
set_option maxHeartbeats 4000000 in
theorem words_walk (A : Option Addr) (n cap : Nat) (every burst kind q : Int) (v : ByteArray) (w : World) (hN : Nam w) (h : Byts w A n) (hn : n ≤ 9223372036854775807)
    (he : 0 ≤ every ∧ every ≤ 4294967295) (hb : 0 ≤ burst ∧ burst ≤ 65535) (hk : 0 ≤ kind ∧ kind ≤ 255) (hq : 0 ≤ q ∧ q ≤ 255) (hv : v.size ≤ 9223372036854775807) :
    Calls Tryd.prog 7 #[.slice A n cap, .int .u32 every, .int .u16 burst, .int .u8 kind, .string v, .int .u8 q] w fun r w' => r = .returned (.bool true) ∧ Below w.heap.size w w' := by
  have KN := Lib.hid (fun W (h : Nam W) => known_any W h)
  have RC := Lib.hid (rule_core A n cap every burst kind w h hn he hb hk)
  have OM := Lib.hid (fun s hs => own_mk s hs every burst kind he hb hk)
  by_cases hl : 100 < v.size
  · clear RC OM h
    go_enter Tryd.func7, Tryd.ntmps7
    go_wp2_with (go_at_call 9; refine (KN.out _ hN).mono ?_; rintro r w1 ⟨rfl, g⟩)
    go_ret
    exact ⟨rfl, g⟩
  · have hv2 : v.size ≤ 100 := by omega
    clear h
    obtain ⟨c, hc⟩ : ∃ c, 1 + kind % 3 = c := ⟨_, rfl⟩
    go_enter Tryd.func7, Tryd.ntmps7
    go_wp2_with fail
    refine RC.out.mono ?_
    rintro r w1 ⟨⟨s, rfl, hs⟩, g1⟩
    obtain ⟨E, B, hE, hB, O⟩ := OM.out s hs.out
    rw [hE, hB, hc]
    rw [hc] at O
    clear RC OM hs hE hB hc he hb hk hl
    have o1 := O.sz
    have o2 := O.e2
    have o3 := O.b2
    have o4 := O.k1
    have o5 := O.k2
    have hR := O.right
    have hA := ans_print s E B c (by omega) (by omega) hR
    have hl := pr_ok s E B c (by omega) (by omega) (by omega)
    go_wp2_with fail
    refine (rprint_any s E B c w1 (hN.below g1) (by omega) (by omega) (by omega) (by omega)).mono ?_
    rintro r w2 ⟨⟨A2, n2, rfl, hn2, hS⟩, g2⟩
    have kW := kbq g1 g2
    have hlen := hS.1
    unfold prW at hA hl hS hlen
    rw [if_neg (by simp [hR])] at hA hl hS hlen
    clear g1 g2 o1 o2 o3 o4 o5 hR O
    by_cases hp : s.size = 0
    · rw [if_pos hp] at hA hl hS hlen
      obtain rfl : n2 = 4 := hlen.symm
      clear hlen hp hn2
      obtain ⟨b, off, rfl, hb, hc⟩ := hS.2.2 (by omega)
      have c0 := hc 0 (by omega)
      rw [Nat.add_zero] at c0
      have c0 : w2.cell? ⟨b, off, none⟩ = some (.string defS) := c0
      clear hc
      obtain ⟨k, hk, hk2⟩ : ∃ k : Nat, q % 4 = (k : Int) ∧ k < 4 := ⟨(q % 4).toNat, by omega, by omega⟩
      have t1 : q.tmod 4 = (k : Int) := by rw [Int.tmod_eq_emod_of_nonneg hq.1, hk]
      have t2 : IntKind.i64.wrap q = q := IntWalk.i64_in _ (by omega)
      have t3 : IntKind.i64.wrap (k : Int) = (k : Int) := IntWalk.i64_in _ (by omega)
      have t4 : (k : Int) ≤ 4 := by omega
      have t5 : (0 : Int) ≤ (k : Int) := by omega
      have t6 : (k : Int) < 4 := by omega
      have t7 : k ≤ 4 := by omega
      have HS := Lib.hid hS
      have HLm := Lib.hid hl
      clear hS hl
      go_wp2_with fail
      have f1 := rparse_any (some ⟨b, off, none⟩) k 4 _ w2 (HS.out.front t7) (lim_take HLm.out k) (hN.below kW)
      rw [take_def _ _ _ k hk2] at f1
      refine f1.mono ?_
      rintro r w3 ⟨rfl, g3⟩
      have k3 := g3.alloc g3.size (.cells #[.string ⟨#[]⟩, .int .u64 0, .int .u64 0, .int .u8 0] 24)
      clear f1 g3
      have K3 := Lib.hid k3
      have V3 := Lib.hid (ORow.nil (w3.alloc (.cells #[.string ⟨#[]⟩, .int .u64 0, .int .u64 0, .int .u8 0] 24)) w2.heap.size)
      have HB3 := Lib.hid (HS.out.below k3)
      clear k3
      go_wp2_with (at_builtin; refine wpList_app_texts _ rfl _ _ rfl w2.heap.size (.slice none 0 0) [] rfl V3.out b off 4 4 [defS, dig E, dig B, namS c] rfl HB3.out (by omega) 4 rfl (by omega) K3.out.size ?_; intro g4 cap4 w4 own4 b4; have K4 := Lib.hid (K3.out.trans b4); have V4 := Lib.hid (own4); clear own4 b4; refine stopHere ?_)
      unfold Stop
      have k5 := K4.out.alloc K4.out.size (.cells #[.string v] 9)
      have S5 := Lib.hid (sts_alloc w4 [v] 9 (small_words (lim_one (by omega))))
      have V5 := Lib.hid (V4.out.below ((Below.refl _ w4).alloc (Nat.le_refl _) (.cells #[.string v] 9)))
      have K5 := Lib.hid k5
      clear k5
      go_wp2_with (at_builtin; refine wpList_app_texts _ rfl _ _ rfl w2.heap.size (.slice (some ⟨g4, 0, none⟩) 4 cap4) [defS, dig E, dig B, namS c] rfl V5.out w4.heap.size 0 1 1 [v] rfl S5.out (by omega) 5 rfl (by omega) K5.out.size ?_; intro g6 cap6 w6 own6 b6; have K6 := Lib.hid (K5.out.trans b6); have V6 := Lib.hid (own6); clear own6 b6; refine stopHere ?_)
      unfold Stop
      clear V4 V5 K5 S5 K4 V3 HB3 K3
      go_wp2_with fail
      obtain ⟨R6, z6, z7, z8⟩ := V6.out.rows (lim_app HLm.out (lim_one (by omega)))
      have f6 := rparse_any (some ⟨g6, 0, none⟩) 5 cap6 _ w6 R6 (lim_app HLm.out (lim_one (by omega))) (hN.below (kbq kW K6.out))
      rw [more_def _ _ _ _] at f6
      refine f6.mono ?_
      rintro r w7 ⟨rfl, g7⟩
      have K7 := Lib.hid ((kbq K6.out g7).alloc (kbq K6.out g7).size (.cells #[.string ⟨#[]⟩, .int .u64 0, .int .u64 0, .int .u8 0] 24))
      clear f6 g7 R6 V6 K6 z6 z7 z8
      have k8 := K7.out.alloc K7.out.size (.cells #[.string v] 9)
      have V8 : Hid (ORow ((w7.alloc (.cells #[.string ⟨#[]⟩, .int .u64 0, .int .u64 0, .int .u8 0] 24)).alloc (.cells #[.string v] 9)) w2.heap.size (.slice (some ⟨w7.heap.size + 1, 0, none⟩) 1 1) [v]) := Lib.hid (by
        have h := ORow.lit (w7.alloc (.cells #[.string ⟨#[]⟩, .int .u64 0, .int .u64 0, .int .u8 0] 24)) w2.heap.size [v] K7.out.size (by simp)
        rw [hp_size] at h
        exact h)
      have S8 := Lib.hid ((HS.out.below k8).cut (k := 1) (by omega))
      have K8 := Lib.hid k8
      clear k8
      go_wp2_with (at_builtin; refine wpList_app_texts _ rfl _ _ rfl w2.heap.size (.slice (some ⟨w7.heap.size + 1, 0, none⟩) 1 1) [v] rfl V8.out b (off + 1) 3 3 [dig E, dig B, namS c] rfl S8.out (by omega) 4 rfl (by omega) K8.out.size ?_; intro g9 cap9 w9 own9 b9; have K9 := Lib.hid (K8.out.trans b9); have V9 := Lib.hid (own9); clear own9 b9; refine stopHere ?_)
      unfold Stop
      clear V8 S8 K8 K7
      go_wp2_with fail
      obtain ⟨R9, z6, z7, z8⟩ := V9.out.rows (lim_app (lim_one (by omega)) (lim_drop HLm.out 1))
      have f9 := rparse_any (some ⟨g9, 0, none⟩) 4 cap9 _ w9 R9 (lim_app (lim_one (by omega)) (lim_drop HLm.out 1)) (hN.below (kbq kW K9.out))
      clear z6 z7 z8 R9 V9
      by_cases hv0 : v = defS
      · rw [show ansA ([v] ++ [dig E, dig B, namS c]) = ⟨s, E, B, c, 0, 0⟩ by rw [hv0]; exact hA] at f9
        have t8 : (v.toList == [100, 101, 102, 97, 117, 108, 116]) = true := by rw [hv0, defS_list]; rfl
        refine f9.mono ?_
        rintro r w10 ⟨rfl, g10⟩
        have K10 := Lib.hid ((kbq K9.out g10).alloc (kbq K9.out g10).size (.cells #[.string s, .int .u64 E, .int .u64 B, .int .u8 c] 24))
        have c10 := celln K10.out c0
        clear f9 g10 K9 c0 hv0
        go_wp2_with (go_at_call 9; refine (KN.out _ (hN.below (kbq kW K10.out))).mono ?_; rintro r w11 ⟨rfl, g11⟩)
        go_ret
        exact ⟨rfl, kbq (kbq kW K10.out) g11⟩
      · rw [show ansA ([v] ++ [dig E, dig B, namS c]) = zeroA 22 0 from other_def _ _ _ _ hv0] at f9
        have t8 : (v.toList == [100, 101, 102, 97, 117, 108, 116]) = false := by rw [show ([100, 101, 102, 97, 117, 108, 116] : List UInt8) = defS.toList from defS_list.symm, text_same, decide_eq_false hv0]
        refine f9.mono ?_
        rintro r w10 ⟨rfl, g10⟩
        have K10 := Lib.hid ((kbq K9.out g10).alloc (kbq K9.out g10).size (.cells #[.string ⟨#[]⟩, .int .u64 0, .int .u64 0, .int .u8 0] 24))
        have c10 := celln K10.out c0
        clear f9 g10 K9 c0 hv0
        go_wp2_with (go_at_call 9; refine (KN.out _ (hN.below (kbq kW K10.out))).mono ?_; rintro r w11 ⟨rfl, g11⟩)
        go_ret
        exact ⟨rfl, kbq (kbq kW K10.out) g11⟩
    · rw [if_neg hp] at hA hl hS hlen
      obtain rfl : n2 = 5 := hlen.symm
      clear hlen hp hn2
      obtain ⟨b, off, rfl, hb, hc⟩ := hS.2.2 (by omega)
      have c0 := hc 0 (by omega)
      rw [Nat.add_zero] at c0
      have c0 : w2.cell? ⟨b, off, none⟩ = some (.string rulS) := c0
      clear hc
      obtain ⟨k, hk, hk2⟩ : ∃ k : Nat, q % 5 = (k : Int) ∧ k < 5 := ⟨(q % 5).toNat, by omega, by omega⟩
      have t1 : q.tmod 5 = (k : Int) := by rw [Int.tmod_eq_emod_of_nonneg hq.1, hk]
      have t2 : IntKind.i64.wrap q = q := IntWalk.i64_in _ (by omega)
      have t3 : IntKind.i64.wrap (k : Int) = (k : Int) := IntWalk.i64_in _ (by omega)
      have t4 : (k : Int) ≤ 5 := by omega
      have t5 : (0 : Int) ≤ (k : Int) := by omega
      have t6 : (k : Int) < 5 := by omega
      have t7 : k ≤ 5 := by omega
      have HS := Lib.hid hS
      have HLm := Lib.hid hl
      clear hS hl
      go_wp2_with fail
      have f1 := rparse_any (some ⟨b, off, none⟩) k 5 _ w2 (HS.out.front t7) (lim_take HLm.out k) (hN.below kW)
      rw [take_rul _ _ _ _ k hk2] at f1
      refine f1.mono ?_
      rintro r w3 ⟨rfl, g3⟩
      have k3 := g3.alloc g3.size (.cells #[.string ⟨#[]⟩, .int .u64 0, .int .u64 0, .int .u8 0] 24)
      clear f1 g3
      have K3 := Lib.hid k3
      have V3 := Lib.hid (ORow.nil (w3.alloc (.cells #[.string ⟨#[]⟩, .int .u64 0, .int .u64 0, .int .u8 0] 24)) w2.heap.size)
      have HB3 := Lib.hid (HS.out.below k3)
      clear k3
      go_wp2_with (at_builtin; refine wpList_app_texts _ rfl _ _ rfl w2.heap.size (.slice none 0 0) [] rfl V3.out b off 5 5 [rulS, s, dig E, dig B, namS c] rfl HB3.out (by omega) 5 rfl (by omega) K3.out.size ?_; intro g4 cap4 w4 own4 b4; have K4 := Lib.hid (K3.out.trans b4); have V4 := Lib.hid (own4); clear own4 b4; refine stopHere ?_)
      unfold Stop
      have k5 := K4.out.alloc K4.out.size (.cells #[.string v] 9)
      have S5 := Lib.hid (sts_alloc w4 [v] 9 (small_words (lim_one (by omega))))
      have V5 := Lib.hid (V4.out.below ((Below.refl _ w4).alloc (Nat.le_refl _) (.cells #[.string v] 9)))
      have K5 := Lib.hid k5
      clear k5
      go_wp2_with (at_builtin; refine wpList_app_texts _ rfl _ _ rfl w2.heap.size (.slice (some ⟨g4, 0, none⟩) 5 cap4) [rulS, s, dig E, dig B, namS c] rfl V5.out w4.heap.size 0 1 1 [v] rfl S5.out (by omega) 6 rfl (by omega) K5.out.size ?_; intro g6 cap6 w6 own6 b6; have K6 := Lib.hid (K5.out.trans b6); have V6 := Lib.hid (own6); clear own6 b6; refine stopHere ?_)
      unfold Stop
      clear V4 V5 K5 S5 K4 V3 HB3 K3
      go_wp2_with fail
      obtain ⟨R6, z6, z7, z8⟩ := V6.out.rows (lim_app HLm.out (lim_one (by omega)))
      have f6 := rparse_any (some ⟨g6, 0, none⟩) 6 cap6 _ w6 R6 (lim_app HLm.out (lim_one (by omega))) (hN.below (kbq kW K6.out))
      rw [more_rul _ _ _ _ _] at f6
      refine f6.mono ?_
      rintro r w7 ⟨rfl, g7⟩
      have K7 := Lib.hid ((kbq K6.out g7).alloc (kbq K6.out g7).size (.cells #[.string ⟨#[]⟩, .int .u64 0, .int .u64 0, .int .u8 0] 24))
      clear f6 g7 R6 V6 K6 z6 z7 z8
      have k8 := K7.out.alloc K7.out.size (.cells #[.string v] 9)
      have V8 : Hid (ORow ((w7.alloc (.cells #[.string ⟨#[]⟩, .int .u64 0, .int .u64 0, .int .u8 0] 24)).alloc (.cells #[.string v] 9)) w2.heap.size (.slice (some ⟨w7.heap.size + 1, 0, none⟩) 1 1) [v]) := Lib.hid (by
        have h := ORow.lit (w7.alloc (.cells #[.string ⟨#[]⟩, .int .u64 0, .int .u64 0, .int .u8 0] 24)) w2.heap.size [v] K7.out.size (by simp)
        rw [hp_size] at h
        exact h)
      have S8 := Lib.hid ((HS.out.below k8).cut (k := 1) (by omega))
      have K8 := Lib.hid k8
      clear k8
      go_wp2_with (at_builtin; refine wpList_app_texts _ rfl _ _ rfl w2.heap.size (.slice (some ⟨w7.heap.size + 1, 0, none⟩) 1 1) [v] rfl V8.out b (off + 1) 4 4 [s, dig E, dig B, namS c] rfl S8.out (by omega) 5 rfl (by omega) K8.out.size ?_; intro g9 cap9 w9 own9 b9; have K9 := Lib.hid (K8.out.trans b9); have V9 := Lib.hid (own9); clear own9 b9; refine stopHere ?_)
      unfold Stop
      clear V8 S8 K8 K7
      go_wp2_with fail
      obtain ⟨R9, z6, z7, z8⟩ := V9.out.rows (lim_app (lim_one (by omega)) (lim_drop HLm.out 1))
      have f9 := rparse_any (some ⟨g9, 0, none⟩) 5 cap9 _ w9 R9 (lim_app (lim_one (by omega)) (lim_drop HLm.out 1)) (hN.below (kbq kW K9.out))
      clear z6 z7 z8 R9 V9
      by_cases hv0 : v = rulS
      · rw [show ansA ([v] ++ [s, dig E, dig B, namS c]) = ⟨s, E, B, c, 0, 0⟩ by rw [hv0]; exact hA] at f9
        have t8 : (v.toList == [114, 117, 108, 101]) = true := by rw [hv0, rulS_list]; rfl
        refine f9.mono ?_
        rintro r w10 ⟨rfl, g10⟩
        have K10 := Lib.hid ((kbq K9.out g10).alloc (kbq K9.out g10).size (.cells #[.string s, .int .u64 E, .int .u64 B, .int .u8 c] 24))
        have c10 := celln K10.out c0
        clear f9 g10 K9 c0 hv0
        go_wp2_with (go_at_call 9; refine (KN.out _ (hN.below (kbq kW K10.out))).mono ?_; rintro r w11 ⟨rfl, g11⟩)
        go_ret
        exact ⟨rfl, kbq (kbq kW K10.out) g11⟩
      · rw [show ansA ([v] ++ [s, dig E, dig B, namS c]) = zeroA 22 0 from other_rul _ _ _ _ _ hv0] at f9
        have t8 : (v.toList == [114, 117, 108, 101]) = false := by rw [show ([114, 117, 108, 101] : List UInt8) = rulS.toList from rulS_list.symm, text_same, decide_eq_false hv0]
        refine f9.mono ?_
        rintro r w10 ⟨rfl, g10⟩
        have K10 := Lib.hid ((kbq K9.out g10).alloc (kbq K9.out g10).size (.cells #[.string ⟨#[]⟩, .int .u64 0, .int .u64 0, .int .u8 0] 24))
        have c10 := celln K10.out c0
        clear f9 g10 K9 c0 hv0
        go_wp2_with (go_at_call 9; refine (KN.out _ (hN.below (kbq kW K10.out))).mono ?_; rintro r w11 ⟨rfl, g11⟩)
        go_ret
        exact ⟨rfl, kbq (kbq kW K10.out) g11⟩
end Go.Proofs.YtpkpmbigljkneaaDoor.Wd
