/- PrefixFirst; no conditions but those that each names. -/
import Derived.Test.YtekpmepcacbloaaPreK
import Derived.Test.YtekpmepcacbloaaPreL
namespace Go.Proofs.Ytekpmepcacbloaa.Wd
open Go Go.RowKit Go.Shelf
set_option linter.unusedVariables false
set_option maxRecDepth 100000

theorem rls_one (W : World) (x : Rl) (hx : Okr x) : Rls (W.alloc (.cells #[.string x.p, .int .u64 x.e, .int .u64 x.b, .int .u8 x.k] 28)) (some ⟨W.heap.size, 0, none⟩) 1 [x] :=
  ⟨rfl, (fun r hr => by simp only [List.mem_cons, List.not_mem_nil, or_false] at hr; subst hr; exact hx), fun _ => ⟨W.heap.size, 0, rfl, by simp, fun k hk => by
    obtain rfl : k = 0 := by omega
    exact r4_new W x⟩⟩
theorem rls_under {w w' : World} {b off n N : Nat} {rs : List Rl} (h : Rls w (some ⟨b, off, none⟩) n rs) (g : Below N w w') (hb : b < N) : Rls w' (some ⟨b, off, none⟩) n rs :=
  ⟨h.1, h.2.1, fun hn => by
    obtain ⟨b', off', e, hb', hc⟩ := h.2.2 hn
    simp only [Option.some.injEq, Addr.mk.injEq, and_true] at e
    obtain ⟨rfl, rfl⟩ := e
    exact ⟨_, _, rfl, Nat.lt_of_lt_of_le hb' g.size, fun j hj => (hc j hj).of_block (g.block _ hb)⟩⟩
theorem ok_more {rs : List Rl} (h : ∀ r ∈ rs, Okr r) {x : Rl} (hx : Okr x) : ∀ r ∈ rs ++ [x], Okr r := fun r hr => by
  rcases List.mem_append.1 hr with hr | hr
  · exact h r hr
  · simp only [List.mem_cons, List.not_mem_nil, or_false] at hr; subst hr; exact hx

theorem sbel2 {N X : Nat} {u w : World} {p q r t : Value} (h : Below N u w) (hX : N ≤ X) : Below N u ((((w.setCell ⟨X, 0, none⟩ p).setCell ⟨X, 1, none⟩ q).setCell ⟨X, 2, none⟩ r).setCell ⟨X, 3, none⟩ t) :=
  (((h.setCell (p := ⟨X, 0, none⟩) hX p).setCell (p := ⟨X, 1, none⟩) hX q).setCell (p := ⟨X, 2, none⟩) hX r).setCell (p := ⟨X, 3, none⟩) hX t
set_option maxHeartbeats 4000000 in
theorem first_walk (most : Int) (A : Option Addr) (n cap : Nat) (at_ every : Int) (K : ByteArray) (w : World) (hm : 0 ≤ most ∧ most ≤ 65535) (h : Nmr w A n) (hn : n ≤ 9223372036854775807) (ha : 0 ≤ at_ ∧ at_ ≤ 255) (he : 0 ≤ every ∧ every ≤ 18446744073709551615) (hK : K.size ≤ 140737488355328) :
    Calls Try.prog 5 #[.int .u16 most, .slice A n cap, .int .u8 at_, .int .u64 every, .string K] w fun e w' => e = .returned (.bool true) ∧ Below w.heap.size w w' := by
  have K0 := Lib.hid known_any
  by_cases c200 : 200 < K.size
  · go_enter Try.func5, Try.ntmps5
    go_wp2_with (go_at_call 8; refine (K0.out _).mono ?_; rintro e w1 ⟨rfl, g1⟩)
    go_ret
    exact ⟨rfl, g1⟩
  · have hK2 : K.size ≤ 200 := by omega
    have CP := Lib.hid (policy_any most A n cap w hm h hn)
    clear h
    go_enter Try.func5, Try.ntmps5
    go_wp2_with (go_at_call 9; refine CP.out.mono ?_; rintro e w1 ⟨⟨m, rs, v, rfl, hO, hlen, hP⟩, g1⟩; refine stopHere ?_)
    unfold Stop
    obtain ⟨A1, cp1, rfl, hc1, hR, hn1, hs1⟩ := hO.form3 (polr_ok hP.out) rfl
    have hpos := polr_len hP.out
    have hw1 := g1.size
    obtain ⟨a, hat⟩ : ∃ a : Nat, at_ = (a : Int) := ⟨at_.toNat, by omega⟩
    subst hat
    obtain ⟨i, hi⟩ : ∃ i, i = a % rs.length := ⟨_, rfl⟩
    have hil : i < rs.length := by rw [hi]; exact Nat.mod_lt _ hpos
    have ht : (a : Int).tmod (rs.length : Int) = (i : Int) := by rw [hi]; rfl
    have hne : ¬ rs.length = 0 := by omega
    have ka := (Below.refl _ w1).alloc (Nat.le_refl _) (.cells #[.int .i64 m, .slice A1 rs.length cp1] 31)
    have k2 := Lib.hid (kbq g1 ka)
    have R2 := Lib.hid (hR.below ka)
    have p2 := Lib.hid (Blk.new w1 #[.int .i64 m, .slice A1 rs.length cp1] 31)
    have HC1 := Lib.hid (And.intro hc1 (And.intro hn1 hs1))
    obtain ⟨b, off, rfl, hb, hc⟩ := R2.out.2.2 hpos
    obtain ⟨r0, r1, r2, r3⟩ := hc i hil
    have hb2 : b < w1.heap.size + 2 := by rw [World.size_alloc] at hb; omega
    have wa : IntKind.i64.wrap (a : Int) = (a : Int) := by rw [IntKind.wrap_i64]; omega
    have HI := Lib.hid hi
    clear hO hR g1 ka CP hc1 hn1 hs1 hc hi
    have hok := R2.out.ok i
    obtain ⟨x, hx⟩ : ∃ x, x = fnOf rs i := ⟨_, rfl⟩
    rw [← hx] at r0 r1 r2 r3 hok
    have HX := Lib.hid hx
    clear hx
    obtain ⟨xe, hxe⟩ : ∃ xe : Rl, xe = ⟨x.p, every, x.b, x.k⟩ := ⟨_, rfl⟩
    have hxo : Okr xe := by rw [hxe]; exact ⟨hok.p, ⟨he.1, he.2⟩, hok.b, hok.k⟩
    have kb := (Below.refl _ (w1.alloc (.cells #[.int .i64 m, .slice (some ⟨b, off, none⟩) rs.length cp1] 31))).alloc (Nat.le_refl _) (.cells #[.string x.p, .int .u64 every, .int .u64 x.b, .int .u8 x.k] 28)
    have k3 := Lib.hid (kbq k2.out kb)
    have R3 := Lib.hid (R2.out.below kb)
    have p3 := Lib.hid (p2.out.below kb)
    have x3 := Blk.new (w1.alloc (.cells #[.int .i64 m, .slice (some ⟨b, off, none⟩) rs.length cp1] 31)) #[.string x.p, .int .u64 every, .int .u64 x.b, .int .u8 x.k] 28
    rw [World.size_alloc] at x3
    have X3 := Lib.hid x3
    have hsz3 : ((w1.alloc (.cells #[.int .i64 m, .slice (some ⟨b, off, none⟩) rs.length cp1] 31)).alloc (.cells #[.string x.p, .int .u64 every, .int .u64 x.b, .int .u8 x.k] 28)).heap.size = w1.heap.size + 2 := by simp
    have O3 := Lib.hid (ORls.nil ((w1.alloc (.cells #[.int .i64 m, .slice (some ⟨b, off, none⟩) rs.length cp1] 31)).alloc (.cells #[.string x.p, .int .u64 every, .int .u64 x.b, .int .u8 x.k] 28)) (w1.heap.size + 2))
    clear kb x3 k2 R2
    go_wp2_with (at_builtin; refine wpList_app_rls _ rfl _ _ rfl (w1.heap.size + 2) (.slice none 0 0) [] rfl O3.out (some ⟨b, off, none⟩) rs.length cp1 rs rfl R3.out (fun e => by cases e) (fun ad e => by cases e; rfl) (by simp; omega) (by rw [hsz3]; exact Nat.le_refl _) ?_; intro v4 w4 hO4 b4 gw4; refine stopHere ?_)
    unfold Stop
    rw [List.nil_append] at hO4
    obtain ⟨A4, cp4, rfl, hc4, hR4, hn4, hs4⟩ := hO4.form3 (polr_ok hP.out) rfl
    have X4 := Lib.hid (X3.out.under b4 (by omega))
    have p4 := Lib.hid (p3.out.under b4 (by omega))
    have k4 := Lib.hid (k3.out.trans (b4.mono (by omega)))
    have Q4 := Lib.hid (rls_under R3.out b4 hb2)
    have x40 := X4.out.cell 0
    have x41 := X4.out.cell 1
    have x42 := X4.out.cell 2
    have x43 := X4.out.cell 3
    simp at x40 x41 x42 x43
    have kc := (Below.refl _ w4).alloc (Nat.le_refl _) (.cells #[.string x.p, .int .u64 every, .int .u64 x.b, .int .u8 x.k] 28)
    have O5 := Lib.hid (ownR_below hO4 kc)
    have S5 : Hid (Rls (w4.alloc (.cells #[.string x.p, .int .u64 every, .int .u64 x.b, .int .u8 x.k] 28)) (some ⟨w4.heap.size, 0, none⟩) 1 [xe]) := Lib.hid (by have := rls_one w4 xe hxo; rw [hxe] at this ⊢; exact this)
    have hsz5 : w1.heap.size + 2 ≤ (w4.alloc (.cells #[.string x.p, .int .u64 every, .int .u64 x.b, .int .u8 x.k] 28)).heap.size := Nat.le_trans (by rw [← hsz3]; exact b4.size) kc.size
    have X5 := Lib.hid (X4.out.below kc)
    have p5 := Lib.hid (p4.out.below kc)
    have k5 := Lib.hid (kbq k4.out kc)
    have Q5 := Lib.hid (Q4.out.below kc)
    have C4 := Lib.hid hc4
    have HXE := Lib.hid hxe
    have HXO := Lib.hid hxo
    clear hO4 kc k4 b4 gw4 hR4 hn4 hs4 R3 O3 p3 X3 k3 X4 p4 hc4 hxe hxo hb
    go_wp2_with (at_builtin; refine wpList_app_rls _ rfl _ _ rfl (w1.heap.size + 2) (.slice A4 rs.length cp4) rs rfl O5.out (some ⟨w4.heap.size, 0, none⟩) 1 1 [xe] rfl S5.out (fun e => by cases e) (fun ad e => by cases e; rfl) (by omega) hsz5 ?_; intro v6 w6 hO6 b6 gw6; refine stopHere ?_)
    unfold Stop
    obtain ⟨A6, cp6, rfl, hc6, hR6, hn6, hs6⟩ := hO6.form3 (ok_more (polr_ok hP.out) HXO.out) rfl
    have X6 := Lib.hid (X5.out.under b6 (by omega))
    have p6 := Lib.hid (p5.out.under b6 (by omega))
    have k6 := Lib.hid (k5.out.trans (b6.mono (by omega)))
    have Q6 := Lib.hid (rls_under Q5.out b6 hb2)
    have hlx : (rs ++ [xe]).length = rs.length + 1 := by simp
    rw [hlx] at hR6 ⊢
    have R6 := Lib.hid hR6
    clear x40 x41 x42 x43 O5 S5 hsz5 X5 p5 k5 hO6 b6 gw6 hR6 hn6 hs6
    have x60 := X6.out.cell 0
    simp at x60
    go_upto_region 10 with fail
    have hff := find_first hP.out hil xe (by rw [HXE.out, ← HX.out])
    rw [← HX.out] at hff
    have HF := Lib.hid hff
    have eN : ∀ V, Below w6.heap.size w6 V → Calls Try.prog 12 #[.slice A6 (rs.length + 1) cp6] V fun e w' => ∃ t, e = .returned (.pointer (some ⟨t, 0, none⟩)) ∧ Hid (TreeAt w' t (rs ++ [xe])) ∧ Below V.heap.size V w' := fun V g => new_any A6 _ cp6 _ V (R6.out.below g) (by omega)
    have eF : ∀ V t, TreeAt V t (rs ++ [xe]) → Calls Try.prog 13 #[.pointer (some ⟨t, 0, none⟩), .string x.p] V fun e w' => e = .returned (.tuple #[x.v, .bool true]) ∧ Below V.heap.size V w' := fun V t g => by
      have := find_any t x.p (rs ++ [xe]) V hok.p g
      rw [HF.out.1] at this
      exact this
    have kr := Below.refl w6.heap.size w6
    have y0 := x60
    have hxl : w1.heap.size + 1 < w6.heap.size := X6.out.lt
    clear hff
    go_cut [15, 16] from 53 to 59 (fun c1 c2 wx => ∃ Y : Nat, c1 = .pointer (some ⟨Y, 0, none⟩) ∧ c2 = .bool true ∧ w6.heap.size ≤ Y ∧ XC wx Y x ∧ Below w6.heap.size w6 wx)
    case first =>
      go_region_held3 (fun w' => Below w6.heap.size w6 w' ∧ w'.cell? ⟨w1.heap.size + 1, 0, none⟩ = some (.string x.p))
        (first | with_reducible exact ⟨kr, y0⟩ | with_reducible exact ⟨kr.drew, dcell y0⟩ | with_reducible exact ⟨(kr.alloc kr.size _), acell y0⟩ | with_reducible exact ⟨(kr.alloc kr.size _).drew, dcell (acell y0)⟩ | with_reducible exact ⟨sbel2 kr hz, scell y0 (Nat.lt_of_lt_of_le hxl hz)⟩ | with_reducible exact ⟨(sbel2 kr hz).drew, dcell (scell y0 (Nat.lt_of_lt_of_le hxl hz))⟩)
        (first
          | (go_at_call 12; ((with_reducible refine (eN _ (by first | with_reducible exact kr | with_reducible exact kr.drew | with_reducible exact (kr.alloc kr.size _) | with_reducible exact (kr.alloc kr.size _).drew)).mono ?_); rintro r w7 ⟨t, rfl, hT, g⟩; (first | with_reducible (replace kr := kbq kr g; replace y0 := celln g y0; try (replace zf0 := (g.frozen (by exact cell_lt z0)).trans zf0; replace zf1 := (g.frozen (by exact cell_lt z0)).trans zf1; replace zf2 := (g.frozen (by exact cell_lt z0)).trans zf2; replace zf3 := (g.frozen (by exact cell_lt z0)).trans zf3; replace z0 := celln g z0; replace z1 := celln g z1; replace z2 := celln g z2; replace z3 := celln g z3)) | with_reducible (replace kr := kbq kr.drew g; replace y0 := celln g (dcell y0); skip) | with_reducible (obtain ⟨⟨z0, z1, z2, z3⟩, ⟨zf0, zf1, zf2, zf3⟩⟩ := zero4 g; have hz := kr.size; replace kr := kbq (kr.alloc kr.size _) g; replace y0 := celln g (acell y0)) | with_reducible (obtain ⟨⟨z0, z1, z2, z3⟩, ⟨zf0, zf1, zf2, zf3⟩⟩ := zero4d g; have hz := kr.size; replace kr := kbq (kr.alloc kr.size _).drew g; replace y0 := celln g (dcell (acell y0)))))) 
          | (go_at_call 13; ((with_reducible refine (eF _ _ (by first | with_reducible exact hT.out | with_reducible exact hT.out.below (Below.refl _ _).drew | with_reducible exact hT.out.below ((Below.refl _ _).alloc (Nat.le_refl _) _) | with_reducible exact hT.out.below ((Below.refl _ _).alloc (Nat.le_refl _) _).drew)).mono ?_); rintro r w8 ⟨rfl, g⟩; (first | with_reducible (replace kr := kbq kr g; replace y0 := celln g y0; try (replace zf0 := (g.frozen (by exact cell_lt z0)).trans zf0; replace zf1 := (g.frozen (by exact cell_lt z0)).trans zf1; replace zf2 := (g.frozen (by exact cell_lt z0)).trans zf2; replace zf3 := (g.frozen (by exact cell_lt z0)).trans zf3; replace z0 := celln g z0; replace z1 := celln g z1; replace z2 := celln g z2; replace z3 := celln g z3)) | with_reducible (replace kr := kbq kr.drew g; replace y0 := celln g (dcell y0); skip) | with_reducible (obtain ⟨⟨z0, z1, z2, z3⟩, ⟨zf0, zf1, zf2, zf3⟩⟩ := zero4 g; have hz := kr.size; replace kr := kbq (kr.alloc kr.size _) g; replace y0 := celln g (acell y0)) | with_reducible (obtain ⟨⟨z0, z1, z2, z3⟩, ⟨zf0, zf1, zf2, zf3⟩⟩ := zero4d g; have hz := kr.size; replace kr := kbq (kr.alloc kr.size _).drew g; replace y0 := celln g (dcell (acell y0)))))))
      all_goals
        rename_i hH
        obtain ⟨k7, y7⟩ := hH
        first
        | (have hXC := xc_set (p := x.p) (e := x.e) (b := x.b) (k := x.k) z0 z1 z2 z3 zf0 zf1 zf2 zf3
           generalize (((w8.setCell _ (.string x.p)).setCell _ (.int .u64 x.e)).setCell _ (.int .u64 x.b)).setCell _ (.int .u8 x.k) = W9 at *
           go_wp2
           go_meet
           case rel => exact ⟨_, rfl, rfl, hz, hXC, k7⟩)
        | (have hXC := xc_new w8 x.p x.e x.b x.k
           have hz := kr.size
           generalize w8.alloc (.cells #[.string x.p, .int .u64 x.e, .int .u64 x.b, .int .u8 x.k] 28) = W9 at *
           go_wp2
           go_meet
           case rel => exact ⟨_, rfl, rfl, hz, hXC, k7⟩)
    case rest =>
    obtain ⟨Y, rfl, rfl, hY, hXC, k7⟩ := hcut
    have k8 := Lib.hid (kbq k6.out k7)
    have p8 := Lib.hid (p6.out.below k7)
    have R8 := Lib.hid (R6.out.below k7)
    have Y8 := Lib.hid hXC
    have k7h := Lib.hid k7
    clear eN eF kr y0 x60 k6 p6 X6 k7 hXC R6
    have F0 := Lib.hid (fun W => find_nil K W)
    go_wp2_with (go_at_call 13; refine (F0.out _).mono ?_; rintro e w9 ⟨rfl, g9⟩; refine stopHere ?_)
    unfold Stop
    have a9 := (Below.refl _ w9).alloc (Nat.le_refl _) (.cells (cs4 rl0) 28)
    have k10 := Lib.hid (kbq (kbq k8.out g9) a9)
    have n10 := Lib.hid (kbq g9 a9)
    clear g9 a9
    have CN := Lib.hid (new_any none 0 0 [] (w9.alloc (.cells (cs4 rl0) 28)) (Rls.nil _ _) (by omega))
    go_wp2_with (go_at_call 12; refine CN.out.mono ?_; rintro e w11 ⟨t2, rfl, T11, g11⟩; refine stopHere ?_)
    unfold Stop
    have CF := Lib.hid (find_any t2 K [] w11 (by omega) T11.out)
    rw [find_bare] at CF
    have n11 := Lib.hid (kbq n10.out g11)
    clear g11 CN n10 k10
    go_wp2_with (go_at_call 13; refine CF.out.mono ?_; rintro e w12 ⟨rfl, g12⟩; refine stopHere ?_)
    unfold Stop
    have a12 := (Below.refl _ w12).alloc (Nat.le_refl _) (.cells (cs4 rl0) 28)
    have n12 := Lib.hid (kbq (kbq n11.out g12) a12)
    have c12 := (p8.out.below n12.out).cell 1
    simp at c12
    obtain ⟨A2, hs2, hr2, _, _⟩ := rslice_rest (some ⟨b, off, none⟩) rs.length cp1 1 hpos HC1.out.1.1
    have s2 : ∀ V : World, (Instr.slice 22 (.slice (some ⟨b, off, none⟩) rs.length cp1) (some (.int .i64 1)) none none).run Try.prog V = .ok (.slice A2 (rs.length - 1) (cp1 - 1)) V := hs2
    have RB := Lib.hid ((Q6.out.below k7h.out).below n12.out)
    have CN := Lib.hid (new_any A2 (rs.length - 1) (cp1 - 1) (rs.drop 1) _ (hr2 _ _ RB.out) (by omega))
    clear g12 a12 n11 CF T11 hs2 hr2
    go_wp2_with (go_at_call 12; refine CN.out.mono ?_; rintro e w13 ⟨t3, rfl, T13, g13⟩; refine stopHere ?_)
    unfold Stop
    have CF := Lib.hid (find_any t3 ⟨#[]⟩ (rs.drop 1) w13 (by decide) T13.out)
    rw [find_nob hP.out] at CF
    have n13 := Lib.hid (kbq n12.out g13)
    clear g13 CN n12 c12 s2 RB
    go_wp2_with (go_at_call 13; refine CF.out.mono ?_; rintro e w14 ⟨rfl, g14⟩; refine stopHere ?_)
    unfold Stop
    have a14 := (Below.refl _ w14).alloc (Nat.le_refl _) (.cells (cs4 rl0) 28)
    have n14 := Lib.hid (kbq (kbq n13.out g14) a14)
    clear g14 a14 n13 CF T13
    have q0 := (p8.out.below n14.out).cell 1
    simp at q0
    obtain ⟨b', off', e', _, hc⟩ := ((Q6.out.below k7h.out).below n14.out).2.2 hpos
    simp only [Option.some.injEq, Addr.mk.injEq, and_true] at e'
    obtain ⟨rfl, rfl⟩ := e'
    have hci := hc i hil
    rw [← HX.out] at hci
    obtain ⟨q1, q2, q3, q4⟩ := hci
    obtain ⟨⟨q5, q6, q7, q8⟩, _⟩ := Y8.out
    replace q5 := celln n14.out q5
    replace q6 := celln n14.out q6
    replace q7 := celln n14.out q7
    replace q8 := celln n14.out q8
    have R14 := Lib.hid (R8.out.below n14.out)
    have K14 := Lib.hid (kbq k8.out n14.out)
    clear hc n14 p8 Y8 R8 k8
    go_upto_region 15 with fail
    generalize w14.alloc (.cells (cs4 rl0) 28) = V at *
    have eN : ∀ U, Below V.heap.size V U → Calls Try.prog 12 #[.slice A6 (rs.length + 1) cp6] U fun e w' => ∃ t, e = .returned (.pointer (some ⟨t, 0, none⟩)) ∧ Hid (TreeAt w' t (rs ++ [xe])) ∧ Below U.heap.size U w' := fun U g => new_any A6 _ cp6 _ U (R14.out.below g) (by omega)
    have eL : ∀ U t, TreeAt U t (rs ++ [xe]) → Calls Try.prog 14 #[.pointer (some ⟨t, 0, none⟩)] U fun e w' => e = .returned (.int .i64 (rs.length : Int)) ∧ U = w' := fun U t g => by
      have := len_any t (rs ++ [xe]) U g
      rw [HF.out.2] at this
      exact this
    have kr := Below.refl V.heap.size V
    go_region_held3 (fun w' => Below V.heap.size V w' ∧ w'.cell? ⟨w1.heap.size, 1, none⟩ = some (.slice (some ⟨b, off, none⟩) rs.length cp1) ∧ w'.cell? ⟨b, off + i * 4, none⟩ = some (.string x.p) ∧ w'.cell? ⟨b, off + i * 4 + 1, none⟩ = some (.int .u64 x.e) ∧ w'.cell? ⟨b, off + i * 4 + 2, none⟩ = some (.int .u64 x.b) ∧ w'.cell? ⟨b, off + i * 4 + 3, none⟩ = some (.int .u8 x.k) ∧ w'.cell? ⟨Y, 0, none⟩ = some (.string x.p) ∧ w'.cell? ⟨Y, 1, none⟩ = some (.int .u64 x.e) ∧ w'.cell? ⟨Y, 2, none⟩ = some (.int .u64 x.b) ∧ w'.cell? ⟨Y, 3, none⟩ = some (.int .u8 x.k))
      (first | with_reducible exact ⟨kr, celln kr q0, celln kr q1, celln kr q2, celln kr q3, celln kr q4, celln kr q5, celln kr q6, celln kr q7, celln kr q8⟩ | with_reducible exact ⟨kr.drew, celln kr.drew q0, celln kr.drew q1, celln kr.drew q2, celln kr.drew q3, celln kr.drew q4, celln kr.drew q5, celln kr.drew q6, celln kr.drew q7, celln kr.drew q8⟩)
      (first
        | (go_at_call 8; ((with_reducible refine (K0.out _).mono ?_); rintro r v1 ⟨rfl, g⟩; (first | with_reducible (replace kr := kbq kr g) | with_reducible (replace kr := kbq kr.drew g))))
        | (go_at_call 12; ((with_reducible refine (eN _ (by first | with_reducible exact kr | with_reducible exact kr.drew)).mono ?_); rintro r v2 ⟨t, rfl, hT, g⟩; (first | with_reducible (replace kr := kbq kr g) | with_reducible (replace kr := kbq kr.drew g))))
        | (go_at_call 14; ((with_reducible refine (eL _ _ (by first | with_reducible exact hT.out | with_reducible exact hT.out.below (Below.refl _ _).drew)).mono ?_); rintro r v3 ⟨rfl, rfl⟩))
        | (go_at_call 14; ((with_reducible refine (len_nil _).mono ?_); rintro r v4 ⟨rfl, rfl⟩)))
    all_goals
      rename_i hH
      replace hH := hH.1
      go_wp2
      go_ret
      exact ⟨rfl, kbq K14.out hH⟩
end Go.Proofs.Ytekpmepcacbloaa.Wd
