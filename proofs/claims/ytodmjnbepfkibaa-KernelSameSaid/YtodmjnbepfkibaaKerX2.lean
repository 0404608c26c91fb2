/- The law KernelSame, walked; for any steps and numbers; no conditions. -/
import Derived.Test.YtodmjnbepfkibaaKerX1
import Derived.Deep.LoopGhost
import Derived.Deep.CutRange
namespace Go.Proofs.Ytodmjnbepfkibaa.Wd
open Go.RowKit
set_option linter.unusedVariables false

set_option maxRecDepth 100000 in
theorem same_long (a : Option Addr) (n cap : Nat) (most x : Int) (w : World) (hn : 60 < n) (hm : n ≤ 9223372036854775807) :
    Calls Try.prog 4 #[.slice a n cap, .int .u32 most, .int .u64 x] w fun e w' => e = .returned (.bool true) ∧ Below w.heap.size w w' := by
  go_enter Try.func4, Try.ntmps4
  go_wp2_with (go_at_call 10; ((with_reducible refine (known_any _).mono ?_); rintro e w1 ⟨rfl, g1⟩))
  go_ret
  exact ⟨rfl, g1.2⟩

/-- A state that tells. -/
def Told (m T F k a b : Int) : Prop := Is3 k ∧ U a ∧ U b ∧ Tells k a b m T F
/-- The FILL behind a decision. -/
def nxt (F V m : Int) : Int := if ftB F V m = true then F + V else F
theorem nxt_le (F V m : Int) (hF : 0 ≤ F) (hm : F ≤ m) (hV : U V) : 0 ≤ nxt F V m ∧ nxt F V m ≤ m := by
  unfold nxt ftB U at *
  split
  · rename_i h; simp at h; omega
  · omega
theorem Told.decide {m T F k a b : Int} (l : Told m T F k a b) (um : U m) (uT : U T) (hF : 0 ≤ F) (hs : T + m ≤ 18446744073709551615) (V : Int) (hV : U V) :
    ∃ a' b' : Int, (∀ w, Calls Try.prog 16 #[sta k a b, .int .u64 T, .int .u64 m, .int .u64 V] w fun e w' => e = .returned (.tuple #[sta k a' b', .bool (ftB F V m)]) ∧ Kept w w') ∧ Told m T (nxt F V m) k a' b' := by
  obtain ⟨i3, ua, ub, ht⟩ := l
  obtain ⟨q1, q2, q3, q4, q5⟩ := ht.decide i3 ua ub um uT V hV hF hs
  refine ⟨kdA k a b T m V, kdT k a b T m V, fun w => ?_, i3, q3, q4, q5⟩
  have d := kdecide_any k a b T m V w ua ub uT um hV
  rw [q1, q2] at d
  exact d
theorem Told.fill {m T F k a b : Int} (l : Told m T F k a b) (um : U m) (uT : U T) (hF : 0 ≤ F) (w : World) :
    Calls Try.prog 17 #[sta k a b, .int .u64 T, .int .u64 m] w fun e w' => e = .returned (.int .u64 F) ∧ Kept w w' := by
  have d := kfill_any k a b T m w l.2.1 l.2.2.1 uT um
  rw [l.2.2.2.here uT hF] at d
  exact d
theorem Told.till {m T F k a b : Int} (l : Told m T F k a b) (um : U m) (uT : U T) (hF : 0 ≤ F) (w : World) :
    Calls Try.prog 18 #[sta k a b, .int .u64 T, .int .u64 m] w fun e w' => e = .returned (.int .u64 (kuI T F)) ∧ Kept w w' := by
  have d := kuntil_any k a b T m w l.2.1 l.2.2.1 uT um
  rw [l.2.2.2.here uT hF] at d
  exact d
/-- What the law's own memory holds when the first j of three have decided. -/
def InnerAt (wi : World) (M g : Nat) (nk da db a1 b1 a2 b2 a3 b3 A1 B1 A2 B2 A3 B3 : Int) (j : Nat) : Prop :=
  R3 wi M 0 (.int .u8 nk) (.int .u64 da) (.int .u64 db) ∧ R3 wi g 0 (.int .u8 1) (.int .u64 (if 0 < j then A1 else a1)) (.int .u64 (if 0 < j then B1 else b1)) ∧
    R3 wi g 3 (.int .u8 2) (.int .u64 (if 1 < j then A2 else a2)) (.int .u64 (if 1 < j then B2 else b2)) ∧ R3 wi g 6 (.int .u8 3) (.int .u64 (if 2 < j then A3 else a3)) (.int .u64 (if 2 < j then B3 else b3))
theorem size_set3 (w : World) (B o : Nat) (x y z : Value) : (set3 w B o x y z).heap.size = w.heap.size := by simp [World.setCell]
/-- What the law's own memory holds behind k steps, at T. -/
def SameAt (w : World) (x m : Int) (M g : Nat) (k : Nat) (T : Int) (wr : World) : Prop :=
  ∃ F mk ma mb a1 b1 a2 b2 a3 b3 : Int, (0 ≤ T ∧ T ≤ x / 4 + (k : Int) * 4294967295 ∧ 0 ≤ F ∧ F ≤ m) ∧ Told m T F mk ma mb ∧ Told m T F 1 a1 b1 ∧ Told m T F 2 a2 b2 ∧ Told m T F 3 a3 b3 ∧
    R3 wr M 0 (.int .u8 mk) (.int .u64 ma) (.int .u64 mb) ∧ R3 wr g 0 (.int .u8 1) (.int .u64 a1) (.int .u64 b1) ∧ R3 wr g 3 (.int .u8 2) (.int .u64 a2) (.int .u64 b2) ∧ R3 wr g 6 (.int .u8 3) (.int .u64 a3) (.int .u64 b3) ∧
    Below w.heap.size w wr
/-- The steps that came in. -/
def Steps (w : World) (a : Option Addr) (n : Nat) (p q r s : Nat → Int) : Prop :=
  ∀ i, i < n → ∃ b off, a = some ⟨b, off, none⟩ ∧ b < w.heap.size ∧ w.cell? ⟨b, off + i * 4, none⟩ = some (.int .u32 (p i)) ∧ w.cell? ⟨b, off + i * 4 + 1, none⟩ = some (.int .u16 (q i)) ∧ w.cell? ⟨b, off + i * 4 + 2, none⟩ = some (.int .u8 (r i)) ∧ w.cell? ⟨b, off + i * 4 + 3, none⟩ = some (.int .u8 (s i)) ∧
    (0 ≤ p i ∧ p i ≤ 4294967295) ∧ (0 ≤ q i ∧ q i ≤ 65535) ∧ (0 ≤ r i ∧ r i ≤ 255) ∧ (0 ≤ s i ∧ s i ≤ 255)

theorem infoState : (Try.prog.info? 24).map (fun i => (i.zero, i.size, i.bytes)) = some (some (sta 0 0 0), 3, 24) := by kernel_rfl

set_option maxRecDepth 100000 in
set_option maxHeartbeats 4000000 in
theorem same_short (a : Option Addr) (n cap : Nat) (most x : Int) (p q r s : Nat → Int) (w : World) (hst : Steps w a n p q r s) (hn : n ≤ 60) (h1 : 0 ≤ most ∧ most ≤ 4294967295) (h2 : U x) :
    Calls Try.prog 4 #[.slice a n cap, .int .u32 most, .int .u64 x] w fun e w' => e = .returned (.bool true) ∧ Below w.heap.size w w' := by
  have hn' : ¬ ((60 : Int) < (n : Int)) := by omega
  have um : U most := by unfold U; omega
  have ux : U (x / 4) := by unfold U at *; omega
  have O := Lib.hid (fun (k : Int) (w : World) => kof_any k (x / 4) most 0 w ux um U_zero)
  obtain ⟨i0, hi, hz0, hz1, hz2⟩ := info_parts infoState
  unfold U at h2
  go_enter Try.func4, Try.ntmps4
  go_wp2
  go_loopg [9, 10] 3 (fun g v k wr => ∃ j : Nat, j ≤ 3 ∧ g = 3 - j ∧ k = .int .u8 ((j : Int) + 1) ∧ wr.ownsRow w.heap.size 24 3 v j (stAll (x / 4) most j) ∧ Below w.heap.size w wr)
  case atStart => exact ⟨0, by omega, rfl, rfl, World.ownsRow_nil _ _ _ _, Below.refl _ _⟩
  case round =>
    obtain ⟨j, hj, rfl, rfl, hown, hbel⟩ := hrel
    by_cases hlt : j < 3
    · have o1 (w : World) := O.out ((j : Int) + 1) w
      have i3 : Is3 ((j : Int) + 1) := by unfold Is3; omega
      rw [koK_is i3, koE_is i3] at o1
      have O1 := Lib.hid o1
      clear o1 i3
      have HO := Lib.hid hown
      clear hown
      generalize hA : koA ((j : Int) + 1) (x / 4) most 0 = A at *
      generalize hB : koB ((j : Int) + 1) (x / 4) = B at *
      have HA := Lib.hid hA
      have HB := Lib.hid hB
      clear hA hB
      go_wp2_with (first
        | (go_at_call 14; ((with_reducible refine (O1.out _).mono ?_); rintro e w1 ⟨rfl, g1⟩; have hown1 := owns_kept HO.out (((g1.alloc #[.int .u8 ((j : Int) + 1), .int .u64 A, .int .u64 B] 24).alloc #[.int .u8 ((j : Int) + 1), .int .u64 A, .int .u64 B] 24))))
        | (at_builtin; refine wpList_append_own_wide _ rfl _ _ 33 rfl w.heap.size 24 i0 (sta 0 0 0) 3 24 Try.underlying33 hi hz0 hz1 hz2 rfl (by decide) _ _ _ rfl hown1 ⟨w1.heap.size + 1, 0, none⟩ 1 1 [.int .u8 ((j : Int) + 1), .int .u64 A, .int .u64 B] rfl rfl ?c1 ?c2 ?c3 ?c4 ?c5 ?_))
      case c1 =>
        intro i u hi
        match i, hi with
        | 0, hi => simp at hi; subst hi; simp [Addr.add]
        | 1, hi => simp at hi; subst hi; simp [Addr.add]
        | 2, hi => simp at hi; subst hi; simp [Addr.add]
      case c2 => intro u hu; simp at hu; rcases hu with rfl | rfl | rfl <;> rfl
      case c3 => unfold maxLen; omega
      case c4 => omega
      case c5 => have := hbel.size; have := g1.size; simp; omega
      · intro v' w2 hown2 hgrow2 _
        have hb2 : Below w.heap.size w w2 := (below_kept hbel hbel.size ((g1.alloc _ _).alloc _ _)).grown hgrow2 (by have := hbel.size; have := g1.size; simp; omega) (owns_block HO.out)
        clear hgrow2
        go_wp2
        go_roundg (3 - (j + 1))
        case measure => omega
        case rel =>
          refine ⟨j + 1, by omega, rfl, by simp, ?_, hb2⟩
          rw [← HA.out, ← HB.out] at hown2
          exact hown2
    · obtain rfl : j = 3 := by omega
      obtain ⟨g, cap', rfl, hg, hgc, hcs⟩ := r3_owned hown (by omega)
      have s1 := hcs 0 _ _ _ rfl rfl rfl
      have s2 := hcs 3 _ _ _ rfl rfl rfl
      have s3 := hcs 6 _ _ _ rfl rfl rfl
      clear hcs hown hlt hj
      obtain ⟨⟨x0, x1, x2⟩, x3⟩ := id s1
      have hz := s1.lt
      go_wp2
      have hbel' : Below w.heap.size w (wr.alloc (.cells #[.int .u8 1, .int .u64 (koA 1 (x / 4) most 0), .int .u64 (koB 1 (x / 4))] 24)) := hbel.alloc hbel.size _
      have s0 := r3_new wr 24 (.int .u8 1) (.int .u64 (koA 1 (x / 4) most 0)) (.int .u64 (koB 1 (x / 4)))
      replace s1 := s1.kept ((Kept.refl wr).alloc #[.int .u8 1, .int .u64 (koA 1 (x / 4) most 0), .int .u64 (koB 1 (x / 4))] 24)
      replace s2 := s2.kept ((Kept.refl wr).alloc #[.int .u8 1, .int .u64 (koA 1 (x / 4) most 0), .int .u64 (koB 1 (x / 4))] 24)
      replace s3 := s3.kept ((Kept.refl wr).alloc #[.int .u8 1, .int .u64 (koA 1 (x / 4) most 0), .int .u64 (koB 1 (x / 4))] 24)
      have hM : w.heap.size ≤ wr.heap.size := hbel.size
      have hgM : g ≠ wr.heap.size := by omega
      generalize wr.heap.size = M at *
      go_loopg [7, 14] n (fun gg t i wr => ∃ (k : Nat) (T : Int), k ≤ n ∧ gg = n - k ∧ i = .int .i64 k ∧ t = .int .u64 T ∧ SameAt w x most M g k T wr)
      case atStart =>
        have told (k : Int) (hk : Is3 k) : Told most (x / 4) 0 k (koA k (x / 4) most 0) (koB k (x / 4)) := ⟨hk, koA_U _ _ _ _ ux um U_zero, koB_U _ _ ux, tells_of hk _ _ _ ux.1 (by omega) (by omega) (by unfold U at *; omega)⟩
        exact ⟨0, x / 4, by omega, rfl, rfl, rfl, 0, _, _, _, _, _, _, _, _, _, ⟨ux.1, by omega, by omega, by omega⟩, told 1 (.inl rfl), told 1 (.inl rfl), told 2 (.inr (.inl rfl)), told 3 (.inr (.inr rfl)), s0, s1, s2, s3, hbel'⟩
      case round =>
        clear s0 s1 s2 s3 hbel hbel' x0 x1 x2 x3 hz
        obtain ⟨k, T, hk, rfl, rfl, rfl, hS⟩ := hrel
        by_cases hlt : k < n
        · obtain ⟨b, off, rfl, hb, c0, c1, c2, c3, bp, bq, br, bs⟩ := hst k hlt
          generalize p k = P at *
          generalize q k = Q at *
          generalize r k = R at *
          generalize s k = S at *
          obtain ⟨F, mk, ma, mb, a1, b1, a2, b2, a3, b3, hT, t0, t1, t2, t3, s0, s1, s2, s3, hbel⟩ := hS
          have HC := Lib.hid (And.intro c1 c2)
          replace c0 := (hbel.cell hb).trans c0
          replace c1 := (hbel.cell hb).trans c1
          replace c2 := (hbel.cell hb).trans c2
          replace c3 := (hbel.cell hb).trans c3
          go_wp2
          go_region
          have dW : Kept wr wr.drew := (Kept.refl wr).drew
          generalize wr.drew = W at dW ⊢
          replace s0 := s0.kept dW
          replace s1 := s1.kept dW
          replace s2 := s2.kept dW
          replace s3 := s3.kept dW
          replace hbel := below_kept hbel hbel.size dW
          replace c1 := dW.cell c1
          replace c2 := dW.cell c2
          replace c3 := dW.cell c3
          clear dW c0
          have hp1 : 0 ≤ P / 2 ^ (R % 32).toNat ∧ P / 2 ^ (R % 32).toNat ≤ P := div_pow_nonneg P _ bp.1
          have hT2 : IntKind.u64.wrap (T + IntKind.u64.wrap (P / 2 ^ (R % 32).toNat)) = T + P / 2 ^ (R % 32).toNat := by
            unfold U at *; rw [IntKind.wrap_u64, IntKind.wrap_u64]; omega
          rw [hT2]
          clear hT2
          generalize hD : P / 2 ^ (R % 32).toNat = D at *
          obtain ⟨T2, hT2⟩ : ∃ T2, T + D = T2 := ⟨_, rfl⟩
          rw [hT2]
          obtain ⟨F2, hF2⟩ : ∃ F2, sbI F (T2 - T) = F2 := ⟨_, rfl⟩
          have uT2 : U T2 := by unfold U at *; omega
          have hTF : (0 ≤ T2 ∧ T2 ≤ x / 4 + ((k + 1 : Nat) : Int) * 4294967295 ∧ 0 ≤ F2 ∧ F2 ≤ most) := by
            refine ⟨by omega, by omega, ?_⟩
            rw [← hF2]; unfold sbI; split <;> omega
          have l0 : Told most T2 F2 mk ma mb := ⟨t0.1, t0.2.1, t0.2.2.1, hF2 ▸ t0.2.2.2.later (by omega)⟩
          have l1 : Told most T2 F2 1 a1 b1 := ⟨t1.1, t1.2.1, t1.2.2.1, hF2 ▸ t1.2.2.2.later (by omega)⟩
          have l2 : Told most T2 F2 2 a2 b2 := ⟨t2.1, t2.2.1, t2.2.2.1, hF2 ▸ t2.2.2.2.later (by omega)⟩
          have l3 : Told most T2 F2 3 a3 b3 := ⟨t3.1, t3.2.1, t3.2.2.1, hF2 ▸ t3.2.2.2.later (by omega)⟩
          clear t0 t1 t2 t3 hT hF2 hD hp1 bp F
          have HT2 := Lib.hid hT2
          clear hT2
          go_upto_if 77 with fail
          go_cut [15, 16] from 49 to 170 (fun _ _ wc => ∃ nk na nb : Int, Told most T2 F2 nk na nb ∧ R3 wc M 0 (.int .u8 nk) (.int .u64 na) (.int .u64 nb) ∧ R3 wc g 0 (.int .u8 1) (.int .u64 a1) (.int .u64 b1) ∧ R3 wc g 3 (.int .u8 2) (.int .u64 a2) (.int .u64 b2) ∧ R3 wc g 6 (.int .u8 3) (.int .u64 a3) (.int .u64 b3) ∧ Below w.heap.size w wc)
          case first =>
            go_wp2_with fail
            · obtain ⟨i3, uma, umb, htl⟩ := l0
              obtain ⟨K2, hK2⟩ : ∃ K2, 1 + S % 9 / 3 = K2 := ⟨_, rfl⟩
              have k3 : Is3 K2 := by unfold Is3; omega
              have e1 : S.tmod 9 = S % 9 := Int.tmod_eq_emod_of_nonneg bs.1
              have e2 : (S % 9).tdiv 3 = S % 9 / 3 := Int.tdiv_eq_ediv_of_nonneg (by omega)
              have e4 : IntKind.u8.wrap (S % 9 / 3) = S % 9 / 3 := IntWalk.u8_in _ (by omega)
              have e3 : IntKind.u8.wrap (1 + S % 9 / 3) = K2 := by rw [hK2]; exact IntWalk.u8_in _ (by unfold Is3 at k3; omega)
              have m1 (w : World) := kmigrate_any mk ma mb K2 T2 most w uma umb uT2 um
              rw [kmK_is i3 k3, kmA_is i3, kmB_is i3, kmE_is i3 k3, htl.here uT2 hTF.2.2.1] at m1
              have hnew : Told most T2 F2 K2 (koA K2 T2 most F2) (koB K2 T2) := ⟨k3, koA_U _ _ _ _ uT2 um (by unfold U at *; omega), koB_U _ _ uT2, tells_of k3 _ _ _ uT2.1 hTF.2.2.1 hTF.2.2.2 (by unfold U at *; omega)⟩
              generalize koA K2 T2 most F2 = na at *
              generalize koB K2 T2 = nb at *
              have M1 := Lib.hid m1
              have HK := Lib.hid hK2
              have HN := Lib.hid hnew
              have HTL := Lib.hid htl
              have HTF := Lib.hid hTF
              have L1 := Lib.hid l1
              have L2 := Lib.hid l2
              have L3 := Lib.hid l3
              clear m1 hK2 hnew htl hTF l1 l2 l3
              have kW := Kept.refl W
              have d0 := s0.1.1
              have d1 := s0.1.2.1
              have d2 := s0.1.2.2
              have zM := s0.lt
              have zb : b < W.heap.size := by have := hbel.size; omega
              have zM1 := Nat.ne_of_lt zM
              have zb1 := Nat.ne_of_lt zb
              have zW := Nat.le_refl W.heap.size
              go_region_held3 (fun w' => Kept W w' ∧ w'.cell? ⟨M, 0, none⟩ = some (.int .u8 mk) ∧ w'.cell? ⟨M, 1, none⟩ = some (.int .u64 ma) ∧ w'.cell? ⟨M, 2, none⟩ = some (.int .u64 mb) ∧ w'.cell? ⟨b, off + k * 4 + 3, none⟩ = some (.int .u8 S))
                (first | with_reducible exact ⟨kW, d0, d1, d2, c3⟩ | with_reducible exact ⟨kW.drew, (Kept.refl _).drew.cell d0, (Kept.refl _).drew.cell d1, (Kept.refl _).drew.cell d2, (Kept.refl _).drew.cell c3⟩ | with_reducible exact ⟨kW.alloc _ _, ((Kept.refl _).alloc _ _).cell d0, ((Kept.refl _).alloc _ _).cell d1, ((Kept.refl _).alloc _ _).cell d2, ((Kept.refl _).alloc _ _).cell c3⟩ | with_reducible exact ⟨(kW.alloc _ _).drew, ((Kept.refl _).alloc _ _).drew.cell d0, ((Kept.refl _).alloc _ _).drew.cell d1, ((Kept.refl _).alloc _ _).drew.cell d2, ((Kept.refl _).alloc _ _).drew.cell c3⟩ | with_reducible exact ⟨kW.set3 zW _ _ _, cell_set3 zM1 d0 _ _ _, cell_set3 zM1 d1 _ _ _, cell_set3 zM1 d2 _ _ _, cell_set3 zb1 c3 _ _ _⟩)
                (first
                | (go_at_call 15; ((with_reducible refine (M1.out _).mono ?_); rintro e w1 ⟨rfl, g1⟩; obtain ⟨hc1, hf1⟩ := g1.reads; (first | (with_reducible (replace kW := kW.trans g1); replace d0 := g1.cell d0; replace d1 := g1.cell d1; replace d2 := g1.cell d2; replace c3 := g1.cell c3) | (with_reducible (replace kW := kW.drew.trans g1); replace d0 := g1.cell ((Kept.refl _).drew.cell d0); replace d1 := g1.cell ((Kept.refl _).drew.cell d1); replace d2 := g1.cell ((Kept.refl _).drew.cell d2); replace c3 := g1.cell ((Kept.refl _).drew.cell c3)) | (have hz : W.heap.size < w1.heap.size := (by (have := g1.size; simp at this; omega)); with_reducible (replace kW := (kW.alloc _ _).drew.trans g1); replace d0 := g1.cell (((Kept.refl _).alloc _ _).drew.cell d0); replace d1 := g1.cell (((Kept.refl _).alloc _ _).drew.cell d1); replace d2 := g1.cell (((Kept.refl _).alloc _ _).drew.cell d2); replace c3 := g1.cell (((Kept.refl _).alloc _ _).drew.cell c3))); clear g1)))
              all_goals
                rename_i hH
                replace hH := hH.1
                obtain ⟨⟨x0, x1, x2⟩, x3, x4, x5⟩ := s0.kept hH
                obtain ⟨⟨y0, y1, y2⟩, y3, y4, y5⟩ := s0.kept kW
                have zM2 := (s0.kept hH).lt
                have zM3 := (s0.kept kW).lt
                go_wp2_with fail
                go_meet
                case rel =>
                  first
                    | with_reducible exact ⟨K2, na, nb, HN.out, ((s0.kept kW).put _ _ _).kept ((Kept.refl _).alloc _ _), ((s1.kept kW).other (.inl hgM) _ _ _).kept ((Kept.refl _).alloc _ _), ((s2.kept kW).other (.inl hgM) _ _ _).kept ((Kept.refl _).alloc _ _), ((s3.kept kW).other (.inl hgM) _ _ _).kept ((Kept.refl _).alloc _ _), (below_set3 (below_kept hbel hbel.size kW) hM _ _ _ _).alloc (below_set3 (below_kept hbel hbel.size kW) hM _ _ _ _).size _⟩
                    | with_reducible exact ⟨K2, na, nb, HN.out, (s0.kept hH).put _ _ _, (s1.kept hH).other (.inl hgM) _ _ _, (s2.kept hH).other (.inl hgM) _ _ _, (s3.kept hH).other (.inl hgM) _ _ _, below_set3 (below_kept hbel hbel.size hH) hM _ _ _ _⟩
            · go_meet
              case rel => exact ⟨mk, ma, mb, l0, s0, s1, s2, s3, hbel⟩
          case rest =>
            clear s0 s1 s2 s3 hbel c1 c2 c3 l0
            obtain ⟨nk, na, nb, l0, s0, s1, s2, s3, hbel⟩ := hcut
            obtain ⟨c1, c2⟩ := HC.out
            replace c1 := (hbel.cell hb).trans c1
            replace c2 := (hbel.cell hb).trans c2
            go_wp2_with fail
            go_region
            have dW : Kept wc wc.drew := (Kept.refl wc).drew
            generalize wc.drew = Z at dW ⊢
            replace s0 := s0.kept dW
            replace s1 := s1.kept dW
            replace s2 := s2.kept dW
            replace s3 := s3.kept dW
            replace hbel := below_kept hbel hbel.size dW
            clear dW c1 c2 HC
            have hV : U (IntKind.u64.wrap (Q * 2 ^ (R % 20).toNat)) := by unfold U; rw [IntKind.wrap_u64]; omega
            generalize IntKind.u64.wrap (Q * 2 ^ (R % 20).toNat) = V at *
            have hTm : T2 + most ≤ 18446744073709551615 := by unfold U at *; omega
            obtain ⟨da, db, d0, n0⟩ := l0.decide um uT2 hTF.2.2.1 hTm V hV
            obtain ⟨A1, B1, d1, n1⟩ := l1.decide um uT2 hTF.2.2.1 hTm V hV
            obtain ⟨A2, B2, d2, n2⟩ := l2.decide um uT2 hTF.2.2.1 hTm V hV
            obtain ⟨A3, B3, d3, n3⟩ := l3.decide um uT2 hTF.2.2.1 hTm V hV
            have hF3 := nxt_le F2 V most hTF.2.2.1 hTF.2.2.2 hV
            generalize ftB F2 V most = pp at *
            generalize nxt F2 V most = F3 at *
            have D0 := Lib.hid d0
            have D1 := Lib.hid d1
            have D2 := Lib.hid d2
            have D3 := Lib.hid d3
            have E0 := Lib.hid (fun w => n0.fill um uT2 hF3.1 w)
            have E1 := Lib.hid (fun w => n1.fill um uT2 hF3.1 w)
            have E2 := Lib.hid (fun w => n2.fill um uT2 hF3.1 w)
            have E3 := Lib.hid (fun w => n3.fill um uT2 hF3.1 w)
            have G0 := Lib.hid (fun w => n0.till um uT2 hF3.1 w)
            have G1 := Lib.hid (fun w => n1.till um uT2 hF3.1 w)
            have G2 := Lib.hid (fun w => n2.till um uT2 hF3.1 w)
            have G3 := Lib.hid (fun w => n3.till um uT2 hF3.1 w)
            generalize kuI T2 F3 = N3 at *
            have N0 := Lib.hid n0
            have N1 := Lib.hid n1
            have N2 := Lib.hid n2
            have NN := Lib.hid n3
            have HTF := Lib.hid hTF
            have HF3 := Lib.hid hF3
            clear d0 d1 d2 d3 n0 n1 n2 n3 l0 l1 l2 l3 hTF hF3 hTm hV bq br bs hb
            obtain ⟨⟨x0, x1, x2⟩, x3, x4, x5⟩ := id s0
            have zM := s0.lt
            go_wp2_with (go_at_call 16; ((with_reducible refine (D0.out _).mono ?_); rintro e w1 ⟨rfl, g1⟩; obtain ⟨⟨y0, y1, y2⟩, y3, y4, y5⟩ := s0.kept g1; have zM1 := (s0.kept g1).lt))
            have kA := (Kept.refl (set3 w1 M 0 (.int .u8 nk) (.int .u64 da) (.int .u64 db))).alloc #[.int .u8 nk, .int .u64 da, .int .u64 db] 24
            have r0 := ((s0.kept g1).put (.int .u8 nk) (.int .u64 da) (.int .u64 db)).kept kA
            have r1 := ((s1.kept g1).other (.inl hgM) (.int .u8 nk) (.int .u64 da) (.int .u64 db)).kept kA
            have r2 := ((s2.kept g1).other (.inl hgM) (.int .u8 nk) (.int .u64 da) (.int .u64 db)).kept kA
            have r3 := ((s3.kept g1).other (.inl hgM) (.int .u8 nk) (.int .u64 da) (.int .u64 db)).kept kA
            have rb := below_set3 (below_kept hbel hbel.size g1) hM 0 (.int .u8 nk) (.int .u64 da) (.int .u64 db)
            have rb2 := rb.alloc rb.size (.cells #[.int .u8 nk, .int .u64 da, .int .u64 db] 24)
            clear s0 s1 s2 s3 hbel x0 x1 x2 x3 x4 x5 y0 y1 y2 y3 y4 y5 g1 rb kA
            go_loopg [20] 3 (fun gg kk wi => ∃ j : Nat, j ≤ 3 ∧ gg = 3 - j ∧ kk = .int .i64 j ∧ InnerAt wi M g nk da db a1 b1 a2 b2 a3 b3 A1 B1 A2 B2 A3 B3 j ∧ Below w.heap.size w wi)
            case atStart => exact ⟨0, by omega, rfl, rfl, ⟨r0, r1, r2, r3⟩, rb2⟩
            case round =>
              clear r0 r1 r2 r3 rb2
              obtain ⟨j, hj, rfl, rfl, ⟨s0, s1, s2, s3⟩, hbel⟩ := hrel
              by_cases hlt3 : j < 3
              · rcases (by omega : j = 0 ∨ j = 1 ∨ j = 2) with rfl | rfl | rfl
                · have t0 : R3 wr M 0 (.int .u8 nk) (.int .u64 da) (.int .u64 db) := s0
                  have t1 : R3 wr g 0 (.int .u8 1) (.int .u64 a1) (.int .u64 b1) := s1
                  have t2 : R3 wr g 3 (.int .u8 2) (.int .u64 a2) (.int .u64 b2) := s2
                  have t3 : R3 wr g 6 (.int .u8 3) (.int .u64 a3) (.int .u64 b3) := s3
                  clear s0 s1 s2 s3
                  have z0 : wr.cell? ⟨g, 0, none⟩ = some (.int .u8 1) := t1.1.1
                  have z1 : wr.cell? ⟨g, 1, none⟩ = some (.int .u64 a1) := t1.1.2.1
                  have z2 : wr.cell? ⟨g, 2, none⟩ = some (.int .u64 b1) := t1.1.2.2
                  have zg := t1.lt
                  go_wp2_with (go_at_call 16; ((with_reducible refine (D1.out _).mono ?_); rintro e w2 ⟨rfl, g2⟩; have y0 : w2.cell? ⟨g, 0, none⟩ = some (.int .u8 1) := (t1.kept g2).1.1; have y1 : w2.cell? ⟨g, 1, none⟩ = some (.int .u64 a1) := (t1.kept g2).1.2.1; have y2 : w2.cell? ⟨g, 2, none⟩ = some (.int .u64 b1) := (t1.kept g2).1.2.2; have y3 : w2.frozen? ⟨g, 0, none⟩ = false := (t1.kept g2).2.1; have y4 : w2.frozen? ⟨g, 1, none⟩ = false := (t1.kept g2).2.2.1; have y5 : w2.frozen? ⟨g, 2, none⟩ = false := (t1.kept g2).2.2.2; have zg2 := (t1.kept g2).lt))
                  have kA := (Kept.refl (set3 w2 g 0 (.int .u8 1) (.int .u64 A1) (.int .u64 B1))).alloc #[.int .u8 1, .int .u64 A1, .int .u64 B1] 24
                  have r0 := ((t0.kept g2).other (.inl hgM.symm) (.int .u8 1) (.int .u64 A1) (.int .u64 B1)).kept kA
                  have r1 := ((t1.kept g2).put (.int .u8 1) (.int .u64 A1) (.int .u64 B1)).kept kA
                  have r2 := ((t2.kept g2).other (C := g) (p := 0) (by omega) (.int .u8 1) (.int .u64 A1) (.int .u64 B1)).kept kA
                  have r3 := ((t3.kept g2).other (C := g) (p := 0) (by omega) (.int .u8 1) (.int .u64 A1) (.int .u64 B1)).kept kA
                  have rx := (r3_new (set3 w2 g 0 (.int .u8 1) (.int .u64 A1) (.int .u64 B1)) 24 (.int .u8 1) (.int .u64 A1) (.int .u64 B1)).1
                  rw [size_set3] at rx
                  have rb := below_set3 (below_kept hbel hbel.size g2) hg 0 (.int .u8 1) (.int .u64 A1) (.int .u64 B1)
                  have rb2 := rb.alloc rb.size (.cells #[.int .u8 1, .int .u64 A1, .int .u64 B1] 24)
                  have kW := Kept.refl ((set3 w2 g 0 (.int .u8 1) (.int .u64 A1) (.int .u64 B1)).alloc (.cells #[.int .u8 1, .int .u64 A1, .int .u64 B1] 24))
                  clear y0 y1 y2 y3 y4 y5 z0 z1 z2 zg zg2 t0 t1 t2 t3 hbel rb kA
                  generalize hX : w2.heap.size = X at *
                  clear hX
                  generalize hY : (set3 w2 g 0 (.int .u8 1) (.int .u64 A1) (.int .u64 B1)).alloc (.cells #[.int .u8 1, .int .u64 A1, .int .u64 B1] 24) = Y at *
                  clear hY g2
                  obtain ⟨v0, v1, v2⟩ := rx
                  obtain ⟨m0, m1, m2⟩ := id r0.1
                  have e1 : IntKind.i64.wrap (((0 : Nat) : Int) + 1) = 1 := rfl
                  have e2 : IntKind.i64.wrap ((0 : Int) + 1) = 1 := rfl
                  have e3 : IntKind.i64.wrap 1 = 1 := rfl
                  have e4 : IntKind.u8.wrap 1 = 1 := rfl
                  go_region_held3 (fun w' => Kept Y w' ∧ w'.cell? ⟨X, 0, none⟩ = some (.int .u8 1) ∧ w'.cell? ⟨X, 1, none⟩ = some (.int .u64 A1) ∧ w'.cell? ⟨X, 2, none⟩ = some (.int .u64 B1) ∧ w'.cell? ⟨M, 0, none⟩ = some (.int .u8 nk) ∧ w'.cell? ⟨M, 1, none⟩ = some (.int .u64 da) ∧ w'.cell? ⟨M, 2, none⟩ = some (.int .u64 db))
                    (first | with_reducible exact ⟨kW, v0, v1, v2, m0, m1, m2⟩ | with_reducible exact ⟨kW.drew, (Kept.refl _).drew.cell v0, (Kept.refl _).drew.cell v1, (Kept.refl _).drew.cell v2, (Kept.refl _).drew.cell m0, (Kept.refl _).drew.cell m1, (Kept.refl _).drew.cell m2⟩)
                    (first
                    | (go_at_call 17; ((with_reducible refine (E1.out _).mono ?_); rintro e w' ⟨rfl, g⟩; (first | with_reducible (replace kW := kW.trans g) | (with_reducible (replace kW := kW.drew.trans g); replace g := (Kept.refl _).drew.trans g)); replace v0 := g.cell v0; replace v1 := g.cell v1; replace v2 := g.cell v2; replace m0 := g.cell m0; replace m1 := g.cell m1; replace m2 := g.cell m2; clear g))
                    | (go_at_call 17; ((with_reducible refine (E0.out _).mono ?_); rintro e w' ⟨rfl, g⟩; (first | with_reducible (replace kW := kW.trans g) | (with_reducible (replace kW := kW.drew.trans g); replace g := (Kept.refl _).drew.trans g)); replace v0 := g.cell v0; replace v1 := g.cell v1; replace v2 := g.cell v2; replace m0 := g.cell m0; replace m1 := g.cell m1; replace m2 := g.cell m2; clear g))
                    | (go_at_call 18; ((with_reducible refine (G1.out _).mono ?_); rintro e w' ⟨rfl, g⟩; (first | with_reducible (replace kW := kW.trans g) | (with_reducible (replace kW := kW.drew.trans g); replace g := (Kept.refl _).drew.trans g)); replace v0 := g.cell v0; replace v1 := g.cell v1; replace v2 := g.cell v2; replace m0 := g.cell m0; replace m1 := g.cell m1; replace m2 := g.cell m2; clear g))
                    | (go_at_call 18; ((with_reducible refine (G0.out _).mono ?_); rintro e w' ⟨rfl, g⟩; (first | with_reducible (replace kW := kW.trans g) | (with_reducible (replace kW := kW.drew.trans g); replace g := (Kept.refl _).drew.trans g)); replace v0 := g.cell v0; replace v1 := g.cell v1; replace v2 := g.cell v2; replace m0 := g.cell m0; replace m1 := g.cell m1; replace m2 := g.cell m2; clear g)))
                  rename_i hH
                  replace hH := hH.1
                  go_wp2
                  go_roundg (3 - 1)
                  case measure => omega
                  case rel => exact ⟨1, by omega, rfl, by simp, ⟨r0.kept hH, r1.kept hH, r2.kept hH, r3.kept hH⟩, below_kept rb2 rb2.size hH⟩
                · have t0 : R3 wr M 0 (.int .u8 nk) (.int .u64 da) (.int .u64 db) := s0
                  have t1 : R3 wr g 0 (.int .u8 1) (.int .u64 A1) (.int .u64 B1) := s1
                  have t2 : R3 wr g 3 (.int .u8 2) (.int .u64 a2) (.int .u64 b2) := s2
                  have t3 : R3 wr g 6 (.int .u8 3) (.int .u64 a3) (.int .u64 b3) := s3
                  clear s0 s1 s2 s3
                  have z0 : wr.cell? ⟨g, 3, none⟩ = some (.int .u8 2) := t2.1.1
                  have z1 : wr.cell? ⟨g, 4, none⟩ = some (.int .u64 a2) := t2.1.2.1
                  have z2 : wr.cell? ⟨g, 5, none⟩ = some (.int .u64 b2) := t2.1.2.2
                  have zg := t1.lt
                  go_wp2_with (go_at_call 16; ((with_reducible refine (D2.out _).mono ?_); rintro e w2 ⟨rfl, g2⟩; have y0 : w2.cell? ⟨g, 3, none⟩ = some (.int .u8 2) := (t2.kept g2).1.1; have y1 : w2.cell? ⟨g, 4, none⟩ = some (.int .u64 a2) := (t2.kept g2).1.2.1; have y2 : w2.cell? ⟨g, 5, none⟩ = some (.int .u64 b2) := (t2.kept g2).1.2.2; have y3 : w2.frozen? ⟨g, 3, none⟩ = false := (t2.kept g2).2.1; have y4 : w2.frozen? ⟨g, 4, none⟩ = false := (t2.kept g2).2.2.1; have y5 : w2.frozen? ⟨g, 5, none⟩ = false := (t2.kept g2).2.2.2; have zg2 := (t1.kept g2).lt))
                  have kA := (Kept.refl (set3 w2 g 3 (.int .u8 2) (.int .u64 A2) (.int .u64 B2))).alloc #[.int .u8 2, .int .u64 A2, .int .u64 B2] 24
                  have r0 := ((t0.kept g2).other (.inl hgM.symm) (.int .u8 2) (.int .u64 A2) (.int .u64 B2)).kept kA
                  have r1 := ((t1.kept g2).other (C := g) (p := 3) (by omega) (.int .u8 2) (.int .u64 A2) (.int .u64 B2)).kept kA
                  have r2 := ((t2.kept g2).put (.int .u8 2) (.int .u64 A2) (.int .u64 B2)).kept kA
                  have r3 := ((t3.kept g2).other (C := g) (p := 3) (by omega) (.int .u8 2) (.int .u64 A2) (.int .u64 B2)).kept kA
                  have rx := (r3_new (set3 w2 g 3 (.int .u8 2) (.int .u64 A2) (.int .u64 B2)) 24 (.int .u8 2) (.int .u64 A2) (.int .u64 B2)).1
                  rw [size_set3] at rx
                  have rb := below_set3 (below_kept hbel hbel.size g2) hg 3 (.int .u8 2) (.int .u64 A2) (.int .u64 B2)
                  have rb2 := rb.alloc rb.size (.cells #[.int .u8 2, .int .u64 A2, .int .u64 B2] 24)
                  have kW := Kept.refl ((set3 w2 g 3 (.int .u8 2) (.int .u64 A2) (.int .u64 B2)).alloc (.cells #[.int .u8 2, .int .u64 A2, .int .u64 B2] 24))
                  clear y0 y1 y2 y3 y4 y5 z0 z1 z2 zg zg2 t0 t1 t2 t3 hbel rb kA
                  generalize hX : w2.heap.size = X at *
                  clear hX
                  generalize hY : (set3 w2 g 3 (.int .u8 2) (.int .u64 A2) (.int .u64 B2)).alloc (.cells #[.int .u8 2, .int .u64 A2, .int .u64 B2] 24) = Y at *
                  clear hY g2
                  obtain ⟨v0, v1, v2⟩ := rx
                  obtain ⟨m0, m1, m2⟩ := id r0.1
                  have e1 : IntKind.i64.wrap (((1 : Nat) : Int) + 1) = 2 := rfl
                  have e2 : IntKind.i64.wrap ((1 : Int) + 1) = 2 := rfl
                  have e3 : IntKind.i64.wrap 2 = 2 := rfl
                  have e4 : IntKind.u8.wrap 2 = 2 := rfl
                  go_region_held3 (fun w' => Kept Y w' ∧ w'.cell? ⟨X, 0, none⟩ = some (.int .u8 2) ∧ w'.cell? ⟨X, 1, none⟩ = some (.int .u64 A2) ∧ w'.cell? ⟨X, 2, none⟩ = some (.int .u64 B2) ∧ w'.cell? ⟨M, 0, none⟩ = some (.int .u8 nk) ∧ w'.cell? ⟨M, 1, none⟩ = some (.int .u64 da) ∧ w'.cell? ⟨M, 2, none⟩ = some (.int .u64 db))
                    (first | with_reducible exact ⟨kW, v0, v1, v2, m0, m1, m2⟩ | with_reducible exact ⟨kW.drew, (Kept.refl _).drew.cell v0, (Kept.refl _).drew.cell v1, (Kept.refl _).drew.cell v2, (Kept.refl _).drew.cell m0, (Kept.refl _).drew.cell m1, (Kept.refl _).drew.cell m2⟩)
                    (first
                    | (go_at_call 17; ((with_reducible refine (E2.out _).mono ?_); rintro e w' ⟨rfl, g⟩; (first | with_reducible (replace kW := kW.trans g) | (with_reducible (replace kW := kW.drew.trans g); replace g := (Kept.refl _).drew.trans g)); replace v0 := g.cell v0; replace v1 := g.cell v1; replace v2 := g.cell v2; replace m0 := g.cell m0; replace m1 := g.cell m1; replace m2 := g.cell m2; clear g))
                    | (go_at_call 17; ((with_reducible refine (E0.out _).mono ?_); rintro e w' ⟨rfl, g⟩; (first | with_reducible (replace kW := kW.trans g) | (with_reducible (replace kW := kW.drew.trans g); replace g := (Kept.refl _).drew.trans g)); replace v0 := g.cell v0; replace v1 := g.cell v1; replace v2 := g.cell v2; replace m0 := g.cell m0; replace m1 := g.cell m1; replace m2 := g.cell m2; clear g))
                    | (go_at_call 18; ((with_reducible refine (G2.out _).mono ?_); rintro e w' ⟨rfl, g⟩; (first | with_reducible (replace kW := kW.trans g) | (with_reducible (replace kW := kW.drew.trans g); replace g := (Kept.refl _).drew.trans g)); replace v0 := g.cell v0; replace v1 := g.cell v1; replace v2 := g.cell v2; replace m0 := g.cell m0; replace m1 := g.cell m1; replace m2 := g.cell m2; clear g))
                    | (go_at_call 18; ((with_reducible refine (G0.out _).mono ?_); rintro e w' ⟨rfl, g⟩; (first | with_reducible (replace kW := kW.trans g) | (with_reducible (replace kW := kW.drew.trans g); replace g := (Kept.refl _).drew.trans g)); replace v0 := g.cell v0; replace v1 := g.cell v1; replace v2 := g.cell v2; replace m0 := g.cell m0; replace m1 := g.cell m1; replace m2 := g.cell m2; clear g)))
                  rename_i hH
                  replace hH := hH.1
                  go_wp2
                  go_roundg (3 - 2)
                  case measure => omega
                  case rel => exact ⟨2, by omega, rfl, by simp, ⟨r0.kept hH, r1.kept hH, r2.kept hH, r3.kept hH⟩, below_kept rb2 rb2.size hH⟩
                · have t0 : R3 wr M 0 (.int .u8 nk) (.int .u64 da) (.int .u64 db) := s0
                  have t1 : R3 wr g 0 (.int .u8 1) (.int .u64 A1) (.int .u64 B1) := s1
                  have t2 : R3 wr g 3 (.int .u8 2) (.int .u64 A2) (.int .u64 B2) := s2
                  have t3 : R3 wr g 6 (.int .u8 3) (.int .u64 a3) (.int .u64 b3) := s3
                  clear s0 s1 s2 s3
                  have z0 : wr.cell? ⟨g, 6, none⟩ = some (.int .u8 3) := t3.1.1
                  have z1 : wr.cell? ⟨g, 7, none⟩ = some (.int .u64 a3) := t3.1.2.1
                  have z2 : wr.cell? ⟨g, 8, none⟩ = some (.int .u64 b3) := t3.1.2.2
                  have zg := t1.lt
                  go_wp2_with (go_at_call 16; ((with_reducible refine (D3.out _).mono ?_); rintro e w2 ⟨rfl, g2⟩; have y0 : w2.cell? ⟨g, 6, none⟩ = some (.int .u8 3) := (t3.kept g2).1.1; have y1 : w2.cell? ⟨g, 7, none⟩ = some (.int .u64 a3) := (t3.kept g2).1.2.1; have y2 : w2.cell? ⟨g, 8, none⟩ = some (.int .u64 b3) := (t3.kept g2).1.2.2; have y3 : w2.frozen? ⟨g, 6, none⟩ = false := (t3.kept g2).2.1; have y4 : w2.frozen? ⟨g, 7, none⟩ = false := (t3.kept g2).2.2.1; have y5 : w2.frozen? ⟨g, 8, none⟩ = false := (t3.kept g2).2.2.2; have zg2 := (t1.kept g2).lt))
                  have kA := (Kept.refl (set3 w2 g 6 (.int .u8 3) (.int .u64 A3) (.int .u64 B3))).alloc #[.int .u8 3, .int .u64 A3, .int .u64 B3] 24
                  have r0 := ((t0.kept g2).other (.inl hgM.symm) (.int .u8 3) (.int .u64 A3) (.int .u64 B3)).kept kA
                  have r1 := ((t1.kept g2).other (C := g) (p := 6) (by omega) (.int .u8 3) (.int .u64 A3) (.int .u64 B3)).kept kA
                  have r2 := ((t2.kept g2).other (C := g) (p := 6) (by omega) (.int .u8 3) (.int .u64 A3) (.int .u64 B3)).kept kA
                  have r3 := ((t3.kept g2).put (.int .u8 3) (.int .u64 A3) (.int .u64 B3)).kept kA
                  have rx := (r3_new (set3 w2 g 6 (.int .u8 3) (.int .u64 A3) (.int .u64 B3)) 24 (.int .u8 3) (.int .u64 A3) (.int .u64 B3)).1
                  rw [size_set3] at rx
                  have rb := below_set3 (below_kept hbel hbel.size g2) hg 6 (.int .u8 3) (.int .u64 A3) (.int .u64 B3)
                  have rb2 := rb.alloc rb.size (.cells #[.int .u8 3, .int .u64 A3, .int .u64 B3] 24)
                  have kW := Kept.refl ((set3 w2 g 6 (.int .u8 3) (.int .u64 A3) (.int .u64 B3)).alloc (.cells #[.int .u8 3, .int .u64 A3, .int .u64 B3] 24))
                  clear y0 y1 y2 y3 y4 y5 z0 z1 z2 zg zg2 t0 t1 t2 t3 hbel rb kA
                  generalize hX : w2.heap.size = X at *
                  clear hX
                  generalize hY : (set3 w2 g 6 (.int .u8 3) (.int .u64 A3) (.int .u64 B3)).alloc (.cells #[.int .u8 3, .int .u64 A3, .int .u64 B3] 24) = Y at *
                  clear hY g2
                  obtain ⟨v0, v1, v2⟩ := rx
                  obtain ⟨m0, m1, m2⟩ := id r0.1
                  have e1 : IntKind.i64.wrap (((2 : Nat) : Int) + 1) = 3 := rfl
                  have e2 : IntKind.i64.wrap ((2 : Int) + 1) = 3 := rfl
                  have e3 : IntKind.i64.wrap 3 = 3 := rfl
                  have e4 : IntKind.u8.wrap 3 = 3 := rfl
                  go_region_held3 (fun w' => Kept Y w' ∧ w'.cell? ⟨X, 0, none⟩ = some (.int .u8 3) ∧ w'.cell? ⟨X, 1, none⟩ = some (.int .u64 A3) ∧ w'.cell? ⟨X, 2, none⟩ = some (.int .u64 B3) ∧ w'.cell? ⟨M, 0, none⟩ = some (.int .u8 nk) ∧ w'.cell? ⟨M, 1, none⟩ = some (.int .u64 da) ∧ w'.cell? ⟨M, 2, none⟩ = some (.int .u64 db))
                    (first | with_reducible exact ⟨kW, v0, v1, v2, m0, m1, m2⟩ | with_reducible exact ⟨kW.drew, (Kept.refl _).drew.cell v0, (Kept.refl _).drew.cell v1, (Kept.refl _).drew.cell v2, (Kept.refl _).drew.cell m0, (Kept.refl _).drew.cell m1, (Kept.refl _).drew.cell m2⟩)
                    (first
                    | (go_at_call 17; ((with_reducible refine (E3.out _).mono ?_); rintro e w' ⟨rfl, g⟩; (first | with_reducible (replace kW := kW.trans g) | (with_reducible (replace kW := kW.drew.trans g); replace g := (Kept.refl _).drew.trans g)); replace v0 := g.cell v0; replace v1 := g.cell v1; replace v2 := g.cell v2; replace m0 := g.cell m0; replace m1 := g.cell m1; replace m2 := g.cell m2; clear g))
                    | (go_at_call 17; ((with_reducible refine (E0.out _).mono ?_); rintro e w' ⟨rfl, g⟩; (first | with_reducible (replace kW := kW.trans g) | (with_reducible (replace kW := kW.drew.trans g); replace g := (Kept.refl _).drew.trans g)); replace v0 := g.cell v0; replace v1 := g.cell v1; replace v2 := g.cell v2; replace m0 := g.cell m0; replace m1 := g.cell m1; replace m2 := g.cell m2; clear g))
                    | (go_at_call 18; ((with_reducible refine (G3.out _).mono ?_); rintro e w' ⟨rfl, g⟩; (first | with_reducible (replace kW := kW.trans g) | (with_reducible (replace kW := kW.drew.trans g); replace g := (Kept.refl _).drew.trans g)); replace v0 := g.cell v0; replace v1 := g.cell v1; replace v2 := g.cell v2; replace m0 := g.cell m0; replace m1 := g.cell m1; replace m2 := g.cell m2; clear g))
                    | (go_at_call 18; ((with_reducible refine (G0.out _).mono ?_); rintro e w' ⟨rfl, g⟩; (first | with_reducible (replace kW := kW.trans g) | (with_reducible (replace kW := kW.drew.trans g); replace g := (Kept.refl _).drew.trans g)); replace v0 := g.cell v0; replace v1 := g.cell v1; replace v2 := g.cell v2; replace m0 := g.cell m0; replace m1 := g.cell m1; replace m2 := g.cell m2; clear g)))
                  rename_i hH
                  replace hH := hH.1
                  go_wp2
                  go_roundg (3 - 3)
                  case measure => omega
                  case rel => exact ⟨3, by omega, rfl, by simp, ⟨r0.kept hH, r1.kept hH, r2.kept hH, r3.kept hH⟩, below_kept rb2 rb2.size hH⟩
              · obtain rfl : j = 3 := by omega
                go_wp2
                go_roundg (n - (k + 1))
                case measure => omega
                case rel => exact ⟨k + 1, T2, by omega, rfl, by simp, rfl, F3, nk, da, db, A1, B1, A2, B2, A3, B3, ⟨HTF.out.1, HTF.out.2.1, HF3.out.1, HF3.out.2⟩, N0.out, N1.out, N2.out, NN.out, s0, s1, s2, s3, hbel⟩
        · obtain rfl : k = n := by omega
          obtain ⟨F, mk, ma, mb, a1, b1, a2, b2, a3, b3, hT, t0, t1, t2, t3, s0, s1, s2, s3, hbel⟩ := hS
          go_wp2_with (go_at_call 10; ((with_reducible refine (known_any _).mono ?_); rintro e w1 ⟨rfl, g1⟩))
          go_ret
          exact ⟨rfl, below_kept hbel hbel.size g1⟩
end Go.Proofs.Ytodmjnbepfkibaa.Wd
