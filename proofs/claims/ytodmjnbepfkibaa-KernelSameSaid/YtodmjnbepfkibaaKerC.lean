/- What kernel's calls answer (Of, Fill, Decide, Until, Left, Wait, Migrate), told as numbers, for any states and numbers of 64 bits; no conditions. -/
import Derived.Test.YtodmjnbepfkibaaKerB
import Derived.Test.YtodmjnbepfkibaaKerR
import Derived.Test.YtodmjnbepfkibaaNumV
namespace Go.Proofs.Ytodmjnbepfkibaa.Wd
open Go.RowKit
set_option linter.unusedVariables false

/-! ### The answers, as numbers -/
def kfI (k a b now cap : Int) : Int := if k = 1 then sbI a now else if k = 2 then biI a b now cap else if k = 3 then fiI a b now else 0
def kdB (k a b now cap v : Int) : Bool := if k = 1 then gdB a now cap v else if k = 2 then bdB a b now cap v else if k = 3 then deB a b now cap v else false
def kdK (k a b now cap v : Int) : Int := if k = 1 then gdK 1 a now cap v else if k = 2 then bdK 2 a b now cap v else if k = 3 then deK 3 a b now cap v else k
def kdA (k a b now cap v : Int) : Int := if k = 1 then gdA a now cap v else if k = 2 then bdA a b now cap v else if k = 3 then deA a b now cap v else a
def kdT (k a b now cap v : Int) : Int := if k = 1 then gdT a b now cap v else if k = 2 then bdT a b now cap v else if k = 3 then deT a b now cap v else b
def koK (k : Int) : Int := if isK k = true then k else 0
def koA (k now cap f : Int) : Int := if k = 1 then sat (now + f) else if k = 2 then sbI cap f else if k = 3 then f else 0
def koB (k now : Int) : Int := if k = 2 then now else if k = 3 then now else 0
def koE (k : Int) : Int := if isK k = true then 0 else 27
def kuI (now f : Int) : Int := if f = 0 then 0 else sat (now + f)
def kwB (f cap v : Int) : Bool := decide (v ≤ cap ∧ cap < f + v)
def kwI (f cap v : Int) : Int := if kwB f cap v = true then f + v - cap else 0

theorem isK_no (k : Int) (h : isK k = false) : k ≠ 1 ∧ k ≠ 2 ∧ k ≠ 3 := by unfold isK at h; simp at h; omega
theorem kfI_U (k a b now cap : Int) (ha : U a) (hb : U b) (hn : U now) (hc : U cap) : U (kfI k a b now cap) := by
  unfold kfI; split; exact sbI_U _ _ ha hn; split; exact biI_U _ _ _ _ ha hb hn hc; split; exact fiI_U _ _ _ ha hb hn; exact U_zero

/-! ### Fill, Decide -/
theorem kfill_any (k a b now cap : Int) (w : World) (ha : U a) (hb : U b) (hn : U now) (hc : U cap) :
    Calls Try.prog 17 #[sta k a b, .int .u64 now, .int .u64 cap] w fun e w' => e = .returned (.int .u64 (kfI k a b now cap)) ∧ Kept w w' := by
  cases h : isK k
  · obtain ⟨h1, h2, h3⟩ := isK_no k h
    have e : kfI k a b now cap = 0 := by unfold kfI; rw [if_neg h1, if_neg h2, if_neg h3]
    rw [e]; exact kfill_no k a b now cap w h
  · rcases isK_yes k h with rfl | rfl | rfl
    · exact kfill_core1 a b now cap _ w (Lib.hid fun w => gfill_any 1 a b now cap w ha hn)
    · exact kfill_core2 a b now cap _ w (Lib.hid fun w => bfill_any 2 a b now cap w ha hb hn hc)
    · exact kfill_core3 a b now cap _ w (Lib.hid fun w => fill_any 3 a b now cap w ha hb hn)

theorem kdecide_any (k a b now cap v : Int) (w : World) (ha : U a) (hb : U b) (hn : U now) (hc : U cap) (hv : U v) :
    Calls Try.prog 16 #[sta k a b, .int .u64 now, .int .u64 cap, .int .u64 v] w fun e w' => e = .returned (.tuple #[sta (kdK k a b now cap v) (kdA k a b now cap v) (kdT k a b now cap v), .bool (kdB k a b now cap v)]) ∧ Kept w w' := by
  cases h : isK k
  · obtain ⟨h1, h2, h3⟩ := isK_no k h
    have e : kdK k a b now cap v = k ∧ kdA k a b now cap v = a ∧ kdT k a b now cap v = b ∧ kdB k a b now cap v = false := by unfold kdK kdA kdT kdB; simp [h1, h2, h3]
    rw [e.1, e.2.1, e.2.2.1, e.2.2.2]; exact kdecide_no k a b now cap v w h
  · rcases isK_yes k h with rfl | rfl | rfl
    · exact kdecide_core1 a b now cap v _ _ _ _ w (Lib.hid fun w => gdecide_any 1 a b now cap v w ha hb hn hc hv)
    · exact kdecide_core2 a b now cap v _ _ _ _ w (Lib.hid fun w => bdecide_any 2 a b now cap v w ha hb hn hc hv)
    · exact kdecide_core3 a b now cap v _ _ _ _ w (Lib.hid fun w => decide_any 3 a b now cap v w ha hb hn hc hv)

/-! ### Of -/
theorem kof_no (k now cap f : Int) (w : World) (hk : isK k = false) :
    Calls Try.prog 14 #[.int .u8 k, .int .u64 now, .int .u64 cap, .int .u64 f] w fun e w' => e = .returned (.tuple #[sta 0 0 0, .int .u16 27]) ∧ Kept w w' := by
  have e0 := kerV_no k hk
  have t0 : Row3 (w.alloc (.cells #[.int .u8 0, .int .u64 0, .int .u64 0] 24)) w.heap.size (.int .u8 0) (.int .u64 0) (.int .u64 0) := ⟨⟨by simp, by simp, by simp⟩, by simp, by simp, by simp⟩
  go_enter Try.func14, Try.ntmps14
  go_wp2_with (go_at_call 29; ((with_reducible refine (kernels_new _).mono ?_); rintro e w1 ⟨p, rfl, g1, hl⟩; replace hl := hl k _ (Kept.refl _); rw [e0, hk] at hl; replace t0 := t0.kept g1; obtain ⟨⟨x0, x1, x2⟩, y0, y1, y2⟩ := t0; have hz1 : w.heap.size < w1.heap.size := by (have := g1.size; simp at this; omega)))
  exact bodyPost_ret (v := .tuple #[sta 0 0 0, .int .u16 27]) (by simp [results, Try.results14, go_sem, *]) rfl
    ⟨rfl, ((((Kept.refl w).alloc _ _).trans g1).set3 (Nat.le_refl _) _ _ _).alloc _ _⟩

theorem kof_core1 (now cap f ok oa ob : Int) (w : World)
    (C : Hid (∀ w, Calls Try.prog 48 #[.int .u64 now, .int .u64 cap, .int .u64 f] w fun e w' => e = .returned (sta ok oa ob) ∧ Kept w w')) :
    Calls Try.prog 14 #[.int .u8 1, .int .u64 now, .int .u64 cap, .int .u64 f] w fun e w' => e = .returned (.tuple #[sta ok oa ob, .int .u16 0]) ∧ Kept w w' := by
  have hk : isK 1 = true := rfl
  have e0 : kerV 1 = kern1 := rfl
  have t0 : Row3 (w.alloc (.cells #[.int .u8 0, .int .u64 0, .int .u64 0] 24)) w.heap.size (.int .u8 0) (.int .u64 0) (.int .u64 0) := ⟨⟨by simp, by simp, by simp⟩, by simp, by simp, by simp⟩
  go_enter Try.func14, Try.ntmps14
  go_wp2_with (first
    | (go_at_call 29; ((with_reducible refine (kernels_new _).mono ?_); rintro e w1 ⟨p, rfl, g1, hl⟩; replace hl := hl 1 _ (Kept.refl _); rw [e0, hk] at hl; replace t0 := t0.kept g1))
    | (go_at_call 48; ((with_reducible refine (C.out _).mono ?_); rintro e w2 ⟨rfl, g2⟩; replace t0 := t0.kept (((Kept.refl _).alloc _ _).trans g2); obtain ⟨⟨x0, x1, x2⟩, y0, y1, y2⟩ := t0)))
  exact bodyPost_ret (v := .tuple #[sta ok oa ob, .int .u16 0]) (by simp [results, Try.results14, go_sem, *]) rfl
    ⟨rfl, (((((Kept.refl w).alloc _ _).trans g1).alloc _ _).trans g2).set3 (Nat.le_refl _) _ _ _⟩

theorem kof_core2 (now cap f ok oa ob : Int) (w : World)
    (C : Hid (∀ w, Calls Try.prog 51 #[.int .u64 now, .int .u64 cap, .int .u64 f] w fun e w' => e = .returned (sta ok oa ob) ∧ Kept w w')) :
    Calls Try.prog 14 #[.int .u8 2, .int .u64 now, .int .u64 cap, .int .u64 f] w fun e w' => e = .returned (.tuple #[sta ok oa ob, .int .u16 0]) ∧ Kept w w' := by
  have hk : isK 2 = true := rfl
  have e0 : kerV 2 = kern2 := rfl
  have t0 : Row3 (w.alloc (.cells #[.int .u8 0, .int .u64 0, .int .u64 0] 24)) w.heap.size (.int .u8 0) (.int .u64 0) (.int .u64 0) := ⟨⟨by simp, by simp, by simp⟩, by simp, by simp, by simp⟩
  go_enter Try.func14, Try.ntmps14
  go_wp2_with (first
    | (go_at_call 29; ((with_reducible refine (kernels_new _).mono ?_); rintro e w1 ⟨p, rfl, g1, hl⟩; replace hl := hl 2 _ (Kept.refl _); rw [e0, hk] at hl; replace t0 := t0.kept g1))
    | (go_at_call 51; ((with_reducible refine (C.out _).mono ?_); rintro e w2 ⟨rfl, g2⟩; replace t0 := t0.kept (((Kept.refl _).alloc _ _).trans g2); obtain ⟨⟨x0, x1, x2⟩, y0, y1, y2⟩ := t0)))
  exact bodyPost_ret (v := .tuple #[sta ok oa ob, .int .u16 0]) (by simp [results, Try.results14, go_sem, *]) rfl
    ⟨rfl, (((((Kept.refl w).alloc _ _).trans g1).alloc _ _).trans g2).set3 (Nat.le_refl _) _ _ _⟩

theorem kof_core3 (now cap f ok oa ob : Int) (w : World)
    (C : Hid (∀ w, Calls Try.prog 54 #[.int .u64 now, .int .u64 cap, .int .u64 f] w fun e w' => e = .returned (sta ok oa ob) ∧ Kept w w')) :
    Calls Try.prog 14 #[.int .u8 3, .int .u64 now, .int .u64 cap, .int .u64 f] w fun e w' => e = .returned (.tuple #[sta ok oa ob, .int .u16 0]) ∧ Kept w w' := by
  have hk : isK 3 = true := rfl
  have e0 : kerV 3 = kern3 := rfl
  have t0 : Row3 (w.alloc (.cells #[.int .u8 0, .int .u64 0, .int .u64 0] 24)) w.heap.size (.int .u8 0) (.int .u64 0) (.int .u64 0) := ⟨⟨by simp, by simp, by simp⟩, by simp, by simp, by simp⟩
  go_enter Try.func14, Try.ntmps14
  go_wp2_with (first
    | (go_at_call 29; ((with_reducible refine (kernels_new _).mono ?_); rintro e w1 ⟨p, rfl, g1, hl⟩; replace hl := hl 3 _ (Kept.refl _); rw [e0, hk] at hl; replace t0 := t0.kept g1))
    | (go_at_call 54; ((with_reducible refine (C.out _).mono ?_); rintro e w2 ⟨rfl, g2⟩; replace t0 := t0.kept (((Kept.refl _).alloc _ _).trans g2); obtain ⟨⟨x0, x1, x2⟩, y0, y1, y2⟩ := t0)))
  exact bodyPost_ret (v := .tuple #[sta ok oa ob, .int .u16 0]) (by simp [results, Try.results14, go_sem, *]) rfl
    ⟨rfl, (((((Kept.refl w).alloc _ _).trans g1).alloc _ _).trans g2).set3 (Nat.le_refl _) _ _ _⟩

theorem kof_any (k now cap f : Int) (w : World) (hn : U now) (hc : U cap) (hf : U f) :
    Calls Try.prog 14 #[.int .u8 k, .int .u64 now, .int .u64 cap, .int .u64 f] w fun e w' => e = .returned (.tuple #[sta (koK k) (koA k now cap f) (koB k now), .int .u16 (koE k)]) ∧ Kept w w' := by
  cases h : isK k
  · obtain ⟨h1, h2, h3⟩ := isK_no k h
    have e : koK k = 0 ∧ koA k now cap f = 0 ∧ koB k now = 0 ∧ koE k = 27 := by unfold koK koA koB koE; simp [h, h1, h2, h3]
    rw [e.1, e.2.1, e.2.2.1, e.2.2.2]; exact kof_no k now cap f w h
  · rcases isK_yes k h with rfl | rfl | rfl
    · exact kof_core1 now cap f _ _ _ w (Lib.hid fun w => gof_any now cap f w hn hf)
    · exact kof_core2 now cap f _ _ _ w (Lib.hid fun w => bof_any now cap f w hc hf)
    · exact kof_core3 now cap f _ _ _ w (Lib.hid fun w => of_any now cap f w)

/-! ### Until, Left, Wait -/
theorem kuntil_core (k a b now cap f : Int) (w : World) (hn : U now) (hf : U f)
    (F : Hid (∀ w, Calls Try.prog 17 #[sta k a b, .int .u64 now, .int .u64 cap] w fun e w' => e = .returned (.int .u64 f) ∧ Kept w w')) :
    Calls Try.prog 18 #[sta k a b, .int .u64 now, .int .u64 cap] w fun e w' => e = .returned (.int .u64 (kuI now f)) ∧ Kept w w' := by
  by_cases c : f = 0
  · subst c
    have e : kuI now 0 = 0 := rfl
    rw [e]; clear e
    go_enter Try.func18, Try.ntmps18
    go_wp2_with (go_at_call 17; ((with_reducible refine (F.out _).mono ?_); rintro e w1 ⟨rfl, g1⟩))
    go_ret
    exact ⟨rfl, ((Kept.refl w).alloc _ _).trans g1⟩
  · have e : kuI now f = sat (now + f) := by unfold kuI; rw [if_neg c]
    rw [e]; clear e
    have c1 : (f == 0) = false := by simpa using c
    have A := Lib.hid (fun (g c : Nat) (w : World) => num_add_two g c now f w hn hf)
    generalize sat (now + f) = x at *
    go_enter Try.func18, Try.ntmps18
    go_wp2_with (first
      | (go_at_call 17; ((with_reducible refine (F.out _).mono ?_); rintro e w1 ⟨rfl, g1⟩))
      | (go_at_call 30; ((with_reducible refine (A.out _ _ _ (by simp) (by simp)).mono ?_); rintro e w2 ⟨rfl, rfl⟩)))
    go_ret
    exact ⟨rfl, (((Kept.refl w).alloc _ _).trans g1).alloc _ _⟩
theorem kuntil_any (k a b now cap : Int) (w : World) (ha : U a) (hb : U b) (hn : U now) (hc : U cap) :
    Calls Try.prog 18 #[sta k a b, .int .u64 now, .int .u64 cap] w fun e w' => e = .returned (.int .u64 (kuI now (kfI k a b now cap))) ∧ Kept w w' :=
  kuntil_core k a b now cap _ w hn (kfI_U k a b now cap ha hb hn hc) (Lib.hid fun w => kfill_any k a b now cap w ha hb hn hc)

theorem kleft_core (k a b now cap ev f s d : Int) (w : World)
    (F : Hid (∀ w, Calls Try.prog 17 #[sta k a b, .int .u64 now, .int .u64 cap] w fun e w' => e = .returned (.int .u64 f) ∧ Kept w w'))
    (S : Hid (∀ w, Calls Try.prog 34 #[.int .u64 cap, .int .u64 f] w fun e w' => e = .returned (.int .u64 s) ∧ w = w'))
    (D : Hid (∀ w, Calls Try.prog 33 #[.int .u64 s, .int .u64 ev] w fun e w' => e = .returned (.int .u64 d) ∧ Drew w w')) :
    Calls Try.prog 21 #[sta k a b, .int .u64 now, .int .u64 cap, .int .u64 ev] w fun e w' => e = .returned (.int .u64 d) ∧ Kept w w' := by
  go_enter Try.func21, Try.ntmps21
  go_wp2_with (first
    | (go_at_call 17; ((with_reducible refine (F.out _).mono ?_); rintro e w1 ⟨rfl, g1⟩))
    | (go_at_call 34; ((with_reducible refine (S.out _).mono ?_); rintro e w2 ⟨rfl, rfl⟩))
    | (go_at_call 33; ((with_reducible refine (D.out _).mono ?_); rintro e w3 ⟨rfl, g3⟩)))
  go_ret
  exact ⟨rfl, (((Kept.refl w).alloc _ _).trans g1).trans g3.kept⟩
theorem kleft_any (k a b now cap ev : Int) (w : World) (ha : U a) (hb : U b) (hn : U now) (hc : U cap) (he : U ev) :
    Calls Try.prog 21 #[sta k a b, .int .u64 now, .int .u64 cap, .int .u64 ev] w fun e w' => e = .returned (.int .u64 (dvI (sbI cap (kfI k a b now cap)) ev)) ∧ Kept w w' :=
  have hf := kfI_U k a b now cap ha hb hn hc
  kleft_core k a b now cap ev _ _ _ w (Lib.hid fun w => kfill_any k a b now cap w ha hb hn hc) (Lib.hid fun w => num_sub _ _ w hc hf) (Lib.hid fun w => num_div _ _ w (sbI_U _ _ hc hf) he)

theorem kwait_core (k a b now cap v f : Int) (w : World) (hc : U cap) (hv : U v) (hf : U f)
    (F : Hid (∀ w, Calls Try.prog 17 #[sta k a b, .int .u64 now, .int .u64 cap] w fun e w' => e = .returned (.int .u64 f) ∧ Kept w w')) :
    Calls Try.prog 19 #[sta k a b, .int .u64 now, .int .u64 cap, .int .u64 v] w fun e w' => e = .returned (.tuple #[.int .u64 (kwI f cap v), .bool (kwB f cap v)]) ∧ Kept w w' := by
  have c2 (w : World) := num_fits f v cap w hf hv hc
  by_cases h : cap < v
  · have e : kwB f cap v = false := by unfold kwB; simp; omega
    have e2 : kwI f cap v = 0 := by unfold kwI; rw [e]; rfl
    rw [e, e2]; clear e e2
    have C2 := Lib.hid c2
    clear c2
    go_enter Try.func19, Try.ntmps19
    go_wp2_with (first
      | (go_at_call 17; ((with_reducible refine (F.out _).mono ?_); rintro e w1 ⟨rfl, g1⟩))
      | (go_at_call 31; ((with_reducible refine (C2.out _).mono ?_); rintro e w2 ⟨rfl, rfl⟩)))
    go_ret2
    exact ⟨rfl, ((Kept.refl w).alloc _ _).trans g1⟩
  · by_cases h2 : f + v ≤ cap
    · have e : kwB f cap v = false := by unfold kwB; simp; omega
      have e2 : kwI f cap v = 0 := by unfold kwI; rw [e]; rfl
      have e3 : ftB f v cap = true := by unfold ftB; simpa using h2
      rw [e, e2]; clear e e2
      rw [e3] at c2
      have C2 := Lib.hid c2
      clear c2 e3
      go_enter Try.func19, Try.ntmps19
      go_wp2_with (first
        | (go_at_call 17; ((with_reducible refine (F.out _).mono ?_); rintro e w1 ⟨rfl, g1⟩))
        | (go_at_call 31; ((with_reducible refine (C2.out _).mono ?_); rintro e w2 ⟨rfl, rfl⟩)))
      go_ret2
      exact ⟨rfl, ((Kept.refl w).alloc _ _).trans g1⟩
    · have e : kwB f cap v = true := by unfold kwB; simp; omega
      have e2 : kwI f cap v = f - (cap - v) := by unfold kwI; rw [e]; simp; omega
      have e3 : ftB f v cap = false := by unfold ftB; simpa using h2
      rw [e, e2]; clear e e2
      rw [e3] at c2
      have C2 := Lib.hid c2
      clear c2 e3
      have b1 : 0 ≤ cap - v ∧ cap - v ≤ 18446744073709551615 := by unfold U at *; omega
      have b2 : 0 ≤ f - (cap - v) ∧ f - (cap - v) ≤ 18446744073709551615 := by unfold U at *; omega
      unfold U at hc hv hf
      go_enter Try.func19, Try.ntmps19
      go_wp2_with (first
        | (go_at_call 17; ((with_reducible refine (F.out _).mono ?_); rintro e w1 ⟨rfl, g1⟩))
        | (go_at_call 31; ((with_reducible refine (C2.out _).mono ?_); rintro e w2 ⟨rfl, rfl⟩)))
      go_ret2
      exact ⟨rfl, ((Kept.refl w).alloc _ _).trans g1⟩
theorem kwait_any (k a b now cap v : Int) (w : World) (ha : U a) (hb : U b) (hn : U now) (hc : U cap) (hv : U v) :
    Calls Try.prog 19 #[sta k a b, .int .u64 now, .int .u64 cap, .int .u64 v] w fun e w' => e = .returned (.tuple #[.int .u64 (kwI (kfI k a b now cap) cap v), .bool (kwB (kfI k a b now cap) cap v)]) ∧ Kept w w' :=
  kwait_core k a b now cap v _ w hc hv (kfI_U k a b now cap ha hb hn hc) (Lib.hid fun w => kfill_any k a b now cap w ha hb hn hc)

/-! ### Migrate -/
def kmK (k to : Int) : Int := if isK k = true then koK to else 0
def kmA (k a b to now cap : Int) : Int := if isK k = true then koA to now cap (kfI k a b now cap) else 0
def kmB (k to now : Int) : Int := if isK k = true then koB to now else 0
def kmE (k to : Int) : Int := if isK k = true then koE to else 27
theorem kmigrate_any (k a b to now cap : Int) (w : World) (ha : U a) (hb : U b) (hn : U now) (hc : U cap) :
    Calls Try.prog 15 #[sta k a b, .int .u8 to, .int .u64 now, .int .u64 cap] w fun e w' => e = .returned (.tuple #[sta (kmK k to) (kmA k a b to now cap) (kmB k to now), .int .u16 (kmE k to)]) ∧ Kept w w' := by
  have r (w : World) := right_any k w
  unfold kmK kmA kmB kmE
  cases h : isK k
  · rw [h] at r
    have R := Lib.hid r
    clear r
    simp only [Bool.false_eq_true, if_false]
    go_enter Try.func15, Try.ntmps15
    go_wp2_with (go_at_call 12; ((with_reducible refine (R.out _).mono ?_); rintro e w1 ⟨rfl, g1⟩; obtain ⟨hc1, hf1⟩ := g1.reads; have hz1 : w.heap.size < w1.heap.size ∧ w.heap.size + 1 < w1.heap.size := by (have := g1.size; simp at this; omega)))
    exact bodyPost_ret (v := .tuple #[sta 0 0 0, .int .u16 27]) (by simp [results, Try.results15, go_sem, hc1]) rfl
      ⟨rfl, ((((Kept.refl w).alloc _ _).alloc _ _).trans g1).set3 (Nat.le_succ _) _ _ _⟩
  · rw [h] at r
    have R := Lib.hid r
    clear r
    simp only [if_true]
    have hf := kfI_U k a b now cap ha hb hn hc
    have F := Lib.hid (fun w => kfill_any k a b now cap w ha hb hn hc)
    generalize kfI k a b now cap = f at *
    have O := Lib.hid (fun w => kof_any to now cap f w hn hc hf)
    generalize koK to = ok at *
    generalize koA to now cap f = oa at *
    generalize koB to now = ob at *
    generalize koE to = oe at *
    go_enter Try.func15, Try.ntmps15
    go_wp2_with (first
      | (go_at_call 12; ((with_reducible refine (R.out _).mono ?_); rintro e w1 ⟨rfl, g1⟩; obtain ⟨hc1, hf1⟩ := g1.reads; have hz1 : w.heap.size < w1.heap.size ∧ w.heap.size + 1 < w1.heap.size := by (have := g1.size; simp at this; omega)))
      | (go_at_call 17; ((with_reducible refine (F.out _).mono ?_); rintro e w2 ⟨rfl, g2⟩; obtain ⟨hc2, hf2⟩ := g2.reads; have hz2 : w.heap.size + 1 < w2.heap.size := by (have := g2.size; omega)))
      | (go_at_call 14; ((with_reducible refine (O.out _).mono ?_); rintro e w3 ⟨rfl, g3⟩; obtain ⟨hc3, hf3⟩ := g3.reads; have hz3 : w.heap.size + 1 < w3.heap.size := by (have := g3.size; omega))))
    exact bodyPost_ret (v := .tuple #[sta ok oa ob, .int .u16 oe]) (by simp [results, Try.results15, go_sem, hc1, hc2, hc3, hz1, hz2]) rfl
      ⟨rfl, (((((Kept.refl w).alloc _ _).alloc _ _).trans g1).trans g2 |>.trans g3).set3 (Nat.le_succ _) _ _ _⟩
end Go.Proofs.Ytodmjnbepfkibaa.Wd
