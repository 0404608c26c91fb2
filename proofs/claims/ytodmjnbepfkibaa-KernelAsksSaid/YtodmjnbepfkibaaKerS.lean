/- What the document's own answers of chapter 7 are: the same as the program's; for any states and numbers of 64 bits; no conditions. -/
import Derived.Test.YtodmjnbepfkibaaKerK
import Derived.Test.YtodmjnbepfkibaaKerW1
namespace Go.Proofs.Ytodmjnbepfkibaa.Wd
open Go.RowKit
set_option linter.unusedVariables false

theorem rright_any (k : Int) (w : World) :
    Calls Try.prog 13 #[.int .u8 k] w fun e w' => e = .returned (.bool (isK k)) ∧ w = w' := by
  unfold isK
  by_cases h : 1 ≤ k
  · by_cases h2 : k ≤ 3
    · have e : decide (1 ≤ k ∧ k ≤ 3) = true := by simp; omega
      rw [e]
      clear e
      go_enter Try.func13, Try.ntmps13
      go_wp2
      go_ret
      exact ⟨rfl, rfl⟩
    · have e : decide (1 ≤ k ∧ k ≤ 3) = false := by simp; omega
      rw [e]
      clear e
      have h3 : decide (k ≤ 3) = false := by simpa using h2
      clear h2
      go_enter Try.func13, Try.ntmps13
      go_wp2
      go_ret
      exact ⟨rfl, rfl⟩
  · have e : decide (1 ≤ k ∧ k ≤ 3) = false := by simp; omega
    rw [e]
    clear e
    have h3 : decide (1 ≤ k) = false := by simpa using h
    clear h
    go_enter Try.func13, Try.ntmps13
    go_wp2
    go_ret
    exact ⟨rfl, rfl⟩

theorem kind_cases (k : Int) : (k = 1 ∨ k = 2 ∨ k = 3) ∨ ((k == 1) = false ∧ (k == 2) = false ∧ (k == 3) = false) := by
  by_cases h1 : k = 1
  · exact .inl (.inl h1)
  by_cases h2 : k = 2
  · exact .inl (.inr (.inl h2))
  by_cases h3 : k = 3
  · exact .inl (.inr (.inr h3))
  right; simp [h1, h2, h3]

theorem krfill_any (k a b now cap : Int) (w : World) (ha : U a) (hb : U b) (hn : U now) (hc : U cap) :
    Calls Try.prog 26 #[sta k a b, .int .u64 now, .int .u64 cap] w fun e w' => e = .returned (.int .u64 (kfI k a b now cap)) ∧ Kept w w' := by
  rcases kind_cases k with (rfl | rfl | rfl) | ⟨n1, n2, n3⟩
  · have e : kfI 1 a b now cap = sbI a now := rfl
    rw [e]; clear e
    have C := Lib.hid (fun w => grfill_any 1 a b now w ha hn)
    generalize sbI a now = x at *
    go_enter Try.func26, Try.ntmps26
    go_wp2_with (go_at_call 42; ((with_reducible refine (C.out _).mono ?_); rintro e w1 ⟨rfl, g1⟩))
    go_ret
    exact ⟨rfl, ((Kept.refl w).alloc _ _).trans g1⟩
  · have e : kfI 2 a b now cap = biI a b now cap := rfl
    rw [e]; clear e
    have C := Lib.hid (fun w => brfill_any 2 a b now cap w ha hb hn hc)
    generalize biI a b now cap = x at *
    go_enter Try.func26, Try.ntmps26
    go_wp2_with (go_at_call 43; ((with_reducible refine (C.out _).mono ?_); rintro e w1 ⟨rfl, g1⟩))
    go_ret
    exact ⟨rfl, ((Kept.refl w).alloc _ _).trans g1⟩
  · have e : kfI 3 a b now cap = fiI a b now := rfl
    rw [e]; clear e
    have C := Lib.hid (fun w => lrfill_any 3 a b now w ha hb hn)
    generalize fiI a b now = x at *
    go_enter Try.func26, Try.ntmps26
    go_wp2_with (go_at_call 44; ((with_reducible refine (C.out _).mono ?_); rintro e w1 ⟨rfl, g1⟩))
    go_ret
    exact ⟨rfl, ((Kept.refl w).alloc _ _).trans g1⟩
  · have e : kfI k a b now cap = 0 := by simp at n1 n2 n3; unfold kfI; simp [n1, n2, n3]
    rw [e]; clear e
    go_enter Try.func26, Try.ntmps26
    go_wp2
    go_ret
    exact ⟨rfl, (Kept.refl w).alloc _ _⟩

theorem krof_any (k now cap f : Int) (w : World) (hn : U now) (hc : U cap) (hf : U f) :
    Calls Try.prog 23 #[.int .u8 k, .int .u64 now, .int .u64 cap, .int .u64 f] w fun e w' => e = .returned (.tuple #[sta (koK k) (koA k now cap f) (koB k now), .int .i64 (koE k)]) ∧ Kept w w' := by
  have t0 := row3_new w 24 (.int .u8 0) (.int .u64 0) (.int .u64 0)
  rcases kind_cases k with (rfl | rfl | rfl) | ⟨n1, n2, n3⟩
  · have C := Lib.hid (fun w => grof_any now f w hn hf)
    have e : koK 1 = 1 ∧ koA 1 now cap f = sat (now + f) ∧ koB 1 now = 0 ∧ koE 1 = 0 := ⟨rfl, rfl, rfl, rfl⟩
    rw [e.1, e.2.1, e.2.2.1, e.2.2.2]; clear e
    generalize sat (now + f) = x at *
    go_enter Try.func23, Try.ntmps23
    go_wp2_with (go_at_call 38; ((with_reducible refine (C.out _).mono ?_); rintro e w1 ⟨rfl, g1⟩; replace t0 := t0.kept g1; obtain ⟨⟨x0, x1, x2⟩, y0, y1, y2⟩ := t0))
    exact bodyPost_ret (v := .tuple #[sta 1 x 0, .int .i64 0]) (by simp [results, Try.results23, go_sem, *]) rfl ⟨rfl, (((Kept.refl w).alloc _ _).trans g1).set3 (Nat.le_refl _) _ _ _⟩
  · have C := Lib.hid (fun w => brof_any now cap f w hc hf)
    have e : koK 2 = 2 ∧ koA 2 now cap f = sbI cap f ∧ koB 2 now = now ∧ koE 2 = 0 := ⟨rfl, rfl, rfl, rfl⟩
    rw [e.1, e.2.1, e.2.2.1, e.2.2.2]; clear e
    generalize sbI cap f = x at *
    go_enter Try.func23, Try.ntmps23
    go_wp2_with (go_at_call 39; ((with_reducible refine (C.out _).mono ?_); rintro e w1 ⟨rfl, g1⟩; replace t0 := t0.kept g1; obtain ⟨⟨x0, x1, x2⟩, y0, y1, y2⟩ := t0))
    exact bodyPost_ret (v := .tuple #[sta 2 x now, .int .i64 0]) (by simp [results, Try.results23, go_sem, *]) rfl ⟨rfl, (((Kept.refl w).alloc _ _).trans g1).set3 (Nat.le_refl _) _ _ _⟩
  · have C := Lib.hid (fun w => lrof_any now f w)
    have e : koK 3 = 3 ∧ koA 3 now cap f = f ∧ koB 3 now = now ∧ koE 3 = 0 := ⟨rfl, rfl, rfl, rfl⟩
    rw [e.1, e.2.1, e.2.2.1, e.2.2.2]; clear e
    go_enter Try.func23, Try.ntmps23
    go_wp2_with (go_at_call 40; ((with_reducible refine (C.out _).mono ?_); rintro e w1 ⟨rfl, g1⟩; replace t0 := t0.kept g1; obtain ⟨⟨x0, x1, x2⟩, y0, y1, y2⟩ := t0))
    exact bodyPost_ret (v := .tuple #[sta 3 f now, .int .i64 0]) (by simp [results, Try.results23, go_sem, *]) rfl ⟨rfl, (((Kept.refl w).alloc _ _).trans g1).set3 (Nat.le_refl _) _ _ _⟩
  · have e : koK k = 0 ∧ koA k now cap f = 0 ∧ koB k now = 0 ∧ koE k = 27 := by
      have h : isK k = false := by simp at n1 n2 n3; unfold isK; simp; omega
      simp at n1 n2 n3
      unfold koK koA koB koE; simp [h, n1, n2, n3]
    rw [e.1, e.2.1, e.2.2.1, e.2.2.2]; clear e
    go_enter Try.func23, Try.ntmps23
    go_wp2
    exact bodyPost_ret (v := .tuple #[sta 0 0 0, .int .i64 27]) (by simp [results, Try.results23, go_sem]) rfl ⟨rfl, (Kept.refl w).alloc _ _⟩
theorem krdecide_core1 (a b now cap v dk da dt : Int) (pp : Bool) (w : World)
    (C : Hid (∀ w, Calls Try.prog 35 #[sta 1 a b, .int .u64 now, .int .u64 cap, .int .u64 v] w fun e w' => e = .returned (.tuple #[sta dk da dt, .bool pp]) ∧ Kept w w')) :
    Calls Try.prog 22 #[sta 1 a b, .int .u64 now, .int .u64 cap, .int .u64 v] w fun e w' => e = .returned (.tuple #[sta dk da dt, .bool pp]) ∧ Kept w w' := by
  have t1 := (row3_new (w.alloc (.cells #[.int .u8 1, .int .u64 a, .int .u64 b] 24)) 24 (.int .u8 0) (.int .u64 0) (.int .u64 0)).kept ((Kept.refl _).alloc #[.int .u8 1, .int .u64 a, .int .u64 b] 24)
  have t2 := row3_new ((w.alloc (.cells #[.int .u8 1, .int .u64 a, .int .u64 b] 24)).alloc (.cells #[.int .u8 0, .int .u64 0, .int .u64 0] 24)) 24 (.int .u8 1) (.int .u64 a) (.int .u64 b)
  rw [show (w.alloc (.cells #[.int .u8 1, .int .u64 a, .int .u64 b] 24)).heap.size = w.heap.size + 1 by simp] at t1
  rw [show ((w.alloc (.cells #[.int .u8 1, .int .u64 a, .int .u64 b] 24)).alloc (.cells #[.int .u8 0, .int .u64 0, .int .u64 0] 24)).heap.size = w.heap.size + 2 by simp] at t2
  go_enter Try.func22, Try.ntmps22
  go_wp2_with (go_at_call 35; ((with_reducible refine (C.out _).mono ?_); rintro e w1 ⟨rfl, g1⟩; replace t1 := t1.kept g1; replace t2 := t2.kept g1; obtain ⟨⟨x0, x1, x2⟩, y0, y1, y2⟩ := t1; obtain ⟨⟨p0, p1, p2⟩, q0, q1, q2⟩ := t2))
  exact bodyPost_ret (v := .tuple #[sta dk da dt, .bool pp]) (by simp [results, Try.results22, go_sem, *]) rfl
    ⟨rfl, ((((((Kept.refl w).alloc _ _).alloc _ _).alloc _ _).trans g1).set3 (by omega) _ _ _).set3 (by omega) _ _ _⟩

theorem krdecide_core2 (a b now cap v dk da dt : Int) (pp : Bool) (w : World)
    (C : Hid (∀ w, Calls Try.prog 36 #[sta 2 a b, .int .u64 now, .int .u64 cap, .int .u64 v] w fun e w' => e = .returned (.tuple #[sta dk da dt, .bool pp]) ∧ Kept w w')) :
    Calls Try.prog 22 #[sta 2 a b, .int .u64 now, .int .u64 cap, .int .u64 v] w fun e w' => e = .returned (.tuple #[sta dk da dt, .bool pp]) ∧ Kept w w' := by
  have t1 := (row3_new (w.alloc (.cells #[.int .u8 2, .int .u64 a, .int .u64 b] 24)) 24 (.int .u8 0) (.int .u64 0) (.int .u64 0)).kept ((Kept.refl _).alloc #[.int .u8 2, .int .u64 a, .int .u64 b] 24)
  have t2 := row3_new ((w.alloc (.cells #[.int .u8 2, .int .u64 a, .int .u64 b] 24)).alloc (.cells #[.int .u8 0, .int .u64 0, .int .u64 0] 24)) 24 (.int .u8 2) (.int .u64 a) (.int .u64 b)
  rw [show (w.alloc (.cells #[.int .u8 2, .int .u64 a, .int .u64 b] 24)).heap.size = w.heap.size + 1 by simp] at t1
  rw [show ((w.alloc (.cells #[.int .u8 2, .int .u64 a, .int .u64 b] 24)).alloc (.cells #[.int .u8 0, .int .u64 0, .int .u64 0] 24)).heap.size = w.heap.size + 2 by simp] at t2
  go_enter Try.func22, Try.ntmps22
  go_wp2_with (go_at_call 36; ((with_reducible refine (C.out _).mono ?_); rintro e w1 ⟨rfl, g1⟩; replace t1 := t1.kept g1; replace t2 := t2.kept g1; obtain ⟨⟨x0, x1, x2⟩, y0, y1, y2⟩ := t1; obtain ⟨⟨p0, p1, p2⟩, q0, q1, q2⟩ := t2))
  exact bodyPost_ret (v := .tuple #[sta dk da dt, .bool pp]) (by simp [results, Try.results22, go_sem, *]) rfl
    ⟨rfl, ((((((Kept.refl w).alloc _ _).alloc _ _).alloc _ _).trans g1).set3 (by omega) _ _ _).set3 (by omega) _ _ _⟩

theorem krdecide_core3 (a b now cap v dk da dt : Int) (pp : Bool) (w : World)
    (C : Hid (∀ w, Calls Try.prog 37 #[sta 3 a b, .int .u64 now, .int .u64 cap, .int .u64 v] w fun e w' => e = .returned (.tuple #[sta dk da dt, .bool pp]) ∧ Kept w w')) :
    Calls Try.prog 22 #[sta 3 a b, .int .u64 now, .int .u64 cap, .int .u64 v] w fun e w' => e = .returned (.tuple #[sta dk da dt, .bool pp]) ∧ Kept w w' := by
  have t1 := (row3_new (w.alloc (.cells #[.int .u8 3, .int .u64 a, .int .u64 b] 24)) 24 (.int .u8 0) (.int .u64 0) (.int .u64 0)).kept ((Kept.refl _).alloc #[.int .u8 3, .int .u64 a, .int .u64 b] 24)
  have t2 := row3_new ((w.alloc (.cells #[.int .u8 3, .int .u64 a, .int .u64 b] 24)).alloc (.cells #[.int .u8 0, .int .u64 0, .int .u64 0] 24)) 24 (.int .u8 3) (.int .u64 a) (.int .u64 b)
  rw [show (w.alloc (.cells #[.int .u8 3, .int .u64 a, .int .u64 b] 24)).heap.size = w.heap.size + 1 by simp] at t1
  rw [show ((w.alloc (.cells #[.int .u8 3, .int .u64 a, .int .u64 b] 24)).alloc (.cells #[.int .u8 0, .int .u64 0, .int .u64 0] 24)).heap.size = w.heap.size + 2 by simp] at t2
  go_enter Try.func22, Try.ntmps22
  go_wp2_with (go_at_call 37; ((with_reducible refine (C.out _).mono ?_); rintro e w1 ⟨rfl, g1⟩; replace t1 := t1.kept g1; replace t2 := t2.kept g1; obtain ⟨⟨x0, x1, x2⟩, y0, y1, y2⟩ := t1; obtain ⟨⟨p0, p1, p2⟩, q0, q1, q2⟩ := t2))
  exact bodyPost_ret (v := .tuple #[sta dk da dt, .bool pp]) (by simp [results, Try.results22, go_sem, *]) rfl
    ⟨rfl, ((((((Kept.refl w).alloc _ _).alloc _ _).alloc _ _).trans g1).set3 (by omega) _ _ _).set3 (by omega) _ _ _⟩

theorem krdecide_any (k a b now cap v : Int) (w : World) (ha : U a) (hb : U b) (hn : U now) (hc : U cap) (hv : U v) :
    Calls Try.prog 22 #[sta k a b, .int .u64 now, .int .u64 cap, .int .u64 v] w fun e w' => e = .returned (.tuple #[sta (kdK k a b now cap v) (kdA k a b now cap v) (kdT k a b now cap v), .bool (kdB k a b now cap v)]) ∧ Kept w w' := by
  rcases kind_cases k with (rfl | rfl | rfl) | ⟨n1, n2, n3⟩
  · exact krdecide_core1 a b now cap v _ _ _ _ w (Lib.hid fun w => grdecide_any 1 a b now cap v w ha hb hn hc hv)
  · exact krdecide_core2 a b now cap v _ _ _ _ w (Lib.hid fun w => brdecide_any 2 a b now cap v w ha hb hn hc hv)
  · exact krdecide_core3 a b now cap v _ _ _ _ w (Lib.hid fun w => lrdecide_any 3 a b now cap v w ha hb hn hc hv)
  · have e : kdK k a b now cap v = k ∧ kdA k a b now cap v = a ∧ kdT k a b now cap v = b ∧ kdB k a b now cap v = false := by
      simp at n1 n2 n3; unfold kdK kdA kdT kdB; simp [n1, n2, n3]
    rw [e.1, e.2.1, e.2.2.1, e.2.2.2]; clear e
    go_enter Try.func22, Try.ntmps22
    go_wp2
    exact bodyPost_ret (v := .tuple #[sta k a b, .bool false]) (by simp [results, Try.results22, go_sem]) rfl
      ⟨rfl, (((Kept.refl w).alloc _ _).alloc _ _).alloc _ _⟩

theorem kruntil_core (k a b now cap f : Int) (w : World) (hn : U now) (hf : U f)
    (F : Hid (∀ w, Calls Try.prog 26 #[sta k a b, .int .u64 now, .int .u64 cap] w fun e w' => e = .returned (.int .u64 f) ∧ Kept w w')) :
    Calls Try.prog 27 #[sta k a b, .int .u64 now, .int .u64 cap] w fun e w' => e = .returned (.int .u64 (kuI now f)) ∧ Kept w w' := by
  by_cases c : f = 0
  · subst c
    have e : kuI now 0 = 0 := rfl
    rw [e]; clear e
    go_enter Try.func27, Try.ntmps27
    go_wp2_with (go_at_call 26; ((with_reducible refine (F.out _).mono ?_); rintro e w1 ⟨rfl, g1⟩))
    go_ret
    exact ⟨rfl, ((Kept.refl w).alloc _ _).trans g1⟩
  · have e : kuI now f = sat (now + f) := by unfold kuI; rw [if_neg c]
    rw [e]; clear e
    have c1 : (f == 0) = false := by simpa using c
    have A := Lib.hid (fun (w : World) => ref_add now f w hn hf)
    generalize sat (now + f) = x at *
    go_enter Try.func27, Try.ntmps27
    go_wp2_with (first
      | (go_at_call 26; ((with_reducible refine (F.out _).mono ?_); rintro e w1 ⟨rfl, g1⟩))
      | (go_at_call 45; ((with_reducible refine (A.out _).mono ?_); rintro e w2 ⟨rfl, rfl⟩)))
    go_ret
    exact ⟨rfl, ((Kept.refl w).alloc _ _).trans g1⟩

theorem krleft_core (k a b now cap ev f s d : Int) (w : World)
    (F : Hid (∀ w, Calls Try.prog 26 #[sta k a b, .int .u64 now, .int .u64 cap] w fun e w' => e = .returned (.int .u64 f) ∧ Kept w w'))
    (S : Hid (∀ w, Calls Try.prog 47 #[.int .u64 cap, .int .u64 f] w fun e w' => e = .returned (.int .u64 s) ∧ w = w'))
    (D : Hid (∀ w, Calls Try.prog 46 #[.int .u64 s, .int .u64 ev] w fun e w' => e = .returned (.int .u64 d) ∧ w = w')) :
    Calls Try.prog 28 #[sta k a b, .int .u64 now, .int .u64 cap, .int .u64 ev] w fun e w' => e = .returned (.int .u64 d) ∧ Kept w w' := by
  go_enter Try.func28, Try.ntmps28
  go_wp2_with (first
    | (go_at_call 26; ((with_reducible refine (F.out _).mono ?_); rintro e w1 ⟨rfl, g1⟩))
    | (go_at_call 47; ((with_reducible refine (S.out _).mono ?_); rintro e w2 ⟨rfl, rfl⟩))
    | (go_at_call 46; ((with_reducible refine (D.out _).mono ?_); rintro e w3 ⟨rfl, rfl⟩)))
  go_ret
  exact ⟨rfl, ((Kept.refl w).alloc _ _).trans g1⟩

theorem krwait_core (k a b now cap v f : Int) (w : World) (hc : U cap) (hv : U v) (hf : U f)
    (F : Hid (∀ w, Calls Try.prog 26 #[sta k a b, .int .u64 now, .int .u64 cap] w fun e w' => e = .returned (.int .u64 f) ∧ Kept w w')) :
    Calls Try.prog 25 #[sta k a b, .int .u64 now, .int .u64 cap, .int .u64 v] w fun e w' => e = .returned (.tuple #[.int .u64 (kwI f cap v), .bool (kwB f cap v)]) ∧ Kept w w' := by
  have c2 (w : World) := ref_fits f v cap w hf hv hc
  by_cases h : cap < v
  · have e : kwB f cap v = false := by unfold kwB; simp; omega
    have e2 : kwI f cap v = 0 := by unfold kwI; rw [e]; rfl
    rw [e, e2]; clear e e2
    have C2 := Lib.hid c2
    clear c2
    go_enter Try.func25, Try.ntmps25
    go_wp2_with (first
      | (go_at_call 26; ((with_reducible refine (F.out _).mono ?_); rintro e w1 ⟨rfl, g1⟩))
      | (go_at_call 41; ((with_reducible refine (C2.out _).mono ?_); rintro e w2 ⟨rfl, rfl⟩)))
    go_ret2
    exact ⟨rfl, ((Kept.refl w).alloc _ _).trans g1⟩
  · by_cases h2 : f + v ≤ cap
    · have e : kwB f cap v = false := by unfold kwB; simp; omega
      have e2 : kwI f cap v = 0 := by unfold kwI; rw [e]; rfl
      have e3 : ftB f v cap = true := by unfold ftB; simpa using h2
      rw [e, e2]; clear e e2
      rw [e3] at c2
      have C2 := Lib.hid c2
      clear c2 e3
      go_enter Try.func25, Try.ntmps25
      go_wp2_with (first
        | (go_at_call 26; ((with_reducible refine (F.out _).mono ?_); rintro e w1 ⟨rfl, g1⟩))
        | (go_at_call 41; ((with_reducible refine (C2.out _).mono ?_); rintro e w2 ⟨rfl, rfl⟩)))
      go_ret2
      exact ⟨rfl, ((Kept.refl w).alloc _ _).trans g1⟩
    · have e : kwB f cap v = true := by unfold kwB; simp; omega
      have e2 : kwI f cap v = f - (cap - v) := by unfold kwI; rw [e]; simp; omega
      have e3 : ftB f v cap = false := by unfold ftB; simpa using h2
      rw [e, e2]; clear e e2
      rw [e3] at c2
      have C2 := Lib.hid c2
      clear c2 e3
      have b1 : 0 ≤ cap - v ∧ cap - v ≤ 18446744073709551615 := by unfold U at *; omega
      have b2 : 0 ≤ f - (cap - v) ∧ f - (cap - v) ≤ 18446744073709551615 := by unfold U at *; omega
      unfold U at hc hv hf
      go_enter Try.func25, Try.ntmps25
      go_wp2_with (first
        | (go_at_call 26; ((with_reducible refine (F.out _).mono ?_); rintro e w1 ⟨rfl, g1⟩))
        | (go_at_call 41; ((with_reducible refine (C2.out _).mono ?_); rintro e w2 ⟨rfl, rfl⟩)))
      go_ret2
      exact ⟨rfl, ((Kept.refl w).alloc _ _).trans g1⟩

theorem krmigrate_any (k a b to now cap : Int) (w : World) (ha : U a) (hb : U b) (hn : U now) (hc : U cap) :
    Calls Try.prog 24 #[sta k a b, .int .u8 to, .int .u64 now, .int .u64 cap] w fun e w' => e = .returned (.tuple #[sta (kmK k to) (kmA k a b to now cap) (kmB k to now), .int .i64 (kmE k to)]) ∧ Kept w w' := by
  have r1 (w : World) := rright_any to w
  have r2 (w : World) := rright_any k w
  have s0 := (row3_new w 24 (.int .u8 k) (.int .u64 a) (.int .u64 b)).kept ((Kept.refl _).alloc #[.int .u8 0, .int .u64 0, .int .u64 0] 24)
  have t1 := row3_new (w.alloc (.cells #[.int .u8 k, .int .u64 a, .int .u64 b] 24)) 24 (.int .u8 0) (.int .u64 0) (.int .u64 0)
  rw [show (w.alloc (.cells #[.int .u8 k, .int .u64 a, .int .u64 b] 24)).heap.size = w.heap.size + 1 by simp] at t1
  have h27 (h : isK to = false ∨ isK k = false) : kmK k to = 0 ∧ kmA k a b to now cap = 0 ∧ kmB k to now = 0 ∧ kmE k to = 27 := by
    rcases h with h | h
    · obtain ⟨n1, n2, n3⟩ := isK_no to h
      unfold kmK kmA kmB kmE koK koA koB koE; simp [h, n1, n2, n3]
    · unfold kmK kmA kmB kmE; simp [h]
  cases h1 : isK to
  · obtain ⟨e1, e2, e3, e4⟩ := h27 (.inl h1)
    rw [e1, e2, e3, e4]; clear e1 e2 e3 e4 h27
    rw [h1] at r1
    have R1 := Lib.hid r1
    have R2 := Lib.hid r2
    clear r1 r2
    go_enter Try.func24, Try.ntmps24
    go_wp2_with (go_at_call 13; ((with_reducible refine (R1.out _).mono ?_); rintro e w1 ⟨rfl, rfl⟩))
    exact bodyPost_ret (v := .tuple #[sta 0 0 0, .int .i64 27]) (by simp [results, Try.results24, go_sem]) rfl
      ⟨rfl, ((Kept.refl w).alloc _ _).alloc _ _⟩
  · cases h2 : isK k
    · obtain ⟨e1, e2, e3, e4⟩ := h27 (.inr h2)
      rw [e1, e2, e3, e4]; clear e1 e2 e3 e4 h27
      rw [h1] at r1
      rw [h2] at r2
      have R1 := Lib.hid r1
      have R2 := Lib.hid r2
      clear r1 r2
      go_enter Try.func24, Try.ntmps24
      go_wp2_with fail
      refine (R1.out _).mono ?_
      rintro e w1 ⟨rfl, rfl⟩
      go_wp2_with fail
      refine (R2.out _).mono ?_
      rintro e w1 ⟨rfl, rfl⟩
      go_wp2
      exact bodyPost_ret (v := .tuple #[sta 0 0 0, .int .i64 27]) (by simp [results, Try.results24, go_sem]) rfl
        ⟨rfl, ((Kept.refl w).alloc _ _).alloc _ _⟩
    · clear h27
      rw [h1] at r1
      rw [h2] at r2
      have R1 := Lib.hid r1
      have R2 := Lib.hid r2
      clear r1 r2
      unfold kmK kmA kmB kmE
      simp only [h2, if_true]
      have hf := kfI_U k a b now cap ha hb hn hc
      have F := Lib.hid (fun w => krfill_any k a b now cap w ha hb hn hc)
      generalize kfI k a b now cap = f at *
      have O := Lib.hid (fun w => krof_any to now cap f w hn hc hf)
      generalize koK to = ok at *
      generalize koA to now cap f = oa at *
      generalize koB to now = ob at *
      generalize koE to = oe at *
      go_enter Try.func24, Try.ntmps24
      go_wp2_with fail
      refine (R1.out _).mono ?_
      rintro e w1 ⟨rfl, rfl⟩
      go_wp2_with fail
      refine (R2.out _).mono ?_
      rintro e w1 ⟨rfl, rfl⟩
      go_wp2_with (first
        | (go_at_call 26; ((with_reducible refine (F.out _).mono ?_); rintro e w2 ⟨rfl, g2⟩; replace t1 := t1.kept g2))
        | (go_at_call 23; ((with_reducible refine (O.out _).mono ?_); rintro e w3 ⟨rfl, g3⟩; replace t1 := t1.kept g3; obtain ⟨⟨x0, x1, x2⟩, y0, y1, y2⟩ := id t1; have hz := t1.lt)))
      refine bodyPost_ret (v := .tuple #[sta ok oa ob, .int .i64 oe]) (by simp [results, Try.results24, go_sem, *]) rfl
        ⟨rfl, ?_⟩
      exact (((((Kept.refl w).alloc _ _).alloc _ _).trans g2).trans g3 |>.set3 (by omega) _ _ _).alloc _ _
end Go.Proofs.Ytodmjnbepfkibaa.Wd
