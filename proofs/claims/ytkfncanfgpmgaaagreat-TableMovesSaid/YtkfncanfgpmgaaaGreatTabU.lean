/- A queue of slots in memory: container/heap's up, down, over it; no conditions but those that each names. -/
import Derived.Test.YtkfncanfgpmgaaaGreatTabU0
import Derived.LoopTactic
namespace Go.Proofs.YtkfncanfgpmgaaaGreat.Wd
open Go Go.RowKit Go.Shelf
set_option linter.unusedVariables false
set_option maxRecDepth 100000

/-- Who is due no later. -/
abbrev dueR (F : Nat → Sl × Int) : Nat → Nat → Prop := fun x y => (F x).2 ≤ (F y).2
theorem dueR_tr (F : Nat → Sl × Int) (x y z : Nat) (h : dueR F x y) (g : dueR F y z) : dueR F x z := Int.le_trans h g
theorem dueR_rf (F : Nat → Sl × Int) (x : Nat) : dueR F x x := Int.le_refl _
abbrev qif (T : Nat) : Value := .iface Tpq (.pointer (some ⟨T, 3, none⟩))
theorem i_par {k : Nat} (h : 0 < k) : ((k : Int) - 1) / 2 = (par k : Int) := by unfold par; omega

theorem up_any (T A n cap n0 : Nat) (F : Nat → Sl × Int) (j : Nat) (q : Nat → Nat) (w : World) (h : Que w T A n cap q F) (hn : n0 ≤ n) (hj : j < n0) (hu : Upw (dueR F) n0 j q) :
    Calls Tryz.prog 147 #[qif T, .int .i64 j] w fun e w' => e = .returned (.tuple #[]) ∧ ∃ q', Mv 0 n0 q q' ∧ Ord (dueR F) 0 n0 q' ∧ Que w' T A n cap q' F ∧ Tch (QB A n q) w w' := by
  have hcap := h.cap
  have H0 := Lib.hid h
  have HU := Lib.hid hu
  clear h hu
  go_enter Tryz.func147, Tryz.ntmps147
  go_wp2
  go_loopw [1] (fun i wr => ∃ (k : Nat) (g : Nat → Nat), i = .int .i64 (k : Int) ∧ k < n0 ∧ Hid (Upw (dueR F) n0 k g) ∧ Mv 0 n0 q g ∧ Hid (Que wr T A n cap g F) ∧ Tch (QB A n q) w wr) (fun i _ => (intOf i).toNat)
  case atStart => exact ⟨j, q, rfl, hj, HU, .refl, H0, Tch.refl _ _⟩
  case round =>
    clear H0 HU
    obtain ⟨k, g, rfl, hk, hu, hm, hQ, hg⟩ := hrel
    have ml := m_less T _ wr hQ.out.var
    have hpl := par_le k
    by_cases h0 : 0 < k
    · have hpk := par_lt h0
      have hw := i_par h0
      have e1 : ((par k : Int) == (k : Int)) = false := by simp; omega
      have C := Lib.hid (qless_any T A n cap g F k (par k) wr hQ.out (by omega) (by omega))
      by_cases hd : (F (g k)).2 < (F (g (par k))).2
      · have hd' := decide_eq_true hd
        rw [hd'] at C
        have HD := Lib.hid hd
        clear hd hd'
        go_wp2_with (first
          | (go_at_call 210; refine C.out.mono ?_; rintro e w1 ⟨rfl, gd⟩; have hQ1 := Lib.hid (hQ.out.drew gd); have ms := m_swap T _ w1 hQ1.out.var; have C2 := Lib.hid (qswap_any T A n cap g F (par k) k w1 hQ1.out (by omega) (by omega) (by omega)))
          | (go_at_call 211; refine C2.out.mono ?_; rintro e w2 ⟨rfl, hQ2, hg2⟩))
        go_roundw
        case rel => exact ⟨par k, xch g (par k) k, rfl, by omega, Lib.hid (hu.out.step (dueR_tr F) h0 hk (Int.le_of_lt HD.out)), .xch _ _ hm (Nat.zero_le _) (by omega) (Nat.zero_le _) hk, Lib.hid hQ2, hg.trans ((Drew.tch gd).trans (hg2.mono (fun x _ hx => QB.of_mv (hm.mono (Nat.le_refl _) hn) hx)))⟩
        case measure => simp [intOf]; omega
      · have hd' := decide_eq_false hd
        rw [hd'] at C
        have HD := Lib.hid hd
        clear hd hd'
        go_wp2_with (go_at_call 210; refine C.out.mono ?_; rintro e w1 ⟨rfl, gd⟩; have hQ1 := Lib.hid (hQ.out.drew gd))
        go_end0
        exact ⟨rfl, g, hm, hu.out.stop (fun _ => by have := HD.out; simp only [dueR]; omega), hQ1.out, hg.trans (Drew.tch gd)⟩
    · obtain rfl : k = 0 := by omega
      have e1 : (((par 0 : Nat) : Int) == ((0 : Nat) : Int)) = true := by rfl
      go_wp2
      go_end0
      exact ⟨rfl, g, hm, hu.out.stop (fun x => absurd x h0), hQ.out, hg⟩

/-- What is told of who went down. -/
def DownP (F : Nat → Sl × Int) (T A n cap n0 i0 : Nat) (q : Nat → Nat) (w : World) (e : Ending) (w' : World) : Prop :=
  ∃ (b : Bool) (q' : Nat → Nat), e = .returned (.bool b) ∧ Mv 0 n0 q q' ∧ (b = true → Ord (dueR F) 0 n0 q') ∧ (b = false → Upw (dueR F) n0 i0 q') ∧ Que w' T A n cap q' F ∧ Tch (QB A n q) w w'
theorem down_end {F : Nat → Sl × Int} {T A n cap n0 i0 k : Nat} {q g : Nat → Nat} {w wr w1 : World} (hi : i0 ≤ k) (hk : k < n0 ∨ k = i0) (hu : Hid (Off (dueR F) 0 n0 k g)) (ho : Hid (i0 < k → dueR F (g (par k)) (g k))) (hm : Mv 0 n0 q g)
    (hQ : Que w1 T A n cap g F) (hg : Tch (QB A n q) w wr) (hg1 : Drew wr w1) (hs : ∀ c, 0 < c → c < n0 → par c = k → dueR F (g k) (g c)) : DownP F T A n cap n0 i0 q w (.returned (.bool (decide (i0 < k)))) w1 := by
  refine ⟨_, g, rfl, hm, ?_, ?_, hQ, hg.trans (Drew.tch hg1)⟩
  · intro h
    have h' : i0 < k := by simpa using h
    exact hu.out.stop hs (fun _ _ _ => ho.out h')
  · intro h
    have h' : ¬ i0 < k := by simpa using h
    obtain rfl : k = i0 := by omega
    exact hu.out.upw hs

set_option maxHeartbeats 2000000 in
theorem down_any (T A n cap n0 i0 : Nat) (F : Nat → Sl × Int) (q : Nat → Nat) (w : World) (h : Que w T A n cap q F) (hn : n0 ≤ n) (hi : i0 ≤ n0) (hu : Off (dueR F) 0 n0 i0 q) :
    Calls Tryz.prog 146 #[qif T, .int .i64 i0, .int .i64 n0] w (DownP F T A n cap n0 i0 q w) := by
  have hcap := h.cap
  have H0 := Lib.hid h
  have HU := Lib.hid hu
  clear h hu
  go_enter Tryz.func146, Tryz.ntmps146
  go_wp2
  go_loopw [7] (fun i wr => ∃ (k : Nat) (g : Nat → Nat), i = .int .i64 (k : Int) ∧ (i0 ≤ k ∧ (k < n0 ∨ k = i0)) ∧ Hid (Off (dueR F) 0 n0 k g) ∧ Hid (i0 < k → dueR F (g (par k)) (g k)) ∧ Mv 0 n0 q g ∧ Hid (Que wr T A n cap g F) ∧ Tch (QB A n q) w wr) (fun i _ => n0 - (intOf i).toNat)
  case atStart => exact ⟨i0, q, rfl, ⟨Nat.le_refl _, .inr rfl⟩, HU, Lib.hid (fun x => absurd x (Nat.lt_irrefl _)), .refl, H0, Tch.refl _ _⟩
  case round =>
    clear H0 HU
    obtain ⟨k, g, rfl, ⟨hik, hkn⟩, hu, ho, hm, hQ, hg⟩ := hrel
    have ml := m_less T _ wr hQ.out.var
    have eik : ((i0 : Int) < (k : Int)) ↔ i0 < k := by omega
    by_cases h1 : 2 * k + 1 < n0
    · have n1 : decide ((n0 : Int) ≤ 2 * (k : Int) + 1) = false := by simp; omega
      have n2 : decide (2 * (k : Int) + 1 < 0) = false := by simp; omega
      have c1 : ((2 * k + 1 : Nat) : Int) = 2 * (k : Int) + 1 := by omega
      have c2 : ((2 * k + 2 : Nat) : Int) = 2 * (k : Int) + 1 + 1 := by omega
      by_cases h2 : 2 * k + 2 < n0
      · have n3 : decide (2 * (k : Int) + 1 + 1 < (n0 : Int)) = true := by simp; omega
        have C := Lib.hid (qless_any T A n cap g F (2 * k + 2) (2 * k + 1) wr hQ.out (by omega) (by omega))
        rw [c1, c2] at C
        by_cases hd : (F (g (2 * k + 2))).2 < (F (g (2 * k + 1))).2
        · have hd' := decide_eq_true hd
          rw [hd'] at C
          have HD := Lib.hid hd
          clear hd hd' c1 c2
          by_cases he : (F (g (2 * k + 2))).2 < (F (g k)).2
          · have HE := Lib.hid (decide_eq_true he)
            have HF := Lib.hid he
            have CC : Hid ((((2 * k + 1 : Nat) : Int) = 2 * (k : Int) + 1) ∧ (((2 * k + 2 : Nat) : Int) = 2 * (k : Int) + 1 + 1)) := Lib.hid ⟨by omega, by omega⟩
            clear he
            go_wp2_with (first
              | (go_at_call 210; with_reducible refine C.out.mono ?_; rintro e w1 ⟨rfl, gd⟩; clear C; have hQ1 := Lib.hid (hQ.out.drew gd); have ml1 := m_less T _ w1 hQ1.out.var; have C2 := Lib.hid (qless_any T A n cap g F (2 * k + 2) k w1 hQ1.out (by omega) (by omega)); rw [CC.out.2, HE.out] at C2)
              | (go_at_call 210; with_reducible refine C2.out.mono ?_; rintro e w2 ⟨rfl, gd2⟩; clear C2; have hQ2 := Lib.hid (hQ1.out.drew gd2); have ms := m_swap T _ w2 hQ2.out.var; have C3 := Lib.hid (qswap_any T A n cap g F k (2 * k + 2) w2 hQ2.out (by omega) (by omega) (by omega)); rw [CC.out.2] at C3)
              | (go_at_call 211; refine C3.out.mono ?_; rintro e w3 ⟨rfl, hQ3, hg3⟩))
            go_roundw
            case rel =>
              refine ⟨2 * k + 2, xch g k (2 * k + 2), by rw [CC.out.2], ⟨by omega, .inl (by omega)⟩, Lib.hid (hu.out.step (Nat.zero_le _) (by omega) (by omega) (par_right k) ?_), Lib.hid (fun _ => ?_), .xch _ _ hm (Nat.zero_le _) (by omega) (Nat.zero_le _) (by omega), Lib.hid hQ3, hg.trans ((Drew.tch (gd.trans gd2)).trans (hg3.mono (fun x _ hx => QB.of_mv (hm.mono (Nat.le_refl _) hn) hx)))⟩
              · intro c x0 x1 x2 x3
                have HF' := HF.out
                have HD' := HD.out
                rcases par_kids x0 x2 with rfl | rfl
                · simp only [dueR]; omega
                · exact absurd rfl x3
              · rw [par_right k, xch_l, xch_r]; exact Int.le_of_lt HF.out
            case measure => simp [intOf]; omega
          · have HE := Lib.hid (decide_eq_false he)
            have HF := Lib.hid he
            have CC : Hid ((((2 * k + 1 : Nat) : Int) = 2 * (k : Int) + 1) ∧ (((2 * k + 2 : Nat) : Int) = 2 * (k : Int) + 1 + 1)) := Lib.hid ⟨by omega, by omega⟩
            clear he
            go_wp2_with (first
              | (go_at_call 210; with_reducible refine C.out.mono ?_; rintro e w1 ⟨rfl, gd⟩; clear C; have hQ1 := Lib.hid (hQ.out.drew gd); have ml1 := m_less T _ w1 hQ1.out.var; have C2 := Lib.hid (qless_any T A n cap g F (2 * k + 2) k w1 hQ1.out (by omega) (by omega)); rw [CC.out.2, HE.out] at C2)
              | (go_at_call 210; with_reducible refine C2.out.mono ?_; rintro e w2 ⟨rfl, gd2⟩; clear C2; have hQ2 := Lib.hid (hQ1.out.drew gd2)))
            go_ret
            have Z := down_end hik hkn hu ho hm hQ2.out hg (gd.trans gd2) (fun c x0 x1 x2 => by
              have HF' := HF.out
              have HD' := HD.out
              rcases par_kids x0 x2 with rfl | rfl
              · simp only [dueR]; omega
              · simp only [dueR]; omega)
            simpa [eik] using Z
        · have hd' := decide_eq_false hd
          rw [hd'] at C
          have HD := Lib.hid hd
          clear hd hd' c1 c2
          by_cases he : (F (g (2 * k + 1))).2 < (F (g k)).2
          · have HE := Lib.hid (decide_eq_true he)
            have HF := Lib.hid he
            have CC : Hid ((((2 * k + 1 : Nat) : Int) = 2 * (k : Int) + 1) ∧ (((2 * k + 2 : Nat) : Int) = 2 * (k : Int) + 1 + 1)) := Lib.hid ⟨by omega, by omega⟩
            clear he
            go_wp2_with (first
              | (go_at_call 210; with_reducible refine C.out.mono ?_; rintro e w1 ⟨rfl, gd⟩; clear C; have hQ1 := Lib.hid (hQ.out.drew gd); have ml1 := m_less T _ w1 hQ1.out.var; have C2 := Lib.hid (qless_any T A n cap g F (2 * k + 1) k w1 hQ1.out (by omega) (by omega)); rw [CC.out.1, HE.out] at C2)
              | (go_at_call 210; with_reducible refine C2.out.mono ?_; rintro e w2 ⟨rfl, gd2⟩; clear C2; have hQ2 := Lib.hid (hQ1.out.drew gd2); have ms := m_swap T _ w2 hQ2.out.var; have C3 := Lib.hid (qswap_any T A n cap g F k (2 * k + 1) w2 hQ2.out (by omega) (by omega) (by omega)); rw [CC.out.1] at C3)
              | (go_at_call 211; refine C3.out.mono ?_; rintro e w3 ⟨rfl, hQ3, hg3⟩))
            go_roundw
            case rel =>
              refine ⟨2 * k + 1, xch g k (2 * k + 1), by rw [CC.out.1], ⟨by omega, .inl (by omega)⟩, Lib.hid (hu.out.step (Nat.zero_le _) (by omega) (by omega) (par_left k) ?_), Lib.hid (fun _ => ?_), .xch _ _ hm (Nat.zero_le _) (by omega) (Nat.zero_le _) (by omega), Lib.hid hQ3, hg.trans ((Drew.tch (gd.trans gd2)).trans (hg3.mono (fun x _ hx => QB.of_mv (hm.mono (Nat.le_refl _) hn) hx)))⟩
              · intro c x0 x1 x2 x3
                have HF' := HF.out
                have HD' := HD.out
                rcases par_kids x0 x2 with rfl | rfl
                · exact absurd rfl x3
                · simp only [dueR]; omega
              · rw [par_left k, xch_l, xch_r]; exact Int.le_of_lt HF.out
            case measure => simp [intOf]; omega
          · have HE := Lib.hid (decide_eq_false he)
            have HF := Lib.hid he
            have CC : Hid ((((2 * k + 1 : Nat) : Int) = 2 * (k : Int) + 1) ∧ (((2 * k + 2 : Nat) : Int) = 2 * (k : Int) + 1 + 1)) := Lib.hid ⟨by omega, by omega⟩
            clear he
            go_wp2_with (first
              | (go_at_call 210; with_reducible refine C.out.mono ?_; rintro e w1 ⟨rfl, gd⟩; clear C; have hQ1 := Lib.hid (hQ.out.drew gd); have ml1 := m_less T _ w1 hQ1.out.var; have C2 := Lib.hid (qless_any T A n cap g F (2 * k + 1) k w1 hQ1.out (by omega) (by omega)); rw [CC.out.1, HE.out] at C2)
              | (go_at_call 210; with_reducible refine C2.out.mono ?_; rintro e w2 ⟨rfl, gd2⟩; clear C2; have hQ2 := Lib.hid (hQ1.out.drew gd2)))
            go_ret
            have Z := down_end hik hkn hu ho hm hQ2.out hg (gd.trans gd2) (fun c x0 x1 x2 => by
              have HF' := HF.out
              have HD' := HD.out
              rcases par_kids x0 x2 with rfl | rfl
              · simp only [dueR]; omega
              · simp only [dueR]; omega)
            simpa [eik] using Z
      · have n3 : decide (2 * (k : Int) + 1 + 1 < (n0 : Int)) = false := by simp; omega
        clear c1 c2
        by_cases he : (F (g (2 * k + 1))).2 < (F (g k)).2
        · have HE := Lib.hid (decide_eq_true he)
          have HF := Lib.hid he
          have CC : Hid ((((2 * k + 1 : Nat) : Int) = 2 * (k : Int) + 1) ∧ (((2 * k + 2 : Nat) : Int) = 2 * (k : Int) + 1 + 1)) := Lib.hid ⟨by omega, by omega⟩
          clear he
          have C2 := Lib.hid (qless_any T A n cap g F (2 * k + 1) k wr hQ.out (by omega) (by omega))
          rw [CC.out.1, HE.out] at C2
          go_wp2_with (first
            | (go_at_call 210; with_reducible refine C2.out.mono ?_; rintro e w2 ⟨rfl, gd2⟩; clear C2; have hQ2 := Lib.hid (hQ.out.drew gd2); have ms := m_swap T _ w2 hQ2.out.var; have C3 := Lib.hid (qswap_any T A n cap g F k (2 * k + 1) w2 hQ2.out (by omega) (by omega) (by omega)); rw [CC.out.1] at C3)
            | (go_at_call 211; refine C3.out.mono ?_; rintro e w3 ⟨rfl, hQ3, hg3⟩))
          go_roundw
          case rel =>
            refine ⟨2 * k + 1, xch g k (2 * k + 1), by rw [CC.out.1], ⟨by omega, .inl (by omega)⟩, Lib.hid (hu.out.step (Nat.zero_le _) (by omega) (by omega) (par_left k) ?_), Lib.hid (fun _ => ?_), .xch _ _ hm (Nat.zero_le _) (by omega) (Nat.zero_le _) (by omega), Lib.hid hQ3, hg.trans ((Drew.tch (gd2)).trans (hg3.mono (fun x _ hx => QB.of_mv (hm.mono (Nat.le_refl _) hn) hx)))⟩
            · intro c x0 x1 x2 x3
              have HF' := HF.out
              rcases par_kids x0 x2 with rfl | rfl
              · exact absurd rfl x3
              · omega
            · rw [par_left k, xch_l, xch_r]; exact Int.le_of_lt HF.out
          case measure => simp [intOf]; omega
        · have HE := Lib.hid (decide_eq_false he)
          have HF := Lib.hid he
          have CC : Hid ((((2 * k + 1 : Nat) : Int) = 2 * (k : Int) + 1) ∧ (((2 * k + 2 : Nat) : Int) = 2 * (k : Int) + 1 + 1)) := Lib.hid ⟨by omega, by omega⟩
          clear he
          have C2 := Lib.hid (qless_any T A n cap g F (2 * k + 1) k wr hQ.out (by omega) (by omega))
          rw [CC.out.1, HE.out] at C2
          go_wp2_with (first
            | (go_at_call 210; with_reducible refine C2.out.mono ?_; rintro e w2 ⟨rfl, gd2⟩; clear C2; have hQ2 := Lib.hid (hQ.out.drew gd2)))
          go_ret
          have Z := down_end hik hkn hu ho hm hQ2.out hg (gd2) (fun c x0 x1 x2 => by
            have HF' := HF.out
            rcases par_kids x0 x2 with rfl | rfl
            · simp only [dueR]; omega
            · omega)
          simpa [eik] using Z
    · have n1 : decide ((n0 : Int) ≤ 2 * (k : Int) + 1) = true := by simp; omega
      go_wp2
      go_ret
      have Z := down_end hik hkn hu ho hm hQ.out hg (Drew.refl _) (fun c x0 x1 x2 => by
        rcases par_kids x0 x2 with rfl | rfl <;> omega)
      simpa [eik] using Z
end Go.Proofs.YtkfncanfgpmgaaaGreat.Wd
