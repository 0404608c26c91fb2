/- The document's answers of chapter 9 (tollerref09), for any texts and rows of texts; no conditions but those that each names. -/
import Derived.Test.YtndipebpccdlfaaKeyS
namespace Go.Proofs.Ytndipebpccdlfaa.Wd
open Go Go.RowKit
set_option linter.unusedVariables false

theorem rright_any (s : ByteArray) (w : World) (hs : s.size ≤ 9223372036854775807) :
    Calls Try.prog 21 #[.string s] w fun e w' => e = .returned (.bool (rtB (lb s))) ∧ w = w' := by
  by_cases h0 : s.size < 1
  · rw [rt_none s (.inl h0)]
    go_enter Try.func21, Try.ntmps21
    go_wp2
    go_ret
    exact ⟨rfl, rfl⟩
  · by_cases h1 : 128 < s.size
    · rw [rt_none s (.inr h1)]
      go_enter Try.func21, Try.ntmps21
      go_wp2
      go_ret
      exact ⟨rfl, rfl⟩
    · have Y := Lib.hid (rt_yes s (by omega) (by omega))
      have N := Lib.hid (rt_no s)
      generalize rtB (lb s) = r at *
      go_enter Try.func21, Try.ntmps21
      go_wp2
      go_loop [3] (fun i => ∃ k : Nat, i = .int .i64 k ∧ k ≤ s.size ∧ Hid (∀ j (hj : j < s.size), j < k → visB (s[j].toNat : Int) = true)) (fun i => s.size - (intOf i).toNat)
      case atStart => exact ⟨0, rfl, by omega, Lib.hid (fun j _ hj => absurd hj (by omega))⟩
      case round =>
        obtain ⟨k, rfl, hk, D⟩ := hrel
        by_cases hlt : k < s.size
        · by_cases c1 : (s[k].toNat : Int) < 33
          · have e := N.out k hlt (decide_eq_false (fun g => by omega))
            subst e
            go_wp2
            go_ret
            exact ⟨rfl, rfl⟩
          · by_cases c2 : (126 : Int) < (s[k].toNat : Int)
            · have e := N.out k hlt (decide_eq_false (fun g => by omega))
              subst e
              go_wp2
              go_ret
              exact ⟨rfl, rfl⟩
            · have hb : visB (s[k].toNat : Int) = true := decide_eq_true ⟨by omega, by omega⟩
              have HB := Lib.hid hb
              clear hb
              go_wp2
              go_round
              case rel =>
                refine ⟨k + 1, by go_num, by omega, Lib.hid (fun j hj hjk => ?_)⟩
                by_cases e : j = k
                · subst e; exact HB.out
                · exact D.out j hj (by omega)
              case measure => simp [intOf]; omega
        · obtain rfl : k = s.size := by omega
          have e := Y.out (fun j hj => D.out j hj hj)
          subst e
          go_wp2
          go_ret
          exact ⟨rfl, rfl⟩

theorem cm_at (a b : ByteArray) (k : Nat) (h1 : k ≤ a.size) (h2 : k ≤ b.size) (h : ∀ j (ha : j < a.size) (hb : j < b.size), j < k → a[j] = b[j]) (hn : ∀ (ha : k < a.size) (hb : k < b.size), a[k] ≠ b[k]) : cm (lb a) (lb b) = k := by
  refine cm_is k _ _ (by rw [list_size]; exact h1) (by rw [list_size]; exact h2) ?_ (fun g1 g2 => ?_)
  · refine List.ext_getElem (by simp; omega) (fun i i1 i2 => ?_)
    simp at i1 i2
    rw [List.getElem_take, List.getElem_take, list_at a i (by omega), list_at b i (by omega)]
    exact h i _ _ (by omega)
  · rw [list_size] at g1 g2
    rw [list_at a k g1, list_at b k g2]
    exact hn g1 g2

set_option maxHeartbeats 1000000 in
theorem rcommon_any (a b : ByteArray) (w : World) (ha : a.size ≤ 9223372036854775807) (hb : b.size ≤ 9223372036854775807) :
    Calls Try.prog 23 #[.string a, .string b] w fun e w' => e = .returned (.int .i64 (cm (lb a) (lb b) : Int)) ∧ Drew w w' := by
  have E := Lib.hid (cm_at a b)
  generalize cm (lb a) (lb b) = m at *
  go_enter Try.func23, Try.ntmps23
  go_wp2
  go_loopw [5] (fun i wr => ∃ k : Nat, i = .int .i64 (k : Int) ∧ k ≤ a.size ∧ k ≤ b.size ∧ Hid (∀ j (ha : j < a.size) (hb : j < b.size), j < k → a[j] = b[j]) ∧ Drew w wr) (fun i _ => a.size - (intOf i).toNat)
  case atStart => exact ⟨0, rfl, Nat.zero_le _, Nat.zero_le _, Lib.hid (fun j _ _ hj => absurd hj (by omega)), Drew.refl _⟩
  case round =>
    obtain ⟨k, rfl, h1, h2, D, hd⟩ := hrel
    by_cases c1 : k < a.size
    · have d1 : decide ((k : Int) < (a.size : Int)) = true := decide_eq_true (by omega)
      by_cases c2 : k < b.size
      · have d2 : decide ((k : Int) < (b.size : Int)) = true := decide_eq_true (by omega)
        by_cases c3 : a[k] = b[k]
        · have d3 : ((a[k].toNat : Int) == (b[k].toNat : Int)) = true := by rw [c3]; simp
          have C3 := Lib.hid c3
          clear c3
          go_wp2
          go_quiet (fail)
          go_wp2
          go_roundw
          case rel =>
            refine ⟨k + 1, by go_num, by omega, by omega, Lib.hid (fun j g1 g2 hj => ?_), hd.trans ⟨_, rfl⟩⟩
            by_cases e : j = k
            · subst e; exact C3.out
            · exact D.out j g1 g2 (by omega)
          case measure => simp [intOf]; omega
        · have d3 := u8_ne c3
          have e := E.out k h1 h2 D.out (fun _ _ => c3)
          subst e
          clear c3
          go_wp2
          go_quiet (fail)
          go_wp2
          go_ret
          exact ⟨rfl, hd.trans ⟨_, rfl⟩⟩
      · have d2 : decide ((k : Int) < (b.size : Int)) = false := decide_eq_false (by omega)
        have e := E.out k h1 h2 D.out (fun _ g => absurd g c2)
        subst e
        go_wp2
        go_quiet (fail)
        go_wp2
        go_ret
        exact ⟨rfl, hd.trans ⟨_, rfl⟩⟩
    · have d1 : decide ((k : Int) < (a.size : Int)) = false := decide_eq_false (by omega)
      have e := E.out k h1 h2 D.out (fun g _ => absurd g c1)
      subst e
      go_wp2
      go_quiet (fail)
      go_wp2
      go_ret
      exact ⟨rfl, hd.trans ⟨_, rfl⟩⟩

theorem ls_at (a b : ByteArray) (k : Nat) (hk : cm (lb a) (lb b) = k) (h1 : k < a.size) (h2 : k < b.size) : ls (lb a) (lb b) = decide (a[k].toNat < b[k].toNat) := by
  subst hk
  rw [ls_cm, dif_pos ⟨by rw [list_size]; exact h1, by rw [list_size]; exact h2⟩, list_at a _ h1, list_at b _ h2, u8_lt]
theorem ls_end (a b : ByteArray) (k : Nat) (hk : cm (lb a) (lb b) = k) (h : k = a.size ∨ k = b.size) : ls (lb a) (lb b) = decide (a.size < b.size) := by
  rw [ls_cm, dif_neg (by rw [list_size, list_size]; omega), list_size, list_size]

theorem rless_any (a b : ByteArray) (w : World) (ha : a.size ≤ 9223372036854775807) (hb : b.size ≤ 9223372036854775807) :
    Calls Try.prog 22 #[.string a, .string b] w fun e w' => e = .returned (.bool (ls (lb a) (lb b))) ∧ Drew w w' := by
  have c := fun W => rcommon_any a b W ha hb
  have le1 := cm_le_left (lb a) (lb b)
  have le2 := cm_le_right (lb a) (lb b)
  rw [list_size] at le1 le2
  obtain ⟨k, hk⟩ : ∃ k, cm (lb a) (lb b) = k := ⟨_, rfl⟩
  have E1 := ls_at a b k hk
  have E2 := ls_end a b k hk
  rw [hk] at c le1 le2
  generalize ls (lb a) (lb b) = r at *
  clear hk
  by_cases h1 : k = a.size
  · have d1 : ((k : Int) == (a.size : Int)) = true := by rw [h1]; simp
    have e := E2 (.inl h1)
    subst e
    clear E1 E2 h1
    go_enter Try.func22, Try.ntmps22
    go_wp2_with (go_at_call 23; refine (c _).mono ?_; rintro e w1 ⟨rfl, g⟩)
    go_ret
    exact ⟨rfl, g⟩
  · have d1 : ((k : Int) == (a.size : Int)) = false := beq_eq_false_iff_ne.2 (by omega)
    by_cases h2 : k = b.size
    · have d2 : ((k : Int) == (b.size : Int)) = true := by rw [h2]; simp
      have e := E2 (.inr h2)
      subst e
      clear E1 E2 h1 h2
      go_enter Try.func22, Try.ntmps22
      go_wp2_with (go_at_call 23; refine (c _).mono ?_; rintro e w1 ⟨rfl, g⟩)
      go_ret
      exact ⟨rfl, g⟩
    · have d2 : ((k : Int) == (b.size : Int)) = false := beq_eq_false_iff_ne.2 (by omega)
      have k1 : k < a.size := by omega
      have k2 : k < b.size := by omega
      have e := E1 k1 k2
      subst e
      clear E1 E2 h1 h2
      go_enter Try.func22, Try.ntmps22
      go_wp2_with (go_at_call 23; refine (c _).mono ?_; rintro e w1 ⟨rfl, g⟩)
      go_quiet (fail)
      go_wp2
      go_ret
      exact ⟨rfl, g.trans ⟨_, rfl⟩⟩

theorem rhas_any (k p : ByteArray) (w : World) (hk : k.size ≤ 9223372036854775807) (hp : p.size ≤ 9223372036854775807) :
    Calls Try.prog 24 #[.string k, .string p] w fun e w' => e = .returned (.bool (decide (cm (lb k) (lb p) = p.size))) ∧ Drew w w' := by
  have c1 := fun W => rcommon_any k p W hk hp
  generalize hm : cm (lb k) (lb p) = m at *
  have e : ((m : Int) == (p.size : Int)) = decide (m = p.size) := by
    rw [Bool.eq_iff_iff, beq_iff_eq, decide_eq_true_eq]; omega
  go_enter Try.func24, Try.ntmps24
  go_wp2_with (go_at_call 23; refine (c1 _).mono ?_; rintro e w1 ⟨rfl, b1⟩)
  go_ret
  exact ⟨rfl, b1⟩

theorem Sts.drew {w w' : World} {A : Option Addr} {n : Nat} {xs : List ByteArray} (h : Sts w A n xs) (d : Drew w w') : Sts w' A n xs := h.below d.kept.2

set_option maxHeartbeats 1000000 in
theorem rsorted_any (A : Option Addr) (n cap : Nat) (xs : List ByteArray) (w : World) (h : Sts w A n xs) (hn : n ≤ 9223372036854775807) :
    Calls Try.prog 13 #[.slice A n cap] w fun e w' => e = .returned (.bool (soB xs)) ∧ Drew w w' := by
  have Y := Lib.hid ((soB_iff xs).2)
  have N := Lib.hid (@soB_no xs)
  generalize soB xs = r at *
  have H := Lib.hid h
  have HL := Lib.hid h.1
  clear h
  go_enter Try.func13, Try.ntmps13
  go_wp2
  go_loopw [3] (fun i wr => ∃ k : Nat, i = .int .i64 ((k : Int) + 1) ∧ Hid (k < n ∨ k = 0) ∧ Hid (∀ j, j < k → ls (lb (xs.getD j nob)) (lb (xs.getD (j + 1) nob)) = true) ∧ Drew w wr) (fun i _ => n - (intOf i).toNat)
  case atStart => exact ⟨0, rfl, Lib.hid (.inr rfl), Lib.hid (fun j hj => absurd hj (by omega)), Drew.refl _⟩
  case round =>
    obtain ⟨p, rfl, Q, D, hB⟩ := hrel
    by_cases hlt : p + 1 < n
    · have hS := H.out.drew hB
      have l1 := fun W => rless_any (xs.getD p nob) (xs.getD (p + 1) nob) W (hS.at p) (hS.at (p + 1))
      obtain ⟨b, off, rfl, hb, hc⟩ := hS.2.2 (by omega)
      have c0 := hc p (by omega)
      have c1 := hc (p + 1) hlt
      have hw1 : IntKind.i64.wrap (p : Int) = (p : Int) := by rw [IntKind.wrap_i64]; omega
      have hp0 : (0 : Int) ≤ (p : Int) := by omega
      have hpn : p < n := by omega
      have hpn' : (p : Int) < (n : Int) := by omega
      have hqn' : (p : Int) + 1 < (n : Int) := by omega
      have hq0 : (0 : Int) ≤ (p : Int) + 1 := by omega
      obtain ⟨o, hx⟩ : ∃ o, o = ls (lb (xs.getD p nob)) (lb (xs.getD (p + 1) nob)) := ⟨_, rfl⟩
      rw [← hx] at l1
      have HX := Lib.hid hx
      have L1 := Lib.hid l1
      clear hc hS hx l1
      generalize hxa : xs.getD p nob = xa at *
      generalize hxb : xs.getD (p + 1) nob = xb at *
      go_wp2_with fail
      go_quiet ((go_at_call 22; exact Calls.quiet_of (L1.out _)))
      subst hxa hxb
      rcases o with _ | _
      · have e := N.out p (by rw [HL.out]; omega) HX.out.symm
        subst e
        go_wp2
        go_ret
        exact ⟨rfl, hB.trans ⟨_, rfl⟩⟩
      · go_wp2
        go_roundw
        case rel =>
          refine ⟨p + 1, by go_num, Lib.hid (.inl hlt), Lib.hid (fun j hj => ?_), hB.trans ⟨_, rfl⟩⟩
          by_cases e : j = p
          · subst e; exact HX.out.symm
          · exact D.out j (by omega)
        case measure => simp [intOf]; omega
    · have e := Y.out (fun i hi => D.out i (by rw [HL.out] at hi; omega))
      subst e
      go_wp2
      go_ret
      exact ⟨rfl, hB⟩
end Go.Proofs.Ytndipebpccdlfaa.Wd
