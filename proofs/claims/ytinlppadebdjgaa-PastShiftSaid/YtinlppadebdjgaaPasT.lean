/- The law PastTime answers true, for any steps and numbers; words for events of steps; no conditions. -/
import Derived.Test.YtinlppadebdjgaaPasQ
import Derived.Test.YtinlppadebdjgaaPasM3
namespace Go.Proofs.Ytinlppadebdjgaa.Wd
open Go Go.RowKit
set_option linter.unusedVariables false

theorem evL_at (p q r : Nat → Int) (j k : Nat) (h : k < j) : (evL p q r j)[k]? = some (tmL p r (k + 1), wtL q r k) := by
  have he : (evL p q r j)[k]? = some ((evL p q r j)[k]?.getD (0, 0)) := by simp [evL_length, h]
  rw [he, (evL_get p q r j k _ he).2]
theorem tot_evL (p q r : Nat → Int) (k : Nat) : tot (evL p q r (k + 1)) = tot (evL p q r k) + wtL q r k := by
  rw [evL, tot_append]; simp [tot]
theorem tot_evL_le {n : Nat} {p q r : Nat → Int} (h : Nice n p q r) (k : Nat) (hk : k ≤ n) : 0 ≤ tot (evL p q r k) ∧ tot (evL p q r k) ≤ (k : Int) * 34359214080 := by
  induction k with
  | zero => simp [evL, tot]
  | succ k ih =>
    have h3 := ih (by omega)
    have h4 := wtL_le h k (by omega)
    rw [tot_evL]
    omega
theorem tmL_mono {n : Nat} {p q r : Nat → Int} (h : Nice n p q r) (i k : Nat) (hik : i ≤ k) (hk : k ≤ n) : tmL p r i ≤ tmL p r k := by
  induction k with
  | zero =>
    obtain rfl : i = 0 := by omega
    exact Int.le_refl _
  | succ k ih =>
    by_cases hi : i = k + 1
    · subst hi; exact Int.le_refl _
    · have := ih (by omega) (by omega)
      have := tmL_step h k (by omega)
      omega
theorem evL_last {n : Nat} {p q r : Nat → Int} (h : Nice n p q r) (k : Nat) (hk : k ≤ n) : ∀ e ∈ evL p q r k, e.1 ≤ tmL p r k := by
  intro e he
  obtain ⟨i, hi⟩ := List.getElem?_of_mem he
  obtain ⟨h1, rfl⟩ := evL_get p q r k i e hi
  exact tmL_mono h (i + 1) k (by omega) hk

set_option maxRecDepth 100000 in
set_option maxHeartbeats 2000000 in
theorem pastTime_walk (a : Option Addr) (n cap : Nat) (p q r s : Nat → Int) (d e : Int) (w : World) (hst : Steps w a n p q r s) (hm : n ≤ 9223372036854775807) (h1 : 0 ≤ d ∧ d ≤ 4294967295) (h2 : 0 ≤ e ∧ e ≤ 4294967295) :
    Calls Try.prog 6 #[.slice a n cap, .int .u32 d, .int .u32 e] w fun e w' => e = .returned (.bool true) ∧ Below w.heap.size w w' := by
  obtain ⟨j, hj⟩ : ∃ j, min n 40 = j := ⟨_, rfl⟩
  have hni : Nice j p q r := fun i hi => hst.nice i (by omega)
  have hj40 : j ≤ 40 := by omega
  have hel := evL_length p q r j
  have E1 := Lib.hid (events_any a n cap p q r s w hst hm)
  rw [hj] at E1
  have hev := evL_eu hni (by omega) j (Nat.le_refl _)
  have bT := tmL_le hni j (Nat.le_refl _)
  have bS := tot_evL_le hni j (Nat.le_refl _)
  have hlast := evL_last hni j (Nat.le_refl _)
  have uT1 : U (tmL p r j + d) := by unfold U; omega
  have uT2 : U (tmL p r j + d + e) := by unfold U; omega
  have uT3 : U (tmL p r j + tot (evL p q r j)) := by unfold U; omega
  have uT4 : U (tmL p r j) := by unfold U; omega
  have F1 := Lib.hid (fun (w : World) (v : Value) (h : Hist w v (evL p q r j)) => h.fill hev (by omega) uT1)
  have F2 := Lib.hid (fun (w : World) (v : Value) (h : Hist w v (evL p q r j)) => h.fill hev (by omega) uT2)
  have F3 := Lib.hid (fun (w : World) (v : Value) (h : Hist w v (evL p q r j)) => h.fill hev (by omega) uT3)
  have F4 := Lib.hid (fun (w : World) => (nil_hist w).fill (es := []) (by intro e he; cases he) (by simp) uT4)
  have z2 := flL_later (evL p q r j) (tmL p r j + d) e h2.1 (fun x hx => by have := hlast x hx; omega)
  have z3 := flL_long (evL p q r j) (tmL p r j) _ hev hlast (Int.le_refl _)
  have z1 : flL (evL p q r j) (tmL p r j + d) ≤ tot (evL p q r j) := by
    have := flL_sum (evL p q r j) (tmL p r j + d) hev
    unfold smL at this
    rw [sat_min] at this
    omega
  rw [z2] at F2
  rw [z3] at F3
  rw [show flL [] (tmL p r j) = 0 from rfl] at F4
  have ux := flL_U _ (tmL p r j + d) hev uT1
  have ue : U e := by unfold U; omega
  have S1 := Lib.hid (fun (w : World) => ref_sub _ _ w ux ue)
  have HNi := Lib.hid hni
  generalize flL (evL p q r j) (tmL p r j + d) = X at *
  have e1 : IntKind.u64.wrap (tmL p r j + d) = tmL p r j + d := IntWalk.u64_in _ (by unfold U at uT1; omega)
  have e2 : IntKind.u64.wrap (tmL p r j + d + e) = tmL p r j + d + e := IntWalk.u64_in _ (by unfold U at uT2; omega)
  have e3 : IntKind.u64.wrap (tmL p r j + tot (evL p q r j)) = tmL p r j + tot (evL p q r j) := IntWalk.u64_in _ (by unfold U at uT3; omega)
  have e4 : (sbI X e == sbI X e) = true := by simp
  have e5 : decide (X ≤ tot (evL p q r j)) = true := by simpa using z1
  clear z2 z3 hlast hev uT1 uT2 uT3 uT4 hst ux ue hj hni bT bS
  go_enter Try.func6, Try.ntmps6
  go_wp2_with (go_at_call 11; ((with_reducible refine E1.out.mono ?_); rintro e w1 ⟨v1, rfl, own1, b1⟩; have hd1 := own_hist hel own1; refine stopHere ?_))
  unfold Stop
  have D1 := Lib.hid hd1
  obtain ⟨a2, cap2, rfl, c21, c22, c23⟩ := hd1
  rw [hel] at D1 ⊢
  have CC := Lib.hid c23
  clear own1 c23 c22 c21
  go_wp2
  go_loop [8, 9, 10] (fun l t i => ∃ k : Nat, k ≤ j ∧ i = .int .i64 k ∧ l = .int .u64 (tmL p r k) ∧ t = .int .u64 (tot (evL p q r k))) (fun _ _ i => j - (intOf i).toNat)
  case atStart => exact ⟨0, Nat.zero_le _, rfl, rfl, rfl⟩
  case round =>
    obtain ⟨k, hk, rfl, rfl, rfl⟩ := hrel
    by_cases hlt : k < j
    · obtain ⟨b, off, rfl, hb, d0, d1⟩ := CC.out k _ (evL_at p q r j k hlt)
      have hs := tot_evL p q r k
      have bw := wtL_le HNi.out k hlt
      have bs := tot_evL_le HNi.out k hk
      have hw : IntKind.u64.wrap (tot (evL p q r k) + wtL q r k) = tot (evL p q r (k + 1)) := by rw [hs]; exact IntWalk.u64_in _ (by omega)
      dsimp only at d0 d1
      clear hs bw bs
      generalize hTk : tmL p r (k + 1) = Tk at *
      generalize hSk : tot (evL p q r (k + 1)) = Sk at *
      have HTk := Lib.hid hTk
      have HSk := Lib.hid hSk
      clear hTk hSk
      go_wp2
      go_round
      case rel => exact ⟨k + 1, by omega, by go_num, by rw [HTk.out], by rw [HSk.out]⟩
      case measure => simp [intOf]; omega
    · obtain rfl : k = j := by omega
      go_wp2_with (first
        | (go_at_call 10; ((with_reducible refine (known_any _).mono ?_); rintro e w4 ⟨rfl, b4⟩; have hd4 := hd3.below b4))
        | (go_at_call 15; ((with_reducible refine (F1.out _ _ D1.out).mono ?_); rintro e w2 ⟨rfl, b2⟩; have hd2 := D1.out.below b2))
        | (go_at_call 15; ((with_reducible refine (F2.out _ _ hd2).mono ?_); rintro e w3 ⟨rfl, b3⟩; have hd3 := hd2.below b3))
        | (go_at_call 20; ((with_reducible refine (S1.out _).mono ?_); rintro e w5 ⟨rfl, rfl⟩))
        | (go_at_call 15; ((with_reducible refine (F3.out _ _ hd4).mono ?_); rintro e w6 ⟨rfl, b6⟩))
        | (go_at_call 15; ((with_reducible refine (F4.out _).mono ?_); rintro e w7 ⟨rfl, b7⟩)))
      go_ret
      exact ⟨rfl, kbq (kbq (kbq (kbq (kbq b1 b2) b3) b4) b6) b7⟩
end Go.Proofs.Ytinlppadebdjgaa.Wd
