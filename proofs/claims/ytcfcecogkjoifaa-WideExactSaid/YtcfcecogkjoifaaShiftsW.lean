/- The law WideShifts answers true, for any number of 64 bits and any of 8; no conditions. -/
import Derived.Test.YtcfcecogkjoifaaWalkB
namespace Go.Proofs.Ytcfcecogkjoifaa.Wd
open Go.RowKit

theorem mu_lt (a b : Int) (ha : U a) (hb : 0 < b) : muH a b < b := by
  unfold muH
  unfold U at ha
  refine Int.ediv_lt_of_lt_mul (by omega) ?_
  rw [Int.mul_comm]
  exact Int.mul_lt_mul_of_pos_left (by omega) hb

theorem shifts_facts (a p q : Int) (hp : 1 ≤ p) (hpq : p * q = 18446744073709551616) :
    muH a p = a / q ∧ diQ (muH a p) (muL a p) p = a ∧ diR (muH a p) (muL a p) p = 0 := by
  have e := di_uniq (muH a p) (muL a p) p a 0 (by rw [mu_eq]; omega) (by omega) (by omega)
  refine ⟨?_, e.1.symm, e.2.symm⟩
  unfold muH
  rw [← hpq, Int.mul_comm a p, Int.mul_ediv_mul_of_pos _ _ (by omega)]

theorem shifts_walk (a k : Int) (w : World) (ha : U a) (hk : 0 ≤ k ∧ k ≤ 255) :
    Calls Try.prog 8 #[.int .u64 a, .int .u8 k] w fun e w' => e = .returned (.bool true) ∧ Kept w w' := by
  have kn (w : World) := known_any w
  obtain ⟨s, hs⟩ : ∃ s : Nat, k % 64 = (s : Int) := ⟨(k % 64).toNat, by omega⟩
  have hs2 : s < 64 := by omega
  obtain ⟨P, hP⟩ : ∃ P : Int, (2 : Int) ^ s = P := ⟨_, rfl⟩
  obtain ⟨Q, hQ⟩ : ∃ Q : Int, (2 : Int) ^ (64 - s) = Q := ⟨_, rfl⟩
  have hPQ : P * Q = 18446744073709551616 := by
    rw [← hP, ← hQ, ← Int.pow_add]
    have : s + (64 - s) = 64 := by omega
    rw [this]; rfl
  have hP1 : 1 ≤ P := by rw [← hP]; have := pow_pos s; omega
  have hQ1 : 2 ≤ Q := by
    rw [← hQ]
    have e : 64 - s = (63 - s) + 1 := by omega
    rw [e, Int.pow_succ]; have := pow_pos (63 - s); omega
  have hP2 : P ≤ 9223372036854775808 := by
    have := Int.mul_le_mul_of_nonneg_left (c := P) hQ1 (by omega)
    omega
  have uP : U P := by unfold U; omega
  have lt := mu_lt a P ha (by omega)
  obtain ⟨f1, f2, f3⟩ := shifts_facts a P Q hP1 hPQ
  have c1 (w : World) := mul_any a P w ha uP
  have c2 (w : World) := div_yes (muH a P) (muL a P) P w (muH_U _ _ ha uP) (muL_U _ _) uP lt
  rw [f2, f3] at c2
  have low : (muL a P == IntKind.u64.wrap (a * P)) = true := by rw [IntKind.wrap_u64]; simp [muL]
  have F1 := Lib.hid f1
  have HPQ := Lib.hid hPQ
  clear f1 f2 f3 uP hPQ
  generalize muH a P = h at *
  generalize muL a P = l at *
  unfold U at ha
  by_cases h0 : s = 0
  · subst h0
    have hz : h = 0 := by
      have := F1.out; rw [this]; have := HPQ.out
      have e : P = 1 := by rw [← hP]; rfl
      rw [e, Int.one_mul] at this; rw [this]; omega
    have e : P = 1 := by rw [← hP]; rfl
    subst hz e
    have el : l = a := by
      have := low
      rw [Int.mul_one, IntWalk.u64_in _ (by omega)] at this
      simpa using this
    subst el
    clear hP hQ low
    go_enter Try.func8, Try.ntmps8
    go_wp2_with (first
      | (go_at_call 10; ((with_reducible refine (kn _).mono ?_); rintro e w' ⟨rfl, g2⟩))
      | (go_at_call 13; ((with_reducible refine (c1 _).mono ?_); rintro e w' ⟨rfl, g1⟩))
      | (go_at_call 12; ((with_reducible refine (c2 _).mono ?_); rintro e w' ⟨rfl, rfl⟩)))
    go_ret
    exact ⟨rfl, g1.trans g2⟩
  · have h0' : 0 < s := by omega
    have e := F1.out
    subst e
    clear F1
    go_enter Try.func8, Try.ntmps8
    go_wp2_with (first
      | (go_at_call 10; ((with_reducible refine (kn _).mono ?_); rintro e w' ⟨rfl, g2⟩))
      | (go_at_call 13; ((with_reducible refine (c1 _).mono ?_); rintro e w' ⟨rfl, g1⟩))
      | (go_at_call 12; ((with_reducible refine (c2 _).mono ?_); rintro e w' ⟨rfl, rfl⟩)))
    go_ret
    exact ⟨rfl, g1.trans g2⟩
end Go.Proofs.Ytcfcecogkjoifaa.Wd
