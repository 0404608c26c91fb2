/- What num's calls answer, for any numbers of 64 bits; no conditions. -/
import Derived.Test.YtpnhhihddlpokaaWalkA
import Derived.Test.YtpnhhihddlpokaaNumMath
import Derived.Deep.QuietTactic
import Derived.BigQuiet
namespace Go.Proofs.Ytpnhhihddlpokaa.Wd
open Go.RowKit

theorem U_zero : U 0 := ⟨by omega, by omega⟩
theorem stop_any (h l : Int) (w : World) :
    Calls Try.prog 28 #[.int .u64 h, .int .u64 l] w fun e w' => e = .returned (.int .u64 (stopV h l)) ∧ w = w' := by
  by_cases c : h = 0
  · subst c
    have e : stopV 0 l = l := by simp [stopV]
    rw [e]; clear e
    go_enter Try.func28, Try.ntmps28
    go_wp2
    go_ret
    exact ⟨rfl, rfl⟩
  · have e : stopV h l = 18446744073709551615 := by simp [stopV, c]
    rw [e]; clear e
    have c1 : (h == 0) = false := by simpa using c
    have c2 : (h != 0) = true := by simpa using c
    go_enter Try.func28, Try.ntmps28
    go_wp2
    go_ret
    exact ⟨rfl, rfl⟩

/-- A row of numbers of 64 bits, n of them. -/
def Nums (w : World) (A : Option Addr) (n : Nat) (xs : List Int) : Prop :=
  xs.length = n ∧ (∀ x ∈ xs, U x) ∧ (0 < n → ∃ b off, A = some ⟨b, off, none⟩ ∧ b < w.heap.size ∧ ∀ k, k < n → w.cell? ⟨b, off + k, none⟩ = some (.int .u64 (xs.getD k 0)))

theorem Nums.kept {w w' : World} {A : Option Addr} {n : Nat} {xs : List Int} (h : Nums w A n xs) (k : Kept w w') : Nums w' A n xs :=
  ⟨h.1, h.2.1, fun hn => by
    obtain ⟨b, off, e, hb, hc⟩ := h.2.2 hn
    exact ⟨b, off, e, Nat.lt_of_lt_of_le hb k.2.size, fun j hj => (k.2.cell (p := ⟨b, off + j, none⟩) hb).trans (hc j hj)⟩⟩

theorem num_add_nil (A : Option Addr) (c : Nat) (w : World) :
    Calls Try.prog 14 #[.slice A 0 c] w fun e w' => e = .returned (.int .u64 0) ∧ w = w' := by
  go_enter Try.func14, Try.ntmps14
  go_wp2
  go_loop [3, 11] (fun s i => i = .int .i64 0 ∧ s = .int .u64 0) (fun _ _ => 0)
  case atStart => exact ⟨rfl, rfl⟩
  case round =>
    obtain ⟨rfl, rfl⟩ := hrel
    go_wp2
    go_ret
    exact ⟨rfl, rfl⟩

theorem num_add_some (b off n c : Nat) (xs : List Int) (w : World) (hl : xs.length = n) (hx : ∀ x ∈ xs, U x) (hn : n ≤ 9223372036854775807)
    (hc : ∀ k, k < n → w.cell? ⟨b, off + k, none⟩ = some (.int .u64 (xs.getD k 0))) :
    Calls Try.prog 14 #[.slice (some ⟨b, off, none⟩) n c] w fun e w' => e = .returned (.int .u64 (addAll xs)) ∧ w = w' := by
  have HL := Lib.hid hl
  have HC := Lib.hid hc
  clear hl hc
  go_enter Try.func14, Try.ntmps14
  go_wp2
  go_loop [3, 11] (fun s i => ∃ k : Nat, k ≤ n ∧ i = .int .i64 k ∧ s = .int .u64 (addAll (xs.take k))) (fun _ i => n - (intOf i).toNat)
  case atStart => exact ⟨0, Nat.zero_le _, rfl, rfl⟩
  case round =>
    obtain ⟨k, hk, rfl, rfl⟩ := hrel
    by_cases hlt : k < n
    · have hcell := HC.out k hlt
      have us : U (addAll (xs.take k)) := addAll_U _ (fun x h => hx x (List.mem_of_mem_take h))
      have ux : U (xs.getD k 0) := by
        have hh : k < xs.length := by rw [HL.out]; exact hlt
        simp only [List.getD, List.getElem?_eq_getElem hh, Option.getD_some]
        exact hx _ (List.getElem_mem hh)
      have e := addAll_take xs k (by rw [HL.out]; exact hlt)
      rw [← stop_add _ _ us ux] at e
      have E := Lib.hid e
      clear e
      generalize xs.getD k 0 = x at *
      generalize addAll (xs.take k) = s at *
      go_wp2_with (first
        | (go_at_call 27; ((with_reducible refine (add_any _ _ _ _ _ U_zero us U_zero ux).mono ?_); rintro e w' ⟨rfl, rfl⟩))
        | (go_at_call 28; ((with_reducible refine (stop_any _ _ _).mono ?_); rintro e w' ⟨rfl, rfl⟩)))
      go_round
      case rel => exact ⟨k + 1, by omega, by go_num, by rw [E.out]⟩
      case measure => simp [intOf]; omega
    · obtain rfl : n = k := by omega
      have e : xs.take n = xs := List.take_of_length_le (by rw [HL.out]; exact Nat.le_refl _)
      rw [e]
      clear e
      go_wp2
      go_ret
      exact ⟨rfl, rfl⟩

theorem num_add (A : Option Addr) (n c : Nat) (xs : List Int) (w : World) (h : Nums w A n xs) (hn : n ≤ 9223372036854775807) :
    Calls Try.prog 14 #[.slice A n c] w fun e w' => e = .returned (.int .u64 (addAll xs)) ∧ w = w' := by
  obtain ⟨h1, h2, h3⟩ := h
  by_cases z : n = 0
  · subst z
    have : xs = [] := List.eq_nil_of_length_eq_zero h1
    subst this
    exact num_add_nil A c w
  · obtain ⟨b, off, rfl, hb, hc⟩ := h3 (by omega)
    exact num_add_some b off n c xs w h1 h2 hn hc

/-- Two, handed over as a row that was just made. -/
theorem num_add_two (g c : Nat) (a b : Int) (w : World) (ha : U a) (hb : U b) (c0 : w.cell? ⟨g, 0, none⟩ = some (.int .u64 a)) (c1 : w.cell? ⟨g, 1, none⟩ = some (.int .u64 b)) :
    Calls Try.prog 14 #[.slice (some ⟨g, 0, none⟩) 2 c] w fun e w' => e = .returned (.int .u64 (sat (a + b))) ∧ w = w' := by
  have h := num_add_some g 0 2 c [a, b] w rfl (by intro x h; simp at h; rcases h with rfl | rfl; exact ha; exact hb) (by omega) (by
    intro k hk
    match k, hk with
    | 0, _ => simpa using c0
    | 1, _ => simpa using c1)
  rw [addAll_two a b ha] at h
  exact h

theorem num_mul (a b : Int) (w : World) (ha : U a) (hb : U b) :
    Calls Try.prog 16 #[.int .u64 a, .int .u64 b] w fun e w' => e = .returned (.int .u64 (sat (a * b))) ∧ Kept w w' := by
  rw [← stop_mul a b ha hb]
  go_enter Try.func16, Try.ntmps16
  go_wp2_with (first
    | (go_at_call 29; ((with_reducible refine (mul_any _ _ _ ha hb).mono ?_); rintro e w' ⟨rfl, gw⟩))
    | (go_at_call 28; ((with_reducible refine (stop_any _ _ _).mono ?_); rintro e w'' ⟨rfl, rfl⟩)))
  go_ret
  exact ⟨rfl, gw⟩

theorem num_sub (a b : Int) (w : World) (ha : U a) (hb : U b) :
    Calls Try.prog 17 #[.int .u64 a, .int .u64 b] w fun e w' => e = .returned (.int .u64 (sbI a b)) ∧ w = w' := by
  unfold U at *
  by_cases c : a < b
  · have e : sbI a b = 0 := by simp [sbI, c]
    rw [e]; clear e
    go_enter Try.func17, Try.ntmps17
    go_wp2
    go_ret
    exact ⟨rfl, rfl⟩
  · have e : sbI a b = a - b := by simp [sbI, c]
    rw [e]; clear e
    go_enter Try.func17, Try.ntmps17
    go_wp2
    go_ret
    exact ⟨rfl, rfl⟩

theorem num_quot (a b : Int) (w : World) (ha : U a) (hb : U b) :
    Calls Try.prog 30 #[.int .u64 a, .int .u64 b] w fun e w' => e = .returned (.tuple #[.int .u64 (dvI a b), .int .u64 (lfI a b)]) ∧ Drew w w' := by
  by_cases c : b = 0
  · subst c
    have e : dvI a 0 = 18446744073709551615 := by simp [dvI]
    have e2 : lfI a 0 = 0 := by simp [lfI]
    rw [e, e2]; clear e e2
    go_enter Try.func30, Try.ntmps30
    go_wp2
    go_ret2
    exact ⟨rfl, Drew.refl _⟩
  · have e : dvI a b = a / b := by simp [dvI, c]
    have e2 : lfI a b = a % b := by simp [lfI, c]
    rw [e, e2]; clear e e2
    have c1 : (b == 0) = false := by simpa using c
    have d := div_le_of a b ha hb
    unfold U at *
    go_enter Try.func30, Try.ntmps30
    go_wp2
    go_quiet (fail)
    go_wp2
    go_ret2
    exact ⟨rfl, Drew.of _ _⟩

theorem num_div (a b : Int) (w : World) (ha : U a) (hb : U b) :
    Calls Try.prog 18 #[.int .u64 a, .int .u64 b] w fun e w' => e = .returned (.int .u64 (dvI a b)) ∧ Drew w w' := by
  go_enter Try.func18, Try.ntmps18
  go_wp2_with (go_at_call 30; ((with_reducible refine (num_quot _ _ _ ha hb).mono ?_); rintro e w' ⟨rfl, gw⟩))
  go_ret
  exact ⟨rfl, gw⟩

theorem num_ceil (a b : Int) (w : World) (ha : U a) (hb : U b) :
    Calls Try.prog 19 #[.int .u64 a, .int .u64 b] w fun e w' => e = .returned (.int .u64 (clI a b)) ∧ Drew w w' := by
  have q := num_quot a b w ha hb
  by_cases c : lfI a b = 0
  · have e : clI a b = dvI a b := by unfold lfI clI dvI at *; by_cases h : b = 0 <;> simp [h] at c ⊢; omega
    rw [e]; clear e
    rw [c] at q
    clear c
    generalize dvI a b = d at *
    go_enter Try.func19, Try.ntmps19
    go_wp2_with (go_at_call 30; ((with_reducible refine q.mono ?_); rintro e w' ⟨rfl, gw⟩))
    go_ret
    exact ⟨rfl, gw⟩
  · have hb0 : b ≠ 0 := by intro h; apply c; simp [lfI, h]
    have e : clI a b = dvI a b + 1 := by simp [lfI, hb0] at c; simp [clI, dvI, hb0]; omega
    have c1 : (lfI a b == 0) = false := by simpa using c
    have hd : 0 ≤ dvI a b ∧ dvI a b ≤ 18446744073709551614 := by
      have e2 : dvI a b = a / b := by simp [dvI, hb0]
      have e3 : lfI a b = a % b := by simp [lfI, hb0]
      rw [e2]; rw [e3] at c
      have h0 := div_le_of a b ha hb
      have h1 := Int.mul_ediv_add_emod a b
      unfold U at *
      have h2 := Int.emod_nonneg a hb0
      have h3 : 1 * (a / b) ≤ b * (a / b) := Int.mul_le_mul_of_nonneg_right (by omega) h0.1
      omega
    rw [e]; clear e c
    generalize dvI a b = d at *
    generalize lfI a b = r at *
    go_enter Try.func19, Try.ntmps19
    go_wp2_with (go_at_call 30; ((with_reducible refine q.mono ?_); rintro e w' ⟨rfl, gw⟩))
    go_ret
    exact ⟨rfl, gw⟩

theorem num_clamp (t : Int) (w : World) (ht : -9223372036854775808 ≤ t ∧ t ≤ 9223372036854775807) :
    Calls Try.prog 12 #[.int .i64 t] w fun e w' => e = .returned (.int .u64 (cmI t)) ∧ w = w' := by
  by_cases c : t < 0
  · have e : cmI t = 0 := by simp [cmI, c]
    rw [e]; clear e
    go_enter Try.func12, Try.ntmps12
    go_wp2
    go_ret
    exact ⟨rfl, rfl⟩
  · have e : cmI t = t := by simp [cmI, c]
    rw [e]; clear e
    go_enter Try.func12, Try.ntmps12
    go_wp2
    go_ret
    exact ⟨rfl, rfl⟩

theorem num_fits (a b c : Int) (w : World) (ha : U a) (hb : U b) (hc : U c) :
    Calls Try.prog 20 #[.int .u64 a, .int .u64 b, .int .u64 c] w fun e w' => e = .returned (.bool (ftB a b c)) ∧ w = w' := by
  rw [← fits_less a b c ha hb hc]
  go_enter Try.func20, Try.ntmps20
  go_wp2_with (first
    | (go_at_call 27; ((with_reducible refine (add_any _ _ _ _ _ U_zero ha U_zero hb).mono ?_); rintro e w' ⟨rfl, rfl⟩))
    | (go_at_call 31; ((with_reducible refine (less_any _ _ _ _ _).mono ?_); rintro e w' ⟨rfl, rfl⟩)))
  go_ret
  exact ⟨rfl, rfl⟩
end Go.Proofs.Ytpnhhihddlpokaa.Wd
