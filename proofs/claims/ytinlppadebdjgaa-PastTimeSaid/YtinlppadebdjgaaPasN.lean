/- What num's Sub and Add of two (and wide's calls that they stand on) answer, for any numbers of 64 bits; no conditions. -/
import Derived.Test.YtinlppadebdjgaaStaA
namespace Go.Proofs.Ytinlppadebdjgaa.Wd
open Go.RowKit

theorem ret2 {k m : IntKind} {a b c d : Int} (h : a = b) (h' : c = d) : Ending.returned (.tuple #[.int k a, .int m c]) = .returned (.tuple #[.int k b, .int m d]) := by rw [h, h']

theorem addCarry_any (a b c : Int) (w : World) (ha : 0 ≤ a ∧ a ≤ 18446744073709551615) (hb : 0 ≤ b ∧ b ≤ 18446744073709551615) (hc : 0 ≤ c ∧ c ≤ 1) :
    Calls Try.prog 39 #[.int .u64 a, .int .u64 b, .int .u64 c] w fun e w' => e = .returned (.tuple #[.int .u64 ((a + b + c) % 18446744073709551616), .int .u64 ((a + b + c) / 18446744073709551616)]) ∧ w = w' := by
  go_enter Try.func39, Try.ntmps39
  go_wp2
  all_goals (go_ret2; refine ⟨ret2 ?_ ?_, rfl⟩ <;> (simp only [IntKind.wrap_u64] at *; omega))

theorem ret3 {k m : IntKind} {a b c d : Int} {p q : Bool} (h : a = b) (h' : c = d) (h'' : p = q) : Ending.returned (.tuple #[.int k a, .int m c, .bool p]) = .returned (.tuple #[.int k b, .int m d, .bool q]) := by rw [h, h', h'']

theorem add_any (ah al bh bl : Int) (w : World) (h1 : U ah) (h2 : U al) (h3 : U bh) (h4 : U bl) :
    Calls Try.prog 37 #[.int .u64 ah, .int .u64 al, .int .u64 bh, .int .u64 bl] w fun e w' => e = .returned (.tuple #[.int .u64 (adH ah al bh bl), .int .u64 (adL al bl), .bool (adC ah al bh bl)]) ∧ w = w' := by
  unfold U at *
  go_enter Try.func37, Try.ntmps37
  go_wp2_with (go_at_call 39; refine (addCarry_any _ _ _ _ (by omega) (by omega) (by omega)).mono ?_; rintro e w' ⟨rfl, rfl⟩)
  go_ret3
  refine ⟨ret3 rfl rfl ?_, rfl⟩
  rw [Bool.eq_iff_iff]
  unfold adC
  simp only [beq_iff_eq, decide_eq_true_eq]
  omega

theorem num_sub (a b : Int) (w : World) (ha : U a) (hb : U b) :
    Calls Try.prog 30 #[.int .u64 a, .int .u64 b] w fun e w' => e = .returned (.int .u64 (sbI a b)) ∧ w = w' := by
  unfold U at *
  by_cases c : a < b
  · have e : sbI a b = 0 := by simp [sbI, c]
    rw [e]; clear e
    go_enter Try.func30, Try.ntmps30
    go_wp2
    go_ret
    exact ⟨rfl, rfl⟩
  · have e : sbI a b = a - b := by simp [sbI, c]
    rw [e]; clear e
    go_enter Try.func30, Try.ntmps30
    go_wp2
    go_ret
    exact ⟨rfl, rfl⟩

theorem stop_any (h l : Int) (w : World) :
    Calls Try.prog 38 #[.int .u64 h, .int .u64 l] w fun e w' => e = .returned (.int .u64 (stopV h l)) ∧ w = w' := by
  by_cases c : h = 0
  · subst c
    have e : stopV 0 l = l := by simp [stopV]
    rw [e]; clear e
    go_enter Try.func38, Try.ntmps38
    go_wp2
    go_ret
    exact ⟨rfl, rfl⟩
  · have e : stopV h l = 18446744073709551615 := by simp [stopV, c]
    rw [e]; clear e
    have c1 : (h == 0) = false := by simpa using c
    have c2 : (h != 0) = true := by simpa using c
    go_enter Try.func38, Try.ntmps38
    go_wp2
    go_ret
    exact ⟨rfl, rfl⟩

theorem num_add_some (b off n c : Nat) (xs : List Int) (w : World) (hl : xs.length = n) (hx : ∀ x ∈ xs, U x) (hn : n ≤ 9223372036854775807)
    (hc : ∀ k, k < n → w.cell? ⟨b, off + k, none⟩ = some (.int .u64 (xs.getD k 0))) :
    Calls Try.prog 35 #[.slice (some ⟨b, off, none⟩) n c] w fun e w' => e = .returned (.int .u64 (addAll xs)) ∧ w = w' := by
  have HL := Lib.hid hl
  have HC := Lib.hid hc
  clear hl hc
  go_enter Try.func35, Try.ntmps35
  go_wp2
  go_loop [3, 11] (fun s i => ∃ k : Nat, k ≤ n ∧ i = .int .i64 k ∧ s = .int .u64 (addAll (xs.take k))) (fun _ i => n - (intOf i).toNat)
  case atStart => exact ⟨0, Nat.zero_le _, rfl, rfl⟩
  case round =>
    obtain ⟨k, hk, rfl, rfl⟩ := hrel
    by_cases hlt : k < n
    · have hcell := HC.out k hlt
      have us : U (addAll (xs.take k)) := addAll_U _ (fun x h => hx x (List.mem_of_mem_take h))
      have ux : U (xs.getD k 0) := by
        have hh : k < xs.length := by rw [HL.out]; exact hlt
        simp only [List.getD, List.getElem?_eq_getElem hh, Option.getD_some]
        exact hx _ (List.getElem_mem hh)
      have e := addAll_take xs k (by rw [HL.out]; exact hlt)
      rw [← stop_add _ _ us ux] at e
      have E := Lib.hid e
      clear e
      generalize xs.getD k 0 = x at *
      generalize addAll (xs.take k) = s at *
      go_wp2_with (first
        | (go_at_call 37; ((with_reducible refine (add_any _ _ _ _ _ U_zero us U_zero ux).mono ?_); rintro e w' ⟨rfl, rfl⟩))
        | (go_at_call 38; ((with_reducible refine (stop_any _ _ _).mono ?_); rintro e w' ⟨rfl, rfl⟩)))
      go_round
      case rel => exact ⟨k + 1, by omega, by go_num, by rw [E.out]⟩
      case measure => simp [intOf]; omega
    · obtain rfl : n = k := by omega
      have e : xs.take n = xs := List.take_of_length_le (by rw [HL.out]; exact Nat.le_refl _)
      rw [e]
      clear e
      go_wp2
      go_ret
      exact ⟨rfl, rfl⟩

/-- Two, handed over as a row that was just made. -/
theorem num_add_two (g c : Nat) (a b : Int) (w : World) (ha : U a) (hb : U b) (c0 : w.cell? ⟨g, 0, none⟩ = some (.int .u64 a)) (c1 : w.cell? ⟨g, 1, none⟩ = some (.int .u64 b)) :
    Calls Try.prog 35 #[.slice (some ⟨g, 0, none⟩) 2 c] w fun e w' => e = .returned (.int .u64 (sat (a + b))) ∧ w = w' := by
  have h := num_add_some g 0 2 c [a, b] w rfl (by intro x h; simp at h; rcases h with rfl | rfl; exact ha; exact hb) (by omega) (by
    intro k hk
    match k, hk with
    | 0, _ => simpa using c0
    | 1, _ => simpa using c1)
  rw [addAll_two a b ha] at h
  exact h

end Go.Proofs.Ytinlppadebdjgaa.Wd
