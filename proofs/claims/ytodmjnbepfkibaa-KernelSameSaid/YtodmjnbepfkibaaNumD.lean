/- What num's Add answers of two numbers of 64 bits that are handed over as a row; no conditions. -/
import Derived.Test.YtodmjnbepfkibaaNumC
namespace Go.Proofs.Ytodmjnbepfkibaa.Wd
open Go.RowKit

theorem stop_any (h l : Int) (w : World) :
    Calls Try.prog 58 #[.int .u64 h, .int .u64 l] w fun e w' => e = .returned (.int .u64 (stopV h l)) ∧ w = w' := by
  by_cases c : h = 0
  · subst c
    have e : stopV 0 l = l := by simp [stopV]
    rw [e]; clear e
    go_enter Try.func58, Try.ntmps58
    go_wp2
    go_ret
    exact ⟨rfl, rfl⟩
  · have e : stopV h l = 18446744073709551615 := by simp [stopV, c]
    rw [e]; clear e
    have c1 : (h == 0) = false := by simpa using c
    have c2 : (h != 0) = true := by simpa using c
    go_enter Try.func58, Try.ntmps58
    go_wp2
    go_ret
    exact ⟨rfl, rfl⟩

theorem num_add_some (b off n c : Nat) (xs : List Int) (w : World) (hl : xs.length = n) (hx : ∀ x ∈ xs, U x) (hn : n ≤ 9223372036854775807)
    (hc : ∀ k, k < n → w.cell? ⟨b, off + k, none⟩ = some (.int .u64 (xs.getD k 0))) :
    Calls Try.prog 30 #[.slice (some ⟨b, off, none⟩) n c] w fun e w' => e = .returned (.int .u64 (addAll xs)) ∧ w = w' := by
  have HL := Lib.hid hl
  have HC := Lib.hid hc
  clear hl hc
  go_enter Try.func30, Try.ntmps30
  go_wp2
  go_loop [3, 11] (fun s i => ∃ k : Nat, k ≤ n ∧ i = .int .i64 k ∧ s = .int .u64 (addAll (xs.take k))) (fun _ i => n - (intOf i).toNat)
  case atStart => exact ⟨0, Nat.zero_le _, rfl, rfl⟩
  case round =>
    obtain ⟨k, hk, rfl, rfl⟩ := hrel
    by_cases hlt : k < n
    · have hcell := HC.out k hlt
      have us : U (addAll (xs.take k)) := addAll_U _ (fun x h => hx x (List.mem_of_mem_take h))
      have ux : U (xs.getD k 0) := by
        have hh : k < xs.length := by rw [HL.out]; exact hlt
        simp only [List.getD, List.getElem?_eq_getElem hh, Option.getD_some]
        exact hx _ (List.getElem_mem hh)
      have e := addAll_take xs k (by rw [HL.out]; exact hlt)
      rw [← stop_add _ _ us ux] at e
      have E := Lib.hid e
      clear e
      generalize xs.getD k 0 = x at *
      generalize addAll (xs.take k) = s at *
      go_wp2_with (first
        | (go_at_call 57; ((with_reducible refine (add_any _ _ _ _ _ U_zero us U_zero ux).mono ?_); rintro e w' ⟨rfl, rfl⟩))
        | (go_at_call 58; ((with_reducible refine (stop_any _ _ _).mono ?_); rintro e w' ⟨rfl, rfl⟩)))
      go_round
      case rel => exact ⟨k + 1, by omega, by go_num, by rw [E.out]⟩
      case measure => simp [intOf]; omega
    · obtain rfl : n = k := by omega
      have e : xs.take n = xs := List.take_of_length_le (by rw [HL.out]; exact Nat.le_refl _)
      rw [e]
      clear e
      go_wp2
      go_ret
      exact ⟨rfl, rfl⟩

/-- Two, handed over as a row that was just made. -/
theorem num_add_two (g c : Nat) (a b : Int) (w : World) (ha : U a) (hb : U b) (c0 : w.cell? ⟨g, 0, none⟩ = some (.int .u64 a)) (c1 : w.cell? ⟨g, 1, none⟩ = some (.int .u64 b)) :
    Calls Try.prog 30 #[.slice (some ⟨g, 0, none⟩) 2 c] w fun e w' => e = .returned (.int .u64 (sat (a + b))) ∧ w = w' := by
  have h := num_add_some g 0 2 c [a, b] w rfl (by intro x h; simp at h; rcases h with rfl | rfl; exact ha; exact hb) (by omega) (by
    intro k hk
    match k, hk with
    | 0, _ => simpa using c0
    | 1, _ => simpa using c1)
  rw [addAll_two a b ha] at h
  exact h

end Go.Proofs.Ytodmjnbepfkibaa.Wd
