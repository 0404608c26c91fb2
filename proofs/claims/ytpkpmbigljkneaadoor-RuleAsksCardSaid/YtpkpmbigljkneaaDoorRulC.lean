/- What key.Right answers, for any text, and key.Sorted, for any row of texts; no conditions but those that each names. -/
import Derived.Test.YtpkpmbigljkneaaDoorRulV
import Derived.WalkKit
import Derived.ProofKit
import Derived.Handy
import Derived.Lib.Hide
import Derived.LoopTactic
import Derived.Deep.RegionHeld3
import Derived.Deep.QuietTactic
import Derived.BigQuiet
import Derived.OwnWalk
import Derived.Laws.OwnMore
namespace Go.Proofs.YtpkpmbigljkneaaDoor.Wd
open Go Go.RowKit
set_option linter.unusedVariables false

/-! ### Right -/
/-- May a key be? -/
def rtB (l : List UInt8) : Bool := decide (1 ≤ l.length ∧ l.length ≤ 128) && l.all (fun c => visB (c.toNat : Int))
theorem rt_none (s : ByteArray) (h : s.size < 1 ∨ 128 < s.size) : rtB (lb s) = false := by
  unfold rtB; rw [list_size, decide_eq_false (by omega)]; rfl
theorem rt_no (s : ByteArray) (j : Nat) (hj : j < s.size) (h : visB (s[j].toNat : Int) = false) : rtB (lb s) = false := by
  unfold rtB
  rw [show (lb s).all (fun c => visB (c.toNat : Int)) = false from ?_, Bool.and_false]
  rw [← Bool.not_eq_true, List.all_eq_true]
  intro g
  have := g s[j] (by rw [← list_at s j hj (by rw [list_size]; exact hj)]; exact List.getElem_mem _)
  rw [h] at this; cases this
theorem rt_yes (s : ByteArray) (h1 : 1 ≤ s.size) (h2 : s.size ≤ 128) (h : ∀ j (hj : j < s.size), visB (s[j].toNat : Int) = true) : rtB (lb s) = true := by
  unfold rtB
  rw [list_size, decide_eq_true ⟨h1, h2⟩, Bool.true_and, List.all_eq_true]
  intro b hb
  obtain ⟨i, hi, rfl⟩ := List.getElem_of_mem hb
  rw [list_at s i (by rw [← list_size]; exact hi)]
  exact h i _
theorem u8_bd (c : UInt8) : 0 ≤ (c.toNat : Int) ∧ (c.toNat : Int) ≤ 255 := ⟨by omega, by have := c.toNat_lt; omega⟩

theorem kright_any (s : ByteArray) (w : World) (hs : s.size ≤ 9223372036854775807) :
    Calls Tryd.prog 53 #[.string s] w fun e w' => e = .returned (.bool (rtB (lb s))) ∧ w = w' := by
  by_cases h0 : s.size < 1
  · rw [rt_none s (.inl h0)]
    go_enter Tryd.func53, Tryd.ntmps53
    go_wp2
    go_ret
    exact ⟨rfl, rfl⟩
  · by_cases h1 : 128 < s.size
    · rw [rt_none s (.inr h1)]
      go_enter Tryd.func53, Tryd.ntmps53
      go_wp2
      go_ret
      exact ⟨rfl, rfl⟩
    · have Y := Lib.hid (rt_yes s (by omega) (by omega))
      have N := Lib.hid (rt_no s)
      generalize rtB (lb s) = r at *
      go_enter Tryd.func53, Tryd.ntmps53
      go_wp2
      go_loop [14] (fun i => ∃ k : Nat, i = .int .i64 k ∧ k ≤ s.size ∧ Hid (∀ j (hj : j < s.size), j < k → visB (s[j].toNat : Int) = true)) (fun i => s.size - (intOf i).toNat)
      case atStart => exact ⟨0, rfl, by omega, Lib.hid (fun j _ hj => absurd hj (by omega))⟩
      case round =>
        obtain ⟨k, rfl, hk, D⟩ := hrel
        by_cases hlt : k < s.size
        · have v1 := fun W => visible_any (s[k].toNat : Int) W (u8_bd _)
          by_cases hb : visB (s[k].toNat : Int) = true
          · rw [hb] at v1
            go_wp2_with (go_at_call 64; refine (v1 _).mono ?_; rintro e w1 ⟨rfl, rfl⟩)
            go_round
            case rel =>
              refine ⟨k + 1, by go_num, by omega, Lib.hid (fun j hj hjk => ?_)⟩
              by_cases e : j = k
              · subst e; exact hb
              · exact D.out j hj (by omega)
            case measure => simp [intOf]; omega
          · have hf : visB (s[k].toNat : Int) = false := by simpa using hb
            rw [hf] at v1
            have e := N.out k hlt hf
            subst e
            clear hb
            go_wp2_with (go_at_call 64; refine (v1 _).mono ?_; rintro e w1 ⟨rfl, rfl⟩)
            go_ret
            exact ⟨rfl, rfl⟩
        · obtain rfl : k = s.size := by omega
          have e := Y.out (fun j hj => D.out j hj hj)
          subst e
          go_wp2
          go_ret
          exact ⟨rfl, rfl⟩
end Go.Proofs.YtpkpmbigljkneaaDoor.Wd
