/- The document's answers of chapter 9 (tollerref09), for any texts and rows of texts; no conditions but those that each names. -/
import Derived.Test.YtpkpmbigljkneaaDoorRulS
namespace Go.Proofs.YtpkpmbigljkneaaDoor.Wd
open Go Go.RowKit
set_option linter.unusedVariables false

theorem rright_any (s : ByteArray) (w : World) (hs : s.size ≤ 9223372036854775807) :
    Calls Tryd.prog 36 #[.string s] w fun e w' => e = .returned (.bool (rtB (lb s))) ∧ w = w' := by
  by_cases h0 : s.size < 1
  · rw [rt_none s (.inl h0)]
    go_enter Tryd.func36, Tryd.ntmps36
    go_wp2
    go_ret
    exact ⟨rfl, rfl⟩
  · by_cases h1 : 128 < s.size
    · rw [rt_none s (.inr h1)]
      go_enter Tryd.func36, Tryd.ntmps36
      go_wp2
      go_ret
      exact ⟨rfl, rfl⟩
    · have Y := Lib.hid (rt_yes s (by omega) (by omega))
      have N := Lib.hid (rt_no s)
      generalize rtB (lb s) = r at *
      go_enter Tryd.func36, Tryd.ntmps36
      go_wp2
      go_loop [3] (fun i => ∃ k : Nat, i = .int .i64 k ∧ k ≤ s.size ∧ Hid (∀ j (hj : j < s.size), j < k → visB (s[j].toNat : Int) = true)) (fun i => s.size - (intOf i).toNat)
      case atStart => exact ⟨0, rfl, by omega, Lib.hid (fun j _ hj => absurd hj (by omega))⟩
      case round =>
        obtain ⟨k, rfl, hk, D⟩ := hrel
        by_cases hlt : k < s.size
        · by_cases c1 : (s[k].toNat : Int) < 33
          · have e := N.out k hlt (decide_eq_false (fun g => by omega))
            subst e
            go_wp2
            go_ret
            exact ⟨rfl, rfl⟩
          · by_cases c2 : (126 : Int) < (s[k].toNat : Int)
            · have e := N.out k hlt (decide_eq_false (fun g => by omega))
              subst e
              go_wp2
              go_ret
              exact ⟨rfl, rfl⟩
            · have hb : visB (s[k].toNat : Int) = true := decide_eq_true ⟨by omega, by omega⟩
              have HB := Lib.hid hb
              clear hb
              go_wp2
              go_round
              case rel =>
                refine ⟨k + 1, by go_num, by omega, Lib.hid (fun j hj hjk => ?_)⟩
                by_cases e : j = k
                · subst e; exact HB.out
                · exact D.out j hj (by omega)
              case measure => simp [intOf]; omega
        · obtain rfl : k = s.size := by omega
          have e := Y.out (fun j hj => D.out j hj hj)
          subst e
          go_wp2
          go_ret
          exact ⟨rfl, rfl⟩

theorem Sts.drew {w w' : World} {A : Option Addr} {n : Nat} {xs : List ByteArray} (h : Sts w A n xs) (d : Drew w w') : Sts w' A n xs := h.below d.kept.2

end Go.Proofs.YtpkpmbigljkneaaDoor.Wd
