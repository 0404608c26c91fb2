/- RuleNames, walked; the kernels' names lie in the program's table. -/
import Derived.Test.YtpkpmbigljkneaaDoorRulOwn
namespace Go.Proofs.YtpkpmbigljkneaaDoor.Wd
open Go Go.RowKit
set_option linter.unusedVariables false

theorem nam_kin (s : ByteArray) (h : kinB s = true) : namS (kinI s) = s := by
  unfold kinB at h
  unfold kinI
  have h := of_decide_eq_true h
  by_cases h1 : s = gcraS
  · subst h1; rfl
  by_cases h2 : s = bucketS
  · subst h2; rfl
  by_cases h3 : s = leakyS
  · subst h3; rfl
  exact absurd h (by simp [h1, h2, h3])
theorem kin_none (s : ByteArray) (h : kinB s = false) : kinI s = 0 := by
  unfold kinB at h
  have h := of_decide_eq_false h
  unfold kinI
  rw [if_neg (fun e => h (.inl e)), if_neg (fun e => h (.inr (.inl e))), if_neg (fun e => h (.inr (.inr e)))]
theorem kin_U (s : ByteArray) : 0 ≤ kinI s ∧ kinI s ≤ 3 := by unfold kinI; (repeat' split) <;> omega
theorem kin_nam (k : Int) (h : 1 ≤ k ∧ k ≤ 3) : kinI (namS k) = k ∧ kinB (namS k) = true ∧ (namS k).toList.isEmpty = false := by
  rcases (by omega : k = 1 ∨ k = 2 ∨ k = 3) with rfl | rfl | rfl
  · exact ⟨by decide, by decide, toList_ne _ (by decide)⟩
  · exact ⟨by decide, by decide, toList_ne _ (by decide)⟩
  · exact ⟨by decide, by decide, toList_ne _ (by decide)⟩
theorem kin_out (k : Int) (h : ¬ (1 ≤ k ∧ k ≤ 3)) : kinI (namS k) = 0 ∧ kinB (namS k) = false ∧ (namS k).toList.isEmpty = true := by
  have : namS k = ⟨#[]⟩ := by unfold namS; rw [if_neg (by omega), if_neg (by omega), if_neg (by omega)]
  rw [this]
  exact ⟨by decide, by decide, toList_none _ (by decide)⟩

set_option maxRecDepth 100000 in
set_option maxHeartbeats 2000000 in
theorem names_walk (k : Int) (s : ByteArray) (w : World) (hN : Nam w) (hk : 0 ≤ k ∧ k ≤ 255) (hs : s.size ≤ 9223372036854775807) :
    Calls Tryd.prog 6 #[.int .u8 k, .string s] w fun r w' => r = .returned (.bool true) ∧ Below w.heap.size w w' := by
  have KN := Lib.hid (fun W (h : Nam W) => known_any W h)
  have N1 := Lib.hid (fun W (h : Nam W) => name_any k W h hk)
  have N2 := Lib.hid (fun W (h : Nam W) => name_any (kinI s) W h (by have := kin_U s; omega))
  have K1 := Lib.hid (fun W (h : Nam W) => kind_any (namS k) W h)
  have K2 := Lib.hid (fun W (h : Nam W) => kind_any s W h)
  have HN := Lib.hid hN
  clear hN
  by_cases hl : 100 < s.size
  · go_enter Tryd.func6, Tryd.ntmps6
    go_wp2_with (go_at_call 9; refine (KN.out _ HN.out).mono ?_; rintro r w1 ⟨rfl, g⟩)
    go_ret
    exact ⟨rfl, g⟩
  · have hu := kin_U s
    by_cases hin : 1 ≤ k ∧ k ≤ 3
    · obtain ⟨e1, e2, e3⟩ := kin_nam k hin
      rw [e1, e2] at K1
      obtain ⟨i1, i2⟩ := hin
      clear e1 e2
      cases ha : kinB s
      · rw [ha, kin_none s ha] at K2
        rw [kin_none s ha] at N2
        clear ha hu
        generalize namS k = nk at *
        go_enter Tryd.func6, Tryd.ntmps6
        go_wp2_with (first
          | (go_at_call 9; ((with_reducible refine (KN.out _ HN.out).mono ?_); rintro r w1 ⟨rfl, g⟩; replace HN := Lib.hid (HN.out.below g)))
          | (go_at_call 17; ((with_reducible refine (N1.out _ HN.out).mono ?_); rintro r w2 ⟨rfl, rfl⟩))
          | (go_at_call 17; ((with_reducible refine (N2.out _ HN.out).mono ?_); rintro r w2 ⟨rfl, rfl⟩))
          | (go_at_call 13; ((with_reducible refine (K1.out _ HN.out).mono ?_); rintro r w2 ⟨rfl, rfl⟩))
          | (go_at_call 13; ((with_reducible refine (K2.out _ HN.out).mono ?_); rintro r w2 ⟨rfl, rfl⟩)))
        go_ret
        exact ⟨rfl, g⟩
      · have eN := nam_kin s ha
        rw [ha] at K2
        rw [eN] at N2
        clear ha eN
        have t1 : (s.toList == s.toList) = true := by simp
        generalize kinI s = j at *
        generalize namS k = nk at *
        go_enter Tryd.func6, Tryd.ntmps6
        go_wp2_with (first
          | (go_at_call 9; ((with_reducible refine (KN.out _ HN.out).mono ?_); rintro r w1 ⟨rfl, g⟩; replace HN := Lib.hid (HN.out.below g)))
          | (go_at_call 17; ((with_reducible refine (N1.out _ HN.out).mono ?_); rintro r w2 ⟨rfl, rfl⟩))
          | (go_at_call 17; ((with_reducible refine (N2.out _ HN.out).mono ?_); rintro r w2 ⟨rfl, rfl⟩))
          | (go_at_call 13; ((with_reducible refine (K1.out _ HN.out).mono ?_); rintro r w2 ⟨rfl, rfl⟩))
          | (go_at_call 13; ((with_reducible refine (K2.out _ HN.out).mono ?_); rintro r w2 ⟨rfl, rfl⟩)))
        go_ret
        exact ⟨rfl, g⟩
    · obtain ⟨e1, e2, e3⟩ := kin_out k hin
      rw [e1, e2] at K1
      clear e1 e2
      have hor : k = 0 ∨ 3 < k := by omega
      clear hin
      cases ha : kinB s
      · rw [ha, kin_none s ha] at K2
        rw [kin_none s ha] at N2
        clear ha hu
        generalize namS k = nk at *
        rcases hor with rfl | hor
        all_goals
          go_enter Tryd.func6, Tryd.ntmps6
          go_wp2_with (first
            | (go_at_call 9; ((with_reducible refine (KN.out _ HN.out).mono ?_); rintro r w1 ⟨rfl, g⟩; replace HN := Lib.hid (HN.out.below g)))
            | (go_at_call 17; ((with_reducible refine (N1.out _ HN.out).mono ?_); rintro r w2 ⟨rfl, rfl⟩))
            | (go_at_call 17; ((with_reducible refine (N2.out _ HN.out).mono ?_); rintro r w2 ⟨rfl, rfl⟩))
            | (go_at_call 13; ((with_reducible refine (K1.out _ HN.out).mono ?_); rintro r w2 ⟨rfl, rfl⟩))
            | (go_at_call 13; ((with_reducible refine (K2.out _ HN.out).mono ?_); rintro r w2 ⟨rfl, rfl⟩)))
          go_ret
          exact ⟨rfl, g⟩
      · have eN := nam_kin s ha
        rw [ha] at K2
        rw [eN] at N2
        clear ha eN
        have t1 : (s.toList == s.toList) = true := by simp
        generalize kinI s = j at *
        generalize namS k = nk at *
        rcases hor with rfl | hor
        all_goals
          go_enter Tryd.func6, Tryd.ntmps6
          go_wp2_with (first
            | (go_at_call 9; ((with_reducible refine (KN.out _ HN.out).mono ?_); rintro r w1 ⟨rfl, g⟩; replace HN := Lib.hid (HN.out.below g)))
            | (go_at_call 17; ((with_reducible refine (N1.out _ HN.out).mono ?_); rintro r w2 ⟨rfl, rfl⟩))
            | (go_at_call 17; ((with_reducible refine (N2.out _ HN.out).mono ?_); rintro r w2 ⟨rfl, rfl⟩))
            | (go_at_call 13; ((with_reducible refine (K1.out _ HN.out).mono ?_); rintro r w2 ⟨rfl, rfl⟩))
            | (go_at_call 13; ((with_reducible refine (K2.out _ HN.out).mono ?_); rintro r w2 ⟨rfl, rfl⟩)))
          go_ret
          exact ⟨rfl, g⟩
end Go.Proofs.YtpkpmbigljkneaaDoor.Wd
