/- The document's answers of chapter 11: Right, Cap, Strings, number; no conditions but those that each names. -/
import Derived.Test.YtpkpmbigljkneaaDoorRulH
import Derived.Test.YtpkpmbigljkneaaDoorRulF
import Derived.BigQuiet
import Derived.Deep.QuietTactic
namespace Go.Proofs.YtpkpmbigljkneaaDoor.Wd
open Go Go.RowKit
set_option linter.unusedVariables false

theorem refRight_any (p : ByteArray) (e b k : Int) (w : World) (hs : p.size ≤ 9223372036854775807) (he : U e) (hb : U b) (hk : 0 ≤ k ∧ k ≤ 255) :
    Calls Tryd.prog 26 #[rul p e b k] w fun r w' => r = .returned (.int .i64 (ruE p e b k)) ∧ Kept w w' := by
  have RR := fun W => rright_any p W hs
  have MM := fun W => ref_mul e b W he hb
  have KK := fun W => refKright_any k W hk
  have P : (p.toList.isEmpty = true ∧ pfB p = true) ∨ (p.toList.isEmpty = false ∧ pfB p = rtB (lb p)) := by
    by_cases h : p.size = 0
    · exact .inl ⟨toList_none p h, by unfold pfB; rw [decide_eq_true h]; rfl⟩
    · exact .inr ⟨toList_ne p (by omega), by unfold pfB; rw [decide_eq_false h]; rfl⟩
  rw [ru_is]
  have he0 := he.1
  have hb0 := hb.1
  clear he hb hs
  generalize rtB (lb p) = t at *
  generalize sat (e * b) = s at *
  generalize isK k = q at *
  rcases P with ⟨hz, hp⟩ | ⟨hz, hp⟩
  all_goals
    rw [hp]
    clear hp
  · rw [if_neg (by decide)]
    by_cases h1 : e = 0
    · rw [if_pos (by omega)]
      subst h1
      go_enter Tryd.func26, Tryd.ntmps26
      go_wp2
      go_ret
      exact ⟨rfl, (Kept.refl w).alloc _ _⟩
    have e1 : (e == 0) = false := by simpa using h1
    rw [if_neg (by omega)]
    by_cases h2 : b = 0
    · rw [if_pos (by omega)]
      subst h2
      clear h1
      go_enter Tryd.func26, Tryd.ntmps26
      go_wp2
      go_ret
      exact ⟨rfl, (Kept.refl w).alloc _ _⟩
    have e2 : (b == 0) = false := by simpa using h2
    rw [if_neg (by omega)]
    clear h1 h2
    by_cases h3 : s ≤ 4611686018427387904
    · rw [if_neg (by omega)]
      cases q
      all_goals
        go_enter Tryd.func26, Tryd.ntmps26
        go_wp2_with (first
          | (go_at_call 23; refine (MM _).mono ?_; rintro r w1 ⟨rfl, rfl⟩)
          | (go_at_call 37; refine (KK _).mono ?_; rintro r w1 ⟨rfl, rfl⟩))
        go_ret
        exact ⟨rfl, (Kept.refl w).alloc _ _⟩
    · rw [if_pos h3]
      go_enter Tryd.func26, Tryd.ntmps26
      go_wp2_with (go_at_call 23; refine (MM _).mono ?_; rintro r w1 ⟨rfl, rfl⟩)
      go_ret
      exact ⟨rfl, (Kept.refl w).alloc _ _⟩
  · cases t
    · rw [if_pos rfl]
      go_enter Tryd.func26, Tryd.ntmps26
      go_wp2_with (go_at_call 36; refine (RR _).mono ?_; rintro r w1 ⟨rfl, rfl⟩)
      go_ret
      exact ⟨rfl, (Kept.refl w).alloc _ _⟩
    rw [if_neg (by decide)]
    by_cases h1 : e = 0
    · rw [if_pos (by omega)]
      subst h1
      go_enter Tryd.func26, Tryd.ntmps26
      go_wp2_with (go_at_call 36; refine (RR _).mono ?_; rintro r w1 ⟨rfl, rfl⟩)
      go_ret
      exact ⟨rfl, (Kept.refl w).alloc _ _⟩
    have e1 : (e == 0) = false := by simpa using h1
    rw [if_neg (by omega)]
    by_cases h2 : b = 0
    · rw [if_pos (by omega)]
      subst h2
      clear h1
      go_enter Tryd.func26, Tryd.ntmps26
      go_wp2_with (go_at_call 36; refine (RR _).mono ?_; rintro r w1 ⟨rfl, rfl⟩)
      go_ret
      exact ⟨rfl, (Kept.refl w).alloc _ _⟩
    have e2 : (b == 0) = false := by simpa using h2
    rw [if_neg (by omega)]
    clear h1 h2
    by_cases h3 : s ≤ 4611686018427387904
    · rw [if_neg (by omega)]
      cases q
      all_goals
        go_enter Tryd.func26, Tryd.ntmps26
        go_wp2_with (first
          | (go_at_call 36; refine (RR _).mono ?_; rintro r w1 ⟨rfl, rfl⟩)
          | (go_at_call 23; refine (MM _).mono ?_; rintro r w1 ⟨rfl, rfl⟩)
          | (go_at_call 37; refine (KK _).mono ?_; rintro r w1 ⟨rfl, rfl⟩))
        go_ret
        exact ⟨rfl, (Kept.refl w).alloc _ _⟩
    · rw [if_pos h3]
      go_enter Tryd.func26, Tryd.ntmps26
      go_wp2_with (first
        | (go_at_call 36; refine (RR _).mono ?_; rintro r w1 ⟨rfl, rfl⟩)
        | (go_at_call 23; refine (MM _).mono ?_; rintro r w1 ⟨rfl, rfl⟩))
      go_ret
      exact ⟨rfl, (Kept.refl w).alloc _ _⟩

theorem ru_fit (p : ByteArray) (e b k : Int) (he : U e) (hb : U b) (h : ruE p e b k = 0) : sat (e * b) = e * b ∧ 0 < e * b ∧ e * b ≤ 4611686018427387904 := by
  rw [ru_is] at h
  by_cases c0 : pfB p = false
  · rw [if_pos c0] at h; cases h
  rw [if_neg c0] at h
  by_cases c1 : 0 < e
  · rw [if_neg (by omega)] at h
    by_cases c2 : 0 < b
    · rw [if_neg (by omega)] at h
      by_cases c3 : sat (e * b) ≤ 4611686018427387904
      · have hm : 0 < e * b := Int.mul_pos c1 c2
        unfold sat at c3 ⊢
        split at c3
        · rename_i g; rw [if_pos g]; exact ⟨rfl, hm, c3⟩
        · omega
      · rw [if_pos c3] at h; cases h
    · rw [if_pos c2] at h; cases h
  · rw [if_pos c1] at h; cases h

theorem refCap_any (p : ByteArray) (e b k : Int) (w : World) (hs : p.size ≤ 9223372036854775807) (he : U e) (hb : U b) (hk : 0 ≤ k ∧ k ≤ 255) :
    Calls Tryd.prog 27 #[rul p e b k] w fun r w' => r = .returned (.int .u64 (caI p e b k)) ∧ Kept w w' := by
  have RA := fun W => refRight_any p e b k W hs he hb hk
  by_cases h : ruE p e b k = 0
  · obtain ⟨f1, f2, f3⟩ := ru_fit p e b k he hb h
    have e0 : caI p e b k = e * b := by unfold caI; rw [if_pos h, f1]
    have hw : IntKind.u64.wrap (e * b) = e * b := by rw [IntKind.wrap_u64]; omega
    rw [e0]
    rw [h] at RA
    clear e0 h f1
    go_enter Tryd.func27, Tryd.ntmps27
    go_wp2_with (go_at_call 26; refine (RA _).mono ?_; rintro r w1 ⟨rfl, k1⟩; have g0 : w1.cell? ⟨w.heap.size, 0, none⟩ = some (.string p) := k1.cell (by simp); have g1 : w1.cell? ⟨w.heap.size, 1, none⟩ = some (.int .u64 e) := k1.cell (by simp); have g2 : w1.cell? ⟨w.heap.size, 2, none⟩ = some (.int .u64 b) := k1.cell (by simp))
    go_ret
    exact ⟨rfl, ((Kept.refl w).alloc _ _).trans k1⟩
  · have e0 : caI p e b k = 0 := by unfold caI; rw [if_neg h]
    rw [e0]
    have c1 : (ruE p e b k != 0) = true := by simpa using h
    have c2 : (ruE p e b k == 0) = false := by simpa using h
    generalize ruE p e b k = R at *
    clear e0 h
    go_enter Tryd.func27, Tryd.ntmps27
    go_wp2_with (go_at_call 26; refine (RA _).mono ?_; rintro r w1 ⟨rfl, k1⟩)
    go_ret
    exact ⟨rfl, ((Kept.refl w).alloc _ _).trans k1⟩
end Go.Proofs.YtpkpmbigljkneaaDoor.Wd
