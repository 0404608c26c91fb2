/- What a rule has to be: rule.product and the five functions of rule.needs, for any rule; no conditions but those that each names. -/
import Derived.Test.YtpkpmbigljkneaaDoorRulM
import Derived.Test.YtpkpmbigljkneaaDoorRulQ
import Derived.Test.YtpkpmbigljkneaaDoorRulK
namespace Go.Proofs.YtpkpmbigljkneaaDoor.Wd
open Go Go.RowKit
set_option linter.unusedVariables false

/-- A rule, as a value. -/
abbrev rul (p : ByteArray) (e b k : Int) : Value := .agg #[.string p, .int .u64 e, .int .u64 b, .int .u8 k]
/-- May a prefix be? -/
def pfB (p : ByteArray) : Bool := decide (p.size = 0) || rtB (lb p)

theorem product_any (p : ByteArray) (e b k : Int) (w : World) (he : U e) (hb : U b) :
    Calls Tryd.prog 35 #[rul p e b k] w fun r w' => r = .returned (.int .u64 (sat (e * b))) ∧ Kept w w' := by
  go_enter Tryd.func35, Tryd.ntmps35
  go_wp2_with (go_at_call 48; refine (num_mul _ _ _ he hb).mono ?_; rintro r w1 ⟨rfl, k1⟩)
  go_ret
  exact ⟨rfl, ((Kept.refl w).alloc _ _).trans k1⟩

theorem need1_any (p : ByteArray) (e b k : Int) (w : World) (hs : p.size ≤ 9223372036854775807) :
    Calls Tryd.prog 52 #[rul p e b k] w fun r w' => r = .returned (.bool (pfB p)) ∧ Kept w w' := by
  by_cases h : p.size = 0
  · have e0 : pfB p = true := by unfold pfB; rw [decide_eq_true h]; rfl
    have hz : p.toList.isEmpty = true := by
      rw [ByteArray.toList_eq, List.isEmpty_iff]
      exact List.eq_nil_of_length_eq_zero (by rw [list_size]; exact h)
    rw [e0]
    clear e0 h
    go_enter Tryd.func52, Tryd.ntmps52
    go_wp2
    go_ret
    exact ⟨rfl, (Kept.refl w).alloc _ _⟩
  · have e0 : pfB p = rtB (lb p) := by unfold pfB; rw [decide_eq_false h]; rfl
    have hz : p.toList.isEmpty = false := by
      rw [ByteArray.toList_eq, List.isEmpty_eq_false_iff]
      intro g
      have := congrArg List.length g
      rw [list_size] at this
      exact h this
    rw [e0]
    clear e0 h
    generalize hR : rtB (lb p) = R
    go_enter Tryd.func52, Tryd.ntmps52
    go_wp2_with (go_at_call 53; refine (kright_any _ _ hs).mono ?_; rintro r w1 ⟨rfl, rfl⟩; rw [hR])
    go_ret
    exact ⟨rfl, (Kept.refl w).alloc _ _⟩

theorem need2_any (p : ByteArray) (e b k : Int) (w : World) :
    Calls Tryd.prog 54 #[rul p e b k] w fun r w' => r = .returned (.bool (decide (0 < e))) ∧ Kept w w' := by
  go_enter Tryd.func54, Tryd.ntmps54
  go_wp2
  go_ret
  exact ⟨rfl, (Kept.refl w).alloc _ _⟩
theorem need3_any (p : ByteArray) (e b k : Int) (w : World) :
    Calls Tryd.prog 55 #[rul p e b k] w fun r w' => r = .returned (.bool (decide (0 < b))) ∧ Kept w w' := by
  go_enter Tryd.func55, Tryd.ntmps55
  go_wp2
  go_ret
  exact ⟨rfl, (Kept.refl w).alloc _ _⟩
theorem need4_any (p : ByteArray) (e b k : Int) (w : World) (he : U e) (hb : U b) :
    Calls Tryd.prog 56 #[rul p e b k] w fun r w' => r = .returned (.bool (decide (sat (e * b) ≤ 4611686018427387904))) ∧ Kept w w' := by
  go_enter Tryd.func56, Tryd.ntmps56
  go_wp2_with (go_at_call 35; refine (product_any _ _ _ _ _ he hb).mono ?_; rintro r w1 ⟨rfl, k1⟩)
  go_ret
  exact ⟨rfl, ((Kept.refl w).alloc _ _).trans k1⟩
theorem need5_any (p : ByteArray) (e b k : Int) (w : World) :
    Calls Tryd.prog 57 #[rul p e b k] w fun r w' => r = .returned (.bool (isK k)) ∧ Kept w w' := by
  go_enter Tryd.func57, Tryd.ntmps57
  go_wp2_with (go_at_call 58; refine (knright_any _ _).mono ?_; rintro r w1 ⟨rfl, k1⟩)
  go_ret
  exact ⟨rfl, ((Kept.refl w).alloc _ _).trans k1⟩

/-- Parts that are asked for, in a row. -/
def Prt (w : World) (A : Option Addr) (os : List Nat) : Prop :=
  0 < os.length → ∃ b off, A = some ⟨b, off, none⟩ ∧ ∀ k, k < os.length → w.cell? ⟨b, off + k, none⟩ = some (.int .u8 ((os.getD k 0 : Nat) : Int))

theorem index_fn (A : Option Addr) (cap n x : Nat) (F : Nat → Nat) (R : Bool) (w : World) (hn : n ≤ 4)
    (H : Hid (0 < n → ∃ b off, A = some ⟨b, off, none⟩ ∧ ∀ k, k < n → w.cell? ⟨b, off + k, none⟩ = some (.int .u8 (F k : Int))))
    (Y : Hid (∀ k, k < n → F k = x → R = true)) (N : Hid ((∀ k, k < n → F k ≠ x) → R = false)) :
    Calls Tryd.prog 59 #[.slice A n cap, .int .u8 x] w fun r w' => (∃ i : Int, r = .returned (.int .i64 i) ∧ decide (0 ≤ i) = R) ∧ w = w' := by
  go_enter Tryd.func59, Tryd.ntmps59
  go_wp2
  go_loop [8] (fun i => ∃ k : Nat, i = .int .i64 k ∧ k ≤ n ∧ Hid (∀ j, j < k → F j ≠ x)) (fun i => n - (intOf i).toNat)
  case atStart => exact ⟨0, rfl, by omega, Lib.hid (fun j hj => absurd hj (by omega))⟩
  case round =>
    obtain ⟨k, rfl, hk, D⟩ := hrel
    by_cases hlt : k < n
    · obtain ⟨b, off, rfl, hc⟩ := H.out (by omega)
      have c := hc k hlt
      have Yk := Y.out k hlt
      clear hc
      by_cases e : F k = x
      · have e1 := Yk e
        subst e1
        rw [e] at c
        clear e Yk
        go_wp2
        go_ret
        exact ⟨⟨_, rfl, by simp⟩, rfl⟩
      · have E := Lib.hid e
        clear Yk
        have c1 : ((x : Int) == (F k : Int)) = false := by simp; omega
        generalize F k = y at c c1
        clear e
        go_wp2
        go_round
        case rel =>
          refine ⟨k + 1, by go_num, by omega, Lib.hid (fun j hj => ?_)⟩
          by_cases g : j = k
          · subst g; exact E.out
          · exact D.out j (by omega)
        case measure => simp [intOf]; omega
    · obtain rfl : k = n := by omega
      have e := N.out (fun j hj => D.out j (by omega))
      subst e
      go_wp2
      go_ret
      exact ⟨⟨-1, rfl, by simp⟩, rfl⟩

theorem index_any (A : Option Addr) (cap : Nat) (os : List Nat) (x : Nat) (w : World) (h : Prt w A os) (hn : os.length ≤ 4) :
    Calls Tryd.prog 59 #[.slice A os.length cap, .int .u8 x] w fun r w' => (∃ i : Int, r = .returned (.int .i64 i) ∧ decide (0 ≤ i) = os.contains x) ∧ w = w' := by
  refine index_fn A cap os.length x (fun k => os.getD k 0) (os.contains x) w hn (Lib.hid h) (Lib.hid (fun k hk e => ?_)) (Lib.hid (fun g => ?_))
  · rw [List.contains_iff_mem, ← e]
    show os.getD k 0 ∈ os
    rw [List.getD_eq_getElem?_getD, List.getElem?_eq_getElem hk]; exact List.getElem_mem hk
  · rw [← Bool.not_eq_true, List.contains_iff_mem]
    intro m
    obtain ⟨i, hi, e⟩ := List.getElem_of_mem m
    refine g i hi ?_
    show os.getD i 0 = x
    rw [List.getD_eq_getElem?_getD, List.getElem?_eq_getElem hi]; exact e

theorem contains_any (A : Option Addr) (cap : Nat) (os : List Nat) (x : Nat) (w : World) (h : Prt w A os) (hn : os.length ≤ 4) :
    Calls Tryd.prog 45 #[.slice A os.length cap, .int .u8 x] w fun r w' => r = .returned (.bool (os.contains x)) ∧ w = w' := by
  have C := index_any A cap os x w h hn
  generalize os.contains x = R at *
  go_enter Tryd.func45, Tryd.ntmps45
  go_wp2_with (go_at_call 59; refine C.mono ?_; rintro r w1 ⟨⟨i, rfl, hi⟩, rfl⟩)
  go_ret
  exact ⟨by rw [← hi]; rfl, rfl⟩
end Go.Proofs.YtpkpmbigljkneaaDoor.Wd
