/- The parts of a line, and what rule.Parse answers of a line that is none; no conditions but those that each names. -/
import Derived.Test.YtpkpmbigljkneaaDoorRulZ
namespace Go.Proofs.YtpkpmbigljkneaaDoor.Wd
open Go Go.RowKit
set_option linter.unusedVariables false

theorem Nam.below {w w' : World} (h : Nam w) (k : Below w.heap.size w w') : Nam w' := ⟨celln k h.1, celln k h.2.1, celln k h.2.2.1, celln k h.2.2.2⟩

abbrev defS : ByteArray := ⟨#[100, 101, 102, 97, 117, 108, 116]⟩
abbrev rulS : ByteArray := ⟨#[114, 117, 108, 101]⟩
abbrev defL : List UInt8 := [100, 101, 102, 97, 117, 108, 116]
abbrev rulL : List UInt8 := [114, 117, 108, 101]

theorem parts_def (b off cap : Nat) (x : ByteArray) (w : World) (hc : w.cell? ⟨b, off, none⟩ = some (.string x)) (hx : x.toList = defL) :
    Calls Tryd.prog 29 #[.slice (some ⟨b, off, none⟩) 4 cap] w fun r w' => r = .returned (.slice (some ⟨w.heap.size, 0, none⟩) 3 3) ∧ w' = w.alloc (.cells #[.int .u8 1, .int .u8 2, .int .u8 3] 61) := by
  go_enter Tryd.func29, Tryd.ntmps29
  go_wp2
  go_ret
  exact ⟨rfl, rfl⟩
theorem parts_rule (b off cap : Nat) (x : ByteArray) (w : World) (hc : w.cell? ⟨b, off, none⟩ = some (.string x)) (hx : x.toList = rulL) :
    Calls Tryd.prog 29 #[.slice (some ⟨b, off, none⟩) 5 cap] w fun r w' => r = .returned (.slice (some ⟨w.heap.size, 0, none⟩) 4 4) ∧ w' = w.alloc (.cells #[.int .u8 0, .int .u8 1, .int .u8 2, .int .u8 3] 61) := by
  go_enter Tryd.func29, Tryd.ntmps29
  go_wp2
  go_ret
  exact ⟨rfl, rfl⟩
theorem parts_none (A : Option Addr) (n cap : Nat) (xs : List ByteArray) (w : World) (h : Sts w A n xs) (h4 : ¬ (n = 4 ∧ (xs.getD 0 nob).toList = defL)) (h5 : ¬ (n = 5 ∧ (xs.getD 0 nob).toList = rulL)) :
    Calls Tryd.prog 29 #[.slice A n cap] w fun r w' => r = .returned (.slice none 0 0) ∧ w = w' := by
  by_cases c4 : n = 4
  · subst c4
    obtain ⟨b, off, rfl, hb, hc⟩ := h.2.2 (by omega)
    have c := hc 0 (by omega)
    rw [Nat.add_zero] at c
    have hx : ((xs.getD 0 nob).toList == [100, 101, 102, 97, 117, 108, 116]) = false := by
      rw [← Bool.not_eq_true, beq_iff_eq]; exact fun e => h4 ⟨rfl, e⟩
    generalize xs.getD 0 nob = x at *
    clear h4 h5 hc h
    go_enter Tryd.func29, Tryd.ntmps29
    go_wp2
    go_ret
    exact ⟨rfl, rfl⟩
  · by_cases c5 : n = 5
    · subst c5
      obtain ⟨b, off, rfl, hb, hc⟩ := h.2.2 (by omega)
      have c := hc 0 (by omega)
      rw [Nat.add_zero] at c
      have hx : ((xs.getD 0 nob).toList == [114, 117, 108, 101]) = false := by
        rw [← Bool.not_eq_true, beq_iff_eq]; exact fun e => h5 ⟨rfl, e⟩
      generalize xs.getD 0 nob = x at *
      clear h4 h5 hc h c4
      go_enter Tryd.func29, Tryd.ntmps29
      go_wp2
      go_ret
      exact ⟨rfl, rfl⟩
    · have e4 : ((n : Int) == 4) = false := by simp; omega
      have e5 : ((n : Int) == 5) = false := by simp; omega
      clear h4 h5 h c4 c5
      go_enter Tryd.func29, Tryd.ntmps29
      go_wp2
      go_ret
      exact ⟨rfl, rfl⟩

/-! ### What is read of a line -/
def eEv (x : ByteArray) : Int := if paE (lb x) ≠ 0 then paE (lb x) else if paN (lb x) = 0 then 24 else 0
def eBu (x y : ByteArray) : Int := if paE (lb y) ≠ 0 then paE (lb y) else if paN (lb y) = 0 then 25 else if sat (paN (lb x) * paN (lb y)) ≤ 4611686018427387904 then 0 else 26
def eKi (z : ByteArray) : Int := if kinB z then 0 else 27
def ePr (p : ByteArray) : Int := if rtB (lb p) then 0 else 23
structure Ans where
  p : ByteArray
  e : Int
  b : Int
  k : Int
  err : Int
  at_ : Int
abbrev zeroA (err at_ : Int) : Ans := ⟨⟨#[]⟩, 0, 0, 0, err, at_⟩
def numA (p : ByteArray) (o : Int) (x y z : ByteArray) : Ans :=
  if eEv x ≠ 0 then zeroA (eEv x) o else if eBu x y ≠ 0 then zeroA (eBu x y) (o + 1) else if eKi z ≠ 0 then zeroA (eKi z) (o + 2) else ⟨p, paN (lb x), paN (lb y), kinI z, 0, 0⟩
def ansA (xs : List ByteArray) : Ans :=
  if xs.length = 4 ∧ (xs.getD 0 nob).toList = defL then numA ⟨#[]⟩ 1 (xs.getD 1 nob) (xs.getD 2 nob) (xs.getD 3 nob)
  else if xs.length = 5 ∧ (xs.getD 0 nob).toList = rulL then (if ePr (xs.getD 1 nob) ≠ 0 then zeroA 23 1 else numA (xs.getD 1 nob) 2 (xs.getD 2 nob) (xs.getD 3 nob) (xs.getD 4 nob))
  else zeroA 22 0
abbrev Ans.rule (a : Ans) : Value := rul a.p a.e a.b a.k

theorem parse_none (A : Option Addr) (n cap : Nat) (xs : List ByteArray) (w : World) (h : Sts w A n xs) (h4 : ¬ (n = 4 ∧ (xs.getD 0 nob).toList = defL)) (h5 : ¬ (n = 5 ∧ (xs.getD 0 nob).toList = rulL)) :
    Calls Tryd.prog 19 #[.slice A n cap] w fun r w' => r = .returned (.tuple #[rul ⟨#[]⟩ 0 0 0, .int .u16 22, .int .i64 0]) ∧ Below w.heap.size w w' := by
  have C (o : Obj) := parts_none A n cap xs (w.alloc o) (h.below ((Below.refl _ w).alloc (Nat.le_refl _) o)) h4 h5
  clear h h4 h5
  go_enter Tryd.func19, Tryd.ntmps19
  go_wp2_with (go_at_call 29; refine (C _).mono ?_; rintro r w1 ⟨rfl, rfl⟩)
  exact bodyPost_ret (v := .tuple #[rul ⟨#[]⟩ 0 0 0, .int .u16 22, .int .i64 0]) (by simp [results, Tryd.results19, go_sem]) rfl ⟨rfl, (Below.refl _ w).alloc (Nat.le_refl _) _⟩
end Go.Proofs.YtpkpmbigljkneaaDoor.Wd
