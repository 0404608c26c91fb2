/- What rule.wrong and rule.Right answer, for any rule and up to four parts; no conditions but those that each names. -/
import Derived.Test.YtpkpmbigljkneaaDoorRulT
import Derived.Test.YtpkpmbigljkneaaDoorRulY
import Derived.LoopTactic
namespace Go.Proofs.YtpkpmbigljkneaaDoor.Wd
open Go Go.RowKit
set_option linter.unusedVariables false

theorem Prt.kept {w w' : World} {A : Option Addr} {os : List Nat} (h : Prt w A os) (k : Kept w w') : Prt w' A os := fun hn => by
  obtain ⟨b, off, e, hc⟩ := h hn
  exact ⟨b, off, e, fun j hj => k.cell (hc j hj)⟩

/-- What of a rule is not as it has to be: one need after the other. -/
def badB (os : List Nat) (p : ByteArray) (e b k : Int) : Nat → Bool
  | 0 => os.contains 0 && !pfB p
  | 1 => os.contains 1 && !decide (0 < e)
  | 2 => os.contains 2 && !decide (0 < b)
  | 3 => os.contains 2 && !decide (sat (e * b) ≤ 4611686018427387904)
  | 4 => os.contains 3 && !isK k
  | _ => false
def fauI : Nat → Int
  | 0 => 23
  | 1 => 24
  | 2 => 25
  | 3 => 26
  | _ => 27
/-- The first fault of these parts. -/
def wrE (os : List Nat) (p : ByteArray) (e b k : Int) : Int :=
  if badB os p e b k 0 then 23 else if badB os p e b k 1 then 24 else if badB os p e b k 2 then 25 else if badB os p e b k 3 then 26 else if badB os p e b k 4 then 27 else 0
theorem wr_at {os : List Nat} {p : ByteArray} {e b k : Int} (i : Nat) (hi : i < 5) (h : ∀ j, j < i → badB os p e b k j = false) (g : badB os p e b k i = true) : wrE os p e b k = fauI i := by
  unfold wrE
  match i, hi with
  | 0, _ => rw [if_pos g]; rfl
  | 1, _ => rw [if_neg (by rw [h 0 (by omega)]; decide), if_pos g]; rfl
  | 2, _ => rw [if_neg (by rw [h 0 (by omega)]; decide), if_neg (by rw [h 1 (by omega)]; decide), if_pos g]; rfl
  | 3, _ => rw [if_neg (by rw [h 0 (by omega)]; decide), if_neg (by rw [h 1 (by omega)]; decide), if_neg (by rw [h 2 (by omega)]; decide), if_pos g]; rfl
  | 4, _ => rw [if_neg (by rw [h 0 (by omega)]; decide), if_neg (by rw [h 1 (by omega)]; decide), if_neg (by rw [h 2 (by omega)]; decide), if_neg (by rw [h 3 (by omega)]; decide), if_pos g]; rfl
theorem wr_end {os : List Nat} {p : ByteArray} {e b k : Int} (h : ∀ j, j < 5 → badB os p e b k j = false) : wrE os p e b k = 0 := by
  unfold wrE
  rw [if_neg (by rw [h 0 (by omega)]; decide), if_neg (by rw [h 1 (by omega)]; decide), if_neg (by rw [h 2 (by omega)]; decide), if_neg (by rw [h 3 (by omega)]; decide), if_neg (by rw [h 4 (by omega)]; decide)]

abbrev fnV (f : FuncId) : Value := .func (Fn.func f) #[] #[]
abbrev needCells : Array Value := #[.int .u8 0, fnV 52, .int .u16 23, .int .u8 1, fnV 54, .int .u16 24, .int .u8 2, fnV 55, .int .u16 25, .int .u8 2, fnV 56, .int .u16 26, .int .u8 3, fnV 57, .int .u16 27]
theorem needs_any (w : World) :
    Calls Tryd.prog 44 #[] w fun r w' => r = .returned (.slice (some ⟨w.heap.size, 0, none⟩) 5 5) ∧ w' = w.alloc (.cells needCells 78) := by
  go_enter Tryd.func44, Tryd.ntmps44
  go_wp2
  go_ret
  exact ⟨rfl, rfl⟩
theorem needs_new (w : World) :
    Calls Tryd.prog 44 #[] w fun r w' => ∃ B : Nat, r = .returned (.slice (some ⟨B, 0, none⟩) 5 5) ∧ Kept w w' ∧
      (w'.cell? ⟨B, 0, none⟩ = some (.int .u8 0) ∧ w'.cell? ⟨B, 1, none⟩ = some (fnV 52) ∧ w'.cell? ⟨B, 2, none⟩ = some (.int .u16 23)) ∧
      (w'.cell? ⟨B, 3, none⟩ = some (.int .u8 1) ∧ w'.cell? ⟨B, 4, none⟩ = some (fnV 54) ∧ w'.cell? ⟨B, 5, none⟩ = some (.int .u16 24)) ∧
      (w'.cell? ⟨B, 6, none⟩ = some (.int .u8 2) ∧ w'.cell? ⟨B, 7, none⟩ = some (fnV 55) ∧ w'.cell? ⟨B, 8, none⟩ = some (.int .u16 25)) ∧
      (w'.cell? ⟨B, 9, none⟩ = some (.int .u8 2) ∧ w'.cell? ⟨B, 10, none⟩ = some (fnV 56) ∧ w'.cell? ⟨B, 11, none⟩ = some (.int .u16 26)) ∧
      (w'.cell? ⟨B, 12, none⟩ = some (.int .u8 3) ∧ w'.cell? ⟨B, 13, none⟩ = some (fnV 57) ∧ w'.cell? ⟨B, 14, none⟩ = some (.int .u16 27)) := by
  refine (needs_any w).mono ?_
  rintro r w' ⟨rfl, rfl⟩
  exact ⟨_, rfl, (Kept.refl w).alloc _ _, by simp, by simp, by simp, by simp, by simp⟩

set_option maxRecDepth 100000 in
set_option maxHeartbeats 2000000 in
theorem wrong_any (A : Option Addr) (cap n : Nat) (os : List Nat) (p : ByteArray) (e b k : Int) (w : World) (hP : Prt w A os) (hl : os.length = n) (hn : n ≤ 4) (hs : p.size ≤ 9223372036854775807) (he : U e) (hb : U b) :
    Calls Tryd.prog 31 #[rul p e b k, .slice A n cap] w fun r w' => r = .returned (.int .u16 (wrE os p e b k)) ∧ Kept w w' := by
  have WA := Lib.hid (fun (i : Nat) (hi : i < 5) => wr_at (os := os) (p := p) (e := e) (b := b) (k := k) i hi)
  have WE := Lib.hid (wr_end (os := os) (p := p) (e := e) (b := b) (k := k))
  have CO (x : Nat) (W : World) (hk : Kept w W) : Calls Tryd.prog 45 #[.slice A n cap, .int .u8 x] W fun r w' => r = .returned (.bool (os.contains x)) ∧ W = w' := by
    have h := contains_any A cap os x W (hP.kept hk) (by omega)
    rw [hl] at h
    exact h
  generalize wrE os p e b k = R at *
  have HN := Lib.hid hn
  clear hn hP hl
  go_enter Tryd.func31, Tryd.ntmps31
  go_wp2_with (go_at_call 44; refine (needs_new _).mono ?_; rintro r w1 ⟨B, rfl, k1, c0, c1, c2, c3, c4⟩)
  have kW : Kept w w1 := ((Kept.refl w).alloc _ _).trans k1
  have d0 : w1.cell? ⟨w.heap.size, 0, none⟩ = some (.string p) := k1.cell (by simp)
  have d1 : w1.cell? ⟨w.heap.size, 1, none⟩ = some (.int .u64 e) := k1.cell (by simp)
  have d2 : w1.cell? ⟨w.heap.size, 2, none⟩ = some (.int .u64 b) := k1.cell (by simp)
  have d3 : w1.cell? ⟨w.heap.size, 3, none⟩ = some (.int .u8 k) := k1.cell (by simp)
  clear k1
  go_loopw [9] (fun i wr => ∃ m : Nat, i = .int .i64 m ∧ m ≤ 5 ∧ Kept w1 wr ∧ Hid (∀ j, j < m → badB os p e b k j = false)) (fun i _ => 5 - (intOf i).toNat)
  case atStart => exact ⟨0, rfl, by omega, Kept.refl _, Lib.hid (fun j hj => absurd hj (by omega))⟩
  case round =>
    obtain ⟨m, rfl, hm, kr, D⟩ := hrel
    have kw := kW.trans kr
    obtain ⟨g00, g01, g02⟩ := c0
    obtain ⟨g10, g11, g12⟩ := c1
    obtain ⟨g20, g21, g22⟩ := c2
    obtain ⟨g30, g31, g32⟩ := c3
    obtain ⟨g40, g41, g42⟩ := c4
    replace g00 := kr.cell g00; replace g01 := kr.cell g01; replace g02 := kr.cell g02
    replace g10 := kr.cell g10; replace g11 := kr.cell g11; replace g12 := kr.cell g12
    replace g20 := kr.cell g20; replace g21 := kr.cell g21; replace g22 := kr.cell g22
    replace g30 := kr.cell g30; replace g31 := kr.cell g31; replace g32 := kr.cell g32
    replace g40 := kr.cell g40; replace g41 := kr.cell g41; replace g42 := kr.cell g42
    replace d0 := kr.cell d0; replace d1 := kr.cell d1; replace d2 := kr.cell d2; replace d3 := kr.cell d3
    have hz := lt_of_cell d0
    have hz1 := Nat.ne_of_lt hz
    have hzB := lt_of_cell g00
    have hzB1 := Nat.ne_of_lt hzB
    rcases (by omega : m = 0 ∨ m = 1 ∨ m = 2 ∨ m = 3 ∨ m = 4 ∨ m = 5) with rfl | rfl | rfl | rfl | rfl | rfl
    · have C0 : ∀ W, Kept w W → Calls Tryd.prog 45 #[.slice A n cap, .int .u8 0] W fun r w' => r = .returned (.bool (os.contains 0)) ∧ W = w' := fun W hk => CO 0 W hk
      clear CO
      by_cases ho : os.contains 0 = true
      · rw [ho] at C0
        by_cases hh : pfB p = true
        · have Q : Hid (badB os p e b k 0 = false) := Lib.hid (by show (os.contains 0 && !pfB p) = false; rw [ho, hh]; rfl)
          clear WA WE ho
          go_wp2_with (first
            | (go_at_call 45; refine (C0 _ (kw.alloc _ _)).mono ?_; rintro r w2 ⟨rfl, rfl⟩)
            | (go_at_call 52; refine (need1_any _ _ _ _ _ hs).mono ?_; rintro r w3 ⟨rfl, k3⟩; rw [hh]; have f2 : w3.cell? ⟨wr.heap.size, 2, none⟩ = some (.int .u16 23) := k3.cell (by simp)))
          go_roundw
          case rel => exact ⟨1, by go_num, by omega, (kr.alloc _ _).trans k3, Lib.hid (fun j hj => by
            by_cases g : j = 0
            · subst g; exact Q.out
            · exact D.out j (by omega))⟩
          case measure => simp [intOf]
        · have hh : pfB p = false := by simpa using hh
          have Q : Hid (badB os p e b k 0 = true) := Lib.hid (by show (os.contains 0 && !pfB p) = true; rw [ho, hh]; rfl)
          have e0 : R = 23 := WA.out 0 (by omega) (fun j hj => D.out j hj) Q.out
          subst e0
          clear WA WE ho
          go_wp2_with (first
            | (go_at_call 45; refine (C0 _ (kw.alloc _ _)).mono ?_; rintro r w2 ⟨rfl, rfl⟩)
            | (go_at_call 52; refine (need1_any _ _ _ _ _ hs).mono ?_; rintro r w3 ⟨rfl, k3⟩; rw [hh]; have f2 : w3.cell? ⟨wr.heap.size, 2, none⟩ = some (.int .u16 23) := k3.cell (by simp)))
          go_ret
          exact ⟨rfl, (kw.alloc _ _).trans k3⟩
      · have ho : os.contains 0 = false := by simpa using ho
        rw [ho] at C0
        have Q : Hid (badB os p e b k 0 = false) := Lib.hid (by show (os.contains 0 && !pfB p) = false; rw [ho]; rfl)
        clear WA WE ho
        go_wp2_with (go_at_call 45; refine (C0 _ (kw.alloc _ _)).mono ?_; rintro r w2 ⟨rfl, rfl⟩)
        go_roundw
        case rel => exact ⟨1, by go_num, by omega, kr.alloc _ _, Lib.hid (fun j hj => by
          by_cases g : j = 0
          · subst g; exact Q.out
          · exact D.out j (by omega))⟩
        case measure => simp [intOf]
    · have C1 : ∀ W, Kept w W → Calls Tryd.prog 45 #[.slice A n cap, .int .u8 1] W fun r w' => r = .returned (.bool (os.contains 1)) ∧ W = w' := fun W hk => CO 1 W hk
      clear CO
      by_cases ho : os.contains 1 = true
      · rw [ho] at C1
        by_cases hh : decide (0 < e) = true
        · have Q : Hid (badB os p e b k 1 = false) := Lib.hid (by show (os.contains 1 && !decide (0 < e)) = false; rw [ho, hh]; rfl)
          clear WA WE ho
          go_wp2_with (first
            | (go_at_call 45; refine (C1 _ (kw.alloc _ _)).mono ?_; rintro r w2 ⟨rfl, rfl⟩)
            | (go_at_call 54; refine (need2_any _ _ _ _ _).mono ?_; rintro r w3 ⟨rfl, k3⟩; rw [hh]; have f2 : w3.cell? ⟨wr.heap.size, 2, none⟩ = some (.int .u16 24) := k3.cell (by simp)))
          go_roundw
          case rel => exact ⟨2, by go_num, by omega, (kr.alloc _ _).trans k3, Lib.hid (fun j hj => by
            by_cases g : j = 1
            · subst g; exact Q.out
            · exact D.out j (by omega))⟩
          case measure => simp [intOf]
        · have hh : decide (0 < e) = false := by simpa using hh
          have Q : Hid (badB os p e b k 1 = true) := Lib.hid (by show (os.contains 1 && !decide (0 < e)) = true; rw [ho, hh]; rfl)
          have e0 : R = 24 := WA.out 1 (by omega) (fun j hj => D.out j hj) Q.out
          subst e0
          clear WA WE ho
          go_wp2_with (first
            | (go_at_call 45; refine (C1 _ (kw.alloc _ _)).mono ?_; rintro r w2 ⟨rfl, rfl⟩)
            | (go_at_call 54; refine (need2_any _ _ _ _ _).mono ?_; rintro r w3 ⟨rfl, k3⟩; rw [hh]; have f2 : w3.cell? ⟨wr.heap.size, 2, none⟩ = some (.int .u16 24) := k3.cell (by simp)))
          go_ret
          exact ⟨rfl, (kw.alloc _ _).trans k3⟩
      · have ho : os.contains 1 = false := by simpa using ho
        rw [ho] at C1
        have Q : Hid (badB os p e b k 1 = false) := Lib.hid (by show (os.contains 1 && !decide (0 < e)) = false; rw [ho]; rfl)
        clear WA WE ho
        go_wp2_with (go_at_call 45; refine (C1 _ (kw.alloc _ _)).mono ?_; rintro r w2 ⟨rfl, rfl⟩)
        go_roundw
        case rel => exact ⟨2, by go_num, by omega, kr.alloc _ _, Lib.hid (fun j hj => by
          by_cases g : j = 1
          · subst g; exact Q.out
          · exact D.out j (by omega))⟩
        case measure => simp [intOf]
    · have C2 : ∀ W, Kept w W → Calls Tryd.prog 45 #[.slice A n cap, .int .u8 2] W fun r w' => r = .returned (.bool (os.contains 2)) ∧ W = w' := fun W hk => CO 2 W hk
      clear CO
      by_cases ho : os.contains 2 = true
      · rw [ho] at C2
        by_cases hh : decide (0 < b) = true
        · have Q : Hid (badB os p e b k 2 = false) := Lib.hid (by show (os.contains 2 && !decide (0 < b)) = false; rw [ho, hh]; rfl)
          clear WA WE ho
          go_wp2_with (first
            | (go_at_call 45; refine (C2 _ (kw.alloc _ _)).mono ?_; rintro r w2 ⟨rfl, rfl⟩)
            | (go_at_call 55; refine (need3_any _ _ _ _ _).mono ?_; rintro r w3 ⟨rfl, k3⟩; rw [hh]; have f2 : w3.cell? ⟨wr.heap.size, 2, none⟩ = some (.int .u16 25) := k3.cell (by simp)))
          go_roundw
          case rel => exact ⟨3, by go_num, by omega, (kr.alloc _ _).trans k3, Lib.hid (fun j hj => by
            by_cases g : j = 2
            · subst g; exact Q.out
            · exact D.out j (by omega))⟩
          case measure => simp [intOf]
        · have hh : decide (0 < b) = false := by simpa using hh
          have Q : Hid (badB os p e b k 2 = true) := Lib.hid (by show (os.contains 2 && !decide (0 < b)) = true; rw [ho, hh]; rfl)
          have e0 : R = 25 := WA.out 2 (by omega) (fun j hj => D.out j hj) Q.out
          subst e0
          clear WA WE ho
          go_wp2_with (first
            | (go_at_call 45; refine (C2 _ (kw.alloc _ _)).mono ?_; rintro r w2 ⟨rfl, rfl⟩)
            | (go_at_call 55; refine (need3_any _ _ _ _ _).mono ?_; rintro r w3 ⟨rfl, k3⟩; rw [hh]; have f2 : w3.cell? ⟨wr.heap.size, 2, none⟩ = some (.int .u16 25) := k3.cell (by simp)))
          go_ret
          exact ⟨rfl, (kw.alloc _ _).trans k3⟩
      · have ho : os.contains 2 = false := by simpa using ho
        rw [ho] at C2
        have Q : Hid (badB os p e b k 2 = false) := Lib.hid (by show (os.contains 2 && !decide (0 < b)) = false; rw [ho]; rfl)
        clear WA WE ho
        go_wp2_with (go_at_call 45; refine (C2 _ (kw.alloc _ _)).mono ?_; rintro r w2 ⟨rfl, rfl⟩)
        go_roundw
        case rel => exact ⟨3, by go_num, by omega, kr.alloc _ _, Lib.hid (fun j hj => by
          by_cases g : j = 2
          · subst g; exact Q.out
          · exact D.out j (by omega))⟩
        case measure => simp [intOf]
    · have C3 : ∀ W, Kept w W → Calls Tryd.prog 45 #[.slice A n cap, .int .u8 2] W fun r w' => r = .returned (.bool (os.contains 2)) ∧ W = w' := fun W hk => CO 2 W hk
      clear CO
      by_cases ho : os.contains 2 = true
      · rw [ho] at C3
        by_cases hh : decide (sat (e * b) ≤ 4611686018427387904) = true
        · have Q : Hid (badB os p e b k 3 = false) := Lib.hid (by show (os.contains 2 && !decide (sat (e * b) ≤ 4611686018427387904)) = false; rw [ho, hh]; rfl)
          clear WA WE ho
          go_wp2_with (first
            | (go_at_call 45; refine (C3 _ (kw.alloc _ _)).mono ?_; rintro r w2 ⟨rfl, rfl⟩)
            | (go_at_call 56; refine (need4_any _ _ _ _ _ he hb).mono ?_; rintro r w3 ⟨rfl, k3⟩; rw [hh]; have f2 : w3.cell? ⟨wr.heap.size, 2, none⟩ = some (.int .u16 26) := k3.cell (by simp)))
          go_roundw
          case rel => exact ⟨4, by go_num, by omega, (kr.alloc _ _).trans k3, Lib.hid (fun j hj => by
            by_cases g : j = 3
            · subst g; exact Q.out
            · exact D.out j (by omega))⟩
          case measure => simp [intOf]
        · have hh : decide (sat (e * b) ≤ 4611686018427387904) = false := by simpa using hh
          have Q : Hid (badB os p e b k 3 = true) := Lib.hid (by show (os.contains 2 && !decide (sat (e * b) ≤ 4611686018427387904)) = true; rw [ho, hh]; rfl)
          have e0 : R = 26 := WA.out 3 (by omega) (fun j hj => D.out j hj) Q.out
          subst e0
          clear WA WE ho
          go_wp2_with (first
            | (go_at_call 45; refine (C3 _ (kw.alloc _ _)).mono ?_; rintro r w2 ⟨rfl, rfl⟩)
            | (go_at_call 56; refine (need4_any _ _ _ _ _ he hb).mono ?_; rintro r w3 ⟨rfl, k3⟩; rw [hh]; have f2 : w3.cell? ⟨wr.heap.size, 2, none⟩ = some (.int .u16 26) := k3.cell (by simp)))
          go_ret
          exact ⟨rfl, (kw.alloc _ _).trans k3⟩
      · have ho : os.contains 2 = false := by simpa using ho
        rw [ho] at C3
        have Q : Hid (badB os p e b k 3 = false) := Lib.hid (by show (os.contains 2 && !decide (sat (e * b) ≤ 4611686018427387904)) = false; rw [ho]; rfl)
        clear WA WE ho
        go_wp2_with (go_at_call 45; refine (C3 _ (kw.alloc _ _)).mono ?_; rintro r w2 ⟨rfl, rfl⟩)
        go_roundw
        case rel => exact ⟨4, by go_num, by omega, kr.alloc _ _, Lib.hid (fun j hj => by
          by_cases g : j = 3
          · subst g; exact Q.out
          · exact D.out j (by omega))⟩
        case measure => simp [intOf]
    · have C4 : ∀ W, Kept w W → Calls Tryd.prog 45 #[.slice A n cap, .int .u8 3] W fun r w' => r = .returned (.bool (os.contains 3)) ∧ W = w' := fun W hk => CO 3 W hk
      clear CO
      by_cases ho : os.contains 3 = true
      · rw [ho] at C4
        by_cases hh : isK k = true
        · have Q : Hid (badB os p e b k 4 = false) := Lib.hid (by show (os.contains 3 && !isK k) = false; rw [ho, hh]; rfl)
          clear WA WE ho
          go_wp2_with (first
            | (go_at_call 45; refine (C4 _ (kw.alloc _ _)).mono ?_; rintro r w2 ⟨rfl, rfl⟩)
            | (go_at_call 57; refine (need5_any _ _ _ _ _).mono ?_; rintro r w3 ⟨rfl, k3⟩; rw [hh]; have f2 : w3.cell? ⟨wr.heap.size, 2, none⟩ = some (.int .u16 27) := k3.cell (by simp)))
          go_roundw
          case rel => exact ⟨5, by go_num, by omega, (kr.alloc _ _).trans k3, Lib.hid (fun j hj => by
            by_cases g : j = 4
            · subst g; exact Q.out
            · exact D.out j (by omega))⟩
          case measure => simp [intOf]
        · have hh : isK k = false := by simpa using hh
          have Q : Hid (badB os p e b k 4 = true) := Lib.hid (by show (os.contains 3 && !isK k) = true; rw [ho, hh]; rfl)
          have e0 : R = 27 := WA.out 4 (by omega) (fun j hj => D.out j hj) Q.out
          subst e0
          clear WA WE ho
          go_wp2_with (first
            | (go_at_call 45; refine (C4 _ (kw.alloc _ _)).mono ?_; rintro r w2 ⟨rfl, rfl⟩)
            | (go_at_call 57; refine (need5_any _ _ _ _ _).mono ?_; rintro r w3 ⟨rfl, k3⟩; rw [hh]; have f2 : w3.cell? ⟨wr.heap.size, 2, none⟩ = some (.int .u16 27) := k3.cell (by simp)))
          go_ret
          exact ⟨rfl, (kw.alloc _ _).trans k3⟩
      · have ho : os.contains 3 = false := by simpa using ho
        rw [ho] at C4
        have Q : Hid (badB os p e b k 4 = false) := Lib.hid (by show (os.contains 3 && !isK k) = false; rw [ho]; rfl)
        clear WA WE ho
        go_wp2_with (go_at_call 45; refine (C4 _ (kw.alloc _ _)).mono ?_; rintro r w2 ⟨rfl, rfl⟩)
        go_roundw
        case rel => exact ⟨5, by go_num, by omega, kr.alloc _ _, Lib.hid (fun j hj => by
          by_cases g : j = 4
          · subst g; exact Q.out
          · exact D.out j (by omega))⟩
        case measure => simp [intOf]
    · have e0 : R = 0 := WE.out (fun j hj => D.out j hj)
      subst e0
      clear WA WE CO
      go_wp2
      go_ret
      exact ⟨rfl, kw⟩
end Go.Proofs.YtpkpmbigljkneaaDoor.Wd
