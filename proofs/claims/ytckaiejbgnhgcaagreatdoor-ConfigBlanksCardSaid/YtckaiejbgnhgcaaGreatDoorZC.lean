/- What a rule has to be: rule.product and the five functions of rule.needs, for any rule; no conditions but those that each names. What rule.wrong and rule.Right answer, for any rule and up to four parts; no conditions but those that each names. What rule.Right, Cap, Name and Kind answer, for any rule, kind and text; the kernels' names lie in the program's table; no other conditions but those that each names. What strings.Clone answers, for any text of 2^48 bytes at most: the library's contract for its inner call, at this program's numbers; no other conditions. What rule.readers lays, and what each reader does to a rule; the parts of a line; no conditions but those that each names. -/
import Derived.Test.YtckaiejbgnhgcaaGreatDoorZB
import Derived.LoopTactic
import Derived.Shelf.LaysM
import Derived.Shelf.Strconv.Clone
import Derived.Test.YtckaiejbgnhgcaaGreatDoorZA
namespace Go.Proofs.YtckaiejbgnhgcaaGreatDoor.Wd
open Go Go.RowKit
set_option linter.unusedVariables false

/-- A rule, as a value. -/
abbrev rul (p : ByteArray) (e b k : Int) : Value := .agg #[.string p, .int .u64 e, .int .u64 b, .int .u8 k]
/-- May a prefix be? -/
def pfB (p : ByteArray) : Bool := decide (p.size = 0) || rtB (lb p)

theorem product_any (p : ByteArray) (e b k : Int) (w : World) (he : U e) (hb : U b) :
    Calls Tryz.prog 111 #[rul p e b k] w fun r w' => r = .returned (.int .u64 (sat (e * b))) ∧ Kept w w' := by
  go_enter Tryz.func111, Tryz.ntmps111
  go_wp2_with (go_at_call 121; refine (num_mul _ _ _ he hb).mono ?_; rintro r w1 ⟨rfl, k1⟩)
  go_ret
  exact ⟨rfl, ((Kept.refl w).alloc _ _).trans k1⟩

theorem need1_any (p : ByteArray) (e b k : Int) (w : World) (hs : p.size ≤ 9223372036854775807) :
    Calls Tryz.prog 106 #[rul p e b k] w fun r w' => r = .returned (.bool (pfB p)) ∧ Kept w w' := by
  by_cases h : p.size = 0
  · have e0 : pfB p = true := by unfold pfB; rw [decide_eq_true h]; rfl
    have hz : p.toList.isEmpty = true := by
      rw [ByteArray.toList_eq, List.isEmpty_iff]
      exact List.eq_nil_of_length_eq_zero (by rw [list_size]; exact h)
    rw [e0]
    clear e0 h
    go_enter Tryz.func106, Tryz.ntmps106
    go_wp2
    go_ret
    exact ⟨rfl, (Kept.refl w).alloc _ _⟩
  · have e0 : pfB p = rtB (lb p) := by unfold pfB; rw [decide_eq_false h]; rfl
    have hz : p.toList.isEmpty = false := by
      rw [ByteArray.toList_eq, List.isEmpty_eq_false_iff]
      intro g
      have := congrArg List.length g
      rw [list_size] at this
      exact h this
    rw [e0]
    clear e0 h
    generalize hR : rtB (lb p) = R
    go_enter Tryz.func106, Tryz.ntmps106
    go_wp2_with (go_at_call 107; refine (kright_any _ _ hs).mono ?_; rintro r w1 ⟨rfl, rfl⟩; rw [hR])
    go_ret
    exact ⟨rfl, (Kept.refl w).alloc _ _⟩

theorem need2_any (p : ByteArray) (e b k : Int) (w : World) :
    Calls Tryz.prog 108 #[rul p e b k] w fun r w' => r = .returned (.bool (decide (0 < e))) ∧ Kept w w' := by
  go_enter Tryz.func108, Tryz.ntmps108
  go_wp2
  go_ret
  exact ⟨rfl, (Kept.refl w).alloc _ _⟩
theorem need3_any (p : ByteArray) (e b k : Int) (w : World) :
    Calls Tryz.prog 109 #[rul p e b k] w fun r w' => r = .returned (.bool (decide (0 < b))) ∧ Kept w w' := by
  go_enter Tryz.func109, Tryz.ntmps109
  go_wp2
  go_ret
  exact ⟨rfl, (Kept.refl w).alloc _ _⟩
theorem need4_any (p : ByteArray) (e b k : Int) (w : World) (he : U e) (hb : U b) :
    Calls Tryz.prog 110 #[rul p e b k] w fun r w' => r = .returned (.bool (decide (sat (e * b) ≤ 4611686018427387904))) ∧ Kept w w' := by
  go_enter Tryz.func110, Tryz.ntmps110
  go_wp2_with (go_at_call 111; refine (product_any _ _ _ _ _ he hb).mono ?_; rintro r w1 ⟨rfl, k1⟩)
  go_ret
  exact ⟨rfl, ((Kept.refl w).alloc _ _).trans k1⟩
theorem need5_any (p : ByteArray) (e b k : Int) (w : World) :
    Calls Tryz.prog 112 #[rul p e b k] w fun r w' => r = .returned (.bool (isK k)) ∧ Kept w w' := by
  go_enter Tryz.func112, Tryz.ntmps112
  go_wp2_with (go_at_call 113; refine (knright_any _ _).mono ?_; rintro r w1 ⟨rfl, k1⟩)
  go_ret
  exact ⟨rfl, ((Kept.refl w).alloc _ _).trans k1⟩

/-- Parts that are asked for, in a row. -/
def Prt (w : World) (A : Option Addr) (os : List Nat) : Prop :=
  0 < os.length → ∃ b off, A = some ⟨b, off, none⟩ ∧ ∀ k, k < os.length → w.cell? ⟨b, off + k, none⟩ = some (.int .u8 ((os.getD k 0 : Nat) : Int))

theorem index_fn (A : Option Addr) (cap n x : Nat) (F : Nat → Nat) (R : Bool) (w : World) (hn : n ≤ 4)
    (H : Hid (0 < n → ∃ b off, A = some ⟨b, off, none⟩ ∧ ∀ k, k < n → w.cell? ⟨b, off + k, none⟩ = some (.int .u8 (F k : Int))))
    (Y : Hid (∀ k, k < n → F k = x → R = true)) (N : Hid ((∀ k, k < n → F k ≠ x) → R = false)) :
    Calls Tryz.prog 114 #[.slice A n cap, .int .u8 x] w fun r w' => (∃ i : Int, r = .returned (.int .i64 i) ∧ decide (0 ≤ i) = R) ∧ w = w' := by
  go_enter Tryz.func114, Tryz.ntmps114
  go_wp2
  go_loop [8] (fun i => ∃ k : Nat, i = .int .i64 k ∧ k ≤ n ∧ Hid (∀ j, j < k → F j ≠ x)) (fun i => n - (intOf i).toNat)
  case atStart => exact ⟨0, rfl, by omega, Lib.hid (fun j hj => absurd hj (by omega))⟩
  case round =>
    obtain ⟨k, rfl, hk, D⟩ := hrel
    by_cases hlt : k < n
    · obtain ⟨b, off, rfl, hc⟩ := H.out (by omega)
      have c := hc k hlt
      have Yk := Y.out k hlt
      clear hc
      by_cases e : F k = x
      · have e1 := Yk e
        subst e1
        rw [e] at c
        clear e Yk
        go_wp2
        go_ret
        exact ⟨⟨_, rfl, by simp⟩, rfl⟩
      · have E := Lib.hid e
        clear Yk
        have c1 : ((x : Int) == (F k : Int)) = false := by simp; omega
        generalize F k = y at c c1
        clear e
        go_wp2
        go_round
        case rel =>
          refine ⟨k + 1, by go_num, by omega, Lib.hid (fun j hj => ?_)⟩
          by_cases g : j = k
          · subst g; exact E.out
          · exact D.out j (by omega)
        case measure => simp [intOf]; omega
    · obtain rfl : k = n := by omega
      have e := N.out (fun j hj => D.out j (by omega))
      subst e
      go_wp2
      go_ret
      exact ⟨⟨-1, rfl, by simp⟩, rfl⟩

theorem index_any (A : Option Addr) (cap : Nat) (os : List Nat) (x : Nat) (w : World) (h : Prt w A os) (hn : os.length ≤ 4) :
    Calls Tryz.prog 114 #[.slice A os.length cap, .int .u8 x] w fun r w' => (∃ i : Int, r = .returned (.int .i64 i) ∧ decide (0 ≤ i) = os.contains x) ∧ w = w' := by
  refine index_fn A cap os.length x (fun k => os.getD k 0) (os.contains x) w hn (Lib.hid h) (Lib.hid (fun k hk e => ?_)) (Lib.hid (fun g => ?_))
  · rw [List.contains_iff_mem, ← e]
    show os.getD k 0 ∈ os
    rw [List.getD_eq_getElem?_getD, List.getElem?_eq_getElem hk]; exact List.getElem_mem hk
  · rw [← Bool.not_eq_true, List.contains_iff_mem]
    intro m
    obtain ⟨i, hi, e⟩ := List.getElem_of_mem m
    refine g i hi ?_
    show os.getD i 0 = x
    rw [List.getD_eq_getElem?_getD, List.getElem?_eq_getElem hi]; exact e

theorem contains_any (A : Option Addr) (cap : Nat) (os : List Nat) (x : Nat) (w : World) (h : Prt w A os) (hn : os.length ≤ 4) :
    Calls Tryz.prog 94 #[.slice A os.length cap, .int .u8 x] w fun r w' => r = .returned (.bool (os.contains x)) ∧ w = w' := by
  have C := index_any A cap os x w h hn
  generalize os.contains x = R at *
  go_enter Tryz.func94, Tryz.ntmps94
  go_wp2_with (go_at_call 114; refine C.mono ?_; rintro r w1 ⟨⟨i, rfl, hi⟩, rfl⟩)
  go_ret
  exact ⟨by rw [← hi]; rfl, rfl⟩
end Go.Proofs.YtckaiejbgnhgcaaGreatDoor.Wd
namespace Go.Proofs.YtckaiejbgnhgcaaGreatDoor.Wd
open Go Go.RowKit
set_option linter.unusedVariables false

theorem Prt.kept {w w' : World} {A : Option Addr} {os : List Nat} (h : Prt w A os) (k : Kept w w') : Prt w' A os := fun hn => by
  obtain ⟨b, off, e, hc⟩ := h hn
  exact ⟨b, off, e, fun j hj => k.cell (hc j hj)⟩

/-- What of a rule is not as it has to be: one need after the other. -/
def badB (os : List Nat) (p : ByteArray) (e b k : Int) : Nat → Bool
  | 0 => os.contains 0 && !pfB p
  | 1 => os.contains 1 && !decide (0 < e)
  | 2 => os.contains 2 && !decide (0 < b)
  | 3 => os.contains 2 && !decide (sat (e * b) ≤ 4611686018427387904)
  | 4 => os.contains 3 && !isK k
  | _ => false
def fauI : Nat → Int
  | 0 => 23
  | 1 => 24
  | 2 => 25
  | 3 => 26
  | _ => 27
/-- The first fault of these parts. -/
def wrE (os : List Nat) (p : ByteArray) (e b k : Int) : Int :=
  if badB os p e b k 0 then 23 else if badB os p e b k 1 then 24 else if badB os p e b k 2 then 25 else if badB os p e b k 3 then 26 else if badB os p e b k 4 then 27 else 0
theorem wr_at {os : List Nat} {p : ByteArray} {e b k : Int} (i : Nat) (hi : i < 5) (h : ∀ j, j < i → badB os p e b k j = false) (g : badB os p e b k i = true) : wrE os p e b k = fauI i := by
  unfold wrE
  match i, hi with
  | 0, _ => rw [if_pos g]; rfl
  | 1, _ => rw [if_neg (by rw [h 0 (by omega)]; decide), if_pos g]; rfl
  | 2, _ => rw [if_neg (by rw [h 0 (by omega)]; decide), if_neg (by rw [h 1 (by omega)]; decide), if_pos g]; rfl
  | 3, _ => rw [if_neg (by rw [h 0 (by omega)]; decide), if_neg (by rw [h 1 (by omega)]; decide), if_neg (by rw [h 2 (by omega)]; decide), if_pos g]; rfl
  | 4, _ => rw [if_neg (by rw [h 0 (by omega)]; decide), if_neg (by rw [h 1 (by omega)]; decide), if_neg (by rw [h 2 (by omega)]; decide), if_neg (by rw [h 3 (by omega)]; decide), if_pos g]; rfl
theorem wr_end {os : List Nat} {p : ByteArray} {e b k : Int} (h : ∀ j, j < 5 → badB os p e b k j = false) : wrE os p e b k = 0 := by
  unfold wrE
  rw [if_neg (by rw [h 0 (by omega)]; decide), if_neg (by rw [h 1 (by omega)]; decide), if_neg (by rw [h 2 (by omega)]; decide), if_neg (by rw [h 3 (by omega)]; decide), if_neg (by rw [h 4 (by omega)]; decide)]

abbrev fnV (f : FuncId) : Value := .func (Fn.func f) #[] #[]
abbrev needCells : Array Value := #[.int .u8 0, fnV 106, .int .u16 23, .int .u8 1, fnV 108, .int .u16 24, .int .u8 2, fnV 109, .int .u16 25, .int .u8 2, fnV 110, .int .u16 26, .int .u8 3, fnV 112, .int .u16 27]
theorem needs_any (w : World) :
    Calls Tryz.prog 93 #[] w fun r w' => r = .returned (.slice (some ⟨w.heap.size, 0, none⟩) 5 5) ∧ w' = w.alloc (.cells needCells 149) := by
  go_enter Tryz.func93, Tryz.ntmps93
  go_wp2
  go_ret
  exact ⟨rfl, rfl⟩
theorem needs_new (w : World) :
    Calls Tryz.prog 93 #[] w fun r w' => ∃ B : Nat, r = .returned (.slice (some ⟨B, 0, none⟩) 5 5) ∧ Kept w w' ∧
      (w'.cell? ⟨B, 0, none⟩ = some (.int .u8 0) ∧ w'.cell? ⟨B, 1, none⟩ = some (fnV 106) ∧ w'.cell? ⟨B, 2, none⟩ = some (.int .u16 23)) ∧
      (w'.cell? ⟨B, 3, none⟩ = some (.int .u8 1) ∧ w'.cell? ⟨B, 4, none⟩ = some (fnV 108) ∧ w'.cell? ⟨B, 5, none⟩ = some (.int .u16 24)) ∧
      (w'.cell? ⟨B, 6, none⟩ = some (.int .u8 2) ∧ w'.cell? ⟨B, 7, none⟩ = some (fnV 109) ∧ w'.cell? ⟨B, 8, none⟩ = some (.int .u16 25)) ∧
      (w'.cell? ⟨B, 9, none⟩ = some (.int .u8 2) ∧ w'.cell? ⟨B, 10, none⟩ = some (fnV 110) ∧ w'.cell? ⟨B, 11, none⟩ = some (.int .u16 26)) ∧
      (w'.cell? ⟨B, 12, none⟩ = some (.int .u8 3) ∧ w'.cell? ⟨B, 13, none⟩ = some (fnV 112) ∧ w'.cell? ⟨B, 14, none⟩ = some (.int .u16 27)) := by
  refine (needs_any w).mono ?_
  rintro r w' ⟨rfl, rfl⟩
  exact ⟨_, rfl, (Kept.refl w).alloc _ _, by simp, by simp, by simp, by simp, by simp⟩

set_option maxRecDepth 100000 in
set_option maxHeartbeats 2000000 in
theorem wrong_any (A : Option Addr) (cap n : Nat) (os : List Nat) (p : ByteArray) (e b k : Int) (w : World) (hP : Prt w A os) (hl : os.length = n) (hn : n ≤ 4) (hs : p.size ≤ 9223372036854775807) (he : U e) (hb : U b) :
    Calls Tryz.prog 64 #[rul p e b k, .slice A n cap] w fun r w' => r = .returned (.int .u16 (wrE os p e b k)) ∧ Kept w w' := by
  have WA := Lib.hid (fun (i : Nat) (hi : i < 5) => wr_at (os := os) (p := p) (e := e) (b := b) (k := k) i hi)
  have WE := Lib.hid (wr_end (os := os) (p := p) (e := e) (b := b) (k := k))
  have CO (x : Nat) (W : World) (hk : Kept w W) : Calls Tryz.prog 94 #[.slice A n cap, .int .u8 x] W fun r w' => r = .returned (.bool (os.contains x)) ∧ W = w' := by
    have h := contains_any A cap os x W (hP.kept hk) (by omega)
    rw [hl] at h
    exact h
  generalize wrE os p e b k = R at *
  have HN := Lib.hid hn
  clear hn hP hl
  go_enter Tryz.func64, Tryz.ntmps64
  go_wp2_with (go_at_call 93; refine (needs_new _).mono ?_; rintro r w1 ⟨B, rfl, k1, c0, c1, c2, c3, c4⟩)
  have kW : Kept w w1 := ((Kept.refl w).alloc _ _).trans k1
  have d0 : w1.cell? ⟨w.heap.size, 0, none⟩ = some (.string p) := k1.cell (by simp)
  have d1 : w1.cell? ⟨w.heap.size, 1, none⟩ = some (.int .u64 e) := k1.cell (by simp)
  have d2 : w1.cell? ⟨w.heap.size, 2, none⟩ = some (.int .u64 b) := k1.cell (by simp)
  have d3 : w1.cell? ⟨w.heap.size, 3, none⟩ = some (.int .u8 k) := k1.cell (by simp)
  clear k1
  go_loopw [9] (fun i wr => ∃ m : Nat, i = .int .i64 m ∧ m ≤ 5 ∧ Kept w1 wr ∧ Hid (∀ j, j < m → badB os p e b k j = false)) (fun i _ => 5 - (intOf i).toNat)
  case atStart => exact ⟨0, rfl, by omega, Kept.refl _, Lib.hid (fun j hj => absurd hj (by omega))⟩
  case round =>
    obtain ⟨m, rfl, hm, kr, D⟩ := hrel
    have kw := kW.trans kr
    obtain ⟨g00, g01, g02⟩ := c0
    obtain ⟨g10, g11, g12⟩ := c1
    obtain ⟨g20, g21, g22⟩ := c2
    obtain ⟨g30, g31, g32⟩ := c3
    obtain ⟨g40, g41, g42⟩ := c4
    replace g00 := kr.cell g00; replace g01 := kr.cell g01; replace g02 := kr.cell g02
    replace g10 := kr.cell g10; replace g11 := kr.cell g11; replace g12 := kr.cell g12
    replace g20 := kr.cell g20; replace g21 := kr.cell g21; replace g22 := kr.cell g22
    replace g30 := kr.cell g30; replace g31 := kr.cell g31; replace g32 := kr.cell g32
    replace g40 := kr.cell g40; replace g41 := kr.cell g41; replace g42 := kr.cell g42
    replace d0 := kr.cell d0; replace d1 := kr.cell d1; replace d2 := kr.cell d2; replace d3 := kr.cell d3
    have hz := lt_of_cell d0
    have hz1 := Nat.ne_of_lt hz
    have hzB := lt_of_cell g00
    have hzB1 := Nat.ne_of_lt hzB
    rcases (by omega : m = 0 ∨ m = 1 ∨ m = 2 ∨ m = 3 ∨ m = 4 ∨ m = 5) with rfl | rfl | rfl | rfl | rfl | rfl
    · have C0 : ∀ W, Kept w W → Calls Tryz.prog 94 #[.slice A n cap, .int .u8 0] W fun r w' => r = .returned (.bool (os.contains 0)) ∧ W = w' := fun W hk => CO 0 W hk
      clear CO
      by_cases ho : os.contains 0 = true
      · rw [ho] at C0
        by_cases hh : pfB p = true
        · have Q : Hid (badB os p e b k 0 = false) := Lib.hid (by show (os.contains 0 && !pfB p) = false; rw [ho, hh]; rfl)
          clear WA WE ho
          go_wp2_with (first
            | (go_at_call 94; refine (C0 _ (kw.alloc _ _)).mono ?_; rintro r w2 ⟨rfl, rfl⟩)
            | (go_at_call 106; refine (need1_any _ _ _ _ _ hs).mono ?_; rintro r w3 ⟨rfl, k3⟩; rw [hh]; have f2 : w3.cell? ⟨wr.heap.size, 2, none⟩ = some (.int .u16 23) := k3.cell (by simp)))
          go_roundw
          case rel => exact ⟨1, by go_num, by omega, (kr.alloc _ _).trans k3, Lib.hid (fun j hj => by
            by_cases g : j = 0
            · subst g; exact Q.out
            · exact D.out j (by omega))⟩
          case measure => simp [intOf]
        · have hh : pfB p = false := by simpa using hh
          have Q : Hid (badB os p e b k 0 = true) := Lib.hid (by show (os.contains 0 && !pfB p) = true; rw [ho, hh]; rfl)
          have e0 : R = 23 := WA.out 0 (by omega) (fun j hj => D.out j hj) Q.out
          subst e0
          clear WA WE ho
          go_wp2_with (first
            | (go_at_call 94; refine (C0 _ (kw.alloc _ _)).mono ?_; rintro r w2 ⟨rfl, rfl⟩)
            | (go_at_call 106; refine (need1_any _ _ _ _ _ hs).mono ?_; rintro r w3 ⟨rfl, k3⟩; rw [hh]; have f2 : w3.cell? ⟨wr.heap.size, 2, none⟩ = some (.int .u16 23) := k3.cell (by simp)))
          go_ret
          exact ⟨rfl, (kw.alloc _ _).trans k3⟩
      · have ho : os.contains 0 = false := by simpa using ho
        rw [ho] at C0
        have Q : Hid (badB os p e b k 0 = false) := Lib.hid (by show (os.contains 0 && !pfB p) = false; rw [ho]; rfl)
        clear WA WE ho
        go_wp2_with (go_at_call 94; refine (C0 _ (kw.alloc _ _)).mono ?_; rintro r w2 ⟨rfl, rfl⟩)
        go_roundw
        case rel => exact ⟨1, by go_num, by omega, kr.alloc _ _, Lib.hid (fun j hj => by
          by_cases g : j = 0
          · subst g; exact Q.out
          · exact D.out j (by omega))⟩
        case measure => simp [intOf]
    · have C1 : ∀ W, Kept w W → Calls Tryz.prog 94 #[.slice A n cap, .int .u8 1] W fun r w' => r = .returned (.bool (os.contains 1)) ∧ W = w' := fun W hk => CO 1 W hk
      clear CO
      by_cases ho : os.contains 1 = true
      · rw [ho] at C1
        by_cases hh : decide (0 < e) = true
        · have Q : Hid (badB os p e b k 1 = false) := Lib.hid (by show (os.contains 1 && !decide (0 < e)) = false; rw [ho, hh]; rfl)
          clear WA WE ho
          go_wp2_with (first
            | (go_at_call 94; refine (C1 _ (kw.alloc _ _)).mono ?_; rintro r w2 ⟨rfl, rfl⟩)
            | (go_at_call 108; refine (need2_any _ _ _ _ _).mono ?_; rintro r w3 ⟨rfl, k3⟩; rw [hh]; have f2 : w3.cell? ⟨wr.heap.size, 2, none⟩ = some (.int .u16 24) := k3.cell (by simp)))
          go_roundw
          case rel => exact ⟨2, by go_num, by omega, (kr.alloc _ _).trans k3, Lib.hid (fun j hj => by
            by_cases g : j = 1
            · subst g; exact Q.out
            · exact D.out j (by omega))⟩
          case measure => simp [intOf]
        · have hh : decide (0 < e) = false := by simpa using hh
          have Q : Hid (badB os p e b k 1 = true) := Lib.hid (by show (os.contains 1 && !decide (0 < e)) = true; rw [ho, hh]; rfl)
          have e0 : R = 24 := WA.out 1 (by omega) (fun j hj => D.out j hj) Q.out
          subst e0
          clear WA WE ho
          go_wp2_with (first
            | (go_at_call 94; refine (C1 _ (kw.alloc _ _)).mono ?_; rintro r w2 ⟨rfl, rfl⟩)
            | (go_at_call 108; refine (need2_any _ _ _ _ _).mono ?_; rintro r w3 ⟨rfl, k3⟩; rw [hh]; have f2 : w3.cell? ⟨wr.heap.size, 2, none⟩ = some (.int .u16 24) := k3.cell (by simp)))
          go_ret
          exact ⟨rfl, (kw.alloc _ _).trans k3⟩
      · have ho : os.contains 1 = false := by simpa using ho
        rw [ho] at C1
        have Q : Hid (badB os p e b k 1 = false) := Lib.hid (by show (os.contains 1 && !decide (0 < e)) = false; rw [ho]; rfl)
        clear WA WE ho
        go_wp2_with (go_at_call 94; refine (C1 _ (kw.alloc _ _)).mono ?_; rintro r w2 ⟨rfl, rfl⟩)
        go_roundw
        case rel => exact ⟨2, by go_num, by omega, kr.alloc _ _, Lib.hid (fun j hj => by
          by_cases g : j = 1
          · subst g; exact Q.out
          · exact D.out j (by omega))⟩
        case measure => simp [intOf]
    · have C2 : ∀ W, Kept w W → Calls Tryz.prog 94 #[.slice A n cap, .int .u8 2] W fun r w' => r = .returned (.bool (os.contains 2)) ∧ W = w' := fun W hk => CO 2 W hk
      clear CO
      by_cases ho : os.contains 2 = true
      · rw [ho] at C2
        by_cases hh : decide (0 < b) = true
        · have Q : Hid (badB os p e b k 2 = false) := Lib.hid (by show (os.contains 2 && !decide (0 < b)) = false; rw [ho, hh]; rfl)
          clear WA WE ho
          go_wp2_with (first
            | (go_at_call 94; refine (C2 _ (kw.alloc _ _)).mono ?_; rintro r w2 ⟨rfl, rfl⟩)
            | (go_at_call 109; refine (need3_any _ _ _ _ _).mono ?_; rintro r w3 ⟨rfl, k3⟩; rw [hh]; have f2 : w3.cell? ⟨wr.heap.size, 2, none⟩ = some (.int .u16 25) := k3.cell (by simp)))
          go_roundw
          case rel => exact ⟨3, by go_num, by omega, (kr.alloc _ _).trans k3, Lib.hid (fun j hj => by
            by_cases g : j = 2
            · subst g; exact Q.out
            · exact D.out j (by omega))⟩
          case measure => simp [intOf]
        · have hh : decide (0 < b) = false := by simpa using hh
          have Q : Hid (badB os p e b k 2 = true) := Lib.hid (by show (os.contains 2 && !decide (0 < b)) = true; rw [ho, hh]; rfl)
          have e0 : R = 25 := WA.out 2 (by omega) (fun j hj => D.out j hj) Q.out
          subst e0
          clear WA WE ho
          go_wp2_with (first
            | (go_at_call 94; refine (C2 _ (kw.alloc _ _)).mono ?_; rintro r w2 ⟨rfl, rfl⟩)
            | (go_at_call 109; refine (need3_any _ _ _ _ _).mono ?_; rintro r w3 ⟨rfl, k3⟩; rw [hh]; have f2 : w3.cell? ⟨wr.heap.size, 2, none⟩ = some (.int .u16 25) := k3.cell (by simp)))
          go_ret
          exact ⟨rfl, (kw.alloc _ _).trans k3⟩
      · have ho : os.contains 2 = false := by simpa using ho
        rw [ho] at C2
        have Q : Hid (badB os p e b k 2 = false) := Lib.hid (by show (os.contains 2 && !decide (0 < b)) = false; rw [ho]; rfl)
        clear WA WE ho
        go_wp2_with (go_at_call 94; refine (C2 _ (kw.alloc _ _)).mono ?_; rintro r w2 ⟨rfl, rfl⟩)
        go_roundw
        case rel => exact ⟨3, by go_num, by omega, kr.alloc _ _, Lib.hid (fun j hj => by
          by_cases g : j = 2
          · subst g; exact Q.out
          · exact D.out j (by omega))⟩
        case measure => simp [intOf]
    · have C3 : ∀ W, Kept w W → Calls Tryz.prog 94 #[.slice A n cap, .int .u8 2] W fun r w' => r = .returned (.bool (os.contains 2)) ∧ W = w' := fun W hk => CO 2 W hk
      clear CO
      by_cases ho : os.contains 2 = true
      · rw [ho] at C3
        by_cases hh : decide (sat (e * b) ≤ 4611686018427387904) = true
        · have Q : Hid (badB os p e b k 3 = false) := Lib.hid (by show (os.contains 2 && !decide (sat (e * b) ≤ 4611686018427387904)) = false; rw [ho, hh]; rfl)
          clear WA WE ho
          go_wp2_with (first
            | (go_at_call 94; refine (C3 _ (kw.alloc _ _)).mono ?_; rintro r w2 ⟨rfl, rfl⟩)
            | (go_at_call 110; refine (need4_any _ _ _ _ _ he hb).mono ?_; rintro r w3 ⟨rfl, k3⟩; rw [hh]; have f2 : w3.cell? ⟨wr.heap.size, 2, none⟩ = some (.int .u16 26) := k3.cell (by simp)))
          go_roundw
          case rel => exact ⟨4, by go_num, by omega, (kr.alloc _ _).trans k3, Lib.hid (fun j hj => by
            by_cases g : j = 3
            · subst g; exact Q.out
            · exact D.out j (by omega))⟩
          case measure => simp [intOf]
        · have hh : decide (sat (e * b) ≤ 4611686018427387904) = false := by simpa using hh
          have Q : Hid (badB os p e b k 3 = true) := Lib.hid (by show (os.contains 2 && !decide (sat (e * b) ≤ 4611686018427387904)) = true; rw [ho, hh]; rfl)
          have e0 : R = 26 := WA.out 3 (by omega) (fun j hj => D.out j hj) Q.out
          subst e0
          clear WA WE ho
          go_wp2_with (first
            | (go_at_call 94; refine (C3 _ (kw.alloc _ _)).mono ?_; rintro r w2 ⟨rfl, rfl⟩)
            | (go_at_call 110; refine (need4_any _ _ _ _ _ he hb).mono ?_; rintro r w3 ⟨rfl, k3⟩; rw [hh]; have f2 : w3.cell? ⟨wr.heap.size, 2, none⟩ = some (.int .u16 26) := k3.cell (by simp)))
          go_ret
          exact ⟨rfl, (kw.alloc _ _).trans k3⟩
      · have ho : os.contains 2 = false := by simpa using ho
        rw [ho] at C3
        have Q : Hid (badB os p e b k 3 = false) := Lib.hid (by show (os.contains 2 && !decide (sat (e * b) ≤ 4611686018427387904)) = false; rw [ho]; rfl)
        clear WA WE ho
        go_wp2_with (go_at_call 94; refine (C3 _ (kw.alloc _ _)).mono ?_; rintro r w2 ⟨rfl, rfl⟩)
        go_roundw
        case rel => exact ⟨4, by go_num, by omega, kr.alloc _ _, Lib.hid (fun j hj => by
          by_cases g : j = 3
          · subst g; exact Q.out
          · exact D.out j (by omega))⟩
        case measure => simp [intOf]
    · have C4 : ∀ W, Kept w W → Calls Tryz.prog 94 #[.slice A n cap, .int .u8 3] W fun r w' => r = .returned (.bool (os.contains 3)) ∧ W = w' := fun W hk => CO 3 W hk
      clear CO
      by_cases ho : os.contains 3 = true
      · rw [ho] at C4
        by_cases hh : isK k = true
        · have Q : Hid (badB os p e b k 4 = false) := Lib.hid (by show (os.contains 3 && !isK k) = false; rw [ho, hh]; rfl)
          clear WA WE ho
          go_wp2_with (first
            | (go_at_call 94; refine (C4 _ (kw.alloc _ _)).mono ?_; rintro r w2 ⟨rfl, rfl⟩)
            | (go_at_call 112; refine (need5_any _ _ _ _ _).mono ?_; rintro r w3 ⟨rfl, k3⟩; rw [hh]; have f2 : w3.cell? ⟨wr.heap.size, 2, none⟩ = some (.int .u16 27) := k3.cell (by simp)))
          go_roundw
          case rel => exact ⟨5, by go_num, by omega, (kr.alloc _ _).trans k3, Lib.hid (fun j hj => by
            by_cases g : j = 4
            · subst g; exact Q.out
            · exact D.out j (by omega))⟩
          case measure => simp [intOf]
        · have hh : isK k = false := by simpa using hh
          have Q : Hid (badB os p e b k 4 = true) := Lib.hid (by show (os.contains 3 && !isK k) = true; rw [ho, hh]; rfl)
          have e0 : R = 27 := WA.out 4 (by omega) (fun j hj => D.out j hj) Q.out
          subst e0
          clear WA WE ho
          go_wp2_with (first
            | (go_at_call 94; refine (C4 _ (kw.alloc _ _)).mono ?_; rintro r w2 ⟨rfl, rfl⟩)
            | (go_at_call 112; refine (need5_any _ _ _ _ _).mono ?_; rintro r w3 ⟨rfl, k3⟩; rw [hh]; have f2 : w3.cell? ⟨wr.heap.size, 2, none⟩ = some (.int .u16 27) := k3.cell (by simp)))
          go_ret
          exact ⟨rfl, (kw.alloc _ _).trans k3⟩
      · have ho : os.contains 3 = false := by simpa using ho
        rw [ho] at C4
        have Q : Hid (badB os p e b k 4 = false) := Lib.hid (by show (os.contains 3 && !isK k) = false; rw [ho]; rfl)
        clear WA WE ho
        go_wp2_with (go_at_call 94; refine (C4 _ (kw.alloc _ _)).mono ?_; rintro r w2 ⟨rfl, rfl⟩)
        go_roundw
        case rel => exact ⟨5, by go_num, by omega, kr.alloc _ _, Lib.hid (fun j hj => by
          by_cases g : j = 4
          · subst g; exact Q.out
          · exact D.out j (by omega))⟩
        case measure => simp [intOf]
    · have e0 : R = 0 := WE.out (fun j hj => D.out j hj)
      subst e0
      clear WA WE CO
      go_wp2
      go_ret
      exact ⟨rfl, kw⟩
end Go.Proofs.YtckaiejbgnhgcaaGreatDoor.Wd
namespace Go.Proofs.YtckaiejbgnhgcaaGreatDoor.Wd
open Go Go.RowKit
set_option linter.unusedVariables false

/-- The first fault of a rule. -/
def ruE (p : ByteArray) (e b k : Int) : Int := wrE [0, 1, 2, 3] p e b k
/-- How full a key may be. -/
def caI (p : ByteArray) (e b k : Int) : Int := if ruE p e b k = 0 then sat (e * b) else 0
theorem wr_U (os : List Nat) (p : ByteArray) (e b k : Int) : 0 ≤ wrE os p e b k ∧ wrE os p e b k ≤ 27 := by unfold wrE; (repeat' split) <;> omega
theorem ru_is (p : ByteArray) (e b k : Int) : ruE p e b k = if pfB p = false then 23 else if ¬ 0 < e then 24 else if ¬ 0 < b then 25 else if ¬ sat (e * b) ≤ 4611686018427387904 then 26 else if isK k = false then 27 else 0 := by
  unfold ruE wrE badB
  simp only [show ([0, 1, 2, 3] : List Nat).contains 0 = true from rfl, show ([0, 1, 2, 3] : List Nat).contains 1 = true from rfl, show ([0, 1, 2, 3] : List Nat).contains 2 = true from rfl, show ([0, 1, 2, 3] : List Nat).contains 3 = true from rfl, Bool.true_and, Bool.not_eq_true', decide_eq_false_iff_not]

theorem right_any (p : ByteArray) (e b k : Int) (w : World) (hs : p.size ≤ 9223372036854775807) (he : U e) (hb : U b) :
    Calls Tryz.prog 41 #[rul p e b k] w fun r w' => r = .returned (.int .u16 (ruE p e b k)) ∧ Kept w w' := by
  unfold ruE
  have W (W : World) (B : Nat) (h : W.cell? ⟨B, 0, none⟩ = some (.int .u8 0) ∧ W.cell? ⟨B, 1, none⟩ = some (.int .u8 1) ∧ W.cell? ⟨B, 2, none⟩ = some (.int .u8 2) ∧ W.cell? ⟨B, 3, none⟩ = some (.int .u8 3)) := wrong_any (some ⟨B, 0, none⟩) 4 4 [0, 1, 2, 3] p e b k W (fun _ => ⟨B, 0, rfl, fun j hj => by
    obtain ⟨h0, h1, h2, h3⟩ := h
    match j, hj with
    | 0, _ => simpa using h0
    | 1, _ => simpa using h1
    | 2, _ => simpa using h2
    | 3, _ => simpa using h3⟩) rfl (by omega) hs he hb
  generalize wrE [0, 1, 2, 3] p e b k = R at *
  go_enter Tryz.func41, Tryz.ntmps41
  go_wp2_with (go_at_call 64; refine (W _ _ (by simp)).mono ?_; rintro r w1 ⟨rfl, k1⟩)
  go_ret
  exact ⟨rfl, (((Kept.refl w).alloc _ _).alloc _ _).trans k1⟩

/-! ### Names -/
abbrev gcraS : ByteArray := ⟨#[103, 99, 114, 97]⟩
abbrev bucketS : ByteArray := ⟨#[98, 117, 99, 107, 101, 116]⟩
abbrev leakyS : ByteArray := ⟨#[108, 101, 97, 107, 121]⟩
/-- The table of names lies in block 0. -/
def Nam (w : World) : Prop := w.cell? ⟨0, 0, none⟩ = some (.string ⟨#[]⟩) ∧ w.cell? ⟨0, 1, none⟩ = some (.string gcraS) ∧ w.cell? ⟨0, 2, none⟩ = some (.string bucketS) ∧ w.cell? ⟨0, 3, none⟩ = some (.string leakyS)
theorem Nam.kept {w w' : World} (h : Nam w) (k : Kept w w') : Nam w' := ⟨k.cell h.1, k.cell h.2.1, k.cell h.2.2.1, k.cell h.2.2.2⟩
/-- A kind's name. -/
def namS (k : Int) : ByteArray := if k = 1 then gcraS else if k = 2 then bucketS else if k = 3 then leakyS else ⟨#[]⟩

theorem name_any (k : Int) (w : World) (h : Nam w) (hk : 0 ≤ k ∧ k ≤ 255) :
    Calls Tryz.prog 51 #[.int .u8 k] w fun r w' => r = .returned (.string (namS k)) ∧ w = w' := by
  obtain ⟨n0, n1, n2, n3⟩ := h
  by_cases h4 : 4 ≤ k
  · have e : namS k = ⟨#[]⟩ := by unfold namS; rw [if_neg (by omega), if_neg (by omega), if_neg (by omega)]
    rw [e]
    clear e
    go_enter Tryz.func51, Tryz.ntmps51
    go_wp2
    go_ret
    exact ⟨rfl, rfl⟩
  · rcases (by omega : k = 0 ∨ k = 1 ∨ k = 2 ∨ k = 3) with rfl | rfl | rfl | rfl
    all_goals
      go_enter Tryz.func51, Tryz.ntmps51
      go_wp2
      go_ret
      exact ⟨rfl, rfl⟩

/-- A name's kind, or 0. -/
def kinI (s : ByteArray) : Int := if s = gcraS then 1 else if s = bucketS then 2 else if s = leakyS then 3 else 0
def kinB (s : ByteArray) : Bool := decide (s = gcraS ∨ s = bucketS ∨ s = leakyS)
theorem kin_at {s : ByteArray} (m : Nat) (hm : m < 4) (e : namS m = s) (g : m ≠ 0) : kinI s = m ∧ kinB s = true := by
  subst e
  match m, hm, g with
  | 1, _, _ => exact ⟨rfl, by decide⟩
  | 2, _, _ => exact ⟨by decide, by decide⟩
  | 3, _, _ => exact ⟨by decide, by decide⟩
theorem kin_end {s : ByteArray} (h : ∀ m : Nat, m < 4 → m ≠ 0 → namS m ≠ s) : kinI s = 0 ∧ kinB s = false := by
  have h1 : s ≠ gcraS := fun e => h 1 (by omega) (by omega) e.symm
  have h2 : s ≠ bucketS := fun e => h 2 (by omega) (by omega) e.symm
  have h3 : s ≠ leakyS := fun e => h 3 (by omega) (by omega) e.symm
  unfold kinI kinB
  rw [if_neg h1, if_neg h2, if_neg h3]
  exact ⟨rfl, by simp [h1, h2, h3]⟩

theorem text_is {s : ByteArray} {l : List UInt8} (h : l = s.toList) : (⟨l.toArray⟩ : ByteArray) = s := by
  rw [h, ByteArray.toList_eq]
abbrev namesV : Value := .agg #[.string ⟨#[]⟩, .string gcraS, .string bucketS, .string leakyS]
theorem names_at (w : World) : (Instr.index 126 namesV (.int .i64 0)).run Tryz.prog w = .ok (.string ⟨#[]⟩) w ∧ (Instr.index 126 namesV (.int .i64 1)).run Tryz.prog w = .ok (.string gcraS) w ∧
    (Instr.index 126 namesV (.int .i64 2)).run Tryz.prog w = .ok (.string bucketS) w ∧ (Instr.index 126 namesV (.int .i64 3)).run Tryz.prog w = .ok (.string leakyS) w :=
  ⟨by kernel_rfl, by kernel_rfl, by kernel_rfl, by kernel_rfl⟩
set_option maxRecDepth 100000 in
theorem kind_any (s : ByteArray) (w : World) (h : Nam w) :
    Calls Tryz.prog 140 #[.string s] w fun r w' => r = .returned (.tuple #[.int .u8 (kinI s), .bool (kinB s)]) ∧ w = w' := by
  obtain ⟨n0, n1, n2, n3⟩ := h
  obtain ⟨i0, i1, i2, i3⟩ := names_at w
  have KA := Lib.hid (fun (m : Nat) (hm : m < 4) => kin_at (s := s) m hm)
  have KE := Lib.hid (kin_end (s := s))
  generalize kinI s = R at *
  generalize kinB s = Q at *
  go_enter Tryz.func140, Tryz.ntmps140
  go_wp2
  go_loop [7] (fun i => ∃ m : Nat, i = .int .i64 m ∧ m ≤ 4 ∧ Hid (∀ j : Nat, j < m → j ≠ 0 → namS j ≠ s)) (fun i => 4 - (intOf i).toNat)
  case atStart => exact ⟨0, rfl, by omega, Lib.hid (fun j hj => absurd hj (by omega))⟩
  case round =>
    obtain ⟨m, rfl, hm, D⟩ := hrel
    rcases (by omega : m = 0 ∨ m = 1 ∨ m = 2 ∨ m = 3 ∨ m = 4) with rfl | rfl | rfl | rfl | rfl
    · go_wp2
      all_goals exact ⟨⟨1, rfl, by omega, Lib.hid (fun j hj g => absurd hj (by omega))⟩, by simp [intOf]⟩
    · by_cases ht : ([103, 99, 114, 97] : List UInt8) = s.toList
      · have hz : s.toList.isEmpty = false := by rw [← ht]; rfl
        obtain ⟨e1, e2⟩ := KA.out 1 (by omega) (text_is ht) (by omega)
        subst e1 e2
        clear KA KE
        go_wp2
        go_ret2
        exact ⟨rfl, rfl⟩
      · have T := Lib.hid ht
        clear KA KE
        go_wp2
        exact ⟨⟨2, rfl, by omega, Lib.hid (fun j hj g => by
          by_cases e : j = 1
          · subst e; exact fun g => T.out (by rw [← g, ByteArray.toList_eq]; rfl)
          · exact D.out j (by omega) g)⟩, by simp [intOf]⟩
    · by_cases ht : ([98, 117, 99, 107, 101, 116] : List UInt8) = s.toList
      · have hz : s.toList.isEmpty = false := by rw [← ht]; rfl
        obtain ⟨e1, e2⟩ := KA.out 2 (by omega) (text_is ht) (by omega)
        subst e1 e2
        clear KA KE
        go_wp2
        go_ret2
        exact ⟨rfl, rfl⟩
      · have T := Lib.hid ht
        clear KA KE
        go_wp2
        exact ⟨⟨3, rfl, by omega, Lib.hid (fun j hj g => by
          by_cases e : j = 2
          · subst e; exact fun g => T.out (by rw [← g, ByteArray.toList_eq]; rfl)
          · exact D.out j (by omega) g)⟩, by simp [intOf]⟩
    · by_cases ht : ([108, 101, 97, 107, 121] : List UInt8) = s.toList
      · have hz : s.toList.isEmpty = false := by rw [← ht]; rfl
        obtain ⟨e1, e2⟩ := KA.out 3 (by omega) (text_is ht) (by omega)
        subst e1 e2
        clear KA KE
        go_wp2
        go_ret2
        exact ⟨rfl, rfl⟩
      · have T := Lib.hid ht
        clear KA KE
        go_wp2
        exact ⟨⟨4, rfl, by omega, Lib.hid (fun j hj g => by
          by_cases e : j = 3
          · subst e; exact fun g => T.out (by rw [← g, ByteArray.toList_eq]; rfl)
          · exact D.out j (by omega) g)⟩, by simp [intOf]⟩
    · obtain ⟨e1, e2⟩ := KE.out (fun j hj g => D.out j hj g)
      subst e1 e2
      clear KA KE
      go_wp2
      go_ret2
      exact ⟨rfl, rfl⟩
end Go.Proofs.YtckaiejbgnhgcaaGreatDoor.Wd
namespace Go.Proofs.YtckaiejbgnhgcaaGreatDoor.Wd
open Go Go.RowKit Go.Shelf

def cloRen : Go.Shelf.Ren := ⟨fun | 316 => 55 | n => n, fun | 9 => 9 | 3 => 3 | 4 => 4 | 37 => 22 | 0 => 0 | 127 => 136 | 5 => 5 | n => n, fun | n => n⟩
theorem cloLays : Go.Proofs.LaysM.n316 Tryz.prog cloRen := {
  mixed := by kernel_rfl
  f316 := Tryz.func55.trans (congrArg some (by kernel_rfl))
  t0 := Tryz.underlying0
  a0 := Tryz.isAgg0
  z0 := Tryz.sizeOf0
  v0 := Tryz.zeroValue0
  t3 := Tryz.underlying3
  a3 := Tryz.isAgg3
  z3 := Tryz.sizeOf3
  v3 := Tryz.zeroValue3
  t4 := Tryz.underlying4
  a4 := Tryz.isAgg4
  z4 := Tryz.sizeOf4
  v4 := Tryz.zeroValue4
  t9 := Tryz.underlying9
  a9 := Tryz.isAgg9
  z9 := Tryz.sizeOf9
  v9 := Tryz.zeroValue9
  t37 := Tryz.underlying22
  a37 := Tryz.isAgg22
  z37 := Tryz.sizeOf22
  v37 := Tryz.zeroValue22
  t127 := Tryz.underlying136
  a127 := Tryz.isAgg136
  z127 := Tryz.sizeOf136
  v127 := Tryz.zeroValue136
  t5 := Tryz.underlying5
  a5 := Tryz.isAgg5
  z5 := Tryz.sizeOf5
  v5 := Tryz.zeroValue5
  i0 := by kernel_rfl
  i3 := by kernel_rfl
  i4 := by kernel_rfl
  i5 := by kernel_rfl
  i9 := by kernel_rfl
  i37 := by kernel_rfl
  i127 := by kernel_rfl }
theorem inner_clone (s : ByteArray) (w : World) (hs : s.size ≤ 281474976710656) :
    Calls Tryz.prog 55 #[.string s] w fun e w' => e = .returned (.string s) ∧ Below w.heap.size w w' := Any.stringslite_Clone cloLays s w hs
theorem clone_any (s : ByteArray) (w : World) (hs : s.size ≤ 281474976710656) :
    Calls Tryz.prog 34 #[.string s] w fun e w' => e = .returned (.string s) ∧ Below w.heap.size w w' := by
  go_enter Tryz.func34, Tryz.ntmps34
  go_wp2_with (go_at_call 55; refine (inner_clone _ _ hs).mono ?_; rintro e w1 ⟨rfl, b1⟩)
  go_ret
  exact ⟨rfl, b1⟩
end Go.Proofs.YtckaiejbgnhgcaaGreatDoor.Wd
namespace Go.Proofs.YtckaiejbgnhgcaaGreatDoor.Wd
open Go Go.RowKit
set_option linter.unusedVariables false

/-! ### The map of the readers -/
abbrev numV (q : Nat) : Value := .func (Fn.func 139) #[] #[.pointer (some ⟨q, 0, none⟩)]
theorem number_any (f : FuncId) (w : World) :
    Calls Tryz.prog 124 #[fnV f] w fun r w' => r = .returned (numV w.heap.size) ∧ w' = w.alloc (.cells #[fnV f] 186) := by
  go_enter Tryz.func124, Tryz.ntmps124
  go_wp2
  go_ret
  exact ⟨rfl, rfl⟩
theorem run_put (W : World) (n : Nat) (es : Array MapEntry) (c : Nat) (a : Int) (v : Value) (hb : W.heap[n]? = some (.map es c)) (hn : Instr.findNow (.int .u8) (.int .u8 a) es.toList 0 = some none) :
    (Instr.mapUpdate 172 (.map (some n)) (.int .u8 a) v).run Tryz.prog W = .ok () { W with heap := W.heap.setIfInBounds n (.map (es.push ⟨.int .u8 a, v, c⟩) (c + 1)) } := by
  simp [Instr.mapUpdate, run_underlying Tryz.underlying172, MapKept.run_getObj_map hb, MapKept.run_checkKey Tryz.underlying119 (d := .int .u8) (k := .int .u8 a) rfl, MapKept.run_findKey Tryz.underlying119 hn, MapKept.run_setObj_map _ hb, Result.andThen]
theorem heap_old (w : World) (o o2 : Obj) : ((w.alloc o).alloc o2).heap[w.heap.size]? = some o := by
  show ((w.heap.push o).push o2)[w.heap.size]? = some o
  rw [Array.getElem?_push, if_neg (by simp), Array.getElem?_push, if_pos rfl]
theorem heap_older (w : World) (o o2 o3 : Obj) : (((w.alloc o).alloc o2).alloc o3).heap[w.heap.size]? = some o := by
  show (((w.heap.push o).push o2).push o3)[w.heap.size]? = some o
  rw [Array.getElem?_push, if_neg (by simp; omega), Array.getElem?_push, if_neg (by simp), Array.getElem?_push, if_pos rfl]
theorem set_old (w : World) (o o2 x : Obj) : ({ ((w.alloc o).alloc o2) with heap := ((w.alloc o).alloc o2).heap.setIfInBounds w.heap.size x } : World) = (w.alloc x).alloc o2 := by
  have e : ((w.heap.push o).push o2).setIfInBounds w.heap.size x = (w.heap.push x).push o2 := by simp [Array.setIfInBounds, Array.set_push]; omega
  show ({ w with heap := ((w.heap.push o).push o2).setIfInBounds w.heap.size x } : World) = { w with heap := (w.heap.push x).push o2 }
  rw [e]
theorem set_older (w : World) (o o2 o3 x : Obj) : ({ (((w.alloc o).alloc o2).alloc o3) with heap := (((w.alloc o).alloc o2).alloc o3).heap.setIfInBounds w.heap.size x } : World) = ((w.alloc x).alloc o2).alloc o3 := by
  have e : (((w.heap.push o).push o2).push o3).setIfInBounds w.heap.size x = ((w.heap.push x).push o2).push o3 := by
    simp [Array.setIfInBounds, Array.set_push]
    rw [if_pos (by omega), if_pos (by omega)]
  show ({ w with heap := (((w.heap.push o).push o2).push o3).setIfInBounds w.heap.size x } : World) = { w with heap := ((w.heap.push x).push o2).push o3 }
  rw [e]

def rdMap (p q : Nat) : Obj := .map #[⟨.int .u8 0, fnV 123, 0⟩, ⟨.int .u8 1, numV p, 1⟩, ⟨.int .u8 2, numV q, 2⟩, ⟨.int .u8 3, fnV 127, 3⟩] 4
theorem readers_any (w : World) :
    Calls Tryz.prog 118 #[] w fun r w' => r = .returned (.map (some w.heap.size)) ∧ w' = ((w.alloc (rdMap (w.heap.size + 1) (w.heap.size + 1 + 1))).alloc (.cells #[fnV 125] 186)).alloc (.cells #[fnV 126] 186) := by
  have hmm := @run_makeMap Tryz.prog
  have h1 := run_put (w.alloc (.map #[] 0)) w.heap.size #[] 0 0 (fnV 123) (MapKept.heap_alloc w _).1 rfl
  rw [setBlock_new] at h1
  have h2 (o : Obj) := run_put ((w.alloc (.map #[⟨.int .u8 0, fnV 123, 0⟩] 1)).alloc o) w.heap.size #[⟨.int .u8 0, fnV 123, 0⟩] 1 1 (numV (w.heap.size + 1)) (heap_old _ _ _) rfl
  simp only [set_old] at h2
  have h3 (o o2 : Obj) := run_put (((w.alloc (.map #[⟨.int .u8 0, fnV 123, 0⟩, ⟨.int .u8 1, numV (w.heap.size + 1), 1⟩] 2)).alloc o).alloc o2) w.heap.size #[⟨.int .u8 0, fnV 123, 0⟩, ⟨.int .u8 1, numV (w.heap.size + 1), 1⟩] 2 2 (numV (w.heap.size + 1 + 1)) (heap_older _ _ _ _) rfl
  simp only [set_older] at h3
  have h4 (o o2 : Obj) := run_put (((w.alloc (.map #[⟨.int .u8 0, fnV 123, 0⟩, ⟨.int .u8 1, numV (w.heap.size + 1), 1⟩, ⟨.int .u8 2, numV (w.heap.size + 1 + 1), 2⟩] 3)).alloc o).alloc o2) w.heap.size #[⟨.int .u8 0, fnV 123, 0⟩, ⟨.int .u8 1, numV (w.heap.size + 1), 1⟩, ⟨.int .u8 2, numV (w.heap.size + 1 + 1), 2⟩] 3 3 (fnV 127) (heap_older _ _ _ _) rfl
  simp only [set_older] at h4
  simp only [List.push_toArray, List.cons_append, List.nil_append] at h1 h2 h3 h4
  go_enter Tryz.func118, Tryz.ntmps118
  go_wp2_with (go_at_call 124; refine (number_any _ _).mono ?_; rintro r w1 ⟨rfl, rfl⟩)
  go_ret
  exact ⟨rfl, rfl⟩

theorem run_read (w : World) (b p q : Nat) (hb : w.heap[b]? = some (rdMap p q)) :
    (Instr.lookup 172 (.map (some b)) (.int .u8 0) false).run Tryz.prog w = .ok (fnV 123) w ∧
    (Instr.lookup 172 (.map (some b)) (.int .u8 1) false).run Tryz.prog w = .ok (numV p) w ∧
    (Instr.lookup 172 (.map (some b)) (.int .u8 2) false).run Tryz.prog w = .ok (numV q) w ∧
    (Instr.lookup 172 (.map (some b)) (.int .u8 3) false).run Tryz.prog w = .ok (fnV 127) w := by
  unfold rdMap at hb
  refine ⟨?_, ?_, ?_, ?_⟩
  · have hn : Instr.findNow (.int .u8) (.int .u8 0) [⟨.int .u8 0, fnV 123, 0⟩, ⟨.int .u8 1, numV p, 1⟩, ⟨.int .u8 2, numV q, 2⟩, ⟨.int .u8 3, fnV 127, 3⟩] 0 = some (some (0, fnV 123)) := rfl
    simp [Instr.lookup, run_underlying Tryz.underlying172, MapKept.run_getObj_map hb, MapKept.run_checkKey Tryz.underlying119 (d := .int .u8) (k := .int .u8 0) rfl, MapKept.run_findKey Tryz.underlying119 hn, Result.andThen]
  · have hn : Instr.findNow (.int .u8) (.int .u8 1) [⟨.int .u8 0, fnV 123, 0⟩, ⟨.int .u8 1, numV p, 1⟩, ⟨.int .u8 2, numV q, 2⟩, ⟨.int .u8 3, fnV 127, 3⟩] 0 = some (some (1, numV p)) := rfl
    simp [Instr.lookup, run_underlying Tryz.underlying172, MapKept.run_getObj_map hb, MapKept.run_checkKey Tryz.underlying119 (d := .int .u8) (k := .int .u8 1) rfl, MapKept.run_findKey Tryz.underlying119 hn, Result.andThen]
  · have hn : Instr.findNow (.int .u8) (.int .u8 2) [⟨.int .u8 0, fnV 123, 0⟩, ⟨.int .u8 1, numV p, 1⟩, ⟨.int .u8 2, numV q, 2⟩, ⟨.int .u8 3, fnV 127, 3⟩] 0 = some (some (2, numV q)) := rfl
    simp [Instr.lookup, run_underlying Tryz.underlying172, MapKept.run_getObj_map hb, MapKept.run_checkKey Tryz.underlying119 (d := .int .u8) (k := .int .u8 2) rfl, MapKept.run_findKey Tryz.underlying119 hn, Result.andThen]
  · have hn : Instr.findNow (.int .u8) (.int .u8 3) [⟨.int .u8 0, fnV 123, 0⟩, ⟨.int .u8 1, numV p, 1⟩, ⟨.int .u8 2, numV q, 2⟩, ⟨.int .u8 3, fnV 127, 3⟩] 0 = some (some (3, fnV 127)) := rfl
    simp [Instr.lookup, run_underlying Tryz.underlying172, MapKept.run_getObj_map hb, MapKept.run_checkKey Tryz.underlying119 (d := .int .u8) (k := .int .u8 3) rfl, MapKept.run_findKey Tryz.underlying119 hn, Result.andThen]

/-! ### A rule that is being read, in a block -/
def Bx (w : World) (R : Nat) (p : ByteArray) (e b k : Int) : Prop := ∃ t, w.heap[R]? = some (.cells #[.string p, .int .u64 e, .int .u64 b, .int .u8 k] t (0, 0))
theorem lt_heap {w : World} {R : Nat} {o : Obj} (h : w.heap[R]? = some o) : R < w.heap.size := by
  by_cases c : R < w.heap.size
  · exact c
  · rw [Array.getElem?_eq_none (by omega)] at h; cases h
theorem Bx.lt {w : World} {R : Nat} {p : ByteArray} {e b k : Int} (h : Bx w R p e b k) : R < w.heap.size := by obtain ⟨t, h⟩ := h; exact lt_heap h
theorem Bx.below {w w' : World} {R : Nat} {p : ByteArray} {e b k : Int} (h : Bx w R p e b k) (g : Below w.heap.size w w') : Bx w' R p e b k := by
  have hl := h.lt; obtain ⟨t, h⟩ := h; exact ⟨t, (g.block _ hl).trans h⟩
theorem Bx.other {w : World} {R : Nat} {p : ByteArray} {e b k : Int} (h : Bx w R p e b k) (a : Addr) (v : Value) (hn : a.block ≠ R) : Bx (w.setCell a v) R p e b k := by
  obtain ⟨t, h⟩ := h; exact ⟨t, (Below.heap_setCell _ _ _ _ (Ne.symm hn)).trans h⟩
theorem Bx.cells {w : World} {R : Nat} {p : ByteArray} {e b k : Int} (h : Bx w R p e b k) :
    w.cell? ⟨R, 0, none⟩ = some (.string p) ∧ w.cell? ⟨R, 1, none⟩ = some (.int .u64 e) ∧ w.cell? ⟨R, 2, none⟩ = some (.int .u64 b) ∧ w.cell? ⟨R, 3, none⟩ = some (.int .u8 k) := by
  obtain ⟨t, h⟩ := h
  refine ⟨?_, ?_, ?_, ?_⟩ <;> (unfold World.cell?; simp [h])
theorem Bx.soft {w : World} {R : Nat} {p : ByteArray} {e b k : Int} (h : Bx w R p e b k) (o : Nat) : w.frozen? ⟨R, o, none⟩ = false := by
  obtain ⟨t, h⟩ := h
  unfold World.frozen?
  simp [h]
theorem Bx.put0 {w : World} {R : Nat} {p : ByteArray} {e b k : Int} (h : Bx w R p e b k) (x : ByteArray) : Bx (w.setCell ⟨R, 0, none⟩ (.string x)) R x e b k := by
  obtain ⟨t, h⟩ := h; refine ⟨t, ?_⟩; simp [World.setCell, Array.getElem?_modify, h]
theorem Bx.put1 {w : World} {R : Nat} {p : ByteArray} {e b k : Int} (h : Bx w R p e b k) (x : Int) : Bx (w.setCell ⟨R, 1, none⟩ (.int .u64 x)) R p x b k := by
  obtain ⟨t, h⟩ := h; refine ⟨t, ?_⟩; simp [World.setCell, Array.getElem?_modify, h]
theorem Bx.put2 {w : World} {R : Nat} {p : ByteArray} {e b k : Int} (h : Bx w R p e b k) (x : Int) : Bx (w.setCell ⟨R, 2, none⟩ (.int .u64 x)) R p e x k := by
  obtain ⟨t, h⟩ := h; refine ⟨t, ?_⟩; simp [World.setCell, Array.getElem?_modify, h]
theorem Bx.put3 {w : World} {R : Nat} {p : ByteArray} {e b k : Int} (h : Bx w R p e b k) (x : Int) : Bx (w.setCell ⟨R, 3, none⟩ (.int .u8 x)) R p e b x := by
  obtain ⟨t, h⟩ := h; refine ⟨t, ?_⟩; simp [World.setCell, Array.getElem?_modify, h]

theorem put1_any (R : Nat) (x : Int) (p : ByteArray) (e b k : Int) (W : World) (h : Bx W R p e b k) :
    Calls Tryz.prog 125 #[.pointer (some ⟨R, 0, none⟩), .int .u64 x] W fun r w' => r = .returned (.tuple #[]) ∧ w' = W.setCell ⟨R, 1, none⟩ (.int .u64 x) := by
  obtain ⟨c0, c1, c2, c3⟩ := h.cells
  have f := h.soft 1
  go_enter Tryz.func125, Tryz.ntmps125
  go_wp2
  go_end0
  exact ⟨rfl, rfl⟩
theorem put2_any (R : Nat) (x : Int) (p : ByteArray) (e b k : Int) (W : World) (h : Bx W R p e b k) :
    Calls Tryz.prog 126 #[.pointer (some ⟨R, 0, none⟩), .int .u64 x] W fun r w' => r = .returned (.tuple #[]) ∧ w' = W.setCell ⟨R, 2, none⟩ (.int .u64 x) := by
  obtain ⟨c0, c1, c2, c3⟩ := h.cells
  have f := h.soft 2
  go_enter Tryz.func126, Tryz.ntmps126
  go_wp2
  go_end0
  exact ⟨rfl, rfl⟩
theorem readPrefix_none (R : Nat) (s : ByteArray) (W : World) (hs : s.size = 0) :
    Calls Tryz.prog 123 #[.pointer (some ⟨R, 0, none⟩), .string s] W fun r w' => r = .returned (.int .u16 23) ∧ W = w' := by
  have hz := toList_none s hs
  go_enter Tryz.func123, Tryz.ntmps123
  go_wp2
  go_ret
  exact ⟨rfl, rfl⟩
theorem readPrefix_some (R : Nat) (s : ByteArray) (p : ByteArray) (e b k : Int) (W : World) (h : Bx W R p e b k) (hs : 0 < s.size) (hs2 : s.size ≤ 281474976710656) :
    Calls Tryz.prog 123 #[.pointer (some ⟨R, 0, none⟩), .string s] W fun r w' => r = .returned (.int .u16 0) ∧ ∃ w1, Below W.heap.size W w1 ∧ w' = w1.setCell ⟨R, 0, none⟩ (.string s) := by
  have hz := toList_ne s hs
  clear hs
  go_enter Tryz.func123, Tryz.ntmps123
  go_wp2_with (go_at_call 34; refine (clone_any _ _ hs2).mono ?_; rintro r w1 ⟨rfl, b1⟩; have h1 := h.below b1; obtain ⟨c0, c1, c2, c3⟩ := h1.cells; have f := h1.soft 0)
  go_ret
  exact ⟨rfl, w1, b1, rfl⟩
theorem number1_any (R q : Nat) (s : ByteArray) (p : ByteArray) (e b k : Int) (W : World) (h : Bx W R p e b k) (hq : W.cell? ⟨q, 0, none⟩ = some (fnV 125)) (hs : s.size ≤ 9223372036854775807) :
    Calls Tryz.prog 139 #[.pointer (some ⟨R, 0, none⟩), .string s, .pointer (some ⟨q, 0, none⟩)] W fun r w' => r = .returned (.int .u16 (paE (lb s))) ∧ ∃ w1, Below W.heap.size W w1 ∧ w' = w1.setCell ⟨R, 1, none⟩ (.int .u64 (paN (lb s))) := by
  have hPA := fun W => parse_any s W hs
  generalize paE s.data.toList = E at *
  generalize paN s.data.toList = N at *
  go_enter Tryz.func139, Tryz.ntmps139
  go_wp2_with (first
    | (go_at_call 101; refine (hPA _).mono ?_; rintro r w1 ⟨rfl, k1⟩; have h1 := h.below k1.2; have g := k1.cell hq)
    | (go_at_call 125; refine (put1_any _ _ _ _ _ _ _ h1).mono ?_; rintro r w2 ⟨rfl, rfl⟩))
  go_ret
  exact ⟨rfl, w1, k1.2, rfl⟩
theorem number2_any (R q : Nat) (s : ByteArray) (p : ByteArray) (e b k : Int) (W : World) (h : Bx W R p e b k) (hq : W.cell? ⟨q, 0, none⟩ = some (fnV 126)) (hs : s.size ≤ 9223372036854775807) :
    Calls Tryz.prog 139 #[.pointer (some ⟨R, 0, none⟩), .string s, .pointer (some ⟨q, 0, none⟩)] W fun r w' => r = .returned (.int .u16 (paE (lb s))) ∧ ∃ w1, Below W.heap.size W w1 ∧ w' = w1.setCell ⟨R, 2, none⟩ (.int .u64 (paN (lb s))) := by
  have hPA := fun W => parse_any s W hs
  generalize paE s.data.toList = E at *
  generalize paN s.data.toList = N at *
  go_enter Tryz.func139, Tryz.ntmps139
  go_wp2_with (first
    | (go_at_call 101; refine (hPA _).mono ?_; rintro r w1 ⟨rfl, k1⟩; have h1 := h.below k1.2; have g := k1.cell hq)
    | (go_at_call 126; refine (put2_any _ _ _ _ _ _ _ h1).mono ?_; rintro r w2 ⟨rfl, rfl⟩))
  go_ret
  exact ⟨rfl, w1, k1.2, rfl⟩
theorem readKind_any (R : Nat) (s : ByteArray) (p : ByteArray) (e b k : Int) (W : World) (h : Bx W R p e b k) (hN : Nam W) :
    Calls Tryz.prog 127 #[.pointer (some ⟨R, 0, none⟩), .string s] W fun r w' => r = .returned (.int .u16 0) ∧ w' = W.setCell ⟨R, 3, none⟩ (.int .u8 (kinI s)) := by
  have C := kind_any s W hN
  obtain ⟨c0, c1, c2, c3⟩ := h.cells
  have f := h.soft 3
  clear hN
  generalize kinI s = K at *
  generalize kinB s = Q at *
  go_enter Tryz.func127, Tryz.ntmps127
  go_wp2_with (go_at_call 140; refine C.mono ?_; rintro r w1 ⟨rfl, rfl⟩)
  go_ret
  exact ⟨rfl, rfl⟩
end Go.Proofs.YtckaiejbgnhgcaaGreatDoor.Wd
