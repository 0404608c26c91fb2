/- Elder words: rules, keys, a text's copy; no conditions but those that each names. -/
import Derived.Test.YtkfncanfgpmgaaaGreatTabA
import Derived.Test.YtkfncanfgpmgaaaGreatTabB
import Derived.WalkKit
import Derived.Laws.Bits64b
import Derived.Below
import Derived.Deep.Draws
import Derived.Test.YtkfncanfgpmgaaaGreatRows
import Derived.ProofKit
import Derived.OpenShut
import Derived.Handy
import Derived.Lib.Hide
import Derived.Deep.RegionHeld3
import Derived.Deep.QuietTactic
import Derived.BigQuiet
import Derived.RangeFuncNested
import Derived.RangeFuncBound
import Derived.RangeFuncCalls
import Derived.RangeFuncLeaves
import Derived.Shelf.Abstract
import Derived.Shelf.RegionOpen
import Derived.OwnWalkIn
import Derived.TacticsInMore
import Derived.LoopNIn
import Derived.LoopIn
import Derived.LoopTactic
import Derived.OwnWalk
import Derived.Laws.OwnMore
import Derived.Maps.OwnSet
import Derived.Laws.EntriesVeiled
import Derived.Shelf.LaysM
import Derived.Shelf.Strconv.Clone
import Derived.ScopeJumps
import Derived.WalkMore
import Derived.Lib.ReflectliteSwap
import Derived.Deep.CutRange
import Derived.Deep.DeepCutAuto
import Derived.Lib.ItoaNum
import Derived.Lib.ItoaLen
import Derived.Laws.Strings
import GoSem.Op.String
import Derived.Lib.BufferWrite
import Derived.Laws.IdiomStrings
import Derived.Laws.ResultCell
import Derived.Laws.Rows
import Derived.WalkLawsBesides
import Derived.WalkSpells
import Derived.Deep.WholeRow
import Derived.StillTailTactics
import Derived.Deep.AppendLies
import Derived.Laws.ComplexArith
import Derived.WalkSmall
import Derived.Laws.Entries
import Derived.Laws.AppendOwn
import Derived.Deep.LoopGhost
import Derived.Lib.QuietBelow
import Derived.PlainAid
import Derived.Lib.SlBytesConst
import Derived.Lib.SmallJoins
import Derived.Laws.AppendOwnNone
import Derived.Laws.MakeOwn
import Derived.Lib.AppendStr
import Derived.Deep.RegionLaw
import Derived.Defers
import Derived.Recover
import Derived.Deep.Slices
import Derived.OneCell
import Derived.Laws.Cover3
namespace Go.Proofs.YtkfncanfgpmgaaaGreat.Wd
open Go Go.RowKit Go.Shelf Go.Deep
set_option linter.unusedVariables false
set_option maxRecDepth 100000
theorem list_size (s : ByteArray) : s.data.toList.length = s.size := by cases s; rfl
theorem list_at (s : ByteArray) (i : Nat) (h : i < s.size) (h' : i < s.data.toList.length) : s.data.toList[i] = s[i] := by cases s; rfl
theorem visible_any (c : Int) (w : World) (h : 0 ≤ c ∧ c ≤ 255) :
    Calls Tryz.prog 105 #[.int .u8 c] w fun e w' => e = .returned (.bool (visB c)) ∧ w = w' := by
  by_cases h1 : 33 ≤ c
  · by_cases h2 : c ≤ 126
    · rw [show visB c = true from decide_eq_true ⟨h1, h2⟩]
      go_enter Tryz.func105, Tryz.ntmps105
      go_wp2
      go_ret
      exact ⟨rfl, rfl⟩
    · rw [show visB c = false from decide_eq_false (fun g => h2 g.2)]
      go_enter Tryz.func105, Tryz.ntmps105
      go_wp2
      go_ret
      exact ⟨rfl, rfl⟩
  · rw [show visB c = false from decide_eq_false (fun g => h1 g.1)]
    go_enter Tryz.func105, Tryz.ntmps105
    go_wp2
    go_ret
    exact ⟨rfl, rfl⟩
theorem rt_none (s : ByteArray) (h : s.size < 1 ∨ 128 < s.size) : rtB (lb s) = false := by
  unfold rtB; rw [list_size, decide_eq_false (by omega)]; rfl
theorem rt_no (s : ByteArray) (j : Nat) (hj : j < s.size) (h : visB (s[j].toNat : Int) = false) : rtB (lb s) = false := by
  unfold rtB
  rw [show (lb s).all (fun c => visB (c.toNat : Int)) = false from ?_, Bool.and_false]
  rw [← Bool.not_eq_true, List.all_eq_true]
  intro g
  have := g s[j] (by rw [← list_at s j hj (by rw [list_size]; exact hj)]; exact List.getElem_mem _)
  rw [h] at this; cases this
theorem rt_yes (s : ByteArray) (h1 : 1 ≤ s.size) (h2 : s.size ≤ 128) (h : ∀ j (hj : j < s.size), visB (s[j].toNat : Int) = true) : rtB (lb s) = true := by
  unfold rtB
  rw [list_size, decide_eq_true ⟨h1, h2⟩, Bool.true_and, List.all_eq_true]
  intro b hb
  obtain ⟨i, hi, rfl⟩ := List.getElem_of_mem hb
  rw [list_at s i (by rw [← list_size]; exact hi)]
  exact h i _
theorem u8_bd (c : UInt8) : 0 ≤ (c.toNat : Int) ∧ (c.toNat : Int) ≤ 255 := ⟨by omega, by have := c.toNat_lt; omega⟩
theorem kright_any (s : ByteArray) (w : World) (hs : s.size ≤ 9223372036854775807) :
    Calls Tryz.prog 69 #[.string s] w fun e w' => e = .returned (.bool (rtB (lb s))) ∧ w = w' := by
  by_cases h0 : s.size < 1
  · rw [rt_none s (.inl h0)]
    go_enter Tryz.func69, Tryz.ntmps69
    go_wp2
    go_ret
    exact ⟨rfl, rfl⟩
  · by_cases h1 : 128 < s.size
    · rw [rt_none s (.inr h1)]
      go_enter Tryz.func69, Tryz.ntmps69
      go_wp2
      go_ret
      exact ⟨rfl, rfl⟩
    · have Y := Lib.hid (rt_yes s (by omega) (by omega))
      have N := Lib.hid (rt_no s)
      generalize rtB (lb s) = r at *
      go_enter Tryz.func69, Tryz.ntmps69
      go_wp2
      go_loop [14] (fun i => ∃ k : Nat, i = .int .i64 k ∧ k ≤ s.size ∧ Hid (∀ j (hj : j < s.size), j < k → visB (s[j].toNat : Int) = true)) (fun i => s.size - (intOf i).toNat)
      case atStart => exact ⟨0, rfl, by omega, Lib.hid (fun j _ hj => absurd hj (by omega))⟩
      case round =>
        obtain ⟨k, rfl, hk, D⟩ := hrel
        by_cases hlt : k < s.size
        · have v1 := fun W => visible_any (s[k].toNat : Int) W (u8_bd _)
          by_cases hb : visB (s[k].toNat : Int) = true
          · rw [hb] at v1
            go_wp2_with (go_at_call 105; refine (v1 _).mono ?_; rintro e w1 ⟨rfl, rfl⟩)
            go_round
            case rel =>
              refine ⟨k + 1, by go_num, by omega, Lib.hid (fun j hj hjk => ?_)⟩
              by_cases e : j = k
              · subst e; exact hb
              · exact D.out j hj (by omega)
            case measure => simp [intOf]; omega
          · have hf : visB (s[k].toNat : Int) = false := by simpa using hb
            rw [hf] at v1
            have e := N.out k hlt hf
            subst e
            clear hb
            go_wp2_with (go_at_call 105; refine (v1 _).mono ?_; rintro e w1 ⟨rfl, rfl⟩)
            go_ret
            exact ⟨rfl, rfl⟩
        · obtain rfl : k = s.size := by omega
          have e := Y.out (fun j hj => D.out j hj hj)
          subst e
          go_wp2
          go_ret
          exact ⟨rfl, rfl⟩
theorem product_any (p : ByteArray) (e b k : Int) (w : World) (he : U e) (hb : U b) :
    Calls Tryz.prog 88 #[rul p e b k] w fun r w' => r = .returned (.int .u64 (sat (e * b))) ∧ Kept w w' := by
  go_enter Tryz.func88, Tryz.ntmps88
  go_wp2_with (go_at_call 72; refine (num_mul _ _ _ he hb).mono ?_; rintro r w1 ⟨rfl, k1⟩)
  go_ret
  exact ⟨rfl, ((Kept.refl w).alloc _ _).trans k1⟩
theorem need1_any (p : ByteArray) (e b k : Int) (w : World) (hs : p.size ≤ 9223372036854775807) :
    Calls Tryz.prog 178 #[rul p e b k] w fun r w' => r = .returned (.bool (pfB p)) ∧ Kept w w' := by
  by_cases h : p.size = 0
  · have e0 : pfB p = true := by unfold pfB; rw [decide_eq_true h]; rfl
    have hz : p.toList.isEmpty = true := by
      rw [ByteArray.toList_eq, List.isEmpty_iff]
      exact List.eq_nil_of_length_eq_zero (by rw [list_size]; exact h)
    rw [e0]
    clear e0 h
    go_enter Tryz.func178, Tryz.ntmps178
    go_wp2
    go_ret
    exact ⟨rfl, (Kept.refl w).alloc _ _⟩
  · have e0 : pfB p = rtB (lb p) := by unfold pfB; rw [decide_eq_false h]; rfl
    have hz : p.toList.isEmpty = false := by
      rw [ByteArray.toList_eq, List.isEmpty_eq_false_iff]
      intro g
      have := congrArg List.length g
      rw [list_size] at this
      exact h this
    rw [e0]
    clear e0 h
    generalize hR : rtB (lb p) = R
    go_enter Tryz.func178, Tryz.ntmps178
    go_wp2_with (go_at_call 69; refine (kright_any _ _ hs).mono ?_; rintro r w1 ⟨rfl, rfl⟩; rw [hR])
    go_ret
    exact ⟨rfl, (Kept.refl w).alloc _ _⟩
theorem need2_any (p : ByteArray) (e b k : Int) (w : World) :
    Calls Tryz.prog 179 #[rul p e b k] w fun r w' => r = .returned (.bool (decide (0 < e))) ∧ Kept w w' := by
  go_enter Tryz.func179, Tryz.ntmps179
  go_wp2
  go_ret
  exact ⟨rfl, (Kept.refl w).alloc _ _⟩
theorem need3_any (p : ByteArray) (e b k : Int) (w : World) :
    Calls Tryz.prog 180 #[rul p e b k] w fun r w' => r = .returned (.bool (decide (0 < b))) ∧ Kept w w' := by
  go_enter Tryz.func180, Tryz.ntmps180
  go_wp2
  go_ret
  exact ⟨rfl, (Kept.refl w).alloc _ _⟩
theorem need4_any (p : ByteArray) (e b k : Int) (w : World) (he : U e) (hb : U b) :
    Calls Tryz.prog 181 #[rul p e b k] w fun r w' => r = .returned (.bool (decide (sat (e * b) ≤ 4611686018427387904))) ∧ Kept w w' := by
  go_enter Tryz.func181, Tryz.ntmps181
  go_wp2_with (go_at_call 88; refine (product_any _ _ _ _ _ he hb).mono ?_; rintro r w1 ⟨rfl, k1⟩)
  go_ret
  exact ⟨rfl, ((Kept.refl w).alloc _ _).trans k1⟩
theorem need5_any (p : ByteArray) (e b k : Int) (w : World) :
    Calls Tryz.prog 182 #[rul p e b k] w fun r w' => r = .returned (.bool (isK k)) ∧ Kept w w' := by
  go_enter Tryz.func182, Tryz.ntmps182
  go_wp2_with (go_at_call 45; refine (knright_any _ _).mono ?_; rintro r w1 ⟨rfl, k1⟩)
  go_ret
  exact ⟨rfl, ((Kept.refl w).alloc _ _).trans k1⟩
/-- Parts that are asked for, in a row. -/
def Prt (w : World) (A : Option Addr) (os : List Nat) : Prop :=
  0 < os.length → ∃ b off, A = some ⟨b, off, none⟩ ∧ ∀ k, k < os.length → w.cell? ⟨b, off + k, none⟩ = some (.int .u8 ((os.getD k 0 : Nat) : Int))
theorem index_fn (A : Option Addr) (cap n x : Nat) (F : Nat → Nat) (R : Bool) (w : World) (hn : n ≤ 4)
    (H : Hid (0 < n → ∃ b off, A = some ⟨b, off, none⟩ ∧ ∀ k, k < n → w.cell? ⟨b, off + k, none⟩ = some (.int .u8 (F k : Int))))
    (Y : Hid (∀ k, k < n → F k = x → R = true)) (N : Hid ((∀ k, k < n → F k ≠ x) → R = false)) :
    Calls Tryz.prog 183 #[.slice A n cap, .int .u8 x] w fun r w' => (∃ i : Int, r = .returned (.int .i64 i) ∧ decide (0 ≤ i) = R) ∧ w = w' := by
  go_enter Tryz.func183, Tryz.ntmps183
  go_wp2
  go_loop [8] (fun i => ∃ k : Nat, i = .int .i64 k ∧ k ≤ n ∧ Hid (∀ j, j < k → F j ≠ x)) (fun i => n - (intOf i).toNat)
  case atStart => exact ⟨0, rfl, by omega, Lib.hid (fun j hj => absurd hj (by omega))⟩
  case round =>
    obtain ⟨k, rfl, hk, D⟩ := hrel
    by_cases hlt : k < n
    · obtain ⟨b, off, rfl, hc⟩ := H.out (by omega)
      have c := hc k hlt
      have Yk := Y.out k hlt
      clear hc
      by_cases e : F k = x
      · have e1 := Yk e
        subst e1
        rw [e] at c
        clear e Yk
        go_wp2
        go_ret
        exact ⟨⟨_, rfl, by simp⟩, rfl⟩
      · have E := Lib.hid e
        clear Yk
        have c1 : ((x : Int) == (F k : Int)) = false := by simp; omega
        generalize F k = y at c c1
        clear e
        go_wp2
        go_round
        case rel =>
          refine ⟨k + 1, by go_num, by omega, Lib.hid (fun j hj => ?_)⟩
          by_cases g : j = k
          · subst g; exact E.out
          · exact D.out j (by omega)
        case measure => simp [intOf]; omega
    · obtain rfl : k = n := by omega
      have e := N.out (fun j hj => D.out j (by omega))
      subst e
      go_wp2
      go_ret
      exact ⟨⟨-1, rfl, by simp⟩, rfl⟩
theorem index_any (A : Option Addr) (cap : Nat) (os : List Nat) (x : Nat) (w : World) (h : Prt w A os) (hn : os.length ≤ 4) :
    Calls Tryz.prog 183 #[.slice A os.length cap, .int .u8 x] w fun r w' => (∃ i : Int, r = .returned (.int .i64 i) ∧ decide (0 ≤ i) = os.contains x) ∧ w = w' := by
  refine index_fn A cap os.length x (fun k => os.getD k 0) (os.contains x) w hn (Lib.hid h) (Lib.hid (fun k hk e => ?_)) (Lib.hid (fun g => ?_))
  · rw [List.contains_iff_mem, ← e]
    show os.getD k 0 ∈ os
    rw [List.getD_eq_getElem?_getD, List.getElem?_eq_getElem hk]; exact List.getElem_mem hk
  · rw [← Bool.not_eq_true, List.contains_iff_mem]
    intro m
    obtain ⟨i, hi, e⟩ := List.getElem_of_mem m
    refine g i hi ?_
    show os.getD i 0 = x
    rw [List.getD_eq_getElem?_getD, List.getElem?_eq_getElem hi]; exact e
theorem contains_any (A : Option Addr) (cap : Nat) (os : List Nat) (x : Nat) (w : World) (h : Prt w A os) (hn : os.length ≤ 4) :
    Calls Tryz.prog 145 #[.slice A os.length cap, .int .u8 x] w fun r w' => r = .returned (.bool (os.contains x)) ∧ w = w' := by
  have C := index_any A cap os x w h hn
  generalize os.contains x = R at *
  go_enter Tryz.func145, Tryz.ntmps145
  go_wp2_with (go_at_call 183; refine C.mono ?_; rintro r w1 ⟨⟨i, rfl, hi⟩, rfl⟩)
  go_ret
  exact ⟨by rw [← hi]; rfl, rfl⟩
theorem lt_of_cell {w : World} {b o : Nat} {v : Value} (h : w.cell? ⟨b, o, none⟩ = some v) : b < w.heap.size := by
  by_cases hb : b < w.heap.size
  · exact hb
  · simp [World.cell?, hb] at h
theorem Prt.kept {w w' : World} {A : Option Addr} {os : List Nat} (h : Prt w A os) (k : Kept w w') : Prt w' A os := fun hn => by
  obtain ⟨b, off, e, hc⟩ := h hn
  exact ⟨b, off, e, fun j hj => k.cell (hc j hj)⟩
/-- What of a rule is not as it has to be: one need after the other. -/
def badB (os : List Nat) (p : ByteArray) (e b k : Int) : Nat → Bool
  | 0 => os.contains 0 && !pfB p
  | 1 => os.contains 1 && !decide (0 < e)
  | 2 => os.contains 2 && !decide (0 < b)
  | 3 => os.contains 2 && !decide (sat (e * b) ≤ 4611686018427387904)
  | 4 => os.contains 3 && !isK k
  | _ => false
def fauI : Nat → Int
  | 0 => 23
  | 1 => 24
  | 2 => 25
  | 3 => 26
  | _ => 27
/-- The first fault of these parts. -/
def wrE (os : List Nat) (p : ByteArray) (e b k : Int) : Int :=
  if badB os p e b k 0 then 23 else if badB os p e b k 1 then 24 else if badB os p e b k 2 then 25 else if badB os p e b k 3 then 26 else if badB os p e b k 4 then 27 else 0
theorem wr_at {os : List Nat} {p : ByteArray} {e b k : Int} (i : Nat) (hi : i < 5) (h : ∀ j, j < i → badB os p e b k j = false) (g : badB os p e b k i = true) : wrE os p e b k = fauI i := by
  unfold wrE
  match i, hi with
  | 0, _ => rw [if_pos g]; rfl
  | 1, _ => rw [if_neg (by rw [h 0 (by omega)]; decide), if_pos g]; rfl
  | 2, _ => rw [if_neg (by rw [h 0 (by omega)]; decide), if_neg (by rw [h 1 (by omega)]; decide), if_pos g]; rfl
  | 3, _ => rw [if_neg (by rw [h 0 (by omega)]; decide), if_neg (by rw [h 1 (by omega)]; decide), if_neg (by rw [h 2 (by omega)]; decide), if_pos g]; rfl
  | 4, _ => rw [if_neg (by rw [h 0 (by omega)]; decide), if_neg (by rw [h 1 (by omega)]; decide), if_neg (by rw [h 2 (by omega)]; decide), if_neg (by rw [h 3 (by omega)]; decide), if_pos g]; rfl
theorem wr_end {os : List Nat} {p : ByteArray} {e b k : Int} (h : ∀ j, j < 5 → badB os p e b k j = false) : wrE os p e b k = 0 := by
  unfold wrE
  rw [if_neg (by rw [h 0 (by omega)]; decide), if_neg (by rw [h 1 (by omega)]; decide), if_neg (by rw [h 2 (by omega)]; decide), if_neg (by rw [h 3 (by omega)]; decide), if_neg (by rw [h 4 (by omega)]; decide)]
abbrev fnV (f : FuncId) : Value := .func (Fn.func f) #[] #[]
abbrev needCells : Array Value := #[.int .u8 0, fnV 178, .int .u16 23, .int .u8 1, fnV 179, .int .u16 24, .int .u8 2, fnV 180, .int .u16 25, .int .u8 2, fnV 181, .int .u16 26, .int .u8 3, fnV 182, .int .u16 27]
theorem needs_any (w : World) :
    Calls Tryz.prog 144 #[] w fun r w' => r = .returned (.slice (some ⟨w.heap.size, 0, none⟩) 5 5) ∧ w' = w.alloc (.cells needCells 189) := by
  go_enter Tryz.func144, Tryz.ntmps144
  go_wp2
  go_ret
  exact ⟨rfl, rfl⟩
theorem needs_new (w : World) :
    Calls Tryz.prog 144 #[] w fun r w' => ∃ B : Nat, r = .returned (.slice (some ⟨B, 0, none⟩) 5 5) ∧ Kept w w' ∧
      (w'.cell? ⟨B, 0, none⟩ = some (.int .u8 0) ∧ w'.cell? ⟨B, 1, none⟩ = some (fnV 178) ∧ w'.cell? ⟨B, 2, none⟩ = some (.int .u16 23)) ∧
      (w'.cell? ⟨B, 3, none⟩ = some (.int .u8 1) ∧ w'.cell? ⟨B, 4, none⟩ = some (fnV 179) ∧ w'.cell? ⟨B, 5, none⟩ = some (.int .u16 24)) ∧
      (w'.cell? ⟨B, 6, none⟩ = some (.int .u8 2) ∧ w'.cell? ⟨B, 7, none⟩ = some (fnV 180) ∧ w'.cell? ⟨B, 8, none⟩ = some (.int .u16 25)) ∧
      (w'.cell? ⟨B, 9, none⟩ = some (.int .u8 2) ∧ w'.cell? ⟨B, 10, none⟩ = some (fnV 181) ∧ w'.cell? ⟨B, 11, none⟩ = some (.int .u16 26)) ∧
      (w'.cell? ⟨B, 12, none⟩ = some (.int .u8 3) ∧ w'.cell? ⟨B, 13, none⟩ = some (fnV 182) ∧ w'.cell? ⟨B, 14, none⟩ = some (.int .u16 27)) := by
  refine (needs_any w).mono ?_
  rintro r w' ⟨rfl, rfl⟩
  exact ⟨_, rfl, (Kept.refl w).alloc _ _, by simp, by simp, by simp, by simp, by simp⟩
set_option maxRecDepth 100000 in
set_option maxHeartbeats 2000000 in
theorem wrong_any (A : Option Addr) (cap n : Nat) (os : List Nat) (p : ByteArray) (e b k : Int) (w : World) (hP : Prt w A os) (hl : os.length = n) (hn : n ≤ 4) (hs : p.size ≤ 9223372036854775807) (he : U e) (hb : U b) :
    Calls Tryz.prog 106 #[rul p e b k, .slice A n cap] w fun r w' => r = .returned (.int .u16 (wrE os p e b k)) ∧ Kept w w' := by
  have WA := Lib.hid (fun (i : Nat) (hi : i < 5) => wr_at (os := os) (p := p) (e := e) (b := b) (k := k) i hi)
  have WE := Lib.hid (wr_end (os := os) (p := p) (e := e) (b := b) (k := k))
  have CO (x : Nat) (W : World) (hk : Kept w W) : Calls Tryz.prog 145 #[.slice A n cap, .int .u8 x] W fun r w' => r = .returned (.bool (os.contains x)) ∧ W = w' := by
    have h := contains_any A cap os x W (hP.kept hk) (by omega)
    rw [hl] at h
    exact h
  generalize wrE os p e b k = R at *
  have HN := Lib.hid hn
  clear hn hP hl
  go_enter Tryz.func106, Tryz.ntmps106
  go_wp2_with (go_at_call 144; refine (needs_new _).mono ?_; rintro r w1 ⟨B, rfl, k1, c0, c1, c2, c3, c4⟩)
  have kW : Kept w w1 := ((Kept.refl w).alloc _ _).trans k1
  have d0 : w1.cell? ⟨w.heap.size, 0, none⟩ = some (.string p) := k1.cell (by simp)
  have d1 : w1.cell? ⟨w.heap.size, 1, none⟩ = some (.int .u64 e) := k1.cell (by simp)
  have d2 : w1.cell? ⟨w.heap.size, 2, none⟩ = some (.int .u64 b) := k1.cell (by simp)
  have d3 : w1.cell? ⟨w.heap.size, 3, none⟩ = some (.int .u8 k) := k1.cell (by simp)
  clear k1
  go_loopw [9] (fun i wr => ∃ m : Nat, i = .int .i64 m ∧ m ≤ 5 ∧ Kept w1 wr ∧ Hid (∀ j, j < m → badB os p e b k j = false)) (fun i _ => 5 - (intOf i).toNat)
  case atStart => exact ⟨0, rfl, by omega, Kept.refl _, Lib.hid (fun j hj => absurd hj (by omega))⟩
  case round =>
    obtain ⟨m, rfl, hm, kr, D⟩ := hrel
    have kw := kW.trans kr
    obtain ⟨g00, g01, g02⟩ := c0
    obtain ⟨g10, g11, g12⟩ := c1
    obtain ⟨g20, g21, g22⟩ := c2
    obtain ⟨g30, g31, g32⟩ := c3
    obtain ⟨g40, g41, g42⟩ := c4
    replace g00 := kr.cell g00; replace g01 := kr.cell g01; replace g02 := kr.cell g02
    replace g10 := kr.cell g10; replace g11 := kr.cell g11; replace g12 := kr.cell g12
    replace g20 := kr.cell g20; replace g21 := kr.cell g21; replace g22 := kr.cell g22
    replace g30 := kr.cell g30; replace g31 := kr.cell g31; replace g32 := kr.cell g32
    replace g40 := kr.cell g40; replace g41 := kr.cell g41; replace g42 := kr.cell g42
    replace d0 := kr.cell d0; replace d1 := kr.cell d1; replace d2 := kr.cell d2; replace d3 := kr.cell d3
    have hz := lt_of_cell d0
    have hz1 := Nat.ne_of_lt hz
    have hzB := lt_of_cell g00
    have hzB1 := Nat.ne_of_lt hzB
    rcases (by omega : m = 0 ∨ m = 1 ∨ m = 2 ∨ m = 3 ∨ m = 4 ∨ m = 5) with rfl | rfl | rfl | rfl | rfl | rfl
    · have C0 : ∀ W, Kept w W → Calls Tryz.prog 145 #[.slice A n cap, .int .u8 0] W fun r w' => r = .returned (.bool (os.contains 0)) ∧ W = w' := fun W hk => CO 0 W hk
      clear CO
      by_cases ho : os.contains 0 = true
      · rw [ho] at C0
        by_cases hh : pfB p = true
        · have Q : Hid (badB os p e b k 0 = false) := Lib.hid (by show (os.contains 0 && !pfB p) = false; rw [ho, hh]; rfl)
          clear WA WE ho
          go_wp2_with (first
            | (go_at_call 145; refine (C0 _ (kw.alloc _ _)).mono ?_; rintro r w2 ⟨rfl, rfl⟩)
            | (go_at_call 178; refine (need1_any _ _ _ _ _ hs).mono ?_; rintro r w3 ⟨rfl, k3⟩; rw [hh]; have f2 : w3.cell? ⟨wr.heap.size, 2, none⟩ = some (.int .u16 23) := k3.cell (by simp)))
          go_roundw
          case rel => exact ⟨1, by go_num, by omega, (kr.alloc _ _).trans k3, Lib.hid (fun j hj => by
            by_cases g : j = 0
            · subst g; exact Q.out
            · exact D.out j (by omega))⟩
          case measure => simp [intOf]
        · have hh : pfB p = false := by simpa using hh
          have Q : Hid (badB os p e b k 0 = true) := Lib.hid (by show (os.contains 0 && !pfB p) = true; rw [ho, hh]; rfl)
          have e0 : R = 23 := WA.out 0 (by omega) (fun j hj => D.out j hj) Q.out
          subst e0
          clear WA WE ho
          go_wp2_with (first
            | (go_at_call 145; refine (C0 _ (kw.alloc _ _)).mono ?_; rintro r w2 ⟨rfl, rfl⟩)
            | (go_at_call 178; refine (need1_any _ _ _ _ _ hs).mono ?_; rintro r w3 ⟨rfl, k3⟩; rw [hh]; have f2 : w3.cell? ⟨wr.heap.size, 2, none⟩ = some (.int .u16 23) := k3.cell (by simp)))
          go_ret
          exact ⟨rfl, (kw.alloc _ _).trans k3⟩
      · have ho : os.contains 0 = false := by simpa using ho
        rw [ho] at C0
        have Q : Hid (badB os p e b k 0 = false) := Lib.hid (by show (os.contains 0 && !pfB p) = false; rw [ho]; rfl)
        clear WA WE ho
        go_wp2_with (go_at_call 145; refine (C0 _ (kw.alloc _ _)).mono ?_; rintro r w2 ⟨rfl, rfl⟩)
        go_roundw
        case rel => exact ⟨1, by go_num, by omega, kr.alloc _ _, Lib.hid (fun j hj => by
          by_cases g : j = 0
          · subst g; exact Q.out
          · exact D.out j (by omega))⟩
        case measure => simp [intOf]
    · have C1 : ∀ W, Kept w W → Calls Tryz.prog 145 #[.slice A n cap, .int .u8 1] W fun r w' => r = .returned (.bool (os.contains 1)) ∧ W = w' := fun W hk => CO 1 W hk
      clear CO
      by_cases ho : os.contains 1 = true
      · rw [ho] at C1
        by_cases hh : decide (0 < e) = true
        · have Q : Hid (badB os p e b k 1 = false) := Lib.hid (by show (os.contains 1 && !decide (0 < e)) = false; rw [ho, hh]; rfl)
          clear WA WE ho
          go_wp2_with (first
            | (go_at_call 145; refine (C1 _ (kw.alloc _ _)).mono ?_; rintro r w2 ⟨rfl, rfl⟩)
            | (go_at_call 179; refine (need2_any _ _ _ _ _).mono ?_; rintro r w3 ⟨rfl, k3⟩; rw [hh]; have f2 : w3.cell? ⟨wr.heap.size, 2, none⟩ = some (.int .u16 24) := k3.cell (by simp)))
          go_roundw
          case rel => exact ⟨2, by go_num, by omega, (kr.alloc _ _).trans k3, Lib.hid (fun j hj => by
            by_cases g : j = 1
            · subst g; exact Q.out
            · exact D.out j (by omega))⟩
          case measure => simp [intOf]
        · have hh : decide (0 < e) = false := by simpa using hh
          have Q : Hid (badB os p e b k 1 = true) := Lib.hid (by show (os.contains 1 && !decide (0 < e)) = true; rw [ho, hh]; rfl)
          have e0 : R = 24 := WA.out 1 (by omega) (fun j hj => D.out j hj) Q.out
          subst e0
          clear WA WE ho
          go_wp2_with (first
            | (go_at_call 145; refine (C1 _ (kw.alloc _ _)).mono ?_; rintro r w2 ⟨rfl, rfl⟩)
            | (go_at_call 179; refine (need2_any _ _ _ _ _).mono ?_; rintro r w3 ⟨rfl, k3⟩; rw [hh]; have f2 : w3.cell? ⟨wr.heap.size, 2, none⟩ = some (.int .u16 24) := k3.cell (by simp)))
          go_ret
          exact ⟨rfl, (kw.alloc _ _).trans k3⟩
      · have ho : os.contains 1 = false := by simpa using ho
        rw [ho] at C1
        have Q : Hid (badB os p e b k 1 = false) := Lib.hid (by show (os.contains 1 && !decide (0 < e)) = false; rw [ho]; rfl)
        clear WA WE ho
        go_wp2_with (go_at_call 145; refine (C1 _ (kw.alloc _ _)).mono ?_; rintro r w2 ⟨rfl, rfl⟩)
        go_roundw
        case rel => exact ⟨2, by go_num, by omega, kr.alloc _ _, Lib.hid (fun j hj => by
          by_cases g : j = 1
          · subst g; exact Q.out
          · exact D.out j (by omega))⟩
        case measure => simp [intOf]
    · have C2 : ∀ W, Kept w W → Calls Tryz.prog 145 #[.slice A n cap, .int .u8 2] W fun r w' => r = .returned (.bool (os.contains 2)) ∧ W = w' := fun W hk => CO 2 W hk
      clear CO
      by_cases ho : os.contains 2 = true
      · rw [ho] at C2
        by_cases hh : decide (0 < b) = true
        · have Q : Hid (badB os p e b k 2 = false) := Lib.hid (by show (os.contains 2 && !decide (0 < b)) = false; rw [ho, hh]; rfl)
          clear WA WE ho
          go_wp2_with (first
            | (go_at_call 145; refine (C2 _ (kw.alloc _ _)).mono ?_; rintro r w2 ⟨rfl, rfl⟩)
            | (go_at_call 180; refine (need3_any _ _ _ _ _).mono ?_; rintro r w3 ⟨rfl, k3⟩; rw [hh]; have f2 : w3.cell? ⟨wr.heap.size, 2, none⟩ = some (.int .u16 25) := k3.cell (by simp)))
          go_roundw
          case rel => exact ⟨3, by go_num, by omega, (kr.alloc _ _).trans k3, Lib.hid (fun j hj => by
            by_cases g : j = 2
            · subst g; exact Q.out
            · exact D.out j (by omega))⟩
          case measure => simp [intOf]
        · have hh : decide (0 < b) = false := by simpa using hh
          have Q : Hid (badB os p e b k 2 = true) := Lib.hid (by show (os.contains 2 && !decide (0 < b)) = true; rw [ho, hh]; rfl)
          have e0 : R = 25 := WA.out 2 (by omega) (fun j hj => D.out j hj) Q.out
          subst e0
          clear WA WE ho
          go_wp2_with (first
            | (go_at_call 145; refine (C2 _ (kw.alloc _ _)).mono ?_; rintro r w2 ⟨rfl, rfl⟩)
            | (go_at_call 180; refine (need3_any _ _ _ _ _).mono ?_; rintro r w3 ⟨rfl, k3⟩; rw [hh]; have f2 : w3.cell? ⟨wr.heap.size, 2, none⟩ = some (.int .u16 25) := k3.cell (by simp)))
          go_ret
          exact ⟨rfl, (kw.alloc _ _).trans k3⟩
      · have ho : os.contains 2 = false := by simpa using ho
        rw [ho] at C2
        have Q : Hid (badB os p e b k 2 = false) := Lib.hid (by show (os.contains 2 && !decide (0 < b)) = false; rw [ho]; rfl)
        clear WA WE ho
        go_wp2_with (go_at_call 145; refine (C2 _ (kw.alloc _ _)).mono ?_; rintro r w2 ⟨rfl, rfl⟩)
        go_roundw
        case rel => exact ⟨3, by go_num, by omega, kr.alloc _ _, Lib.hid (fun j hj => by
          by_cases g : j = 2
          · subst g; exact Q.out
          · exact D.out j (by omega))⟩
        case measure => simp [intOf]
    · have C3 : ∀ W, Kept w W → Calls Tryz.prog 145 #[.slice A n cap, .int .u8 2] W fun r w' => r = .returned (.bool (os.contains 2)) ∧ W = w' := fun W hk => CO 2 W hk
      clear CO
      by_cases ho : os.contains 2 = true
      · rw [ho] at C3
        by_cases hh : decide (sat (e * b) ≤ 4611686018427387904) = true
        · have Q : Hid (badB os p e b k 3 = false) := Lib.hid (by show (os.contains 2 && !decide (sat (e * b) ≤ 4611686018427387904)) = false; rw [ho, hh]; rfl)
          clear WA WE ho
          go_wp2_with (first
            | (go_at_call 145; refine (C3 _ (kw.alloc _ _)).mono ?_; rintro r w2 ⟨rfl, rfl⟩)
            | (go_at_call 181; refine (need4_any _ _ _ _ _ he hb).mono ?_; rintro r w3 ⟨rfl, k3⟩; rw [hh]; have f2 : w3.cell? ⟨wr.heap.size, 2, none⟩ = some (.int .u16 26) := k3.cell (by simp)))
          go_roundw
          case rel => exact ⟨4, by go_num, by omega, (kr.alloc _ _).trans k3, Lib.hid (fun j hj => by
            by_cases g : j = 3
            · subst g; exact Q.out
            · exact D.out j (by omega))⟩
          case measure => simp [intOf]
        · have hh : decide (sat (e * b) ≤ 4611686018427387904) = false := by simpa using hh
          have Q : Hid (badB os p e b k 3 = true) := Lib.hid (by show (os.contains 2 && !decide (sat (e * b) ≤ 4611686018427387904)) = true; rw [ho, hh]; rfl)
          have e0 : R = 26 := WA.out 3 (by omega) (fun j hj => D.out j hj) Q.out
          subst e0
          clear WA WE ho
          go_wp2_with (first
            | (go_at_call 145; refine (C3 _ (kw.alloc _ _)).mono ?_; rintro r w2 ⟨rfl, rfl⟩)
            | (go_at_call 181; refine (need4_any _ _ _ _ _ he hb).mono ?_; rintro r w3 ⟨rfl, k3⟩; rw [hh]; have f2 : w3.cell? ⟨wr.heap.size, 2, none⟩ = some (.int .u16 26) := k3.cell (by simp)))
          go_ret
          exact ⟨rfl, (kw.alloc _ _).trans k3⟩
      · have ho : os.contains 2 = false := by simpa using ho
        rw [ho] at C3
        have Q : Hid (badB os p e b k 3 = false) := Lib.hid (by show (os.contains 2 && !decide (sat (e * b) ≤ 4611686018427387904)) = false; rw [ho]; rfl)
        clear WA WE ho
        go_wp2_with (go_at_call 145; refine (C3 _ (kw.alloc _ _)).mono ?_; rintro r w2 ⟨rfl, rfl⟩)
        go_roundw
        case rel => exact ⟨4, by go_num, by omega, kr.alloc _ _, Lib.hid (fun j hj => by
          by_cases g : j = 3
          · subst g; exact Q.out
          · exact D.out j (by omega))⟩
        case measure => simp [intOf]
    · have C4 : ∀ W, Kept w W → Calls Tryz.prog 145 #[.slice A n cap, .int .u8 3] W fun r w' => r = .returned (.bool (os.contains 3)) ∧ W = w' := fun W hk => CO 3 W hk
      clear CO
      by_cases ho : os.contains 3 = true
      · rw [ho] at C4
        by_cases hh : isK k = true
        · have Q : Hid (badB os p e b k 4 = false) := Lib.hid (by show (os.contains 3 && !isK k) = false; rw [ho, hh]; rfl)
          clear WA WE ho
          go_wp2_with (first
            | (go_at_call 145; refine (C4 _ (kw.alloc _ _)).mono ?_; rintro r w2 ⟨rfl, rfl⟩)
            | (go_at_call 182; refine (need5_any _ _ _ _ _).mono ?_; rintro r w3 ⟨rfl, k3⟩; rw [hh]; have f2 : w3.cell? ⟨wr.heap.size, 2, none⟩ = some (.int .u16 27) := k3.cell (by simp)))
          go_roundw
          case rel => exact ⟨5, by go_num, by omega, (kr.alloc _ _).trans k3, Lib.hid (fun j hj => by
            by_cases g : j = 4
            · subst g; exact Q.out
            · exact D.out j (by omega))⟩
          case measure => simp [intOf]
        · have hh : isK k = false := by simpa using hh
          have Q : Hid (badB os p e b k 4 = true) := Lib.hid (by show (os.contains 3 && !isK k) = true; rw [ho, hh]; rfl)
          have e0 : R = 27 := WA.out 4 (by omega) (fun j hj => D.out j hj) Q.out
          subst e0
          clear WA WE ho
          go_wp2_with (first
            | (go_at_call 145; refine (C4 _ (kw.alloc _ _)).mono ?_; rintro r w2 ⟨rfl, rfl⟩)
            | (go_at_call 182; refine (need5_any _ _ _ _ _).mono ?_; rintro r w3 ⟨rfl, k3⟩; rw [hh]; have f2 : w3.cell? ⟨wr.heap.size, 2, none⟩ = some (.int .u16 27) := k3.cell (by simp)))
          go_ret
          exact ⟨rfl, (kw.alloc _ _).trans k3⟩
      · have ho : os.contains 3 = false := by simpa using ho
        rw [ho] at C4
        have Q : Hid (badB os p e b k 4 = false) := Lib.hid (by show (os.contains 3 && !isK k) = false; rw [ho]; rfl)
        clear WA WE ho
        go_wp2_with (go_at_call 145; refine (C4 _ (kw.alloc _ _)).mono ?_; rintro r w2 ⟨rfl, rfl⟩)
        go_roundw
        case rel => exact ⟨5, by go_num, by omega, kr.alloc _ _, Lib.hid (fun j hj => by
          by_cases g : j = 4
          · subst g; exact Q.out
          · exact D.out j (by omega))⟩
        case measure => simp [intOf]
    · have e0 : R = 0 := WE.out (fun j hj => D.out j hj)
      subst e0
      clear WA WE CO
      go_wp2
      go_ret
      exact ⟨rfl, kw⟩
/-- The first fault of a rule. -/
def ruE (p : ByteArray) (e b k : Int) : Int := wrE [0, 1, 2, 3] p e b k
/-- How full a key may be. -/
def caI (p : ByteArray) (e b k : Int) : Int := if ruE p e b k = 0 then sat (e * b) else 0
theorem wr_U (os : List Nat) (p : ByteArray) (e b k : Int) : 0 ≤ wrE os p e b k ∧ wrE os p e b k ≤ 27 := by unfold wrE; (repeat' split) <;> omega
theorem ru_is (p : ByteArray) (e b k : Int) : ruE p e b k = if pfB p = false then 23 else if ¬ 0 < e then 24 else if ¬ 0 < b then 25 else if ¬ sat (e * b) ≤ 4611686018427387904 then 26 else if isK k = false then 27 else 0 := by
  unfold ruE wrE badB
  simp only [show ([0, 1, 2, 3] : List Nat).contains 0 = true from rfl, show ([0, 1, 2, 3] : List Nat).contains 1 = true from rfl, show ([0, 1, 2, 3] : List Nat).contains 2 = true from rfl, show ([0, 1, 2, 3] : List Nat).contains 3 = true from rfl, Bool.true_and, Bool.not_eq_true', decide_eq_false_iff_not]
theorem right_any (p : ByteArray) (e b k : Int) (w : World) (hs : p.size ≤ 9223372036854775807) (he : U e) (hb : U b) :
    Calls Tryz.prog 70 #[rul p e b k] w fun r w' => r = .returned (.int .u16 (ruE p e b k)) ∧ Kept w w' := by
  unfold ruE
  have W (W : World) (B : Nat) (h : W.cell? ⟨B, 0, none⟩ = some (.int .u8 0) ∧ W.cell? ⟨B, 1, none⟩ = some (.int .u8 1) ∧ W.cell? ⟨B, 2, none⟩ = some (.int .u8 2) ∧ W.cell? ⟨B, 3, none⟩ = some (.int .u8 3)) := wrong_any (some ⟨B, 0, none⟩) 4 4 [0, 1, 2, 3] p e b k W (fun _ => ⟨B, 0, rfl, fun j hj => by
    obtain ⟨h0, h1, h2, h3⟩ := h
    match j, hj with
    | 0, _ => simpa using h0
    | 1, _ => simpa using h1
    | 2, _ => simpa using h2
    | 3, _ => simpa using h3⟩) rfl (by omega) hs he hb
  generalize wrE [0, 1, 2, 3] p e b k = R at *
  go_enter Tryz.func70, Tryz.ntmps70
  go_wp2_with (go_at_call 106; refine (W _ _ (by simp)).mono ?_; rintro r w1 ⟨rfl, k1⟩)
  go_ret
  exact ⟨rfl, (((Kept.refl w).alloc _ _).alloc _ _).trans k1⟩
theorem cap_any (p : ByteArray) (e b k : Int) (w : World) (hs : p.size ≤ 9223372036854775807) (he : U e) (hb : U b) :
    Calls Tryz.prog 51 #[rul p e b k] w fun r w' => r = .returned (.int .u64 (caI p e b k)) ∧ Kept w w' := by
  have RA := fun W => right_any p e b k W hs he hb
  by_cases h : ruE p e b k = 0
  · have e0 : caI p e b k = sat (e * b) := by unfold caI; rw [if_pos h]
    rw [e0]
    rw [h] at RA
    clear e0 h
    go_enter Tryz.func51, Tryz.ntmps51
    go_wp2_with (first
      | (go_at_call 70; refine (RA _).mono ?_; rintro r w1 ⟨rfl, k1⟩; have f0 : w1.cell? ⟨w.heap.size, 0, none⟩ = some (.string p) := k1.cell (by simp); have f1 : w1.cell? ⟨w.heap.size, 1, none⟩ = some (.int .u64 e) := k1.cell (by simp); have f2 : w1.cell? ⟨w.heap.size, 2, none⟩ = some (.int .u64 b) := k1.cell (by simp); have f3 : w1.cell? ⟨w.heap.size, 3, none⟩ = some (.int .u8 k) := k1.cell (by simp))
      | (go_at_call 88; refine (product_any _ _ _ _ _ he hb).mono ?_; rintro r w2 ⟨rfl, k2⟩))
    go_ret
    exact ⟨rfl, (((Kept.refl w).alloc _ _).trans k1).trans k2⟩
  · have e0 : caI p e b k = 0 := by unfold caI; rw [if_neg h]
    rw [e0]
    have c1 : (ruE p e b k != 0) = true := by simpa using h
    have c2 : (ruE p e b k == 0) = false := by simpa using h
    generalize ruE p e b k = R at *
    clear e0 h
    go_enter Tryz.func51, Tryz.ntmps51
    go_wp2_with (go_at_call 70; refine (RA _).mono ?_; rintro r w1 ⟨rfl, k1⟩)
    go_ret
    exact ⟨rfl, ((Kept.refl w).alloc _ _).trans k1⟩
def cloRen : Go.Shelf.Ren := ⟨fun | 316 => 89 | n => n, fun | 9 => 9 | 3 => 3 | 4 => 4 | 37 => 37 | 0 => 0 | 127 => 180 | 5 => 5 | n => n, fun | n => n⟩
theorem cloLays : Go.Proofs.LaysM.n316 Tryz.prog cloRen := {
  mixed := by kernel_rfl
  f316 := Tryz.func89.trans (congrArg some (by kernel_rfl))
  t0 := Tryz.underlying0
  a0 := Tryz.isAgg0
  z0 := Tryz.sizeOf0
  v0 := Tryz.zeroValue0
  t3 := Tryz.underlying3
  a3 := Tryz.isAgg3
  z3 := Tryz.sizeOf3
  v3 := Tryz.zeroValue3
  t4 := Tryz.underlying4
  a4 := Tryz.isAgg4
  z4 := Tryz.sizeOf4
  v4 := Tryz.zeroValue4
  t9 := Tryz.underlying9
  a9 := Tryz.isAgg9
  z9 := Tryz.sizeOf9
  v9 := Tryz.zeroValue9
  t37 := Tryz.underlying37
  a37 := Tryz.isAgg37
  z37 := Tryz.sizeOf37
  v37 := Tryz.zeroValue37
  t127 := Tryz.underlying180
  a127 := Tryz.isAgg180
  z127 := Tryz.sizeOf180
  v127 := Tryz.zeroValue180
  t5 := Tryz.underlying5
  a5 := Tryz.isAgg5
  z5 := Tryz.sizeOf5
  v5 := Tryz.zeroValue5
  i0 := by kernel_rfl
  i3 := by kernel_rfl
  i4 := by kernel_rfl
  i5 := by kernel_rfl
  i9 := by kernel_rfl
  i37 := by kernel_rfl
  i127 := by kernel_rfl }
theorem inner_clone (s : ByteArray) (w : World) (hs : s.size ≤ 281474976710656) :
    Calls Tryz.prog 89 #[.string s] w fun e w' => e = .returned (.string s) ∧ Below w.heap.size w w' := Any.stringslite_Clone cloLays s w hs
theorem clone_any (s : ByteArray) (w : World) (hs : s.size ≤ 281474976710656) :
    Calls Tryz.prog 52 #[.string s] w fun e w' => e = .returned (.string s) ∧ Below w.heap.size w w' := by
  go_enter Tryz.func52, Tryz.ntmps52
  go_wp2_with (go_at_call 89; refine (inner_clone _ _ hs).mono ?_; rintro e w1 ⟨rfl, b1⟩)
  go_ret
  exact ⟨rfl, b1⟩
theorem ru_fit (p : ByteArray) (e b k : Int) (he : U e) (hb : U b) (h : ruE p e b k = 0) : sat (e * b) = e * b ∧ 0 < e * b ∧ e * b ≤ 4611686018427387904 := by
  rw [ru_is] at h
  by_cases c0 : pfB p = false
  · rw [if_pos c0] at h; cases h
  rw [if_neg c0] at h
  by_cases c1 : 0 < e
  · rw [if_neg (by omega)] at h
    by_cases c2 : 0 < b
    · rw [if_neg (by omega)] at h
      by_cases c3 : sat (e * b) ≤ 4611686018427387904
      · have hm : 0 < e * b := Int.mul_pos c1 c2
        unfold sat at c3 ⊢
        split at c3
        · rename_i g; rw [if_pos g]; exact ⟨rfl, hm, c3⟩
        · omega
      · rw [if_pos c3] at h; cases h
    · rw [if_pos c2] at h; cases h
  · rw [if_pos c1] at h; cases h
end Go.Proofs.YtkfncanfgpmgaaaGreat.Wd
