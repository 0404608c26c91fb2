/- Elder words: the document's Has; no conditions but those that each names. -/
import Derived.Test.YtekpmepcacbloaaPreO
import Derived.Test.YtekpmepcacbloaaPreP
import Derived.WalkKit
import Derived.Laws.Bits64b
import Derived.Below
import Derived.Deep.Draws
import Derived.Test.YtekpmepcacbloaaRows
import Derived.RangeFuncNested
import Derived.RangeFuncBound
import Derived.RangeFuncCalls
import Derived.RangeFuncLeaves
import Derived.Shelf.Abstract
import Derived.Shelf.RegionOpen
import Derived.OwnWalkIn
import Derived.TacticsInMore
import Derived.LoopNIn
import Derived.LoopIn
import Derived.Lib.Hide
import Derived.ProofKit
import Derived.Handy
import Derived.LoopTactic
import Derived.Deep.RegionHeld3
import Derived.Deep.QuietTactic
import Derived.BigQuiet
import Derived.OwnWalk
import Derived.Laws.OwnMore
import Derived.OpenShut
import Derived.Maps.OwnSet
import Derived.Laws.EntriesVeiled
import Derived.Shelf.LaysM
import Derived.Shelf.Strconv.Clone
import Derived.Lib.ItoaNum
import Derived.Lib.ItoaLen
import Derived.Laws.Strings
import GoSem.Op.String
import Derived.Lib.BufferWrite
import Derived.Laws.IdiomStrings
import Derived.Laws.ResultCell
import Derived.Laws.Rows
import Derived.ScopeJumps
import Derived.WalkMore
import Derived.WalkLawsBesides
import Derived.WalkSpells
import Derived.Deep.WholeRow
import Derived.StillTailTactics
import Derived.Deep.AppendLies
import Derived.Lib.QuietBelow
import Derived.Laws.AppendOwn
namespace Go.Proofs.Ytekpmepcacbloaa.Wd
open Go Go.RowKit Go.Shelf Go.Deep
set_option linter.unusedVariables false
set_option maxRecDepth 100000
def Kept (w w' : World) : Prop := Grown w w' ∧ Below w.heap.size w w'
theorem Kept.refl (w : World) : Kept w w := ⟨Grown.refl _, Below.refl _ _⟩
theorem Kept.trans {a b c : World} (h : Kept a b) (k : Kept b c) : Kept a c :=
  ⟨⟨World.keptBut_trans h.1.1 k.1.1, fun x => (k.1.2.1 x).trans (h.1.2.1 x), Nat.le_trans h.1.2.2 k.1.2.2⟩, h.2.trans (k.2.mono h.2.size)⟩
/-- A call that reads in an open order at most. -/
def Drew (w w' : World) : Prop := ∃ n : Nat, w' = w.drewN n
theorem Drew.refl (w : World) : Drew w w := ⟨0, rfl⟩
theorem Drew.trans {a b c : World} (h : Drew a b) (k : Drew b c) : Drew a c := by
  obtain ⟨n, rfl⟩ := h; obtain ⟨m, rfl⟩ := k; exact ⟨n + m, World.drewN_drewN _ _ _⟩
theorem Kept.drewN {a b : World} (h : Kept a b) (n : Nat) : Kept a (b.drewN n) := ⟨h.1, h.2.os, h.2.tape, h.2.output, h.2.size, h.2.block⟩
theorem Drew.kept {a b : World} (h : Drew a b) : Kept a b := by obtain ⟨n, rfl⟩ := h; exact (Kept.refl a).drewN n
theorem cm_at (a b : ByteArray) (k : Nat) (h1 : k ≤ a.size) (h2 : k ≤ b.size) (h : ∀ j (ha : j < a.size) (hb : j < b.size), j < k → a[j] = b[j]) (hn : ∀ (ha : k < a.size) (hb : k < b.size), a[k] ≠ b[k]) : cm (lb a) (lb b) = k := by
  refine cm_is k _ _ (by rw [list_size]; exact h1) (by rw [list_size]; exact h2) ?_ (fun g1 g2 => ?_)
  · refine List.ext_getElem (by simp; omega) (fun i i1 i2 => ?_)
    simp at i1 i2
    rw [List.getElem_take, List.getElem_take, list_at a i (by omega), list_at b i (by omega)]
    exact h i _ _ (by omega)
  · rw [list_size] at g1 g2
    rw [list_at a k g1, list_at b k g2]
    exact hn g1 g2
set_option maxHeartbeats 1000000 in
theorem rcommon_any (a b : ByteArray) (w : World) (ha : a.size ≤ 9223372036854775807) (hb : b.size ≤ 9223372036854775807) :
    Calls Try.prog 25 #[.string a, .string b] w fun e w' => e = .returned (.int .i64 (cm (lb a) (lb b) : Int)) ∧ Drew w w' := by
  have E := Lib.hid (cm_at a b)
  generalize cm (lb a) (lb b) = m at *
  go_enter Try.func25, Try.ntmps25
  go_wp2
  go_loopw [5] (fun i wr => ∃ k : Nat, i = .int .i64 (k : Int) ∧ k ≤ a.size ∧ k ≤ b.size ∧ Hid (∀ j (ha : j < a.size) (hb : j < b.size), j < k → a[j] = b[j]) ∧ Drew w wr) (fun i _ => a.size - (intOf i).toNat)
  case atStart => exact ⟨0, rfl, Nat.zero_le _, Nat.zero_le _, Lib.hid (fun j _ _ hj => absurd hj (by omega)), Drew.refl _⟩
  case round =>
    obtain ⟨k, rfl, h1, h2, D, hd⟩ := hrel
    by_cases c1 : k < a.size
    · have d1 : decide ((k : Int) < (a.size : Int)) = true := decide_eq_true (by omega)
      by_cases c2 : k < b.size
      · have d2 : decide ((k : Int) < (b.size : Int)) = true := decide_eq_true (by omega)
        by_cases c3 : a[k] = b[k]
        · have d3 : ((a[k].toNat : Int) == (b[k].toNat : Int)) = true := by rw [c3]; simp
          have C3 := Lib.hid c3
          clear c3
          go_wp2
          go_quiet (fail)
          go_wp2
          go_roundw
          case rel =>
            refine ⟨k + 1, by go_num, by omega, by omega, Lib.hid (fun j g1 g2 hj => ?_), hd.trans ⟨_, rfl⟩⟩
            by_cases e : j = k
            · subst e; exact C3.out
            · exact D.out j g1 g2 (by omega)
          case measure => simp [intOf]; omega
        · have d3 := u8_ne c3
          have e := E.out k h1 h2 D.out (fun _ _ => c3)
          subst e
          clear c3
          go_wp2
          go_quiet (fail)
          go_wp2
          go_ret
          exact ⟨rfl, hd.trans ⟨_, rfl⟩⟩
      · have d2 : decide ((k : Int) < (b.size : Int)) = false := decide_eq_false (by omega)
        have e := E.out k h1 h2 D.out (fun _ g => absurd g c2)
        subst e
        go_wp2
        go_quiet (fail)
        go_wp2
        go_ret
        exact ⟨rfl, hd.trans ⟨_, rfl⟩⟩
    · have d1 : decide ((k : Int) < (a.size : Int)) = false := decide_eq_false (by omega)
      have e := E.out k h1 h2 D.out (fun g _ => absurd g c1)
      subst e
      go_wp2
      go_quiet (fail)
      go_wp2
      go_ret
      exact ⟨rfl, hd.trans ⟨_, rfl⟩⟩
theorem rhas_any (k p : ByteArray) (w : World) (hk : k.size ≤ 9223372036854775807) (hp : p.size ≤ 9223372036854775807) :
    Calls Try.prog 20 #[.string k, .string p] w fun e w' => e = .returned (.bool (decide (cm (lb k) (lb p) = p.size))) ∧ Drew w w' := by
  have c1 := fun W => rcommon_any k p W hk hp
  generalize hm : cm (lb k) (lb p) = m at *
  have e : ((m : Int) == (p.size : Int)) = decide (m = p.size) := by
    rw [Bool.eq_iff_iff, beq_iff_eq, decide_eq_true_eq]; omega
  go_enter Try.func20, Try.ntmps20
  go_wp2_with (go_at_call 25; refine (c1 _).mono ?_; rintro e w1 ⟨rfl, b1⟩)
  go_ret
  exact ⟨rfl, b1⟩
theorem Kept.size {w w' : World} (h : Kept w w') : w.heap.size ≤ w'.heap.size := h.2.size
theorem dbel {w w' : World} (h : Drew w w') : Below w.heap.size w w' := h.kept.2
end Go.Proofs.Ytekpmepcacbloaa.Wd
