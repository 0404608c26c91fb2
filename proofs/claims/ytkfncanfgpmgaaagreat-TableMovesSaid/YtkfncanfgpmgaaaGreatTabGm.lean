/- Elder words: Migrate; no conditions but those that each names. -/
import Derived.Test.YtkfncanfgpmgaaaGreatTabA
import Derived.Test.YtkfncanfgpmgaaaGreatTabB
import Derived.Test.YtkfncanfgpmgaaaGreatTabC
import Derived.WalkKit
import Derived.Laws.Bits64b
import Derived.Below
import Derived.Deep.Draws
import Derived.Test.YtkfncanfgpmgaaaGreatRows
import Derived.ProofKit
import Derived.OpenShut
import Derived.Handy
import Derived.Lib.Hide
import Derived.Deep.RegionHeld3
import Derived.Deep.QuietTactic
import Derived.BigQuiet
import Derived.Maps.OwnSet
import Derived.Laws.EntriesVeiled
import Derived.ScopeJumps
import Derived.WalkMore
namespace Go.Proofs.YtkfncanfgpmgaaaGreat.Wd
open Go Go.RowKit Go.Shelf Go.Deep
set_option linter.unusedVariables false
set_option maxRecDepth 100000
attribute [local go_sem] Oper.semAt_some
theorem kmigrate_any (k a b kto now cap : Int) (w : World) (ha : U a) (hb : U b) (hn : U now) (hc : U cap) :
    Calls Tryz.prog 80 #[sta k a b, .int .u8 kto, .int .u64 now, .int .u64 cap] w fun e w' => e = .returned (.tuple #[sta (kmK k kto) (kmA k a b kto now cap) (kmB k kto now), .int .u16 (kmE k kto)]) ∧ Kept w w' := by
  have r (w : World) := knright_any k w
  unfold kmK kmA kmB kmE
  cases h : isK k
  · rw [h] at r
    have R := Lib.hid r
    clear r
    simp only [Bool.false_eq_true, if_false]
    go_enter Tryz.func80, Tryz.ntmps80
    go_wp2_with (go_at_call 45; ((with_reducible refine (R.out _).mono ?_); rintro e w1 ⟨rfl, g1⟩; obtain ⟨hc1, hf1⟩ := g1.reads; have hz1 : w.heap.size < w1.heap.size ∧ w.heap.size + 1 < w1.heap.size := by (have := g1.size; simp at this; omega)))
    exact bodyPost_ret (v := .tuple #[sta 0 0 0, .int .u16 27]) (by simp [results, Tryz.results80, go_sem, hc1]) rfl
      ⟨rfl, ((((Kept.refl w).alloc _ _).alloc _ _).trans g1).set3 (Nat.le_succ _) _ _ _⟩
  · rw [h] at r
    have R := Lib.hid r
    clear r
    simp only [if_true]
    have hf := kfI_U k a b now cap ha hb hn hc
    have F := Lib.hid (fun w => kfill_any k a b now cap w ha hb hn hc)
    generalize kfI k a b now cap = f at *
    have O := Lib.hid (fun w => kof_any kto now cap f w hn hc hf)
    generalize koK kto = ok at *
    generalize koA kto now cap f = oa at *
    generalize koB kto now = ob at *
    generalize koE kto = oe at *
    go_enter Tryz.func80, Tryz.ntmps80
    go_wp2_with (first
      | (go_at_call 45; ((with_reducible refine (R.out _).mono ?_); rintro e w1 ⟨rfl, g1⟩; obtain ⟨hc1, hf1⟩ := g1.reads; have hz1 : w.heap.size < w1.heap.size ∧ w.heap.size + 1 < w1.heap.size := by (have := g1.size; simp at this; omega)))
      | (go_at_call 78; ((with_reducible refine (F.out _).mono ?_); rintro e w2 ⟨rfl, g2⟩; obtain ⟨hc2, hf2⟩ := g2.reads; have hz2 : w.heap.size + 1 < w2.heap.size := by (have := g2.size; omega)))
      | (go_at_call 110; ((with_reducible refine (O.out _).mono ?_); rintro e w3 ⟨rfl, g3⟩; obtain ⟨hc3, hf3⟩ := g3.reads; have hz3 : w.heap.size + 1 < w3.heap.size := by (have := g3.size; omega))))
    exact bodyPost_ret (v := .tuple #[sta ok oa ob, .int .u16 oe]) (by simp [results, Tryz.results80, go_sem, hc1, hc2, hc3, hz1, hz2]) rfl
      ⟨rfl, (((((Kept.refl w).alloc _ _).alloc _ _).trans g1).trans g2 |>.trans g3).set3 (Nat.le_succ _) _ _ _⟩
end Go.Proofs.YtkfncanfgpmgaaaGreat.Wd
