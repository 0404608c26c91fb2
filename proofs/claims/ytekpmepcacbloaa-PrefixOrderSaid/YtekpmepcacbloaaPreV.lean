/- Elder words: rows of rules that came in; no conditions but those that each names. -/
import Derived.Test.YtekpmepcacbloaaPreO
import Derived.Test.YtekpmepcacbloaaPreP
import Derived.WalkKit
import Derived.Laws.Bits64b
import Derived.Below
import Derived.Deep.Draws
import Derived.Test.YtekpmepcacbloaaRows
import Derived.ProofKit
import Derived.OpenShut
import Derived.Handy
import Derived.Lib.Hide
import Derived.Deep.RegionHeld3
import Derived.Deep.QuietTactic
import Derived.BigQuiet
import Derived.RangeFuncNested
import Derived.RangeFuncBound
import Derived.RangeFuncCalls
import Derived.RangeFuncLeaves
import Derived.Shelf.Abstract
import Derived.Shelf.RegionOpen
import Derived.OwnWalkIn
import Derived.TacticsInMore
import Derived.LoopNIn
import Derived.LoopIn
import Derived.LoopTactic
import Derived.OwnWalk
import Derived.Laws.OwnMore
import Derived.Maps.OwnSet
import Derived.Laws.EntriesVeiled
import Derived.Lib.ReflectliteSwap
import Derived.Deep.CutRange
import Derived.Deep.DeepCutAuto
import Derived.Shelf.LaysM
import Derived.Shelf.Strconv.Clone
import Derived.Lib.ItoaNum
import Derived.Lib.ItoaLen
import Derived.Laws.Strings
import GoSem.Op.String
import Derived.Lib.BufferWrite
import Derived.Laws.IdiomStrings
import Derived.Laws.ResultCell
import Derived.Laws.Rows
import Derived.ScopeJumps
import Derived.WalkMore
import Derived.WalkLawsBesides
import Derived.WalkSpells
import Derived.Deep.WholeRow
import Derived.StillTailTactics
import Derived.Deep.AppendLies
import Derived.Laws.ComplexArith
import Derived.WalkSmall
import Derived.Laws.Entries
import Derived.Laws.AppendOwn
import Derived.Deep.LoopGhost
import Derived.Lib.QuietBelow
import Derived.PlainAid
import Derived.Lib.SlBytesConst
import Derived.Lib.SmallJoins
import Derived.Laws.AppendOwnNone
import Derived.Laws.MakeOwn
import Derived.Lib.AppendStr
import Derived.Deep.RegionLaw
import Derived.Defers
import Derived.Recover
import Derived.Deep.Slices
import Derived.SizedLaws
namespace Go.Proofs.Ytekpmepcacbloaa.Wd
open Go Go.RowKit Go.Shelf Go.Deep
set_option linter.unusedVariables false
set_option maxRecDepth 100000
theorem weigh_all {H : Type} {P : Program} {e : TypeId} : ∀ {ds : List (DataW H)} {d : DataW H}, d ∈ ds → ∀ n ∈ d.weights P e, n ∈ DataW.weightsAll P e ds
  | [], d, h, _, _ => nomatch h
  | d0 :: ds, d, h, n, hn => by
    rw [DataW.weightsAll]
    rcases List.mem_cons.1 h with rfl | h
    · exact List.mem_append.2 (.inl hn)
    · exact List.mem_append.2 (.inr (weigh_all h n hn))
theorem weigh_slice {H : Type} {P : Program} {t e : TypeId} {es ss : List (DataW H)} (ht : P.underlying t = some (.slice e)) (hw : ∀ n ∈ (DataW.slice es ss).weights P t, n ≤ reachBytes) : es.length * P.bytesOf e ≤ reachBytes ∧ ∀ d ∈ es, ∀ n ∈ d.weights P e, n ≤ reachBytes := by
  simp only [DataW.weights, ht, List.mem_cons, List.mem_append] at hw
  constructor
  · have := hw _ (.inl rfl)
    exact Nat.le_trans (Nat.mul_le_mul_right _ (Nat.le_add_right _ _)) this
  · intro d hd n hn
    exact hw n (.inr (.inl (weigh_all hd n hn)))
theorem cells_rule : ∃ f0 f1 f2 f3 : Field, Try.prog.underlying 28 = some (.struct #[f0, f1, f2, f3]) ∧ (f0.offset = 0 ∧ f1.offset = 1 ∧ f2.offset = 2 ∧ f3.offset = 3) ∧ f0.type = 9 ∧ f1.type = 26 ∧ f2.type = 26 ∧ f3.type = 5 :=
  ⟨_, _, _, _, Try.underlying28, ⟨rfl, rfl, rfl, rfl⟩, rfl, rfl, rfl, rfl⟩
theorem sized_rls {H : Type} {enc : TypeId × Value → H} {w : World} {base : Nat} {sp : Nat → Bool} {held : Bool} {fuel : Nat} {a : Option Addr} {len cap : Nat} {x : DataW H × List MemPlace}
    (h : DataW.trod enc Try.prog w base sp held fuel 22 [.slice a len cap] = some x) (hw : ∀ n ∈ x.1.weights Try.prog 22, n ≤ reachBytes) : len ≤ 9223372036854775807 ∧ ∃ rs, Rls w a len rs := by
  obtain ⟨f0, f1, f2, f3, hu, ⟨o0, o1, o2, o3⟩, y0, y1, y2, y3⟩ := cells_rule
  rcases open_slice Try.underlying22 h with ⟨h0, _⟩ | ⟨ad, l, c, m, n, D, Pl, hcs, hb, hl, hm, hmm, hX, hx⟩
  · simp at h0
    obtain ⟨rfl, rfl, rfl⟩ := h0
    exact ⟨by omega, [], Rls.nil _ _⟩
  · simp at hcs
    obtain ⟨rfl, rfl, rfl⟩ := hcs
    refine ⟨by unfold maxLen at hm; omega, ?_⟩
    rw [hX] at hw
    obtain ⟨_, hw2⟩ := weigh_slice Try.underlying22 hw
    have ce : Try.prog.cellsOf 28 = 4 := by kernel_rfl
    have cS : Try.prog.cellsOf 9 = 1 := by kernel_rfl
    have c64 : Try.prog.cellsOf 26 = 1 := by kernel_rfl
    have c8 : Try.prog.cellsOf 5 = 1 := by kernel_rfl
    have hlm : len ≤ m := by rw [hmm]; split <;> omega
    have hpl : 0 < len → ∃ b off, ad = ⟨b, off, none⟩ := by
      intro h0
      obtain ⟨cs0, h10, _⟩ := hx 0 (by omega)
      rw [ce] at h10
      obtain ⟨_, hlen0, hcell0⟩ := World.cells?_some h10
      match cs0, hlen0, hcell0 with
      | [u0, u1, u2, u3], _, hc =>
        have c0 : w.cell? ((ad.add (0 * 4)).add 0) = some u0 := by simpa using hc 0 (by omega)
        obtain ⟨b, off, spot⟩ := ad
        have hspot : spot = none := by simpa [Addr.add] using World.cell?_spot c0
        subst hspot
        exact ⟨b, off, rfl⟩
    have each : ∀ i, i < len → ∃ r : Rl, Okr r ∧ ∀ b off, ad = ⟨b, off, none⟩ → R4 w b (off + i * 4) r := by
      intro i hi
      have hwi := hw2 (D i) (List.mem_map.2 ⟨i, List.mem_range.2 hi, rfl⟩)
      obtain ⟨cs', h1, h2⟩ := hx i (by omega)
      rw [ce] at h1
      obtain ⟨_, hlen, hcell⟩ := World.cells?_some h1
      obtain ⟨xs, k, hk, hxy, _, hxl, hf⟩ := DataW.trod_struct hu h2
      match xs, hxl, cs', hlen with
      | [x0, x1, x2, x3], _, [v0, v1, v2, v3], _ =>
        have g0 := hf 0 f0 rfl
        have g1 := hf 1 f1 rfl
        have g2 := hf 2 f2 rfl
        have g3 := hf 3 f3 rfl
        simp [o0, o1, o2, o3, y0, y1, y2, y3, cS, c64, c8] at g0 g1 g2 g3
        obtain ⟨s, e0, hD0, _⟩ := DataW.trod_string Try.underlying9 g0
        obtain ⟨i1, e1, _, w1⟩ := DataW.trod_int Try.underlying26 g1
        obtain ⟨i2, e2, _, w2⟩ := DataW.trod_int Try.underlying26 g2
        obtain ⟨i3, e3, _, w3⟩ := DataW.trod_int Try.underlying5 g3
        simp at e0 e1 e2 e3
        subst e0 e1 e2 e3
        have c0 := hcell 0 (by omega)
        have c1 := hcell 1 (by omega)
        have c2 := hcell 2 (by omega)
        have c3 := hcell 3 (by omega)
        have hsz : s.size ≤ 140737488351232 := by
          have hxy1 := congrArg Prod.fst hxy
          simp only [List.map_cons, List.map_nil] at hxy1
          rw [hxy1, hD0] at hwi
          have := hwi s.data.toList.length (by simp [DataW.weights, Try.underlying28, DataW.weightsEach])
          unfold reachBytes at this
          rw [list_size] at this
          omega
        refine ⟨⟨s, i1, i2, i3⟩, ⟨by show s.size ≤ _; omega, (bounds_u64 w1), (bounds_u64 w2), bounds_u8 w3⟩, fun b off e => ?_⟩
        subst e
        simp [Go.WideShapes.add_plain] at c0 c1 c2 c3
        exact ⟨by simpa [Nat.add_assoc] using c0, by simpa [Nat.add_assoc] using c1, by simpa [Nat.add_assoc] using c2, by simpa [Nat.add_assoc] using c3⟩
    have each' : ∀ i, i < len → ∃ r : Rl, Okr r ∧ ∀ b off, ad = ⟨b, off, none⟩ → R4 w b (off + i * 4) r := each
    by_cases h0 : 0 < len
    · obtain ⟨b, off, rfl⟩ := hpl h0
      obtain ⟨q, hq⟩ : ∃ q : Nat → Rl, ∀ i, i < len → Okr (q i) ∧ R4 w b (off + i * 4) (q i) := by
        refine ⟨fun i => if hi : i < len then (each i hi).choose else rl0, fun i hi => ?_⟩
        simp only [hi, dif_pos]
        exact ⟨(each i hi).choose_spec.1, (each i hi).choose_spec.2 b off rfl⟩
      refine ⟨(List.range len).map q, by simp, fun r hr => ?_, fun _ => ⟨b, off, rfl, ?_, fun k hk => ?_⟩⟩
      · simp only [List.mem_map, List.mem_range] at hr
        obtain ⟨i, hi, rfl⟩ := hr
        exact (hq i hi).1
      · exact cell_lt (hq 0 h0).2.1
      · have := (hq k hk).2
        have e : fnOf ((List.range len).map q) k = q k := by simp [fnOf, List.getD_eq_getElem?_getD, hk]
        rw [e]; exact this
    · obtain rfl : len = 0 := by omega
      exact ⟨[], Rls.nil _ _⟩
theorem bytesRule : Try.prog.bytesOf 28 = 40 := by kernel_rfl
theorem sized_rls_len {H : Type} {enc : TypeId × Value → H} {w : World} {base : Nat} {sp : Nat → Bool} {held : Bool} {fuel : Nat} {a : Option Addr} {len cap : Nat} {x : DataW H × List MemPlace}
    (h : DataW.trod enc Try.prog w base sp held fuel 22 [.slice a len cap] = some x) (hw : ∀ n ∈ x.1.weights Try.prog 22, n ≤ reachBytes) : len ≤ 140737488351232 := by
  rcases open_slice Try.underlying22 h with ⟨h0, _⟩ | ⟨ad, l, c, m, n, D, Pl, hcs, hb, hl, hm, hmm, hX, hx⟩
  · simp at h0
    obtain ⟨rfl, rfl, rfl⟩ := h0
    omega
  · simp at hcs
    obtain ⟨rfl, rfl, rfl⟩ := hcs
    rw [hX] at hw
    obtain ⟨hw1, hw2⟩ := weigh_slice Try.underlying22 hw
    rw [bytesRule, List.length_map, List.length_range] at hw1
    unfold reachBytes at hw1
    omega
end Go.Proofs.Ytekpmepcacbloaa.Wd
