import Derived.Test.YtbejkcdaefkibaaGreatZAA
import Derived.Test.YtbejkcdaefkibaaGreatZAB
import Derived.Test.YtbejkcdaefkibaaGreatZAC
import Derived.Test.YtbejkcdaefkibaaGreatZAD
import Derived.Test.YtbejkcdaefkibaaGreatZAE
import Derived.Deep.AppendLies
import Derived.WalkKit
import Derived.Laws.Bits64b
import Derived.Below
import Derived.Deep.Draws
import Derived.ProofKit
import Derived.OpenShut
import Derived.Handy
import Derived.Lib.Hide
import Derived.Deep.RegionHeld3
import Derived.Deep.QuietTactic
import Derived.BigQuiet
import Derived.RangeFuncNested
import Derived.RangeFuncBound
import Derived.RangeFuncCalls
import Derived.RangeFuncLeaves
import Derived.Shelf.Abstract
import Derived.Shelf.RegionOpen
import Derived.OwnWalkIn
import Derived.TacticsInMore
import Derived.LoopNIn
import Derived.LoopIn
import Derived.LoopTactic
import Derived.OwnWalk
import Derived.Laws.OwnMore
import Derived.Maps.OwnSet
import Derived.Laws.EntriesVeiled
import Derived.Lib.ReflectliteSwap
import Derived.Deep.CutRange
import Derived.Deep.DeepCutAuto
import Derived.Shelf.LaysM
import Derived.Shelf.Strconv.Clone
import Derived.Lib.ItoaNum
import Derived.Lib.ItoaLen
import Derived.Laws.Strings
import GoSem.Op.String
import Derived.Lib.BufferWrite
import Derived.Laws.IdiomStrings
import Derived.Laws.ResultCell
import Derived.Laws.Rows
import Derived.ScopeJumps
import Derived.WalkMore
import Derived.WalkLawsBesides
import Derived.WalkSpells
import Derived.Deep.WholeRow
import Derived.StillTailTactics
import Derived.Laws.ComplexArith
import Derived.WalkSmall
import Derived.Laws.Entries
import Derived.Laws.AppendOwn
import Derived.Deep.LoopGhost
import Derived.Lib.QuietBelow
import Derived.PlainAid
import Derived.Lib.SlBytesConst
import Derived.Lib.SmallJoins
import Derived.Laws.AppendOwnNone
import Derived.Laws.MakeOwn
import Derived.Lib.AppendStr
import Derived.Deep.RegionLaw
import Derived.Defers
import Derived.Recover
import Derived.Deep.Slices
import Derived.OneCell
import Derived.Test.YtbejkcdaefkibaaGreatRows
import Derived.SizedLaws
import Derived.Laws.Cover3
import Derived.Laws.Tables
import Derived.Laws.BitsLemmas
import Derived.Laws.CopyRow
import Derived.Laws.IdiomCopy
import Derived.Laws.IdiomArrays
import Derived.Deep.DeepAppendWide
import Derived.Laws.BytesArg
import Derived.Sort.AssemblyPlain
import Derived.Sort.WalkA
import Derived.Sort.Walk13a
import Derived.Shelf.Small.Bits
import Derived.Shelf.SlIter.Collect
import Derived.Stop.RegionWithIn
import Derived.Laws.StructEq
import Derived.Deep.CutBlock
import Derived.Sort.LotB
import Derived.Sort.LotC
import Derived.Sort.LotD3
import Derived.Laws.CopyOwn

namespace Go.Proofs.YtbejkcdaefkibaaGreat.Wd
open Go Go.RowKit Go.Deep Go.Shelf
set_option linter.unusedVariables false
set_option maxRecDepth 100000
theorem clock_n {T : Nat} {B : Nat → Prop} {m c : Int} {S : List Sl} {w : World} (h : Tbl w T B m c S) :
    Calls Tryz.prog 29 #[ptr T] w fun e w' => e = .returned (.int .u64 c) ∧ w' = w :=
  (clock_yes T c w h.cells.2.1).mono (fun e w' ⟨h1, h2⟩ => ⟨h1, h2.symm⟩)
end Go.Proofs.YtbejkcdaefkibaaGreat.Wd


namespace Go.Proofs.YtbejkcdaefkibaaGreat.Wd
open Go Go.RowKit Go.Deep Go.Shelf
set_option linter.unusedVariables false
set_option maxRecDepth 100000
theorem s2_news {w : World} {b off : Nat} {y : En} (h : S2 w b off y) : ∀ j u, (flatE [y])[j]? = some u → w.cell? ((⟨b, off, none⟩ : Addr).add j) = some u := by
  intro j u hu
  have hj : j < 2 := by
    by_cases hj : j < 2
    · exact hj
    · rw [List.getElem?_eq_none (by rw [flatE_len]; simp; omega)] at hu; cases hu
  rw [Go.WideShapes.add_plain]
  have : j = 0 ∨ j = 1 := by omega
  rcases this with rfl | rfl
  · have e : u = .string y.1 := by simpa [flatE, En.cs] using hu.symm
    rw [e]; exact h.1
  · have e : u = .int .u64 y.2 := by simpa [flatE, En.cs] using hu.symm
    rw [e]; exact h.2
theorem wpList_app_e1 (w : World) {ops : Array Oper} {rest : List Oper} {o : Oper} {a : Act} {Q : Exit → Act → World → Prop} (hgd : o.guard = none) (s x : Operand)
    (ho : o.op = .call { callee := .builtin .append, args := #[s, x], argTypes := #[Tens, Tens] })
    (base : Nat) (v : Value) (acc : List En) (hs : a.eval s = v) (hown : OwE w base v acc) (b off c : Nat) (y : En) (hx : a.eval x = .slice (some ⟨b, off, none⟩) 1 c) (hT : S2 w b off y)
    (hsz : acc.length + 1 ≤ 1099511627776) (hbase : base ≤ w.heap.size)
    (h : ∀ g cap w', OwE w' base (.slice (some ⟨g, 0, none⟩) (acc.length + 1) cap) (acc ++ [y]) → Below base w w' → wpList Tryz.prog ops Q rest (a.put o.dst (.slice (some ⟨g, 0, none⟩) (acc.length + 1) cap)) w') : wpList Tryz.prog ops Q (o :: rest) a w := by
  obtain ⟨i0, hz, hz0, hz1, hz2⟩ := info_parts zeroAe
  refine wpList_append_lies w hgd s x Tens ho base Tae i0 (.agg #[.string ⟨#[]⟩, .int .u64 0]) 2 24 Tryz.underlying26 hz hz0 hz1 hz2 rfl (by decide) v acc.length (flatE acc) hs hown ⟨b, off, none⟩ 1 c (flatE [y]) hx (by rw [flatE_len]; rfl) (s2_news hT) (flatE_one _) (by decide) (by unfold maxLen; omega) (by omega) hbase w.heap.size rfl ?_
  intro g cap w' own grow _ _
  refine h g cap w' ?_ ((Below.refl base w).grown grow hbase (fun k hk => (World.ownsRow.lt hown k hk).1))
  unfold OwE
  rw [flatE_append, List.length_append]
  exact own
theorem OwE.far {w w' : World} {base : Nat} {v : Value} {xs : List En} (h : OwE w base v xs) (g : Tch (fun _ => False) w w') : OwE w' base v xs := own_tch h g (fun _ _ _ x => x)
theorem OwE.nil (w : World) (base : Nat) : OwE w base (.slice none 0 0) [] := World.ownsRow_nil _ _ _ _
end Go.Proofs.YtbejkcdaefkibaaGreat.Wd


namespace Go.Proofs.YtbejkcdaefkibaaGreat.Wd
open Go Go.RowKit Go.Deep Go.Shelf
set_option linter.unusedVariables false
set_option maxRecDepth 100000
attribute [local go_sem] Oper.semAt_some
abbrev Tsp : TypeId := 28
abbrev spC (c : Int) (v : Value) : Array Value := #[.int .u64 c, v]
theorem ent_low {V : World} {R P : Nat} {v p0 p1 : Value} {xs : List En} (h : OwE V P v xs) (hR : R < P) : OwE ((V.setCell ⟨R, 0, none⟩ p0).setCell ⟨R, 1, none⟩ p1) R v xs := by
  have h1 : OwE ((V.setCell ⟨R, 0, none⟩ p0).setCell ⟨R, 1, none⟩ p1) P v xs :=
    own_tch (own_tch h (Tch.set (S := fun b => b = R) V R 0 p0 rfl) (fun kk hk _ e => by omega)) (Tch.set (S := fun b => b = R) _ R 1 p1 rfl) (fun kk hk _ e => by omega)
  exact own_base (by omega) h1
set_option maxHeartbeats 2000000 in
theorem leave_any (T : Nat) (B : Nat → Prop) (m c : Int) (S : List Sl) (w : World) (h : Tbl w T B m c S) (hsort : SortC S.length) :
    Calls Tryz.prog 21 #[ptr T] w fun e w' => ∃ v, ∃ xs : List Sl, e = .returned (.agg (spC c v)) ∧ OwE w' w.heap.size v (xs.map (entS c)) ∧ Told S xs ∧ Below w.heap.size w w' := by
  have b0 := Lib.hid (Blk.new w (spC 0 (.slice none 0 0)) Tsp)
  have k0 := Lib.hid ((Below.refl _ w).alloc (Nat.le_refl _) (.cells (spC 0 (.slice none 0 0)) Tsp))
  have H0 := Lib.hid (h.below k0.out)
  clear h
  go_enter Tryz.func21, Tryz.ntmps21
  go_upto_region 1 with fail
  generalize w.alloc (.cells (spC 0 (.slice none 0 0)) Tsp) = W at *
  have CC := Lib.hid (clock_n H0.out)
  have CE := Lib.hid (entries_any T B m c S W H0.out hsort)
  have hl := b0.out.lt
  go_wp2_with (first
    | (go_at_call 29; with_reducible refine CC.out.mono ?_; rintro e w' ⟨rfl, hh⟩; replace hh := hh.symm; subst hh)
    | (go_at_call 28; refine CE.out.mono ?_; rintro e w2 ⟨v, xs, rfl, o2, TL, g⟩; have b2 := Lib.hid (b0.out.below g); have z0 := b2.out.cell 0; have z1 := b2.out.cell 1; have f0 := b2.out.fz 0; have f1 := b2.out.fz 1; simp at z0 z1; obtain ⟨A2, c2, rfl, _⟩ := o2.form))
  have z := (b2.out.set 0 (.int .u64 c)).set 1 (.slice A2 (xs.map (entS c)).length c2)
  have y0 := z.cell 0
  have y1 := z.cell 1
  simp at y0 y1
  refine bodyPost_ret (v := .agg #[.int .u64 c, .slice A2 (xs.map (entS c)).length c2]) ?_ rfl ⟨_, xs, rfl, ent_low o2 hl, TL, ((kbq k0.out g).setCell (p := ⟨w.heap.size, 0, none⟩) (Nat.le_refl _) _).setCell (p := ⟨w.heap.size, 1, none⟩) (Nat.le_refl _) _⟩
  simp [results, Tryz.f21, go_sem, y0, y1]
end Go.Proofs.YtbejkcdaefkibaaGreat.Wd


namespace Go.Proofs.YtbejkcdaefkibaaGreat.Wd
open Go Go.RowKit Go.Shelf Go.Deep
set_option linter.unusedVariables false
set_option maxRecDepth 100000
theorem lt_heap {w : World} {R : Nat} {o : Obj} (h : w.heap[R]? = some o) : R < w.heap.size := by
  by_cases c : R < w.heap.size
  · exact c
  · rw [Array.getElem?_eq_none (by omega)] at h; cases h
def flatR : List Rl → List Value
  | [] => []
  | r :: l => r.cs ++ flatR l
theorem flatR_append (a b : List Rl) : flatR (a ++ b) = flatR a ++ flatR b := by
  induction a with
  | nil => rfl
  | cons x a ih => simp [flatR, ih]
theorem flatR_length (a : List Rl) : (flatR a).length = a.length * 4 := by
  induction a with
  | nil => rfl
  | cons x a ih => simp [flatR, ih]; omega
theorem flatR_at : ∀ (rs : List Rl) (k : Nat), k < rs.length → (flatR rs)[k * 4]? = some (.string (fnOf rs k).p) ∧ (flatR rs)[k * 4 + 1]? = some (.int .u64 (fnOf rs k).e) ∧ (flatR rs)[k * 4 + 2]? = some (.int .u64 (fnOf rs k).b) ∧ (flatR rs)[k * 4 + 3]? = some (.int .u8 (fnOf rs k).k)
  | [], k, h => by simp at h
  | r :: l, 0, h => by simp [flatR, fnOf]
  | r :: l, k + 1, h => by
    have ih := flatR_at l k (by simpa using h)
    have e : fnOf (r :: l) (k + 1) = fnOf l k := by simp [fnOf]
    rw [e]
    have s : ∀ j, (flatR (r :: l))[(k + 1) * 4 + j]? = (flatR l)[k * 4 + j]? := by
      intro j
      rw [show (k + 1) * 4 + j = (k * 4 + j) + 4 by omega, flatR, List.getElem?_append_right (by simp)]
      simp
    exact ⟨(s 0).trans ih.1, (s 1).trans ih.2.1, (s 2).trans ih.2.2.1, (s 3).trans ih.2.2.2⟩
theorem flatR_one (rs : List Rl) : ∀ u ∈ flatR rs, u.oneCell' = true := by
  induction rs with
  | nil => intro u hu; cases hu
  | cons r l ih =>
    intro u hu
    rw [flatR, List.mem_append] at hu
    rcases hu with hu | hu
    · simp only [List.mem_cons, List.not_mem_nil, or_false] at hu
      rcases hu with rfl | rfl | rfl | rfl <;> rfl
    · exact ih u hu
def ORls (w : World) (base : Nat) (v : Value) (rs : List Rl) : Prop := w.ownsRow base 79 4 v rs.length (flatR rs)
theorem ORls.nil (w : World) (base : Nat) : ORls w base (.slice none 0 0) [] := World.ownsRow_nil _ _ _ _
theorem r4_of_block {w : World} {B o : Nat} {cs : Array Value} {t : TypeId} {fr : Nat × Nat} {r : Rl} (h : w.heap[B]? = some (.cells cs t fr)) (h0 : cs[o]? = some (.string r.p)) (h1 : cs[o + 1]? = some (.int .u64 r.e)) (h2 : cs[o + 2]? = some (.int .u64 r.b)) (h3 : cs[o + 3]? = some (.int .u8 r.k)) : R4 w B o r := by
  refine ⟨?_, ?_, ?_, ?_⟩ <;> (unfold World.cell?; simp [h, h0, h1, h2, h3])
theorem ORls.rls {w : World} {base : Nat} {v : Value} {rs : List Rl} (h : ORls w base v rs) (hx : ∀ r ∈ rs, Okr r) :
    ∃ A c, v = .slice A rs.length c ∧ rs.length ≤ c ∧ c ≤ 9223372036854775807 ∧ Rls w A rs.length rs := by
  obtain ⟨h1, h2⟩ := h
  rcases h2 with ⟨rfl, h0⟩ | ⟨g, cap, cur, rfl, hb, hg, hc1, hc2, hsz, htk⟩
  · have : rs = [] := List.eq_nil_of_length_eq_zero h0
    subst this
    exact ⟨none, 0, rfl, by simp, by omega, Rls.nil _ _⟩
  · refine ⟨_, cap, rfl, hc1, hc2, rfl, hx, fun hn => ⟨g, 0, rfl, lt_heap hg, fun k hk => ?_⟩⟩
    have at_ : ∀ j, j < 4 → cur[0 + k * 4 + j]? = (flatR rs)[k * 4 + j]? := by
      intro j hj
      have e : (cur.toList.take (rs.length * 4))[k * 4 + j]? = (flatR rs)[k * 4 + j]? := by rw [htk]
      rw [List.getElem?_take, if_pos (by omega)] at e
      rw [Nat.zero_add, ← e]; simp
    obtain ⟨f0, f1, f2, f3⟩ := flatR_at rs k hk
    exact r4_of_block hg ((at_ 0 (by omega)).trans f0) ((at_ 1 (by omega)).trans f1) ((at_ 2 (by omega)).trans f2) ((at_ 3 (by omega)).trans f3)
theorem zeroRule : (Tryz.prog.info? 79).map (fun i => (i.zero, i.size, i.bytes)) = some (some (.agg #[.string ⟨#[]⟩, .int .u64 0, .int .u64 0, .int .u8 0]), 4, 40) := by kernel_rfl
theorem Rls.grown {w w' : World} {B n : Nat} {rs : List Rl} {row : Option Nat} (h : Rls w (some ⟨B, 0, none⟩) n rs) (g : w.grownBy w' row) (hne : row ≠ some B) : Rls w' (some ⟨B, 0, none⟩) n rs :=
  ⟨h.1, h.2.1, fun hn => by
    obtain ⟨b, off, e, hb, hc⟩ := h.2.2 hn
    injection e with e
    injection e with e1 e2
    subst e1 e2
    exact ⟨_, _, rfl, Nat.lt_of_lt_of_le hb g.size, fun j hj => (hc j hj).of_block (g.block _ hb (fun e => hne e.symm))⟩⟩
theorem flatR_news {w : World} {b off : Nat} {xs : List Rl} (h : ∀ k, k < xs.length → R4 w b (off + k * 4) (fnOf xs k)) : ∀ j u, (flatR xs)[j]? = some u → w.cell? ((⟨b, off, none⟩ : Addr).add j) = some u := by
  intro j u hu
  have hj : j < (flatR xs).length := (List.getElem?_eq_some_iff.1 hu).1
  rw [flatR_length] at hj
  have hk : j / 4 < xs.length := by omega
  obtain ⟨f0, f1, f2, f3⟩ := flatR_at xs (j / 4) hk
  obtain ⟨c0, c1, c2, c3⟩ := h (j / 4) hk
  rw [Go.WideShapes.add_plain]
  have hm : j % 4 = 0 ∨ j % 4 = 1 ∨ j % 4 = 2 ∨ j % 4 = 3 := by omega
  rcases hm with hm | hm | hm | hm
  · have e : j = j / 4 * 4 := by omega
    rw [e] at hu ⊢
    rw [f0] at hu; injection hu with hu; subst hu
    exact c0
  · have e : j = j / 4 * 4 + 1 := by omega
    rw [e] at hu ⊢
    rw [f1] at hu; injection hu with hu; subst hu
    rw [← Nat.add_assoc]; exact c1
  · have e : j = j / 4 * 4 + 2 := by omega
    rw [e] at hu ⊢
    rw [f2] at hu; injection hu with hu; subst hu
    rw [← Nat.add_assoc]; exact c2
  · have e : j = j / 4 * 4 + 3 := by omega
    rw [e] at hu ⊢
    rw [f3] at hu; injection hu with hu; subst hu
    rw [← Nat.add_assoc]; exact c3
theorem wpList_app_rl (w : World) {ops : Array Oper} {rest : List Oper} {o : Oper} {a : Act} {Q : Exit → Act → World → Prop} (hgd : o.guard = none) (s x : Operand)
    (ho : o.op = .call { callee := .builtin .append, args := #[s, x], argTypes := #[22, 22] })
    (base : Nat) (v : Value) (acc : List Rl) (hs : a.eval s = v) (hown : ORls w base v acc) (b off m c : Nat) (xs : List Rl) (hx : a.eval x = .slice (some ⟨b, off, none⟩) m c) (hm : xs.length = m) (hm0 : 0 < m)
    (hR : ∀ k, k < xs.length → R4 w b (off + k * 4) (fnOf xs k)) (hsz : acc.length + m ≤ 1099511627776) (hbase : base ≤ w.heap.size)
    (h : ∀ g cap w', ORls w' base (.slice (some ⟨g, 0, none⟩) (acc.length + m) cap) (acc ++ xs) → Below base w w' → w.grownBy w' v.ownBlock → (v.ownBlock = some g ∨ g = w.heap.size) → wpList Tryz.prog ops Q rest (a.put o.dst (.slice (some ⟨g, 0, none⟩) (acc.length + m) cap)) w') : wpList Tryz.prog ops Q (o :: rest) a w := by
  obtain ⟨i0, hi, hy0, hy1, hy2⟩ := info_parts zeroRule
  subst hm
  refine wpList_append_lies w hgd s x 22 ho base 79 i0 (.agg #[.string ⟨#[]⟩, .int .u64 0, .int .u64 0, .int .u8 0]) 4 40 Tryz.underlying22 hi hy0 hy1 hy2 rfl (by decide) v acc.length (flatR acc) hs hown ⟨b, off, none⟩ xs.length c (flatR xs) hx (by rw [flatR_length]) (flatR_news hR) (flatR_one xs) hm0 (by unfold maxLen; omega) (by omega) hbase w.heap.size rfl ?_
  intro g cap w' own grow hg hgs
  refine h g cap w' ?_ ((Below.refl base w).grown grow hbase (fun k hk => (World.ownsRow.lt hown k hk).1)) grow hg
  unfold ORls
  rw [List.length_append, flatR_append]
  exact own
theorem ORls.form2 {w : World} {base : Nat} {v : Value} {rs : List Rl} (h : ORls w base v rs) (hx : ∀ r ∈ rs, Okr r) : ∃ A c, v = .slice A rs.length c ∧ (rs.length ≤ c ∧ c ≤ 9223372036854775807) ∧ Rls w A rs.length rs ∧ (A = none → c = 0) ∧ (∀ ad, A = some ad → ad.spot = none) := by
  rcases h.2 with ⟨rfl, h0⟩ | ⟨g, cap, cur, rfl, _⟩
  · have : rs = [] := List.eq_nil_of_length_eq_zero h0
    subst this
    exact ⟨none, 0, rfl, ⟨by simp, by omega⟩, Rls.nil _ _, fun _ => rfl, fun ad e => by cases e⟩
  · obtain ⟨A, c, e, h1, h2, h3⟩ := h.rls hx
    simp only [Value.slice.injEq] at e
    obtain ⟨rfl, _, rfl⟩ := e
    exact ⟨_, _, rfl, ⟨h1, h2⟩, h3, (fun e => by cases e), fun ad e => by cases e; rfl⟩
theorem ORls.form3 {w : World} {base n : Nat} {v : Value} {rs : List Rl} (h : ORls w base v rs) (hx : ∀ r ∈ rs, Okr r) (hn : rs.length = n) : ∃ A c, v = .slice A n c ∧ (n ≤ c ∧ c ≤ 9223372036854775807) ∧ Rls w A n rs ∧ (A = none → c = 0) ∧ (∀ ad, A = some ad → ad.spot = none) := by
  subst hn; exact h.form2 hx
end Go.Proofs.YtbejkcdaefkibaaGreat.Wd


namespace Go.Proofs.YtbejkcdaefkibaaGreat.Wd
open Go Go.RowKit Go.Shelf Go.Deep
set_option linter.unusedVariables false
set_option maxRecDepth 100000
structure Swo (lt : Nat → Nat → Bool) : Prop where
  irr : ∀ x, lt x x = false
  tr : ∀ x y z, lt x y = true → lt y z = true → lt x z = true
  inc : ∀ x y z, lt x y = false → lt y z = false → lt x z = false
def Ah (lt : Nat → Nat → Bool) (x y : Nat) : Prop := lt x y = true ∨ (lt y x = false ∧ x < y)
theorem Swo.asy {lt : Nat → Nat → Bool} (O : Swo lt) {x y : Nat} (h : lt x y = true) : lt y x = false := by
  cases e : lt y x with
  | false => rfl
  | true => have := O.tr _ _ _ h e; rw [O.irr] at this; cases this
theorem Ah.trans {lt : Nat → Nat → Bool} (O : Swo lt) {x y z : Nat} (h : Ah lt x y) (k : Ah lt y z) : Ah lt x z := by
  rcases h with h | ⟨h, h2⟩ <;> rcases k with k | ⟨k, k2⟩
  · exact .inl (O.tr _ _ _ h k)
  · cases e : lt x z with
    | true => exact .inl e
    | false =>
      cases e2 : lt z x with
      | true => have := O.tr _ _ _ e2 h; rw [k] at this; cases this
      | false => have := O.inc _ _ _ e k; rw [this] at h; cases h
  · cases e : lt x z with
    | true => exact .inl e
    | false =>
      cases e2 : lt z x with
      | true => have := O.tr _ _ _ k e2; rw [h] at this; cases this
      | false => have := O.inc _ _ _ h e; rw [this] at k; cases k
  · exact .inr ⟨O.inc _ _ _ k h, by omega⟩
theorem Ah.asy {lt : Nat → Nat → Bool} (O : Swo lt) {x y : Nat} (h : Ah lt x y) (k : Ah lt y x) : False := by
  rcases h with h | ⟨h, h2⟩ <;> rcases k with k | ⟨k, k2⟩
  · rw [O.asy h] at k; cases k
  · rw [k] at h; cases h
  · rw [h] at k; cases k
  · omega
def Srt (lt : Nat → Nat → Bool) (a b : Nat) (f : Nat → Nat) : Prop := ∀ i j, a ≤ i → i < j → j < b → Ah lt (f i) (f j)
theorem Srt.mono {lt : Nat → Nat → Bool} {a b a' b' : Nat} {f : Nat → Nat} (h : Srt lt a b f) (ha : a ≤ a') (hb : b' ≤ b) : Srt lt a' b' f := fun i j h1 h2 h3 => h i j (by omega) h2 (by omega)
theorem Srt.same {lt : Nat → Nat → Bool} {a b : Nat} {f g : Nat → Nat} (h : Srt lt a b f) (e : ∀ k, a ≤ k → k < b → g k = f k) : Srt lt a b g := fun i j h1 h2 h3 => by
  rw [e i h1 (by omega), e j (by omega) h3]; exact h i j h1 h2 h3
def ins (g : Nat → Nat) (i j : Nat) : Nat → Nat := fun k => if k < j then g k else if k = j then g i else if k ≤ i then g (k - 1) else g k
theorem ins_start (g : Nat → Nat) (i : Nat) : ins g i i = g := by
  funext k; unfold ins
  by_cases h : k < i
  · rw [if_pos h]
  · rw [if_neg h]
    by_cases e : k = i
    · rw [if_pos e, e]
    · rw [if_neg e, if_neg (by omega)]
theorem ins_step (g : Nat → Nat) (i j : Nat) (h1 : 0 < j) (h2 : j ≤ i) : xch (ins g i j) j (j - 1) = ins g i (j - 1) := by
  funext k
  unfold xch ins
  by_cases a : k = j
  · rw [if_pos a, if_pos (by omega), if_neg (by omega), if_neg (by omega), if_pos (by omega), a]
  · rw [if_neg a]
    by_cases b : k = j - 1
    · rw [if_pos b, if_neg (by omega), if_pos rfl, if_neg (by omega), if_pos b]
    · rw [if_neg b]
      by_cases c : k < j - 1
      · rw [if_pos (by omega), if_pos c]
      · rw [if_neg (by omega), if_neg a, if_neg (by omega : ¬ k < j - 1), if_neg b]
theorem ins_srt {lt : Nat → Nat → Bool} (O : Swo lt) {g : Nat → Nat} {a i j : Nat} (hs : Srt lt a i g) (ha : a ≤ j) (hj : j ≤ i)
    (hlow : ∀ k, j ≤ k → k < i → lt (g i) (g k) = true) (hup : j ≤ a ∨ (lt (g i) (g (j - 1)) = false ∧ g (j - 1) < g i)) : Srt lt a (i + 1) (ins g i j) := by
  intro p q h1 h2 h3
  have low : ∀ k, j ≤ k → k < i → Ah lt (g i) (g k) := fun k x y => .inl (hlow k x y)
  have up : ∀ k, a ≤ k → k < j → Ah lt (g k) (g i) := by
    intro k x y
    rcases hup with h | ⟨h, h'⟩
    · omega
    · have e : Ah lt (g (j - 1)) (g i) := .inr ⟨h, h'⟩
      by_cases c : k = j - 1
      · rw [c]; exact e
      · exact (hs k (j - 1) x (by omega) (by omega)).trans O e
  unfold ins
  by_cases c1 : p < j
  · rw [if_pos c1]
    by_cases d1 : q < j
    · rw [if_pos d1]; exact hs p q h1 h2 (by omega)
    · rw [if_neg d1]
      by_cases d2 : q = j
      · rw [if_pos d2]; exact up p h1 c1
      · rw [if_neg d2, if_pos (by omega)]
        exact hs p (q - 1) h1 (by omega) (by omega)
  · rw [if_neg c1]
    by_cases c2 : p = j
    · rw [if_pos c2, if_neg (by omega), if_neg (by omega), if_pos (by omega)]
      exact low (q - 1) (by omega) (by omega)
    · rw [if_neg c2, if_pos (by omega), if_neg (by omega), if_neg (by omega), if_pos (by omega)]
      exact hs (p - 1) (q - 1) (by omega) (by omega) (by omega)
def swr (f : Nat → Nat) (a b k : Nat) : Nat → Nat := fun i => if a ≤ i ∧ i < a + k then f (i - a + b) else if b ≤ i ∧ i < b + k then f (i - b + a) else f i
theorem swr_zero (f : Nat → Nat) (a b : Nat) : swr f a b 0 = f := by funext i; unfold swr; rw [if_neg (by omega), if_neg (by omega)]
theorem swr_step (f : Nat → Nat) (a b k n : Nat) (h : a + n ≤ b) (hk : k < n) : xch (swr f a b k) (a + k) (b + k) = swr f a b (k + 1) := by
  funext i
  unfold xch swr
  by_cases c : i = a + k
  · subst c
    rw [if_pos rfl, if_neg (by omega), if_neg (by omega), if_pos (by omega)]
    congr 1; omega
  · by_cases d : i = b + k
    · subst d
      rw [if_neg c, if_pos rfl, if_neg (by omega), if_neg (by omega), if_neg (by omega), if_pos (by omega)]
      congr 1; omega
    · rw [if_neg c, if_neg d]
      by_cases e : a ≤ i ∧ i < a + k
      · rw [if_pos e, if_pos (by omega)]
      · rw [if_neg e, if_neg (by omega : ¬ (a ≤ i ∧ i < a + (k + 1)))]
        by_cases e2 : b ≤ i ∧ i < b + k
        · rw [if_pos e2, if_pos (by omega)]
        · rw [if_neg e2, if_neg (by omega)]
theorem swr_mv (f : Nat → Nat) (a b lo hi : Nat) : ∀ m, a + m ≤ b → lo ≤ a → b + m ≤ hi → Mv lo hi f (swr f a b m) := by
  intro m
  induction m with
  | zero => intro _ _ _; rw [swr_zero]; exact .refl
  | succ m ih =>
    intro h1 h2 h3
    rw [← swr_step f a b m (m + 1) h1 (by omega)]
    exact .xch _ _ (ih (by omega) h2 (by omega)) (by omega) (by omega) (by omega) (by omega)
def rot (f : Nat → Nat) (p m q : Nat) : Nat → Nat := fun i => if i < p ∨ q ≤ i then f i else if i < p + (q - m) then f (i + (m - p)) else f (i - (q - m))
theorem rot_more (f : Nat → Nat) (m i j : Nat) (him : i ≤ m) (h : j < i) (hj : 0 < j) : rot (swr f (m - i) m j) (m - (i - j)) m (m + j) = rot f (m - i) m (m + j) := by
  funext k
  unfold rot
  by_cases c : k < m - i ∨ m + j ≤ k
  · rw [if_pos c, if_pos (by omega)]
    unfold swr; rw [if_neg (by omega), if_neg (by omega)]
  · rw [if_neg c]
    by_cases d : k < m - (i - j)
    · rw [if_pos (by omega), if_pos (by omega)]
      unfold swr; rw [if_pos (by omega)]; congr 1; omega
    · rw [if_neg (by omega : ¬ (k < m - (i - j) ∨ m + j ≤ k)), if_neg (by omega : ¬ k < m - i + (m + j - m))]
      by_cases e : k < m - (i - j) + (m + j - m)
      · rw [if_pos e]
        unfold swr
        by_cases g : k + (m - (m - (i - j))) < m
        · rw [if_neg (by omega), if_neg (by omega)]; congr 1; omega
        · rw [if_neg (by omega), if_pos (by omega)]; congr 1; omega
      · rw [if_neg e]
        unfold swr
        rw [if_neg (by omega), if_neg (by omega)]
theorem rot_less (f : Nat → Nat) (m i j : Nat) (him : i ≤ m) (h : i < j) (hi : 0 < i) : rot (swr f (m - i) (m + j - i) i) (m - i) m (m + (j - i)) = rot f (m - i) m (m + j) := by
  funext k
  unfold rot
  by_cases c : k < m - i ∨ m + j ≤ k
  · rw [if_pos c, if_pos (by omega)]
    unfold swr; rw [if_neg (by omega), if_neg (by omega)]
  · rw [if_neg c]
    by_cases d : m + (j - i) ≤ k
    · rw [if_pos (by omega), if_neg (by omega)]
      unfold swr
      rw [if_neg (by omega), if_pos (by omega)]; congr 1; omega
    · rw [if_neg (by omega : ¬ (k < m - i ∨ m + (j - i) ≤ k))]
      by_cases e : k < m - i + (m + (j - i) - m)
      · rw [if_pos e, if_pos (by omega)]
        unfold swr
        rw [if_neg (by omega), if_neg (by omega)]
      · rw [if_neg e]
        by_cases g : k < m - i + (m + j - m)
        · rw [if_pos g]
          unfold swr
          rw [if_pos (by omega)]; congr 1; omega
        · omega
theorem rot_even (f : Nat → Nat) (m i : Nat) (him : i ≤ m) : swr f (m - i) m i = rot f (m - i) m (m + i) := by
  funext k
  unfold rot swr
  by_cases c : k < m - i ∨ m + i ≤ k
  · rw [if_pos c, if_neg (by omega), if_neg (by omega)]
  · rw [if_neg c]
    by_cases d : k < m
    · rw [if_pos (by omega), if_pos (by omega)]; congr 1; omega
    · rw [if_neg (by omega), if_pos (by omega), if_neg (by omega)]; congr 1; omega
structure Mrg (lt : Nat → Nat → Bool) (a m b : Nat) (f : Nat → Nat) : Prop where
  am : a < m
  mb : m < b
  left : Srt lt a m f
  right : Srt lt m b f
  old : ∀ i j, a ≤ i → i < m → m ≤ j → j < b → f i < f j
theorem two_one_left {lt : Nat → Nat → Bool} (O : Swo lt) {a b i : Nat} {f : Nat → Nat} (h : Mrg lt a (a + 1) b f) (h1 : a + 1 ≤ i) (h2 : i ≤ b)
    (hlow : ∀ k, a + 1 ≤ k → k < i → lt (f k) (f a) = true) (hup : ∀ k, i ≤ k → k < b → lt (f k) (f a) = false) {g : Nat → Nat}
    (e1 : ∀ k, a ≤ k → k < i - 1 → g k = f (k + 1)) (e2 : g (i - 1) = f a) (e3 : ∀ k, i ≤ k → k < b → g k = f k) : Srt lt a b g := by
  intro p q x y z
  by_cases c : q < i - 1
  · rw [e1 p x (by omega), e1 q (by omega) c]; exact h.right _ _ (by omega) (by omega) (by omega)
  · by_cases c2 : q = i - 1
    · subst c2
      rw [e1 p x (by omega), e2]
      exact .inl (hlow _ (by omega) (by omega))
    · by_cases d : p < i - 1
      · rw [e1 p x d, e3 q (by omega) z]; exact h.right _ _ (by omega) (by omega) (by omega)
      · by_cases d2 : p = i - 1
        · subst d2
          rw [e2, e3 q (by omega) z]
          exact .inr ⟨hup q (by omega) z, h.old a q (by omega) (by omega) (by omega) z⟩
        · rw [e3 p (by omega) (by omega), e3 q (by omega) z]; exact h.right _ _ (by omega) (by omega) (by omega)
theorem two_one_right {lt : Nat → Nat → Bool} (O : Swo lt) {a m i : Nat} {f : Nat → Nat} (h : Mrg lt a m (m + 1) f) (h1 : a ≤ i) (h2 : i ≤ m)
    (hlow : ∀ k, a ≤ k → k < i → lt (f m) (f k) = false) (hup : ∀ k, i ≤ k → k < m → lt (f m) (f k) = true) {g : Nat → Nat}
    (e1 : ∀ k, a ≤ k → k < i → g k = f k) (e2 : g i = f m) (e3 : ∀ k, i < k → k ≤ m → g k = f (k - 1)) : Srt lt a (m + 1) g := by
  intro p q x y z
  by_cases c : q < i
  · rw [e1 p x (by omega), e1 q (by omega) c]; exact h.left _ _ x y (by omega)
  · by_cases c2 : q = i
    · subst c2
      rw [e1 p x (by omega), e2]
      exact .inr ⟨hlow p x (by omega), h.old p m x (by omega) (by omega) (by omega)⟩
    · by_cases d : p < i
      · rw [e1 p x d, e3 q (by omega) (by omega)]; exact h.left _ _ x (by omega) (by omega)
      · by_cases d2 : p = i
        · subst d2
          rw [e2, e3 q (by omega) (by omega)]
          exact .inl (hup _ (by omega) (by omega))
        · rw [e3 p (by omega) (by omega), e3 q (by omega) (by omega)]; exact h.left _ _ (by omega) (by omega) (by omega)
theorem lt_of_ah {lt : Nat → Nat → Bool} {x y : Nat} (h : Ah lt x y) (g : y < x) : lt x y = true := by
  rcases h with h | ⟨_, h⟩
  · exact h
  · omega
theorem no_of_ah {lt : Nat → Nat → Bool} (O : Swo lt) {x y : Nat} (h : Ah lt x y) : lt y x = false := by
  rcases h with h | ⟨h, _⟩
  · exact O.asy h
  · exact h
theorem mrg_low {lt : Nat → Nat → Bool} (O : Swo lt) {a m b : Nat} {f : Nat → Nat} (h : Mrg lt a m b f) {i k q : Nat} (i1 : a ≤ i) (i2 : i < m) (k1 : m ≤ k) (kq : k ≤ q) (q1 : q < b) (hl : lt (f q) (f i) = true) : lt (f k) (f i) = true := by
  by_cases e : k = q
  · rw [e]; exact hl
  · exact lt_of_ah ((h.right k q k1 (by omega) q1).trans O (.inl hl)) (h.old i k i1 i2 k1 (by omega))
theorem mrg_up {lt : Nat → Nat → Bool} (O : Swo lt) {a m b : Nat} {f : Nat → Nat} (h : Mrg lt a m b f) {i k q : Nat} (i1 : a ≤ i) (i2 : i < m) (q1 : m ≤ q) (kq : q ≤ k) (k1 : k < b) (hl : lt (f q) (f i) = false) : lt (f k) (f i) = false := by
  by_cases e : k = q
  · rw [e]; exact hl
  · exact no_of_ah O (Ah.trans O (.inr ⟨hl, h.old i q i1 i2 q1 (by omega)⟩) (h.right q k q1 (by omega) k1))
theorem mrg_lefno {lt : Nat → Nat → Bool} (O : Swo lt) {a m b : Nat} {f : Nat → Nat} (h : Mrg lt a m b f) {i k q : Nat} (i1 : a ≤ k) (ki : k ≤ i) (i2 : i < m) (q1 : m ≤ q) (q2 : q < b) (hl : lt (f q) (f i) = false) : lt (f q) (f k) = false := by
  by_cases e : k = i
  · rw [e]; exact hl
  · exact no_of_ah O (Ah.trans O (h.left k i i1 (by omega) i2) (.inr ⟨hl, h.old i q (by omega) i2 q1 q2⟩))
theorem mrg_lefyes {lt : Nat → Nat → Bool} (O : Swo lt) {a m b : Nat} {f : Nat → Nat} (h : Mrg lt a m b f) {i k q : Nat} (i1 : a ≤ i) (ik : i ≤ k) (i2 : k < m) (q1 : m ≤ q) (q2 : q < b) (hl : lt (f q) (f i) = true) : lt (f q) (f k) = true := by
  by_cases e : k = i
  · rw [e]; exact hl
  · exact lt_of_ah (Ah.trans O (.inl hl) (h.left i k i1 (by omega) i2)) (h.old k q (by omega) i2 q1 q2)
def mvr (f : Nat → Nat) (a k : Nat) : Nat → Nat := fun j => if j < a then f j else if j < k then f (j + 1) else if j = k then f a else f j
theorem mvr_start (f : Nat → Nat) (a : Nat) : mvr f a a = f := by
  funext j; unfold mvr
  by_cases h : j < a
  · rw [if_pos h]
  · rw [if_neg h, if_neg h]
    by_cases e : j = a
    · rw [if_pos e, e]
    · rw [if_neg e]
theorem mvr_step (f : Nat → Nat) (a k : Nat) (h : a ≤ k) : xch (mvr f a k) k (k + 1) = mvr f a (k + 1) := by
  funext j
  unfold xch mvr
  by_cases c : j = k
  · rw [if_pos c, if_neg (by omega), if_neg (by omega), if_neg (by omega), if_neg (by omega), if_pos (by omega), c]
  · rw [if_neg c]
    by_cases d : j = k + 1
    · rw [if_pos d, if_neg (by omega), if_neg (by omega), if_pos rfl, if_neg (by omega), if_neg (by omega), if_pos d]
    · rw [if_neg d]
      by_cases e : j < a
      · rw [if_pos e, if_pos e]
      · rw [if_neg e, if_neg e]
        by_cases g : j < k
        · rw [if_pos g, if_pos (by omega)]
        · rw [if_neg g, if_neg c, if_neg (by omega), if_neg d]
structure Cut (lt : Nat → Nat → Bool) (a m b mid s e : Nat) (f : Nat → Nat) : Prop where
  se : s + e = mid + m
  as_ : a ≤ s
  sm : s ≤ m
  me : m ≤ e
  eb : e ≤ b
  smid : s ≤ mid
  mide : mid ≤ e
  one : s = a ∨ e = b ∨ lt (f e) (f (s - 1)) = false
  two : s = m ∨ e = m ∨ lt (f (e - 1)) (f s) = true
theorem cut_cross {lt : Nat → Nat → Bool} (O : Swo lt) {a m b mid s e : Nat} {f : Nat → Nat} (h : Mrg lt a m b f) (c : Cut lt a m b mid s e f) :
    ∀ p q, ((a ≤ p ∧ p < s) ∨ (m ≤ p ∧ p < e)) → ((s ≤ q ∧ q < m) ∨ (e ≤ q ∧ q < b)) → Ah lt (f p) (f q) := by
  have k1 : ∀ p q, a ≤ p → p < s → e ≤ q → q < b → Ah lt (f p) (f q) := by
    intro p q h1 h2 h3 h4
    rcases c.one with x | x | x
    · omega
    · omega
    · have y : Ah lt (f (s - 1)) (f e) := .inr ⟨x, h.old _ _ (by omega) (by have := c.sm; omega) c.me (by omega)⟩
      have y1 : Ah lt (f p) (f e) := by
        by_cases z : p = s - 1
        · rw [z]; exact y
        · exact (h.left p (s - 1) h1 (by omega) (by have := c.sm; omega)).trans O y
      by_cases z : q = e
      · rw [z]; exact y1
      · exact y1.trans O (h.right e q c.me (by omega) h4)
  have k2 : ∀ p q, m ≤ p → p < e → s ≤ q → q < m → Ah lt (f p) (f q) := by
    intro p q h1 h2 h3 h4
    rcases c.two with x | x | x
    · omega
    · omega
    · have y : Ah lt (f (e - 1)) (f s) := .inl x
      have y1 : Ah lt (f p) (f s) := by
        by_cases z : p = e - 1
        · rw [z]; exact y
        · exact (h.right p (e - 1) h1 (by omega) (by have := c.eb; omega)).trans O y
      by_cases z : q = s
      · rw [z]; exact y1
      · exact y1.trans O (h.left s q c.as_ (by omega) h4)
  intro p q hp hq
  have := c.as_; have := c.sm; have := c.me; have := c.eb
  rcases hp with ⟨p1, p2⟩ | ⟨p1, p2⟩ <;> rcases hq with ⟨q1, q2⟩ | ⟨q1, q2⟩
  · exact h.left p q p1 (by omega) q2
  · exact k1 p q p1 p2 q1 q2
  · exact k2 p q p1 p2 q1 q2
  · exact h.right p q p1 (by omega) q2
def Rotd (f g : Nat → Nat) (s m e : Nat) : Prop := ∀ k, g k = rot f s m e k
theorem rotd_left {f g : Nat → Nat} {s m e : Nat} (h : Rotd f g s m e) (k : Nat) (hk : k < s) : g k = f k := by rw [h k]; unfold rot; rw [if_pos (by omega)]
theorem rotd_right {f g : Nat → Nat} {s m e : Nat} (h : Rotd f g s m e) (k : Nat) (hk : e ≤ k) : g k = f k := by rw [h k]; unfold rot; rw [if_pos (by omega)]
theorem rotd_first {f g : Nat → Nat} {s m e : Nat} (h : Rotd f g s m e) (k : Nat) (h1 : s ≤ k) (h2 : k < s + (e - m)) (h3 : k < e) : g k = f (k + (m - s)) := by rw [h k]; unfold rot; rw [if_neg (by omega), if_pos h2]
theorem rotd_second {f g : Nat → Nat} {s m e : Nat} (h : Rotd f g s m e) (k : Nat) (h1 : s + (e - m) ≤ k) (h2 : s ≤ k) (h3 : k < e) : g k = f (k - (e - m)) := by rw [h k]; unfold rot; rw [if_neg (by omega), if_neg (by omega)]
theorem rotd_none {f : Nat → Nat} {s m e : Nat} (h : s = m ∨ e = m) (h1 : s ≤ m) (h2 : m ≤ e) : Rotd f f s m e := by
  intro k
  unfold rot
  by_cases c : k < s ∨ e ≤ k
  · rw [if_pos c]
  · rw [if_neg c]
    rcases h with h | h
    · rw [if_pos (by omega)]; congr 1; omega
    · rw [if_neg (by omega)]; congr 1; omega
theorem half_one {lt : Nat → Nat → Bool} {a m b mid s e : Nat} {f g : Nat → Nat} (h : Mrg lt a m b f) (c : Cut lt a m b mid s e f) (r : Rotd f g s m e) :
    (a < s → s < mid → Mrg lt a s mid g) ∧ (s ≤ a ∨ mid ≤ s → Srt lt a mid g) := by
  have := c.as_; have := c.sm; have := c.me; have := c.eb; have := c.se; have := c.smid; have := c.mide; have := h.am; have := h.mb
  have L : Srt lt a s g := fun i j h1 h2 h3 => by
    rw [rotd_left r i (by omega), rotd_left r j h3]; exact h.left i j h1 h2 (by omega)
  have R : Srt lt s mid g := fun i j h1 h2 h3 => by
    rw [rotd_first r i h1 (by omega) (by omega), rotd_first r j (by omega) (by omega) (by omega)]; exact h.right _ _ (by omega) (by omega) (by omega)
  refine ⟨fun h1 h2 => ⟨h1, h2, L, R, fun i j p q x y => ?_⟩, fun d => ?_⟩
  · rw [rotd_left r i q, rotd_first r j x (by omega) (by omega)]; exact h.old _ _ p (by omega) (by omega) (by omega)
  · rcases d with d | d
    · exact R.mono (by omega) (Nat.le_refl _)
    · exact L.mono (Nat.le_refl _) (by omega)
theorem half_two {lt : Nat → Nat → Bool} {a m b mid s e : Nat} {f g : Nat → Nat} (h : Mrg lt a m b f) (c : Cut lt a m b mid s e f) (r : Rotd f g s m e) :
    (mid < e → e < b → Mrg lt mid e b g) ∧ (e ≤ mid ∨ b ≤ e → Srt lt mid b g) := by
  have := c.as_; have := c.sm; have := c.me; have := c.eb; have := c.se; have := c.smid; have := c.mide; have := h.am; have := h.mb
  have L : Srt lt mid e g := fun i j h1 h2 h3 => by
    rw [rotd_second r i (by omega) (by omega) (by omega), rotd_second r j (by omega) (by omega) (by omega)]; exact h.left _ _ (by omega) (by omega) (by omega)
  have R : Srt lt e b g := fun i j h1 h2 h3 => by
    rw [rotd_right r i h1, rotd_right r j (by omega)]; exact h.right i j (by omega) h2 h3
  refine ⟨fun h1 h2 => ⟨h1, h2, L, R, fun i j p q x y => ?_⟩, fun d => ?_⟩
  · rw [rotd_second r i (by omega) (by omega) q, rotd_right r j x]; exact h.old _ _ (by omega) (by omega) (by omega) (by omega)
  · rcases d with d | d
    · exact R.mono (by omega) (Nat.le_refl _)
    · exact L.mono (Nat.le_refl _) (by omega)
theorem halves {lt : Nat → Nat → Bool} (O : Swo lt) {a m b mid s e : Nat} {f g g1 g2 : Nat → Nat} (h : Mrg lt a m b f) (c : Cut lt a m b mid s e f) (r : Rotd f g s m e)
    (m1 : Mv a mid g g1) (s1 : Srt lt a mid g1) (m2 : Mv mid b g1 g2) (s2 : Srt lt mid b g2) : Srt lt a b g2 := by
  have := c.as_; have := c.sm; have := c.me; have := c.eb; have := c.se; have := c.smid; have := c.mide; have := h.am; have := h.mb
  intro p q h1 h2 h3
  by_cases cp : mid ≤ p
  · exact s2 p q cp h2 h3
  · rw [m2.out p (by omega)]
    by_cases cq : mid ≤ q
    · obtain ⟨p', x1, x2, x3⟩ := m1.back p h1 (by omega)
      obtain ⟨q', y1, y2, y3⟩ := m2.back q cq h3
      rw [x3, y3, m1.out q' (by omega)]
      have ep : ∃ u, g p' = f u ∧ ((a ≤ u ∧ u < s) ∨ (m ≤ u ∧ u < e)) := by
        by_cases z : p' < s
        · exact ⟨p', rotd_left r p' z, .inl ⟨x1, z⟩⟩
        · exact ⟨_, rotd_first r p' (by omega) (by omega) (by omega), .inr ⟨by omega, by omega⟩⟩
      have eq : ∃ u, g q' = f u ∧ ((s ≤ u ∧ u < m) ∨ (e ≤ u ∧ u < b)) := by
        by_cases z : e ≤ q'
        · exact ⟨q', rotd_right r q' z, .inr ⟨z, y2⟩⟩
        · exact ⟨_, rotd_second r q' (by omega) (by omega) (by omega), .inl ⟨by omega, by omega⟩⟩
      obtain ⟨u, eu, hu⟩ := ep
      obtain ⟨v, ev, hv⟩ := eq
      rw [eu, ev]
      exact cut_cross O h c u v hu hv
    · rw [m2.out q (by omega)]
      exact s1 p q h1 h2 (by omega)
def cBlk (lt : Nat → Nat → Bool) (B : Nat → Prop) (n : Nat) (f : Nat → Nat) : Prop :=
  ∀ i j, i < j → j < n → ((∀ p, i < p → p ≤ j → ¬ B p) → Ah lt (f i) (f j)) ∧ ((∃ p, i < p ∧ p ≤ j ∧ B p) → f i < f j)
theorem cBlk.iff {lt : Nat → Nat → Bool} {B C : Nat → Prop} {n : Nat} {f : Nat → Nat} (h : cBlk lt B n f) (e : ∀ p, 0 < p → p < n → (B p ↔ C p)) : cBlk lt C n f := fun i j h1 h2 =>
  ⟨fun k => (h i j h1 h2).1 fun p x y z => k p x y ((e p (by omega) (by omega)).1 z), fun ⟨p, x, y, z⟩ => (h i j h1 h2).2 ⟨p, x, y, (e p (by omega) (by omega)).2 z⟩⟩
theorem cBlk.start {lt : Nat → Nat → Bool} {B : Nat → Prop} {n : Nat} {f : Nat → Nat} (hB : ∀ p, 0 < p → p < n → B p) (hf : ∀ i j, i < j → j < n → f i < f j) : cBlk lt B n f := fun i j h1 h2 =>
  ⟨fun k => absurd (hB j (by omega) h2) (k j h1 (Nat.le_refl _)), fun _ => hf i j h1 h2⟩
theorem cBlk.done {lt : Nat → Nat → Bool} {B : Nat → Prop} {n : Nat} {f : Nat → Nat} (h : cBlk lt B n f) (hB : ∀ p, 0 < p → p < n → ¬ B p) : Srt lt 0 n f := fun i j h1 h2 h3 =>
  (h i j h2 h3).1 fun p x y => hB p (by omega) (by omega)
theorem cBlk.join {lt : Nat → Nat → Bool} {B : Nat → Prop} {n a b : Nat} {f g : Nat → Nat} (h : cBlk lt B n f) (ha : a = 0 ∨ B a) (hb : b = n ∨ B b) (hbn : b ≤ n) (m : Mv a b f g) (s : Srt lt a b g) : cBlk lt (fun p => B p ∧ ¬ (a < p ∧ p < b)) n g := by
  have elder : ∀ i j, i < n → j < n → (i < a ∨ b ≤ i) → a ≤ j → j < b → (i < j → f i < g j) ∧ (j < i → g j < f i) := by
    intro i j hi hj x y z
    obtain ⟨j', y1, y2, y3⟩ := m.back j y z
    refine ⟨fun l => ?_, fun l => ?_⟩
    · rw [y3]
      refine (h i j' (by omega) (by omega)).2 ?_
      rcases ha with ha | ha
      · omega
      · exact ⟨a, by omega, by omega, ha⟩
    · rw [y3]
      refine (h j' i (by omega) (by omega)).2 ?_
      rcases hb with hb | hb
      · omega
      · exact ⟨b, by omega, by omega, hb⟩
  intro i j h1 h2
  by_cases ci : a ≤ i ∧ i < b
  · by_cases cj : a ≤ j ∧ j < b
    · exact ⟨fun _ => s i j ci.1 h1 cj.2, fun ⟨p, x, y, z⟩ => absurd ⟨by omega, by omega⟩ z.2⟩
    · have lt1 : g i < g j := by rw [m.out j (by omega)]; exact (elder j i h2 (by omega) (by omega) ci.1 ci.2).2 h1
      refine ⟨fun k => ?_, fun _ => lt1⟩
      rcases hb with hb | hb
      · omega
      · exact absurd ⟨hb, by omega⟩ (k b (by omega) (by omega))
  · by_cases cj : a ≤ j ∧ j < b
    · have lt1 : g i < g j := by rw [m.out i (by omega)]; exact (elder i j (by omega) h2 (by omega) cj.1 cj.2).1 h1
      refine ⟨fun k => ?_, fun _ => lt1⟩
      rcases ha with ha | ha
      · omega
      · exact absurd ⟨ha, by omega⟩ (k a (by omega) (by omega))
    · rw [m.out i (by omega), m.out j (by omega)]
      refine ⟨fun k => (h i j h1 h2).1 fun p x y z => k p x y ⟨z, fun w => ?_⟩, fun ⟨p, x, y, z⟩ => (h i j h1 h2).2 ⟨p, x, y, z.1⟩⟩
      · rcases (by omega : j < a ∨ b ≤ i ∨ (i < a ∧ b ≤ j)) with l | l | ⟨l1, l2⟩
        · omega
        · omega
        · rcases ha with ha | ha
          · omega
          · exact k a (by omega) (by omega) ⟨ha, by omega⟩
theorem cBlk.pair {lt : Nat → Nat → Bool} {B : Nat → Prop} {n a m b : Nat} {f : Nat → Nat} (h : cBlk lt B n f) (am : a < m) (mb : m < b) (hbn : b ≤ n) (hm : B m) (hn : ∀ p, a < p → p < b → p ≠ m → ¬ B p) : Mrg lt a m b f :=
  ⟨am, mb, fun i j h1 h2 h3 => (h i j h2 (by omega)).1 fun p x y => hn p (by omega) (by omega) (by omega), fun i j h1 h2 h3 => (h i j h2 (by omega)).1 fun p x y => hn p (by omega) (by omega) (by omega),
   fun i j h1 h2 h3 h4 => (h i j (by omega) (by omega)).2 ⟨m, by omega, by omega, hm⟩⟩
attribute [local go_sem] Oper.semAt_some
theorem Sts.nil (w : World) (A : Option Addr) : Sts w A 0 [] := ⟨rfl, (fun _ h => nomatch h), fun h => absurd h (Nat.lt_irrefl _)⟩
theorem Sts.drew {w w' : World} {A : Option Addr} {n : Nat} {xs : List ByteArray} (h : Sts w A n xs) (d : Drew w w') : Sts w' A n xs := h.below d.kept.2
theorem gb_of {w W : World} {B : Nat} (h : Below w.heap.size w W) : w.grownBy W (some B) := ⟨h.os, h.tape, h.output, h.size, fun k hk _ => h.block k hk⟩
theorem gb_refl (w : World) (B : Nat) : w.grownBy w (some B) := ⟨rfl, rfl, rfl, Nat.le_refl _, fun _ _ _ => rfl⟩
theorem gb_trans {a b c : World} {B : Nat} (h : a.grownBy b (some B)) (g : b.grownBy c (some B)) : a.grownBy c (some B) :=
  ⟨g.os.trans h.os, g.tape.trans h.tape, g.output.trans h.output, Nat.le_trans h.size g.size, fun k hk hn => (g.block k (Nat.lt_of_lt_of_le hk h.size) hn).trans (h.block k hk hn)⟩
theorem gb_cell {w W : World} {B : Nat} (h : w.grownBy W (some B)) {b o : Nat} {v : Value} (hb : b ≠ B) (c : w.cell? ⟨b, o, none⟩ = some v) : W.cell? ⟨b, o, none⟩ = some v :=
  (World.cell?_of_block (w := w) (h.block b (cell_lt c) (fun e => hb (by injection e)))).trans c
theorem gb_below {w W : World} {B n : Nat} (h : w.grownBy W (some B)) (h1 : n ≤ B) (h2 : B < w.heap.size) : Below n w W := ⟨h.os, h.tape, h.output, h.size, fun k hk => h.block k (by omega) (fun e => by injection e; omega)⟩
theorem gb_alloc (w : World) (o : Obj) (B : Nat) : w.grownBy (w.alloc o) (some B) := gb_of ((Below.refl _ w).alloc (Nat.le_refl _) o)
structure SoW (W : World) (RB RX n : Nat) (r : Nat → Rl) (f : Nat → Nat) : Prop where
  lt : RB < W.heap.size
  ne : RX ≠ RB
  var : W.cell? ⟨RX, 0, none⟩ = some (.slice (some ⟨RB, 0, none⟩) n n)
  rows : ∀ k, k < n → R4 W RB (k * 4) (r (f k)) ∧ S4 W RB (k * 4)
theorem SoW.below {W W' : World} {RB RX n : Nat} {r : Nat → Rl} {f : Nat → Nat} (h : SoW W RB RX n r f) (g : Below W.heap.size W W') : SoW W' RB RX n r f :=
  ⟨Nat.lt_of_lt_of_le h.lt g.size, h.ne, celln g h.var, fun k hk => ⟨(h.rows k hk).1.of_block (g.block _ h.lt), (h.rows k hk).2.of_block (g.block _ h.lt)⟩⟩
theorem SoW.alloc {W : World} {RB RX n : Nat} {r : Nat → Rl} {f : Nat → Nat} (h : SoW W RB RX n r f) (o : Obj) : SoW (W.alloc o) RB RX n r f := h.below ((Below.refl _ W).alloc (Nat.le_refl _) o)
theorem SoW.same {W : World} {RB RX n : Nat} {r : Nat → Rl} {f g : Nat → Nat} (h : SoW W RB RX n r f) (e : ∀ k, k < n → g k = f k) : SoW W RB RX n r g :=
  ⟨h.lt, h.ne, h.var, fun k hk => by rw [e k hk]; exact h.rows k hk⟩
theorem sets_cell (W : World) (B o : Nat) (r : Rl) : W.setCells B o r.cs = (((W.setCell ⟨B, o, none⟩ (.string r.p)).setCell ⟨B, o + 1, none⟩ (.int .u64 r.e)).setCell ⟨B, o + 2, none⟩ (.int .u64 r.b)).setCell ⟨B, o + 3, none⟩ (.int .u8 r.k) := rfl
theorem r4_put {W : World} {B o : Nat} {s : Rl} (h : R4 W B o s) (r : Rl) : R4 (W.setCells B o r.cs) B o r := by
  obtain ⟨h0, h1, h2, h3⟩ := h
  rw [sets_cell]
  refine ⟨?_, ?_, ?_, ?_⟩
  · rw [cs_other _ _ _ _ _ _ (.inr (by omega)), cs_other _ _ _ _ _ _ (.inr (by omega)), cs_other _ _ _ _ _ _ (.inr (by omega))]
    exact World.cell?_setCell_same _ _ _ h0
  · rw [cs_other _ _ _ _ _ _ (.inr (by omega)), cs_other _ _ _ _ _ _ (.inr (by omega))]
    exact World.cell?_setCell_same _ _ _ ((cs_other _ _ _ _ _ _ (.inr (by omega))).trans h1)
  · rw [cs_other _ _ _ _ _ _ (.inr (by omega))]
    exact World.cell?_setCell_same _ _ _ ((cs_other _ _ _ _ _ _ (.inr (by omega))).trans ((cs_other _ _ _ _ _ _ (.inr (by omega))).trans h2))
  · exact World.cell?_setCell_same _ _ _ ((cs_other _ _ _ _ _ _ (.inr (by omega))).trans ((cs_other _ _ _ _ _ _ (.inr (by omega))).trans ((cs_other _ _ _ _ _ _ (.inr (by omega))).trans h3)))
theorem r4_far {W : World} {B o o2 : Nat} {s r : Rl} (h : R4 W B o s) (hf : o + 4 ≤ o2 ∨ o2 + 4 ≤ o) : R4 (W.setCells B o2 r.cs) B o s := by
  obtain ⟨h0, h1, h2, h3⟩ := h
  rw [sets_cell]
  refine ⟨?_, ?_, ?_, ?_⟩ <;> (rw [cs_other _ _ _ _ _ _ (.inr (by omega)), cs_other _ _ _ _ _ _ (.inr (by omega)), cs_other _ _ _ _ _ _ (.inr (by omega)), cs_other _ _ _ _ _ _ (.inr (by omega))]; assumption)
theorem s4_put {W : World} {B o o2 : Nat} {r : Rl} (h : S4 W B o) : S4 (W.setCells B o2 r.cs) B o := by
  obtain ⟨h0, h1, h2, h3⟩ := h
  rw [sets_cell]
  refine ⟨?_, ?_, ?_, ?_⟩ <;> (simp only [World.frozen?_setCell]; assumption)
theorem gb_sets (W : World) (B o : Nat) (r : Rl) : W.grownBy (W.setCells B o r.cs) (some B) := by
  rw [sets_cell]
  refine ⟨rfl, rfl, rfl, by simp, fun k hk hn => ?_⟩
  have hk' : k ≠ B := fun e => hn (by rw [e])
  rw [Below.heap_setCell _ _ _ _ (fun e => hk' e), Below.heap_setCell _ _ _ _ (fun e => hk' e), Below.heap_setCell _ _ _ _ (fun e => hk' e), Below.heap_setCell _ _ _ _ (fun e => hk' e)]
theorem SoW.swap {W : World} {RB RX n : Nat} {r : Nat → Rl} {f : Nat → Nat} (h : SoW W RB RX n r f) (i j : Nat) (hi : i < n) (hj : j < n) (hij : i ≠ j) :
    SoW ((W.setCells RB (i * 4) (r (f j)).cs).setCells RB (j * 4) (r (f i)).cs) RB RX n r (xch f i j) ∧ W.grownBy ((W.setCells RB (i * 4) (r (f j)).cs).setCells RB (j * 4) (r (f i)).cs) (some RB) := by
  have g := gb_trans (gb_sets W RB (i * 4) (r (f j))) (gb_sets (W.setCells RB (i * 4) (r (f j)).cs) RB (j * 4) (r (f i)))
  refine ⟨⟨Nat.lt_of_lt_of_le h.lt g.size, h.ne, gb_cell g h.ne h.var, fun k hk => ⟨?_, s4_put (s4_put (h.rows k hk).2)⟩⟩, g⟩
  unfold xch
  by_cases c : k = i
  · rw [if_pos c, c]
    exact r4_far (r4_put (h.rows i hi).1 _) (by omega)
  · rw [if_neg c]
    by_cases d : k = j
    · rw [if_pos d, d]
      exact r4_put (r4_far (h.rows j hj).1 (by omega)) _
    · rw [if_neg d]
      exact r4_far (r4_far (h.rows k hk).1 (by omega)) (by omega)
def cSwapC (sf : Nat) (sb : Array Value) (RB RX n : Nat) (r : Nat → Rl) : Prop :=
  ∀ (W : World) (f : Nat → Nat) (i j : Nat), SoW W RB RX n r f → i < n → j < n → i ≠ j →
    ∃ W', (callFunc sf (#[.int .i64 (i : Int), .int .i64 (j : Int)] ++ sb)).run Tryz.prog W = .ok (.value (.tuple #[])) W' ∧ SoW W' RB RX n r (xch f i j) ∧ W.grownBy W' (some RB)
abbrev cdatV (RX sf : Nat) (sb : Array Value) : Value := .agg #[.func (Fn.func 159) #[] #[.pointer (some ⟨RX, 0, none⟩)], .func (Fn.func sf) #[] sb]
section
variable {RB RX n sf : Nat} {sb : Array Value} {r : Nat → Rl} {lt : Nat → Nat → Bool}
theorem swr_any (hsw : cSwapC sf sb RB RX n r) (hn : n ≤ 1099511627776) (a b m : Nat) (hab : a + m ≤ b) (hbn : b + m ≤ n) (W : World) (f : Nat → Nat) (hS : SoW W RB RX n r f) :
    Calls Tryz.prog 256 #[cdatV RX sf sb, .int .i64 (a : Int), .int .i64 (b : Int), .int .i64 (m : Int)] W fun e w' => e = .returned (.tuple #[]) ∧ SoW w' RB RX n r (swr f a b m) ∧ W.grownBy w' (some RB) := by
  have HW := Lib.hid hsw
  have hlt := hS.lt
  have S0 := fun o => hS.alloc o
  clear hsw hS
  go_enter Tryz.func256, Tryz.ntmps256
  go_wp2
  have b0 : (W.alloc (.cells #[.func (Fn.func 159) #[] #[.pointer (some ⟨RX, 0, none⟩)], .func (Fn.func sf) #[] sb] 263)).cell? ⟨W.heap.size, 1, none⟩ = some (.func (Fn.func sf) #[] sb) := by simp
  have g0 : W.grownBy (W.alloc (.cells #[.func (Fn.func 159) #[] #[.pointer (some ⟨RX, 0, none⟩)], .func (Fn.func sf) #[] sb] 263)) (some RB) := gb_alloc _ _ _
  replace S0 := S0 (.cells #[.func (Fn.func 159) #[] #[.pointer (some ⟨RX, 0, none⟩)], .func (Fn.func sf) #[] sb] 263)
  generalize hW : World.alloc _ _ = W1 at *
  clear hW
  go_loopw [8] (fun i wr => ∃ k : Nat, i = .int .i64 (k : Int) ∧ k ≤ m ∧ SoW wr RB RX n r (swr f a b k) ∧ W1.grownBy wr (some RB)) (fun i _ => m - (intOf i).toNat)
  case atStart => exact ⟨0, rfl, Nat.zero_le _, by rw [swr_zero]; exact S0, gb_refl _ _⟩
  case round =>
    obtain ⟨k, rfl, hk, hS, hg⟩ := hrel
    by_cases hlt2 : k < m
    · obtain ⟨W', hrun, hS', hg'⟩ := HW.out wr _ (a + k) (b + k) hS (by omega) (by omega) (by omega)
      rw [swr_step f a b k m hab hlt2] at hS'
      have c1 := gb_cell hg (by omega) b0
      have e1 : ((a + k : Nat) : Int) = (a : Int) + (k : Int) := by omega
      have e2 : ((b + k : Nat) : Int) = (b : Int) + (k : Int) := by omega
      rw [e1, e2] at hrun
      have G := gb_trans hg hg'
      clear e1 e2 b0 S0 hg hg' hS g0
      go_wp2
      go_roundw
      case rel => exact ⟨k + 1, by go_num, hlt2, hS', G⟩
      case measure => simp [intOf]; omega
    · obtain rfl : k = m := by omega
      go_wp2
      go_end0
      exact ⟨rfl, hS, gb_trans g0 hg⟩
def cLessC (lt : Nat → Nat → Bool) (RB RX n : Nat) (r : Nat → Rl) : Prop :=
  ∀ (W : World) (f : Nat → Nat) (i j : Nat), SoW W RB RX n r f → i < n → j < n →
    Calls Tryz.prog 159 #[.int .i64 (i : Int), .int .i64 (j : Int), .pointer (some ⟨RX, 0, none⟩)] W fun e w' => e = .returned (.bool (lt (f i) (f j))) ∧ Below W.heap.size W w'
abbrev cboxO (RX sf : Nat) (sb : Array Value) : Obj := .cells #[.func (Fn.func 159) #[] #[.pointer (some ⟨RX, 0, none⟩)], .func (Fn.func sf) #[] sb] 263
theorem rot_any (hsw : cSwapC sf sb RB RX n r) (hn : n ≤ 1099511627776) (a m b : Nat) (ham : a < m) (hmb : m < b) (hbn : b ≤ n) (W : World) (f : Nat → Nat) (hS : SoW W RB RX n r f) :
    Calls Tryz.prog 248 #[cdatV RX sf sb, .int .i64 (a : Int), .int .i64 (m : Int), .int .i64 (b : Int)] W fun e w' => e = .returned (.tuple #[]) ∧ SoW w' RB RX n r (rot f a m b) ∧ Mv a b f (rot f a m b) ∧ W.grownBy w' (some RB) := by
  have HC := Lib.hid (fun (i j k : Nat) (W : World) (g : Nat → Nat) (h1 : i + k ≤ j) (h2 : j + k ≤ n) (hS : SoW W RB RX n r g) => swr_any hsw hn i j k h1 h2 W g hS)
  have hlt := hS.lt
  have S0 := hS.alloc (cboxO RX sf sb)
  clear hsw hS
  go_enter Tryz.func248, Tryz.ntmps248
  go_wp2
  have b0 : (W.alloc (cboxO RX sf sb)).cell? ⟨W.heap.size, 0, none⟩ = some (.func (Fn.func 159) #[] #[.pointer (some ⟨RX, 0, none⟩)]) := by simp
  have b1 : (W.alloc (cboxO RX sf sb)).cell? ⟨W.heap.size, 1, none⟩ = some (.func (Fn.func sf) #[] sb) := by simp
  have g0 : W.grownBy (W.alloc (cboxO RX sf sb)) (some RB) := gb_alloc _ _ _
  generalize hW : World.alloc _ _ = W1 at *
  clear hW
  go_loopw [8, 9] (fun i j wr => ∃ (p q : Nat) (h : Nat → Nat), i = .int .i64 (p : Int) ∧ j = .int .i64 (q : Int) ∧ (0 < p ∧ 0 < q ∧ a + p ≤ m ∧ m + q ≤ b) ∧ SoW wr RB RX n r h ∧ Hid (rot h (m - p) m (m + q) = rot f a m b) ∧ Mv a b f h ∧ W1.grownBy wr (some RB)) (fun i j _ => (intOf i).toNat + (intOf j).toNat)
  case atStart =>
    refine ⟨m - a, b - m, f, by simp; omega, by simp; omega, by omega, S0, Lib.hid ?_, .refl, gb_refl _ _⟩
    rw [show m - (m - a) = a by omega, show m + (b - m) = b by omega]
  case round =>
    obtain ⟨p, q, h, rfl, rfl, ⟨p0, q0, pm, qb⟩, hS, hr, hm, hg⟩ := hrel
    have c0 := gb_cell hg (by omega) b0
    have c1 := gb_cell hg (by omega) b1
    rcases Nat.lt_trichotomy p q with hpq | hpq | hpq
    · have C := HC.out (m - p) (m + q - p) p wr h (by omega) (by omega) hS
      have e1 : ((m - p : Nat) : Int) = (m : Int) - (p : Int) := by omega
      have e2 : ((m + q - p : Nat) : Int) = (m : Int) + (q : Int) - (p : Int) := by omega
      rw [e1, e2] at C
      have M1 : Mv a b h (swr h (m - p) (m + q - p) p) := swr_mv _ _ _ _ _ _ (by omega) (by omega) (by omega)
      have R1 := Lib.hid (rot_less h m p q (by omega) hpq p0)
      have e3 : ((p : Int) != (q : Int)) = true := by simp; omega
      have e4 : ¬ (q : Int) < (p : Int) := by omega
      clear e1 e2 S0 b0 b1
      go_wp2_with (go_at_call 256; refine C.mono ?_; rintro e w2 ⟨rfl, hS2, hg2⟩)
      go_roundw
      case rel =>
        have G := gb_trans hg hg2
        clear C c0 c1 hg hg2 e3 e4 HC hS
        refine ⟨p, q - p, _, rfl, ?_, ⟨p0, by omega, pm, by omega⟩, hS2, Lib.hid (R1.out.trans hr.out), hm.trans M1, G⟩
        simp; omega
      case measure => simp [intOf]; omega
    · subst hpq
      have C := HC.out (m - p) m p wr h (by omega) (by omega) hS
      have e1 : ((m - p : Nat) : Int) = (m : Int) - (p : Int) := by omega
      rw [e1] at C
      have M1 : Mv a b h (swr h (m - p) m p) := swr_mv _ _ _ _ _ _ (by omega) (by omega) (by omega)
      have R1 := Lib.hid (rot_even h m p (by omega))
      have e3 : ((p : Int) != (p : Int)) = false := by simp
      clear e1 S0 b0 b1
      go_wp2_with (go_at_call 256; refine C.mono ?_; rintro e w2 ⟨rfl, hS2, hg2⟩)
      go_end0
      rw [R1.out, hr.out] at hS2 M1
      exact ⟨rfl, hS2, hm.trans M1, gb_trans g0 (gb_trans hg hg2)⟩
    · have C := HC.out (m - p) m q wr h (by omega) (by omega) hS
      have e1 : ((m - p : Nat) : Int) = (m : Int) - (p : Int) := by omega
      rw [e1] at C
      have M1 : Mv a b h (swr h (m - p) m q) := swr_mv _ _ _ _ _ _ (by omega) (by omega) (by omega)
      have R1 := Lib.hid (rot_more h m p q (by omega) hpq q0)
      have e3 : ((p : Int) != (q : Int)) = true := by simp; omega
      have e4 : (q : Int) < (p : Int) := by omega
      clear e1 S0 b0 b1
      go_wp2_with (go_at_call 256; refine C.mono ?_; rintro e w2 ⟨rfl, hS2, hg2⟩)
      go_roundw
      case rel =>
        have G := gb_trans hg hg2
        clear C c0 c1 hg hg2 e3 e4 HC hS
        refine ⟨p - q, q, _, ?_, rfl, ⟨by omega, q0, by omega, qb⟩, hS2, Lib.hid (R1.out.trans hr.out), hm.trans M1, G⟩
        simp; omega
      case measure => simp [intOf]; omega
theorem cins_any (O : Swo lt) (hsw : cSwapC sf sb RB RX n r) (hls : cLessC lt RB RX n r) (hn : n ≤ 1099511627776) (a b : Nat) (hab : a ≤ b) (hbn : b ≤ n) (W : World) (f : Nat → Nat) (hS : SoW W RB RX n r f) (hf : ∀ i j, a ≤ i → i < j → j < b → f i < f j) :
    Calls Tryz.prog 234 #[cdatV RX sf sb, .int .i64 (a : Int), .int .i64 (b : Int)] W fun e w' => e = .returned (.tuple #[]) ∧ (∃ g, SoW w' RB RX n r g ∧ Mv a b f g ∧ Srt lt a b g) ∧ W.grownBy w' (some RB) := by
  have HS := Lib.hid hsw
  have HL := Lib.hid hls
  have HF := Lib.hid hf
  have hlt := hS.lt
  have S0 := hS.alloc (cboxO RX sf sb)
  clear hsw hls hf hS
  go_enter Tryz.func234, Tryz.ntmps234
  go_wp2
  have b0 : (W.alloc (cboxO RX sf sb)).cell? ⟨W.heap.size, 0, none⟩ = some (.func (Fn.func 159) #[] #[.pointer (some ⟨RX, 0, none⟩)]) := by simp
  have b1 : (W.alloc (cboxO RX sf sb)).cell? ⟨W.heap.size, 1, none⟩ = some (.func (Fn.func sf) #[] sb) := by simp
  have g0 : W.grownBy (W.alloc (cboxO RX sf sb)) (some RB) := gb_alloc _ _ _
  generalize hW : World.alloc _ _ = W1 at *
  clear hW
  go_loopw [6] (fun i wr => ∃ (k : Nat) (g : Nat → Nat), i = .int .i64 (k : Int) ∧ (a + 1 ≤ k ∧ (k ≤ b ∨ k = a + 1)) ∧ SoW wr RB RX n r g ∧ Mv a (min k b) f g ∧ Srt lt a (min k b) g ∧ W1.grownBy wr (some RB)) (fun i _ => b - (intOf i).toNat)
  case atStart =>
    refine ⟨a + 1, f, by simp, by omega, S0, .refl, fun i j h1 h2 h3 => ?_, gb_refl _ _⟩
    omega
  case round =>
    obtain ⟨k, g, rfl, ⟨hk1, hk2⟩, hS, hm, hs, hg⟩ := hrel
    by_cases hkb : k < b
    · rw [show min k b = k by omega] at hm hs
      clear hk2 S0
      go_wp2
      go_loopw [7] (fun j wr => ∃ (q : Nat), j = .int .i64 (q : Int) ∧ (a ≤ q ∧ q ≤ k) ∧ SoW wr RB RX n r (ins g k q) ∧ Mv a (k + 1) g (ins g k q) ∧ Hid (∀ p, q ≤ p → p < k → lt (g k) (g p) = true) ∧ W1.grownBy wr (some RB)) (fun j _ => (intOf j).toNat)
      case atStart => exact ⟨k, rfl, by omega, by rw [ins_start]; exact hS, by rw [ins_start]; exact .refl, Lib.hid (fun p h1 h2 => by omega), hg⟩
      case round =>
        obtain ⟨q, rfl, ⟨hq1, hq2⟩, hS2, hm2, hlow, hg2⟩ := hrel
        have c0 := gb_cell hg2 (by omega) b0
        have c1 := gb_cell hg2 (by omega) b1
        have old : Hid (∀ p, a ≤ p → p < k → g p < g k) := Lib.hid (fun p h1 h2 => by
          obtain ⟨j, y1, y2, y3⟩ := hm.back p h1 h2
          rw [y3, hm.out k (by omega)]
          exact HF.out j k y1 y2 hkb)
        by_cases hqa : a < q
        · have e0 : (a : Int) < (q : Int) := by omega
          have C := HL.out wr (ins g k q) q (q - 1) hS2 (by omega) (by omega)
          have e1 : ((q - 1 : Nat) : Int) = (q : Int) - 1 := by omega
          have v1 : ins g k q q = g k := by unfold ins; rw [if_neg (by omega), if_pos rfl]
          have v2 : ins g k q (q - 1) = g (q - 1) := by unfold ins; rw [if_pos (by omega)]
          rw [e1, v1, v2] at C
          cases hl : lt (g k) (g (q - 1)) with
          | true =>
            rw [hl] at C
            have HLl := Lib.hid hl
            clear hl v1 v2
            have M2 := ins_step g k q (by omega) hq2 ▸ (Mv.xch q (q - 1) hm2 (by omega) (by omega) (by omega) (by omega))
            go_wp2_with (go_at_call 159; refine C.mono ?_; rintro e w2 ⟨rfl, kb⟩; obtain ⟨W', hrun, hS', hg'⟩ := HS.out w2 _ q (q - 1) (hS2.below kb) (by omega) (by omega) (by omega); rw [ins_step g k q (by omega) hq2] at hS'; rw [e1] at hrun; have d1 := celln kb c1; have d0 := celln kb c0; have G := gb_trans (gb_trans hg2 (gb_of kb)) hg'; clear c0 c1 C hS2 kb hg2 hm2 e1)
            go_roundw
            case rel =>
              refine ⟨q - 1, by simp; omega, by omega, hS', M2, Lib.hid (fun p h1 h2 => ?_), G⟩
              by_cases z : p = q - 1
              · rw [z]; exact HLl.out
              · exact hlow.out p (by omega) h2
            case measure => simp [intOf]; omega
          | false =>
            rw [hl] at C
            have HLl := Lib.hid hl
            clear hl v1 v2
            go_wp2_with (go_at_call 159; refine C.mono ?_; rintro e w2 ⟨rfl, kb⟩)
            go_roundw
            case rel =>
              refine ⟨k + 1, _, by go_num, by omega, hS2.below kb, ?_, ?_, gb_trans hg2 (gb_of kb)⟩
              · rw [show min (k + 1) b = k + 1 by omega]; exact (hm.mono (Nat.le_refl _) (by omega)).trans hm2
              · rw [show min (k + 1) b = k + 1 by omega]; exact ins_srt O hs (by omega) hq2 hlow.out (.inr ⟨HLl.out, old.out _ (by omega) (by omega)⟩)
            case measure => simp [intOf]; omega
        · have e0 : ¬ (a : Int) < (q : Int) := by omega
          go_wp2
          go_roundw
          case rel =>
            refine ⟨k + 1, _, by go_num, by omega, hS2, ?_, ?_, hg2⟩
            · rw [show min (k + 1) b = k + 1 by omega]; exact (hm.mono (Nat.le_refl _) (by omega)).trans hm2
            · rw [show min (k + 1) b = k + 1 by omega]; exact ins_srt O hs (by omega) hq2 hlow.out (.inl (by omega))
          case measure => simp [intOf]; omega
    · go_wp2
      go_end0
      rw [show min k b = b by omega] at hm hs
      exact ⟨rfl, ⟨g, hS, hm, hs⟩, gb_trans g0 hg⟩
theorem sym_left (O : Swo lt) (hsw : cSwapC sf sb RB RX n r) (hls : cLessC lt RB RX n r) (hn : n ≤ 1099511627776) (a b : Nat) (hbn : b ≤ n) (W : World) (f : Nat → Nat) (hS : SoW W RB RX n r f) (hM : Mrg lt a (a + 1) b f) :
    Calls Tryz.prog 235 #[cdatV RX sf sb, .int .i64 (a : Int), .int .i64 ((a + 1 : Nat) : Int), .int .i64 (b : Int)] W fun e w' => e = .returned (.tuple #[]) ∧ (∃ g, SoW w' RB RX n r g ∧ Mv a b f g ∧ Srt lt a b g) ∧ W.grownBy w' (some RB) := by
  have HS := Lib.hid hsw
  have HL := Lib.hid hls
  have HM := Lib.hid hM
  have hmb := hM.mb
  have hlt := hS.lt
  have S0 := hS.alloc (cboxO RX sf sb)
  clear hsw hls hM hS
  have e0 : ((a + 1 : Nat) : Int) = (a : Int) + 1 := by omega
  rw [e0]
  have ht : ((a : Int) + 1 - (a : Int) == 1) = true := by simp; omega
  go_enter Tryz.func235, Tryz.ntmps235
  go_wp2
  have b0 : (W.alloc (cboxO RX sf sb)).cell? ⟨W.heap.size, 0, none⟩ = some (.func (Fn.func 159) #[] #[.pointer (some ⟨RX, 0, none⟩)]) := by simp
  have b1 : (W.alloc (cboxO RX sf sb)).cell? ⟨W.heap.size, 1, none⟩ = some (.func (Fn.func sf) #[] sb) := by simp
  have g0 : W.grownBy (W.alloc (cboxO RX sf sb)) (some RB) := gb_alloc _ _ _
  generalize hW : World.alloc _ _ = W1 at *
  clear hW
  go_loopw [8, 9] (fun i j wr => ∃ (p q : Nat), i = .int .i64 (p : Int) ∧ j = .int .i64 (q : Int) ∧ (a + 1 ≤ p ∧ p ≤ q ∧ q ≤ b) ∧ SoW wr RB RX n r f ∧ Hid (∀ k, a + 1 ≤ k → k < p → lt (f k) (f a) = true) ∧ Hid (∀ k, q ≤ k → k < b → lt (f k) (f a) = false) ∧ W1.grownBy wr (some RB)) (fun i j _ => (intOf j).toNat - (intOf i).toNat)
  case atStart => exact ⟨a + 1, b, by simp, rfl, by omega, S0, Lib.hid (fun k h1 h2 => by omega), Lib.hid (fun k h1 h2 => by omega), gb_refl _ _⟩
  case round =>
    obtain ⟨p, q, rfl, rfl, ⟨hp, hpq, hq⟩, hS, hlow, hup, hg⟩ := hrel
    have c0 := gb_cell hg (by omega) b0
    have c1 := gb_cell hg (by omega) b1
    clear S0
    by_cases hlt2 : p < q
    · have e1 : (p : Int) < (q : Int) := by omega
      have C := HL.out wr f ((p + q) / 2) a hS (by omega) (by omega)
      have e2 : (((p + q) / 2 : Nat) : Int) = ((p : Int) + (q : Int)) / 2 := by omega
      rw [e2] at C
      cases hl : lt (f ((p + q) / 2)) (f a) with
      | true =>
        rw [hl] at C
        have HLl := Lib.hid hl
        clear hl
        go_wp2_with (go_at_call 159; refine C.mono ?_; rintro e w2 ⟨rfl, kb⟩)
        go_roundw
        case rel =>
          refine ⟨(p + q) / 2 + 1, q, by go_num, rfl, by omega, hS.below kb, Lib.hid (fun k h1 h2 => ?_), hup, gb_trans hg (gb_of kb)⟩
          exact mrg_low O HM.out (Nat.le_refl _) (by omega) h1 (by omega) (by omega) HLl.out
        case measure => simp [intOf]; omega
      | false =>
        rw [hl] at C
        have HLl := Lib.hid hl
        clear hl
        go_wp2_with (go_at_call 159; refine C.mono ?_; rintro e w2 ⟨rfl, kb⟩)
        go_roundw
        case rel =>
          refine ⟨p, (p + q) / 2, rfl, by go_num, by omega, hS.below kb, hlow, Lib.hid (fun k h1 h2 => ?_), gb_trans hg (gb_of kb)⟩
          exact mrg_up O HM.out (Nat.le_refl _) (by omega) (by omega) h1 h2 HLl.out
        case measure => simp [intOf]; omega
    · obtain rfl : p = q := by omega
      clear c0 c1
      go_wp2
      go_loopw [11] (fun i wr => ∃ (k : Nat), i = .int .i64 (k : Int) ∧ (a ≤ k ∧ k + 1 ≤ p) ∧ SoW wr RB RX n r (mvr f a k) ∧ Mv a b f (mvr f a k) ∧ W1.grownBy wr (some RB)) (fun i _ => p - (intOf i).toNat)
      case atStart => exact ⟨a, rfl, by omega, by rw [mvr_start]; exact hS, by rw [mvr_start]; exact .refl, hg⟩
      case round =>
        obtain ⟨k, rfl, ⟨hk1, hk2⟩, hS2, hm2, hg2⟩ := hrel
        have c1 := gb_cell hg2 (by omega) b1
        by_cases hkp : k + 1 < p
        · obtain ⟨W', hrun, hS', hg'⟩ := HS.out wr _ k (k + 1) hS2 (by omega) (by omega) (by omega)
          rw [mvr_step f a k hk1] at hS'
          have e3 : ((k + 1 : Nat) : Int) = (k : Int) + 1 := by omega
          rw [e3] at hrun
          have M2 := mvr_step f a k hk1 ▸ (Mv.xch k (k + 1) hm2 (by omega) (by omega) (by omega) (by omega))
          have G := gb_trans hg2 hg'
          have e4 : (k : Int) < (p : Int) - 1 := by omega
          clear hS2 hg2 hm2 e3
          go_wp2
          go_roundw
          case rel => exact ⟨k + 1, by go_num, by omega, hS', M2, G⟩
          case measure => simp [intOf]; omega
        · have e4 : ¬ (k : Int) < (p : Int) - 1 := by omega
          go_wp2
          refine bodyPost_ret (results_none rfl _ _ _) rfl ?_
          refine ⟨rfl, ⟨_, hS2, hm2, two_one_left O HM.out (i := p) hp hq hlow.out hup.out ?_ ?_ ?_⟩, gb_trans g0 hg2⟩
          · intro j h1 h2; unfold mvr; rw [if_neg (by omega), if_pos (by omega)]
          · unfold mvr; rw [if_neg (by omega), if_neg (by omega), if_pos (by omega)]
          · intro j h1 h2; unfold mvr; rw [if_neg (by omega), if_neg (by omega), if_neg (by omega)]
theorem sym_right (O : Swo lt) (hsw : cSwapC sf sb RB RX n r) (hls : cLessC lt RB RX n r) (hn : n ≤ 1099511627776) (a m : Nat) (ham : a + 1 < m) (hbn : m + 1 ≤ n) (W : World) (f : Nat → Nat) (hS : SoW W RB RX n r f) (hM : Mrg lt a m (m + 1) f) :
    Calls Tryz.prog 235 #[cdatV RX sf sb, .int .i64 (a : Int), .int .i64 (m : Int), .int .i64 ((m + 1 : Nat) : Int)] W fun e w' => e = .returned (.tuple #[]) ∧ (∃ g, SoW w' RB RX n r g ∧ Mv a (m + 1) f g ∧ Srt lt a (m + 1) g) ∧ W.grownBy w' (some RB) := by
  have HS := Lib.hid hsw
  have HL := Lib.hid hls
  have HM := Lib.hid hM
  have hlt := hS.lt
  have S0 := hS.alloc (cboxO RX sf sb)
  clear hsw hls hM hS
  have e0 : ((m + 1 : Nat) : Int) = (m : Int) + 1 := by omega
  rw [e0]
  have ht : ((m : Int) + 1 - (m : Int) == 1) = true := by simp; omega
  have hd : ((m : Int) - (a : Int) == 1) = false := by simp; omega
  go_enter Tryz.func235, Tryz.ntmps235
  go_wp2
  have b0 : (W.alloc (cboxO RX sf sb)).cell? ⟨W.heap.size, 0, none⟩ = some (.func (Fn.func 159) #[] #[.pointer (some ⟨RX, 0, none⟩)]) := by simp
  have b1 : (W.alloc (cboxO RX sf sb)).cell? ⟨W.heap.size, 1, none⟩ = some (.func (Fn.func sf) #[] sb) := by simp
  have g0 : W.grownBy (W.alloc (cboxO RX sf sb)) (some RB) := gb_alloc _ _ _
  generalize hW : World.alloc _ _ = W1 at *
  clear hW
  go_loopw [12, 13] (fun i j wr => ∃ (p q : Nat), i = .int .i64 (p : Int) ∧ j = .int .i64 (q : Int) ∧ (a ≤ p ∧ p ≤ q ∧ q ≤ m) ∧ SoW wr RB RX n r f ∧ Hid (∀ k, a ≤ k → k < p → lt (f m) (f k) = false) ∧ Hid (∀ k, q ≤ k → k < m → lt (f m) (f k) = true) ∧ W1.grownBy wr (some RB)) (fun i j _ => (intOf j).toNat - (intOf i).toNat)
  case atStart => exact ⟨a, m, rfl, rfl, by omega, S0, Lib.hid (fun k h1 h2 => by omega), Lib.hid (fun k h1 h2 => by omega), gb_refl _ _⟩
  case round =>
    obtain ⟨p, q, rfl, rfl, ⟨hp, hpq, hq⟩, hS, hlow, hup, hg⟩ := hrel
    have c0 := gb_cell hg (by omega) b0
    have c1 := gb_cell hg (by omega) b1
    clear S0
    by_cases hlt2 : p < q
    · have e1 : (p : Int) < (q : Int) := by omega
      have C := HL.out wr f m ((p + q) / 2) hS (by omega) (by omega)
      have e2 : (((p + q) / 2 : Nat) : Int) = ((p : Int) + (q : Int)) / 2 := by omega
      rw [e2] at C
      cases hl : lt (f m) (f ((p + q) / 2)) with
      | true =>
        rw [hl] at C
        have HLl := Lib.hid hl
        clear hl
        go_wp2_with (go_at_call 159; refine C.mono ?_; rintro e w2 ⟨rfl, kb⟩)
        go_roundw
        case rel =>
          refine ⟨p, (p + q) / 2, rfl, by go_num, by omega, hS.below kb, hlow, Lib.hid (fun k h1 h2 => ?_), gb_trans hg (gb_of kb)⟩
          exact mrg_lefyes O HM.out (by omega) h1 h2 (Nat.le_refl _) (Nat.lt_succ_self m) HLl.out
        case measure => simp [intOf]; omega
      | false =>
        rw [hl] at C
        have HLl := Lib.hid hl
        clear hl
        go_wp2_with (go_at_call 159; refine C.mono ?_; rintro e w2 ⟨rfl, kb⟩)
        go_roundw
        case rel =>
          refine ⟨(p + q) / 2 + 1, q, by go_num, rfl, by omega, hS.below kb, Lib.hid (fun k h1 h2 => ?_), hup, gb_trans hg (gb_of kb)⟩
          exact mrg_lefno O HM.out h1 (by omega) (by omega) (Nat.le_refl _) (Nat.lt_succ_self m) HLl.out
        case measure => simp [intOf]; omega
    · obtain rfl : p = q := by omega
      clear c0 c1
      go_wp2
      go_loopw [15] (fun i wr => ∃ (k : Nat), i = .int .i64 (k : Int) ∧ (p ≤ k ∧ k ≤ m) ∧ SoW wr RB RX n r (ins f m k) ∧ Mv a (m + 1) f (ins f m k) ∧ W1.grownBy wr (some RB)) (fun i _ => (intOf i).toNat)
      case atStart => exact ⟨m, rfl, by omega, by rw [ins_start]; exact hS, by rw [ins_start]; exact .refl, hg⟩
      case round =>
        obtain ⟨k, rfl, ⟨hk1, hk2⟩, hS2, hm2, hg2⟩ := hrel
        have c1 := gb_cell hg2 (by omega) b1
        by_cases hkp : p < k
        · obtain ⟨W', hrun, hS', hg'⟩ := HS.out wr _ k (k - 1) hS2 (by omega) (by omega) (by omega)
          rw [ins_step f m k (by omega) hk2] at hS'
          have e3 : ((k - 1 : Nat) : Int) = (k : Int) - 1 := by omega
          rw [e3] at hrun
          have M2 := ins_step f m k (by omega) hk2 ▸ (Mv.xch k (k - 1) hm2 (by omega) (by omega) (by omega) (by omega))
          have G := gb_trans hg2 hg'
          have e4 : (p : Int) < (k : Int) := by omega
          clear hS2 hg2 hm2 e3
          go_wp2
          go_roundw
          case rel => exact ⟨k - 1, by simp; omega, by omega, hS', M2, G⟩
          case measure => simp [intOf]; omega
        · obtain rfl : p = k := by omega
          have e4 : ¬ (p : Int) < (p : Int) := by omega
          go_wp2
          refine bodyPost_ret (results_none rfl _ _ _) rfl ?_
          refine ⟨rfl, ⟨_, hS2, hm2, two_one_right O HM.out (i := p) hp hq hlow.out hup.out ?_ ?_ ?_⟩, gb_trans g0 hg2⟩
          · intro j h1 h2; unfold ins; rw [if_pos h2]
          · unfold ins; rw [if_neg (by omega), if_pos rfl]
          · intro j h1 h2; unfold ins; rw [if_neg (by omega), if_neg (by omega), if_pos h2]
abbrev SymP (lt : Nat → Nat → Bool) (RB RX n sf : Nat) (sb : Array Value) (r : Nat → Rl) (a m b : Nat) (W : World) (f : Nat → Nat) : Prop :=
  Calls Tryz.prog 235 #[cdatV RX sf sb, .int .i64 (a : Int), .int .i64 (m : Int), .int .i64 (b : Int)] W fun e w' => e = .returned (.tuple #[]) ∧ (∃ g, SoW w' RB RX n r g ∧ Mv a b f g ∧ Srt lt a b g) ∧ W.grownBy w' (some RB)
set_option maxHeartbeats 1000000 in
theorem sym_both (O : Swo lt) (hsw : cSwapC sf sb RB RX n r) (hls : cLessC lt RB RX n r) (hn : n ≤ 1099511627776) (a m b mid : Nat) (ham : a + 1 < m) (hmb : m + 1 < b) (hbn : b ≤ n) (hmid : (a + b) / 2 = mid)
    (ih : ∀ (a' m' b' : Nat) (W : World) (f : Nat → Nat), b' - a' < b - a → b' ≤ n → SoW W RB RX n r f → Mrg lt a' m' b' f → SymP lt RB RX n sf sb r a' m' b' W f)
    (W : World) (f : Nat → Nat) (hS : SoW W RB RX n r f) (hM : Mrg lt a m b f) : SymP lt RB RX n sf sb r a m b W f := by
  have HR := Lib.hid (fun (s e : Nat) (W : World) (g : Nat → Nat) (h1 : s < m) (h2 : m < e) (h3 : e ≤ n) (hS : SoW W RB RX n r g) => rot_any hsw hn s m e h1 h2 h3 W g hS)
  have HL := Lib.hid hls
  have HI := Lib.hid ih
  have HM := Lib.hid hM
  have hlt := hS.lt
  have S0 := hS.alloc (cboxO RX sf sb)
  clear hsw hls hM hS ih
  have hd1 : ((m : Int) - (a : Int) == 1) = false := by simp; omega
  have hd2 : ((b : Int) - (m : Int) == 1) = false := by simp; omega
  have em : ((a : Int) + (b : Int)) / 2 = (mid : Int) := by omega
  obtain ⟨lo, hi, hb, hcase⟩ : ∃ lo hi : Nat, Hid (lo ≤ hi ∧ hi ≤ m ∧ hi ≤ mid ∧ a ≤ lo ∧ mid + m ≤ b + lo ∧ (lo = a ∨ mid + m = b + lo) ∧ (hi = m ∨ hi = mid)) ∧ ((mid < m ∧ (lo : Int) = (mid : Int) + (m : Int) - (b : Int) ∧ hi = mid) ∨ (¬ mid < m ∧ lo = a ∧ hi = m)) := by
    by_cases h : mid < m
    · exact ⟨mid + m - b, mid, Lib.hid (by omega), .inl ⟨h, by omega, rfl⟩⟩
    · exact ⟨a, m, Lib.hid (by omega), .inr ⟨h, rfl, rfl⟩⟩
  rcases hcase with ⟨hc, hlo, hhi⟩ | ⟨hc, hlo, hhi⟩
  · have hc1 : (mid : Int) < (m : Int) := by omega
    go_enter Tryz.func235, Tryz.ntmps235
    go_wp2_with fail
    have b0 : (W.alloc (cboxO RX sf sb)).cell? ⟨W.heap.size, 0, none⟩ = some (.func (Fn.func 159) #[] #[.pointer (some ⟨RX, 0, none⟩)]) := by simp
    have b1 : (W.alloc (cboxO RX sf sb)).cell? ⟨W.heap.size, 1, none⟩ = some (.func (Fn.func sf) #[] sb) := by simp
    have g0 : W.grownBy (W.alloc (cboxO RX sf sb)) (some RB) := gb_alloc _ _ _
    generalize hW : World.alloc _ _ = W1 at *
    clear hW
    go_loopw [18, 19] (fun i j wr => ∃ (s q : Nat), i = .int .i64 (s : Int) ∧ j = .int .i64 (q : Int) ∧ (lo ≤ s ∧ s ≤ q ∧ q ≤ hi) ∧ SoW wr RB RX n r f ∧ Hid (s = lo ∨ lt (f (mid + m - s)) (f (s - 1)) = false) ∧ Hid (q = hi ∨ lt (f (mid + m - q - 1)) (f q) = true) ∧ W1.grownBy wr (some RB)) (fun i j _ => (intOf j).toNat - (intOf i).toNat)
    case atStart => exact ⟨lo, hi, by simp; omega, by simp; omega, by have := hb.out; omega, S0, Lib.hid (.inl rfl), Lib.hid (.inl rfl), gb_refl _ _⟩
    case round =>
      obtain ⟨s, q, rfl, rfl, ⟨hs, hsq, hq⟩, hS, hone, htwo, hg⟩ := hrel
      have c0 := gb_cell hg (by omega) b0
      have c1 := gb_cell hg (by omega) b1
      clear S0
      by_cases hlt2 : s < q
      · have e1 : (s : Int) < (q : Int) := by omega
        have hb2 := hb.out
        have C := HL.out wr f (mid + m - 1 - (s + q) / 2) ((s + q) / 2) hS (by omega) (by omega)
        have e2 : (((s + q) / 2 : Nat) : Int) = ((s : Int) + (q : Int)) / 2 := by omega
        have e3 : ((mid + m - 1 - (s + q) / 2 : Nat) : Int) = (mid : Int) + (m : Int) - 1 - ((s : Int) + (q : Int)) / 2 := by omega
        rw [e3, e2] at C
        clear hb2
        cases hl : lt (f (mid + m - 1 - (s + q) / 2)) (f ((s + q) / 2)) with
        | true =>
          rw [hl] at C
          have HLl := Lib.hid hl
          clear hl
          go_wp2_with (go_at_call 159; refine C.mono ?_; rintro e w2 ⟨rfl, kb⟩)
          go_roundw
          case rel =>
            refine ⟨s, (s + q) / 2, rfl, by go_num, by omega, hS.below kb, hone, Lib.hid (.inr ?_), gb_trans hg (gb_of kb)⟩
            have h := HLl.out
            rw [show mid + m - 1 - (s + q) / 2 = mid + m - (s + q) / 2 - 1 by omega] at h; exact h
          case measure => simp [intOf]; omega
        | false =>
          rw [hl] at C
          have HLl := Lib.hid hl
          clear hl
          go_wp2_with (go_at_call 159; refine C.mono ?_; rintro e w2 ⟨rfl, kb⟩)
          go_roundw
          case rel =>
            refine ⟨(s + q) / 2 + 1, q, by go_num, rfl, by omega, hS.below kb, Lib.hid (.inr ?_), htwo, gb_trans hg (gb_of kb)⟩
            have h := HLl.out
            rw [show mid + m - 1 - (s + q) / 2 = mid + m - ((s + q) / 2 + 1) by omega] at h; exact h
          case measure => simp [intOf]; omega
      · obtain rfl : s = q := by omega
        obtain ⟨e, he⟩ : ∃ e : Nat, e = mid + m - s := ⟨_, rfl⟩
        have CUT : Hid (Cut lt a m b mid s e f) := Lib.hid (by
          have hb2 := hb.out
          refine ⟨by omega, by omega, by omega, by omega, by omega, by omega, by omega, ?_, ?_⟩
          · rcases hone.out with h | h
            · omega
            · exact .inr (.inr (by rw [he]; exact h))
          · rcases htwo.out with h | h
            · omega
            · exact .inr (.inr (by rw [he]; exact h)))
        have hcs : a ≤ s ∧ s ≤ m ∧ m ≤ e ∧ e ≤ b ∧ s ≤ mid ∧ mid ≤ e := ⟨CUT.out.as_, CUT.out.sm, CUT.out.me, CUT.out.eb, CUT.out.smid, CUT.out.mide⟩
        have ee : (e : Int) = (mid : Int) + (m : Int) - (s : Int) := by omega
        have B0 := b0
        have B1 := b1
        clear c0 c1 hone htwo hb hlo hhi hs hq he b0 b1
        go_upto_region 40 with fail
        go_cut [145] from 138 to 145 (fun c wx => ∃ t : Bool, c = .bool t ∧ Hid (t = decide (s < m ∧ m < e)) ∧ wx = wr)
        case first =>
          rcases (by omega : (s < m ∧ m < e) ∨ ¬ s < m ∨ (s < m ∧ ¬ m < e)) with ⟨x, y⟩ | x | ⟨x, y⟩
          · have x1 : (s : Int) < (m : Int) := by omega
            have y1 : (m : Int) < (mid : Int) + (m : Int) - (s : Int) := by omega
            go_wp2
            go_meet
            case rel => exact ⟨true, rfl, Lib.hid (decide_eq_true ⟨x, y⟩).symm, rfl⟩
          · have x1 : ¬ (s : Int) < (m : Int) := by omega
            go_wp2
            go_meet
            case rel => exact ⟨false, rfl, Lib.hid (decide_eq_false (fun z => x z.1)).symm, rfl⟩
          · have x1 : (s : Int) < (m : Int) := by omega
            have y1 : ¬ (m : Int) < (mid : Int) + (m : Int) - (s : Int) := by omega
            go_wp2
            go_meet
            case rel => exact ⟨false, rfl, Lib.hid (decide_eq_false (fun z => y z.2)).symm, rfl⟩
        case rest =>
        obtain ⟨t, rfl, ht, rfl⟩ := hcut
        go_upto_if 145 with fail
        go_cut [] from 146 to 150 (fun wx => ∃ g, Hid (Rotd f g s m e) ∧ SoW wx RB RX n r g ∧ Mv a b f g ∧ W1.grownBy wx (some RB))
        case first =>
          have c0 := gb_cell hg (by omega) B0
          have c1 := gb_cell hg (by omega) B1
          cases t
          · have x : ¬ (s < m ∧ m < e) := of_decide_eq_false ht.out.symm
            go_wp2
            go_meet
            case rel => exact ⟨f, Lib.hid (rotd_none (by omega) (by omega) (by omega)), hS, .refl, hg⟩
          · have x : s < m ∧ m < e := of_decide_eq_true ht.out.symm
            have C := HR.out s e _ f x.1 x.2 (by omega) hS
            rw [ee] at C
            go_wp2_with (go_at_call 248; refine C.mono ?_; rintro e' w2 ⟨rfl, hS2, hm2, hg2⟩)
            go_meet
            case rel => exact ⟨_, Lib.hid (fun k => rfl), hS2, hm2.mono (by omega) (by omega), gb_trans hg hg2⟩
        case rest =>
        obtain ⟨g, hrot, hS1, hm1, hg1⟩ := hcut
        clear hS hg
        go_upto_region 42 with fail
        go_cut [158] from 151 to 158 (fun c wx => ∃ t : Bool, c = .bool t ∧ Hid (t = decide (a < s ∧ s < mid)) ∧ wx = wc)
        case first =>
          rcases (by omega : (a < s ∧ s < mid) ∨ ¬ a < s ∨ (a < s ∧ ¬ s < mid)) with ⟨x, y⟩ | x | ⟨x, y⟩
          · have x1 : (a : Int) < (s : Int) := by omega
            have y1 : (s : Int) < (mid : Int) := by omega
            go_wp2
            go_meet
            case rel => exact ⟨true, rfl, Lib.hid (decide_eq_true ⟨x, y⟩).symm, rfl⟩
          · have x1 : ¬ (a : Int) < (s : Int) := by omega
            go_wp2
            go_meet
            case rel => exact ⟨false, rfl, Lib.hid (decide_eq_false (fun z => x z.1)).symm, rfl⟩
          · have x1 : (a : Int) < (s : Int) := by omega
            have y1 : ¬ (s : Int) < (mid : Int) := by omega
            go_wp2
            go_meet
            case rel => exact ⟨false, rfl, Lib.hid (decide_eq_false (fun z => y z.2)).symm, rfl⟩
        case rest =>
        obtain ⟨t, rfl, ht, rfl⟩ := hcut
        go_upto_if 158 with fail
        go_cut [] from 159 to 163 (fun wx => ∃ g1, SoW wx RB RX n r g1 ∧ Mv a mid g g1 ∧ Srt lt a mid g1 ∧ W1.grownBy wx (some RB))
        case first =>
          have c0 := gb_cell hg1 (by omega) B0
          have c1 := gb_cell hg1 (by omega) B1
          have H1 := Lib.hid (half_one HM.out CUT.out hrot.out)
          cases t
          · have x : ¬ (a < s ∧ s < mid) := of_decide_eq_false ht.out.symm
            go_wp2
            go_meet
            case rel => exact ⟨g, hS1, .refl, H1.out.2 (by omega), hg1⟩
          · have x : a < s ∧ s < mid := of_decide_eq_true ht.out.symm
            have C := HI.out a s mid _ g (by omega) (by omega) hS1 (H1.out.1 x.1 x.2)
            go_wp2_with (go_at_call 235; refine C.mono ?_; rintro e' w2 ⟨rfl, ⟨g1, hS2, hm2, hs2⟩, hg2⟩)
            go_meet
            case rel => exact ⟨g1, hS2, hm2, hs2, gb_trans hg1 hg2⟩
        case rest =>
        obtain ⟨g1, hS2, hm2, hs2, hg2⟩ := hcut
        clear hS1 hg1
        have same : Hid (∀ k, mid ≤ k → k < b → g1 k = g k) := Lib.hid (fun k h1 h2 => hm2.out k (by omega))
        have END : Hid (∀ g2, Mv mid b g1 g2 → Srt lt mid b g2 → Mv a b f g2 ∧ Srt lt a b g2) := Lib.hid (fun g2 h1 h2 => ⟨(hm1.trans (hm2.mono (by omega) (by omega))).trans (h1.mono (by omega) (by omega)), halves O HM.out CUT.out hrot.out hm2 hs2 h1 h2⟩)
        go_upto_region 44 with fail
        go_cut [171] from 164 to 171 (fun c wx => ∃ t : Bool, c = .bool t ∧ Hid (t = decide (mid < e ∧ e < b)) ∧ wx = wc)
        case first =>
          rcases (by omega : (mid < e ∧ e < b) ∨ ¬ mid < e ∨ (mid < e ∧ ¬ e < b)) with ⟨x, y⟩ | x | ⟨x, y⟩
          · have x1 : (mid : Int) < (mid : Int) + (m : Int) - (s : Int) := by omega
            have y1 : (mid : Int) + (m : Int) - (s : Int) < (b : Int) := by omega
            go_wp2
            go_meet
            case rel => exact ⟨true, rfl, Lib.hid (decide_eq_true ⟨x, y⟩).symm, rfl⟩
          · have x1 : ¬ (mid : Int) < (mid : Int) + (m : Int) - (s : Int) := by omega
            go_wp2
            go_meet
            case rel => exact ⟨false, rfl, Lib.hid (decide_eq_false (fun z => x z.1)).symm, rfl⟩
          · have x1 : (mid : Int) < (mid : Int) + (m : Int) - (s : Int) := by omega
            have y1 : ¬ (mid : Int) + (m : Int) - (s : Int) < (b : Int) := by omega
            go_wp2
            go_meet
            case rel => exact ⟨false, rfl, Lib.hid (decide_eq_false (fun z => y z.2)).symm, rfl⟩
        case rest =>
        obtain ⟨t, rfl, ht, rfl⟩ := hcut
        have c0 := gb_cell hg2 (by omega) B0
        have c1 := gb_cell hg2 (by omega) B1
        have H2 := Lib.hid (half_two HM.out CUT.out hrot.out)
        cases t
        · have x : ¬ (mid < e ∧ e < b) := of_decide_eq_false ht.out.symm
          go_wp2
          go_end0
          exact ⟨rfl, ⟨g1, hS2, END.out g1 .refl ((H2.out.2 (by omega)).same same.out)⟩, gb_trans g0 hg2⟩
        · have x : mid < e ∧ e < b := of_decide_eq_true ht.out.symm
          have M2 := H2.out.1 x.1 x.2
          have C := HI.out mid e b _ g1 (by omega) (by omega) hS2 ⟨M2.am, M2.mb, M2.left.same (fun k h1 h2 => same.out k h1 (by omega)), M2.right.same (fun k h1 h2 => same.out k (by omega) h2), fun i j h1 h2 h3 h4 => by rw [same.out i h1 (by omega), same.out j (by omega) h4]; exact M2.old i j h1 h2 h3 h4⟩
          rw [SymP, ee] at C
          clear M2
          go_wp2_with (go_at_call 235; refine C.mono ?_; rintro e' w2 ⟨rfl, ⟨g2, hS3, hm3, hs3⟩, hg3⟩)
          go_end0
          exact ⟨rfl, ⟨g2, hS3, END.out g2 hm3 hs3⟩, gb_trans g0 (gb_trans hg2 hg3)⟩
  · have hc1 : ¬ (mid : Int) < (m : Int) := by omega
    go_enter Tryz.func235, Tryz.ntmps235
    go_wp2_with fail
    have b0 : (W.alloc (cboxO RX sf sb)).cell? ⟨W.heap.size, 0, none⟩ = some (.func (Fn.func 159) #[] #[.pointer (some ⟨RX, 0, none⟩)]) := by simp
    have b1 : (W.alloc (cboxO RX sf sb)).cell? ⟨W.heap.size, 1, none⟩ = some (.func (Fn.func sf) #[] sb) := by simp
    have g0 : W.grownBy (W.alloc (cboxO RX sf sb)) (some RB) := gb_alloc _ _ _
    generalize hW : World.alloc _ _ = W1 at *
    clear hW
    go_loopw [18, 19] (fun i j wr => ∃ (s q : Nat), i = .int .i64 (s : Int) ∧ j = .int .i64 (q : Int) ∧ (lo ≤ s ∧ s ≤ q ∧ q ≤ hi) ∧ SoW wr RB RX n r f ∧ Hid (s = lo ∨ lt (f (mid + m - s)) (f (s - 1)) = false) ∧ Hid (q = hi ∨ lt (f (mid + m - q - 1)) (f q) = true) ∧ W1.grownBy wr (some RB)) (fun i j _ => (intOf j).toNat - (intOf i).toNat)
    case atStart => exact ⟨lo, hi, by simp; omega, by simp; omega, by have := hb.out; omega, S0, Lib.hid (.inl rfl), Lib.hid (.inl rfl), gb_refl _ _⟩
    case round =>
      obtain ⟨s, q, rfl, rfl, ⟨hs, hsq, hq⟩, hS, hone, htwo, hg⟩ := hrel
      have c0 := gb_cell hg (by omega) b0
      have c1 := gb_cell hg (by omega) b1
      clear S0
      by_cases hlt2 : s < q
      · have e1 : (s : Int) < (q : Int) := by omega
        have hb2 := hb.out
        have C := HL.out wr f (mid + m - 1 - (s + q) / 2) ((s + q) / 2) hS (by omega) (by omega)
        have e2 : (((s + q) / 2 : Nat) : Int) = ((s : Int) + (q : Int)) / 2 := by omega
        have e3 : ((mid + m - 1 - (s + q) / 2 : Nat) : Int) = (mid : Int) + (m : Int) - 1 - ((s : Int) + (q : Int)) / 2 := by omega
        rw [e3, e2] at C
        clear hb2
        cases hl : lt (f (mid + m - 1 - (s + q) / 2)) (f ((s + q) / 2)) with
        | true =>
          rw [hl] at C
          have HLl := Lib.hid hl
          clear hl
          go_wp2_with (go_at_call 159; refine C.mono ?_; rintro e w2 ⟨rfl, kb⟩)
          go_roundw
          case rel =>
            refine ⟨s, (s + q) / 2, rfl, by go_num, by omega, hS.below kb, hone, Lib.hid (.inr ?_), gb_trans hg (gb_of kb)⟩
            have h := HLl.out
            rw [show mid + m - 1 - (s + q) / 2 = mid + m - (s + q) / 2 - 1 by omega] at h; exact h
          case measure => simp [intOf]; omega
        | false =>
          rw [hl] at C
          have HLl := Lib.hid hl
          clear hl
          go_wp2_with (go_at_call 159; refine C.mono ?_; rintro e w2 ⟨rfl, kb⟩)
          go_roundw
          case rel =>
            refine ⟨(s + q) / 2 + 1, q, by go_num, rfl, by omega, hS.below kb, Lib.hid (.inr ?_), htwo, gb_trans hg (gb_of kb)⟩
            have h := HLl.out
            rw [show mid + m - 1 - (s + q) / 2 = mid + m - ((s + q) / 2 + 1) by omega] at h; exact h
          case measure => simp [intOf]; omega
      · obtain rfl : s = q := by omega
        obtain ⟨e, he⟩ : ∃ e : Nat, e = mid + m - s := ⟨_, rfl⟩
        have CUT : Hid (Cut lt a m b mid s e f) := Lib.hid (by
          have hb2 := hb.out
          refine ⟨by omega, by omega, by omega, by omega, by omega, by omega, by omega, ?_, ?_⟩
          · rcases hone.out with h | h
            · omega
            · exact .inr (.inr (by rw [he]; exact h))
          · rcases htwo.out with h | h
            · omega
            · exact .inr (.inr (by rw [he]; exact h)))
        have hcs : a ≤ s ∧ s ≤ m ∧ m ≤ e ∧ e ≤ b ∧ s ≤ mid ∧ mid ≤ e := ⟨CUT.out.as_, CUT.out.sm, CUT.out.me, CUT.out.eb, CUT.out.smid, CUT.out.mide⟩
        have ee : (e : Int) = (mid : Int) + (m : Int) - (s : Int) := by omega
        have B0 := b0
        have B1 := b1
        clear c0 c1 hone htwo hb hlo hhi hs hq he b0 b1
        go_upto_region 40 with fail
        go_cut [145] from 138 to 145 (fun c wx => ∃ t : Bool, c = .bool t ∧ Hid (t = decide (s < m ∧ m < e)) ∧ wx = wr)
        case first =>
          rcases (by omega : (s < m ∧ m < e) ∨ ¬ s < m ∨ (s < m ∧ ¬ m < e)) with ⟨x, y⟩ | x | ⟨x, y⟩
          · have x1 : (s : Int) < (m : Int) := by omega
            have y1 : (m : Int) < (mid : Int) + (m : Int) - (s : Int) := by omega
            go_wp2
            go_meet
            case rel => exact ⟨true, rfl, Lib.hid (decide_eq_true ⟨x, y⟩).symm, rfl⟩
          · have x1 : ¬ (s : Int) < (m : Int) := by omega
            go_wp2
            go_meet
            case rel => exact ⟨false, rfl, Lib.hid (decide_eq_false (fun z => x z.1)).symm, rfl⟩
          · have x1 : (s : Int) < (m : Int) := by omega
            have y1 : ¬ (m : Int) < (mid : Int) + (m : Int) - (s : Int) := by omega
            go_wp2
            go_meet
            case rel => exact ⟨false, rfl, Lib.hid (decide_eq_false (fun z => y z.2)).symm, rfl⟩
        case rest =>
        obtain ⟨t, rfl, ht, rfl⟩ := hcut
        go_upto_if 145 with fail
        go_cut [] from 146 to 150 (fun wx => ∃ g, Hid (Rotd f g s m e) ∧ SoW wx RB RX n r g ∧ Mv a b f g ∧ W1.grownBy wx (some RB))
        case first =>
          have c0 := gb_cell hg (by omega) B0
          have c1 := gb_cell hg (by omega) B1
          cases t
          · have x : ¬ (s < m ∧ m < e) := of_decide_eq_false ht.out.symm
            go_wp2
            go_meet
            case rel => exact ⟨f, Lib.hid (rotd_none (by omega) (by omega) (by omega)), hS, .refl, hg⟩
          · have x : s < m ∧ m < e := of_decide_eq_true ht.out.symm
            have C := HR.out s e _ f x.1 x.2 (by omega) hS
            rw [ee] at C
            go_wp2_with (go_at_call 248; refine C.mono ?_; rintro e' w2 ⟨rfl, hS2, hm2, hg2⟩)
            go_meet
            case rel => exact ⟨_, Lib.hid (fun k => rfl), hS2, hm2.mono (by omega) (by omega), gb_trans hg hg2⟩
        case rest =>
        obtain ⟨g, hrot, hS1, hm1, hg1⟩ := hcut
        clear hS hg
        go_upto_region 42 with fail
        go_cut [158] from 151 to 158 (fun c wx => ∃ t : Bool, c = .bool t ∧ Hid (t = decide (a < s ∧ s < mid)) ∧ wx = wc)
        case first =>
          rcases (by omega : (a < s ∧ s < mid) ∨ ¬ a < s ∨ (a < s ∧ ¬ s < mid)) with ⟨x, y⟩ | x | ⟨x, y⟩
          · have x1 : (a : Int) < (s : Int) := by omega
            have y1 : (s : Int) < (mid : Int) := by omega
            go_wp2
            go_meet
            case rel => exact ⟨true, rfl, Lib.hid (decide_eq_true ⟨x, y⟩).symm, rfl⟩
          · have x1 : ¬ (a : Int) < (s : Int) := by omega
            go_wp2
            go_meet
            case rel => exact ⟨false, rfl, Lib.hid (decide_eq_false (fun z => x z.1)).symm, rfl⟩
          · have x1 : (a : Int) < (s : Int) := by omega
            have y1 : ¬ (s : Int) < (mid : Int) := by omega
            go_wp2
            go_meet
            case rel => exact ⟨false, rfl, Lib.hid (decide_eq_false (fun z => y z.2)).symm, rfl⟩
        case rest =>
        obtain ⟨t, rfl, ht, rfl⟩ := hcut
        go_upto_if 158 with fail
        go_cut [] from 159 to 163 (fun wx => ∃ g1, SoW wx RB RX n r g1 ∧ Mv a mid g g1 ∧ Srt lt a mid g1 ∧ W1.grownBy wx (some RB))
        case first =>
          have c0 := gb_cell hg1 (by omega) B0
          have c1 := gb_cell hg1 (by omega) B1
          have H1 := Lib.hid (half_one HM.out CUT.out hrot.out)
          cases t
          · have x : ¬ (a < s ∧ s < mid) := of_decide_eq_false ht.out.symm
            go_wp2
            go_meet
            case rel => exact ⟨g, hS1, .refl, H1.out.2 (by omega), hg1⟩
          · have x : a < s ∧ s < mid := of_decide_eq_true ht.out.symm
            have C := HI.out a s mid _ g (by omega) (by omega) hS1 (H1.out.1 x.1 x.2)
            go_wp2_with (go_at_call 235; refine C.mono ?_; rintro e' w2 ⟨rfl, ⟨g1, hS2, hm2, hs2⟩, hg2⟩)
            go_meet
            case rel => exact ⟨g1, hS2, hm2, hs2, gb_trans hg1 hg2⟩
        case rest =>
        obtain ⟨g1, hS2, hm2, hs2, hg2⟩ := hcut
        clear hS1 hg1
        have same : Hid (∀ k, mid ≤ k → k < b → g1 k = g k) := Lib.hid (fun k h1 h2 => hm2.out k (by omega))
        have END : Hid (∀ g2, Mv mid b g1 g2 → Srt lt mid b g2 → Mv a b f g2 ∧ Srt lt a b g2) := Lib.hid (fun g2 h1 h2 => ⟨(hm1.trans (hm2.mono (by omega) (by omega))).trans (h1.mono (by omega) (by omega)), halves O HM.out CUT.out hrot.out hm2 hs2 h1 h2⟩)
        go_upto_region 44 with fail
        go_cut [171] from 164 to 171 (fun c wx => ∃ t : Bool, c = .bool t ∧ Hid (t = decide (mid < e ∧ e < b)) ∧ wx = wc)
        case first =>
          rcases (by omega : (mid < e ∧ e < b) ∨ ¬ mid < e ∨ (mid < e ∧ ¬ e < b)) with ⟨x, y⟩ | x | ⟨x, y⟩
          · have x1 : (mid : Int) < (mid : Int) + (m : Int) - (s : Int) := by omega
            have y1 : (mid : Int) + (m : Int) - (s : Int) < (b : Int) := by omega
            go_wp2
            go_meet
            case rel => exact ⟨true, rfl, Lib.hid (decide_eq_true ⟨x, y⟩).symm, rfl⟩
          · have x1 : ¬ (mid : Int) < (mid : Int) + (m : Int) - (s : Int) := by omega
            go_wp2
            go_meet
            case rel => exact ⟨false, rfl, Lib.hid (decide_eq_false (fun z => x z.1)).symm, rfl⟩
          · have x1 : (mid : Int) < (mid : Int) + (m : Int) - (s : Int) := by omega
            have y1 : ¬ (mid : Int) + (m : Int) - (s : Int) < (b : Int) := by omega
            go_wp2
            go_meet
            case rel => exact ⟨false, rfl, Lib.hid (decide_eq_false (fun z => y z.2)).symm, rfl⟩
        case rest =>
        obtain ⟨t, rfl, ht, rfl⟩ := hcut
        have c0 := gb_cell hg2 (by omega) B0
        have c1 := gb_cell hg2 (by omega) B1
        have H2 := Lib.hid (half_two HM.out CUT.out hrot.out)
        cases t
        · have x : ¬ (mid < e ∧ e < b) := of_decide_eq_false ht.out.symm
          go_wp2
          go_end0
          exact ⟨rfl, ⟨g1, hS2, END.out g1 .refl ((H2.out.2 (by omega)).same same.out)⟩, gb_trans g0 hg2⟩
        · have x : mid < e ∧ e < b := of_decide_eq_true ht.out.symm
          have M2 := H2.out.1 x.1 x.2
          have C := HI.out mid e b _ g1 (by omega) (by omega) hS2 ⟨M2.am, M2.mb, M2.left.same (fun k h1 h2 => same.out k h1 (by omega)), M2.right.same (fun k h1 h2 => same.out k (by omega) h2), fun i j h1 h2 h3 h4 => by rw [same.out i h1 (by omega), same.out j (by omega) h4]; exact M2.old i j h1 h2 h3 h4⟩
          rw [SymP, ee] at C
          clear M2
          go_wp2_with (go_at_call 235; refine C.mono ?_; rintro e' w2 ⟨rfl, ⟨g2, hS3, hm3, hs3⟩, hg3⟩)
          go_end0
          exact ⟨rfl, ⟨g2, hS3, END.out g2 hm3 hs3⟩, gb_trans g0 (gb_trans hg2 hg3)⟩
theorem mul_gap {s p q : Nat} (hp : s ∣ p) (hq : s ∣ q) (h1 : p < q) : p + s ≤ q := by
  obtain ⟨x, rfl⟩ := hp
  obtain ⟨y, rfl⟩ := hq
  have hxy : x + 1 ≤ y := by
    by_cases h : x + 1 ≤ y
    · exact h
    · have := Nat.mul_le_mul_left s (show y ≤ x by omega); omega
  have := Nat.mul_le_mul_left s hxy
  rw [Nat.mul_add, Nat.mul_one] at this
  exact this
theorem two_dvd {s q : Nat} (h : 2 * s ∣ q) : s ∣ q := Nat.dvd_trans (Nat.dvd_mul_left s 2) h
theorem dvd_more {s p : Nat} (h : s ∣ p) : s ∣ p + s := Nat.dvd_add h (Nat.dvd_refl s)
theorem dvd_more2 {s p : Nat} (h : 2 * s ∣ p) : 2 * s ∣ p + 2 * s := Nat.dvd_add h (Nat.dvd_refl _)
abbrev Bd (s p q : Nat) : Prop := s ∣ q ∧ (q ≤ p → 2 * s ∣ q)
theorem bd_start (s q : Nat) (h : 0 < q) : s ∣ q ↔ Bd s 0 q := ⟨fun x => ⟨x, fun y => by omega⟩, fun x => x.1⟩
theorem bd_step {s p q : Nat} (h0 : 0 < s) (hp : 2 * s ∣ p) : (Bd s p q ∧ ¬ (p < q ∧ q < p + 2 * s)) ↔ Bd s (p + 2 * s) q := by
  constructor
  · rintro ⟨⟨h1, h2⟩, h3⟩
    refine ⟨h1, fun h => ?_⟩
    by_cases c : q ≤ p
    · exact h2 c
    · rw [show q = p + 2 * s by omega]; exact dvd_more2 hp
  · rintro ⟨h1, h2⟩
    refine ⟨⟨h1, fun h => h2 (by omega)⟩, fun ⟨x, y⟩ => ?_⟩
    have := mul_gap hp (h2 (by omega)) x
    omega
theorem bd_pair {s p q : Nat} (h0 : 0 < s) (hp : 2 * s ∣ p) (h1 : p < q) (h2 : q < p + 2 * s) (h3 : q ≠ p + s) : ¬ Bd s p q := by
  rintro ⟨x, _⟩
  have g1 := mul_gap (two_dvd hp) x h1
  have g2 := mul_gap (dvd_more (two_dvd hp)) x (by omega)
  omega
theorem bd_end {s p q n : Nat} (h0 : 0 < s) (hp : 2 * s ∣ p) (hn : n < p + 2 * s) (hq : q < n) : (Bd s p q ∧ ¬ (p < q ∧ q < n)) ↔ 2 * s ∣ q := by
  constructor
  · rintro ⟨⟨h1, h2⟩, h3⟩
    exact h2 (by omega)
  · intro h
    refine ⟨⟨two_dvd h, fun _ => h⟩, fun ⟨x, y⟩ => ?_⟩
    have := mul_gap hp h x
    omega
theorem bd_last {s p q n : Nat} (h0 : 0 < s) (hp : 2 * s ∣ p) (hn : n ≤ p + s) (hq : q < n) : Bd s p q ↔ 2 * s ∣ q := by
  constructor
  · rintro ⟨h1, h2⟩
    by_cases c : q ≤ p
    · exact h2 c
    · have := mul_gap (two_dvd hp) h1 (by omega); omega
  · exact fun h => ⟨two_dvd h, fun _ => h⟩
theorem sym_any (O : Swo lt) (hsw : cSwapC sf sb RB RX n r) (hls : cLessC lt RB RX n r) (hn : n ≤ 1099511627776) : ∀ (N a m b : Nat) (W : World) (f : Nat → Nat), b - a ≤ N → b ≤ n → SoW W RB RX n r f → Mrg lt a m b f → SymP lt RB RX n sf sb r a m b W f := by
  intro N
  induction N with
  | zero => intro a m b W f h _ _ hM; have := hM.am; have := hM.mb; omega
  | succ N ih =>
    intro a m b W f h hb hS hM
    have := hM.am; have := hM.mb
    by_cases c : m = a + 1
    · subst c; exact sym_left O hsw hls hn a b hb W f hS hM
    · by_cases d : b = m + 1
      · subst d; exact sym_right O hsw hls hn a m (by omega) hb W f hS hM
      · exact sym_both O hsw hls hn a m b _ (by omega) (by omega) hb rfl (fun a' m' b' W f h' h'' => ih a' m' b' W f (by omega) h'') W f hS hM
set_option maxHeartbeats 1000000 in
theorem stable_any (O : Swo lt) (hsw : cSwapC sf sb RB RX n r) (hls : cLessC lt RB RX n r) (hn : n ≤ 1099511627776) (W : World) (f : Nat → Nat) (hS : SoW W RB RX n r f) (hf : ∀ i j, i < j → j < n → f i < f j) :
    Calls Tryz.prog 192 #[cdatV RX sf sb, .int .i64 (n : Int)] W fun e w' => e = .returned (.tuple #[]) ∧ (∃ g, SoW w' RB RX n r g ∧ Mv 0 n f g ∧ Srt lt 0 n g) ∧ W.grownBy w' (some RB) := by
  have HI := Lib.hid (fun (a b : Nat) (W : World) (f : Nat → Nat) (hab : a ≤ b) (hbn : b ≤ n) (hS : SoW W RB RX n r f) (hf : ∀ i j, a ≤ i → i < j → j < b → f i < f j) => cins_any O hsw hls hn a b hab hbn W f hS hf)
  have HM := Lib.hid (fun (a m b : Nat) (W : World) (f : Nat → Nat) (hbn : b ≤ n) (hS : SoW W RB RX n r f) (hM : Mrg lt a m b f) => sym_any O hsw hls hn (b - a) a m b W f (Nat.le_refl _) hbn hS hM)
  have HF := Lib.hid hf
  have hlt := hS.lt
  have S0 := hS.alloc (cboxO RX sf sb)
  clear hsw hls hf hS
  go_enter Tryz.func192, Tryz.ntmps192
  go_wp2
  have b0 : (W.alloc (cboxO RX sf sb)).cell? ⟨W.heap.size, 0, none⟩ = some (.func (Fn.func 159) #[] #[.pointer (some ⟨RX, 0, none⟩)]) := by simp
  have b1 : (W.alloc (cboxO RX sf sb)).cell? ⟨W.heap.size, 1, none⟩ = some (.func (Fn.func sf) #[] sb) := by simp
  have g0 : W.grownBy (W.alloc (cboxO RX sf sb)) (some RB) := gb_alloc _ _ _
  generalize hW : World.alloc _ _ = W1 at *
  clear hW
  go_loopw [5, 6] (fun i j wr => ∃ (p : Nat) (g : Nat → Nat), i = .int .i64 (p : Int) ∧ j = .int .i64 ((p : Int) + 20) ∧ (p % 20 = 0 ∧ p ≤ n) ∧ SoW wr RB RX n r g ∧ Mv 0 n f g ∧ cBlk lt (fun q => q ≤ p → q % 20 = 0) n g ∧ W1.grownBy wr (some RB)) (fun i _ _ => n - (intOf i).toNat)
  case atStart => exact ⟨0, f, rfl, rfl, by omega, S0, .refl, cBlk.start (fun q h1 h2 h3 => by omega) HF.out, gb_refl _ _⟩
  case round =>
    obtain ⟨p, g, rfl, rfl, ⟨hp1, hp2⟩, hS, hm, hB, hg⟩ := hrel
    have c0 := gb_cell hg (by omega) b0
    have c1 := gb_cell hg (by omega) b1
    have inc : Hid (∀ i j, p ≤ i → i < j → j < n → g i < g j) := Lib.hid (fun i j h1 h2 h3 => (hB i j h2 h3).2 ⟨j, h2, Nat.le_refl _, fun x => by omega⟩)
    by_cases hpn : p + 20 ≤ n
    · have C := HI.out p (p + 20) wr g (by omega) hpn hS (fun i j h1 h2 h3 => inc.out i j h1 h2 (by omega))
      have e1 : ((p + 20 : Nat) : Int) = (p : Int) + 20 := by omega
      rw [e1] at C
      have x1 : (p : Int) + 20 ≤ (n : Int) := by omega
      have J := Lib.hid (fun (g2 : Nat → Nat) (h1 : Mv p (p + 20) g g2) (h2 : Srt lt p (p + 20) g2) => (hB.join (.inr (fun _ => hp1)) (.inr (fun x => by omega)) hpn h1 h2).iff (C := fun q => q ≤ p + 20 → q % 20 = 0) (fun q _ _ => by omega))
      clear S0 e1
      go_wp2_with (go_at_call 234; refine C.mono ?_; rintro e w2 ⟨rfl, ⟨g2, hS2, hm2, hs2⟩, hg2⟩)
      go_roundw
      case rel =>
        refine ⟨p + 20, g2, by go_num, by go_num, by omega, hS2, hm.trans (hm2.mono (by omega) (by omega)), J.out g2 hm2 hs2, gb_trans hg hg2⟩
      case measure => simp [intOf]; omega
    · have C := HI.out p n wr g hp2 (Nat.le_refl _) hS (fun i j h1 h2 h3 => inc.out i j h1 h2 h3)
      have x1 : ¬ (p : Int) + 20 ≤ (n : Int) := by omega
      have J := Lib.hid (fun (g2 : Nat → Nat) (h1 : Mv p n g g2) (h2 : Srt lt p n g2) => (hB.join (.inr (fun _ => hp1)) (.inl rfl) (Nat.le_refl _) h1 h2).iff (C := fun q => 20 ∣ q) (fun q _ _ => by omega))
      have B0 := b0
      have B1 := b1
      have G0 := g0
      clear S0
      go_wp2_with (go_at_call 234; refine C.mono ?_; rintro e w2 ⟨rfl, ⟨g2, hS2, hm2, hs2⟩, hg2⟩)
      have J2 := J.out g2 hm2 hs2
      have M2 := hm.trans (hm2.mono (by omega) (Nat.le_refl _))
      have G2 := gb_trans hg hg2
      clear J C c0 c1 hg hg2 hm2 hs2 hS hm hB inc b0 b1 g0 x1
      go_loopw [4] (fun i wr => ∃ (s : Nat) (g : Nat → Nat), i = .int .i64 (s : Int) ∧ (20 ≤ s ∧ s ≤ 2199023255552) ∧ SoW wr RB RX n r g ∧ Mv 0 n f g ∧ Hid (cBlk lt (fun q => s ∣ q) n g) ∧ W1.grownBy wr (some RB)) (fun i _ => n - (intOf i).toNat)
      case atStart => exact ⟨20, g2, rfl, by omega, hS2, M2, Lib.hid J2, G2⟩
      case round =>
        clear hS2 M2 J2 G2 hp1 hp2 hpn
        obtain ⟨s, g, rfl, ⟨hs1, hs2⟩, hS, hm, hB, hg⟩ := hrel
        by_cases hsn : s < n
        · have x1 : (s : Int) < (n : Int) := by omega
          go_wp2
          go_loopw [5, 6] (fun i j wr => ∃ (p : Nat) (g : Nat → Nat), i = .int .i64 (p : Int) ∧ j = .int .i64 ((p : Int) + 2 * (s : Int)) ∧ p ≤ n ∧ Hid (2 * s ∣ p) ∧ SoW wr RB RX n r g ∧ Mv 0 n f g ∧ Hid (cBlk lt (Bd s p) n g) ∧ W1.grownBy wr (some RB)) (fun i _ _ => n - (intOf i).toNat)
          case atStart => exact ⟨0, g, rfl, by simp, Nat.zero_le _, Lib.hid (Nat.dvd_zero _), hS, hm, Lib.hid (hB.out.iff (fun q h _ => bd_start s q h)), hg⟩
          case round =>
            clear hS hm hB hg
            obtain ⟨p, g, rfl, rfl, hpn, hp, hS, hm, hB, hg⟩ := hrel
            have c0 := gb_cell hg (by omega) B0
            have c1 := gb_cell hg (by omega) B1
            by_cases hb : p + 2 * s ≤ n
            · have C := HM.out p (p + s) (p + 2 * s) wr g hb hS (hB.out.pair (by omega) (by omega) hb ⟨dvd_more (two_dvd hp.out), fun h => by omega⟩ (fun q h1 h2 h3 => bd_pair (by omega) hp.out h1 h2 h3))
              have e1 : ((p + s : Nat) : Int) = (p : Int) + (s : Int) := by omega
              have e2 : ((p + 2 * s : Nat) : Int) = (p : Int) + 2 * (s : Int) := by omega
              rw [SymP, e1, e2] at C
              have x2 : (p : Int) + 2 * (s : Int) ≤ (n : Int) := by omega
              have J := Lib.hid (fun (g2 : Nat → Nat) (h1 : Mv p (p + 2 * s) g g2) (h2 : Srt lt p (p + 2 * s) g2) => (hB.out.join (.inr ⟨two_dvd hp.out, fun _ => hp.out⟩) (.inr ⟨two_dvd (dvd_more2 hp.out), fun h => by omega⟩) hb h1 h2).iff (C := Bd s (p + 2 * s)) (fun q _ _ => bd_step (by omega) hp.out))
              clear e1 e2
              go_wp2_with (go_at_call 235; refine C.mono ?_; rintro e w2 ⟨rfl, ⟨g2, hS2, hm2, hs2⟩, hg2⟩)
              go_roundw
              case rel =>
                refine ⟨p + 2 * s, g2, by go_num, by go_num, by omega, Lib.hid (dvd_more2 hp.out), hS2, hm.trans (hm2.mono (by omega) (by omega)), Lib.hid (J.out g2 hm2 hs2), gb_trans hg hg2⟩
              case measure => simp [intOf]; omega
            · have x2 : ¬ (p : Int) + 2 * (s : Int) ≤ (n : Int) := by omega
              by_cases hms : p + s < n
              · have C := HM.out p (p + s) n wr g (Nat.le_refl _) hS (hB.out.pair (by omega) hms (Nat.le_refl _) ⟨dvd_more (two_dvd hp.out), fun h => by omega⟩ (fun q h1 h2 h3 => bd_pair (by omega) hp.out h1 (by omega) h3))
                have e1 : ((p + s : Nat) : Int) = (p : Int) + (s : Int) := by omega
                rw [SymP, e1] at C
                have x3 : (p : Int) + (s : Int) < (n : Int) := by omega
                have J := Lib.hid (fun (g2 : Nat → Nat) (h1 : Mv p n g g2) (h2 : Srt lt p n g2) => (hB.out.join (.inr ⟨two_dvd hp.out, fun _ => hp.out⟩) (.inl rfl) (Nat.le_refl _) h1 h2).iff (C := fun q => 2 * s ∣ q) (fun q _ h => bd_end (by omega) hp.out (by omega) h))
                clear e1
                go_wp2_with (go_at_call 235; refine C.mono ?_; rintro e w2 ⟨rfl, ⟨g2, hS2, hm2, hs2⟩, hg2⟩)
                go_roundw
                case rel =>
                  refine ⟨2 * s, g2, by go_num, by omega, hS2, hm.trans (hm2.mono (by omega) (Nat.le_refl _)), Lib.hid (J.out g2 hm2 hs2), gb_trans hg hg2⟩
                case measure => simp [intOf]; omega
              · have x3 : ¬ (p : Int) + (s : Int) < (n : Int) := by omega
                go_wp2
                go_roundw
                case rel =>
                  refine ⟨2 * s, g, by go_num, by omega, hS, hm, Lib.hid (hB.out.iff (fun q _ h => bd_last (by omega) hp.out (by omega) h)), hg⟩
                case measure => simp [intOf]; omega
        · have x1 : ¬ (s : Int) < (n : Int) := by omega
          go_wp2
          go_end0
          exact ⟨rfl, ⟨g, hS, hm, hB.out.done (fun q h1 h2 h3 => by have := Nat.le_of_dvd h1 h3; omega)⟩, gb_trans G0 hg⟩
abbrev lessR (r : Nat → Rl) : Nat → Nat → Bool := fun x y => ls (lb (r x).p) (lb (r y).p)
theorem lessR_swo (r : Nat → Rl) : Swo (lessR r) where
  irr x := ls_irrefl _
  tr x y z h1 h2 := ls_trans _ _ _ h1 h2
  inc x y z h1 h2 := by
    cases h : ls (lb (r x).p) (lb (r z).p) with
    | false => exact h
    | true =>
      have h1 : ls (lb (r x).p) (lb (r y).p) = false := h1
      have h2 : ls (lb (r y).p) (lb (r z).p) = false := h2
      have t1 := ls_total (lb (r x).p) (lb (r y).p)
      have t2 := ls_total (lb (r y).p) (lb (r z).p)
      rw [h1] at t1
      rw [h2] at t2
      cases e1 : (lb (r x).p == lb (r y).p) with
      | true => rw [eq_of_beq e1] at h; rw [h] at h2; cases h2
      | false =>
        rw [e1] at t1
        simp at t1
        cases e2 : (lb (r y).p == lb (r z).p) with
        | true => rw [← eq_of_beq e2] at h; rw [h] at h1; cases h1
        | false =>
          rw [e2] at t2
          simp at t2
          have := ls_trans _ _ _ t2 t1
          rw [ls_asymm _ _ h] at this
          cases this
theorem cless1_any (RB RX n : Nat) (r : Nat → Rl) (hn : n ≤ 1099511627776) (hr : ∀ x, (r x).p.size ≤ 9223372036854775807) : cLessC (lessR r) RB RX n r := by
  intro W f i j hS hi hj
  have C := fun W => kless_any (r (f i)).p (r (f j)).p W (hr _) (hr _)
  have a1 := (hS.rows i hi).1.1
  have a2 := (hS.rows j hj).1.1
  have a3 := hS.var
  have i1 : (i : Int) < (n : Int) := by omega
  have j1 : (j : Int) < (n : Int) := by omega
  have i0 : (0 : Int) ≤ (i : Int) := by omega
  have j0 : (0 : Int) ≤ (j : Int) := by omega
  show Calls Tryz.prog 159 _ W fun e w' => e = .returned (.bool (ls (lb (r (f i)).p) (lb (r (f j)).p))) ∧ Below W.heap.size W w'
  generalize (r (f i)).p = x at *
  generalize (r (f j)).p = y at *
  clear hr hS
  go_enter Tryz.func159, Tryz.ntmps159
  go_wp2_with fail
  go_region_held3 (fun w' => w'.cell? ⟨RX, 0, none⟩ = some (.slice (some ⟨RB, 0, none⟩) n n) ∧ w'.cell? ⟨RB, i * 4, none⟩ = some (.string x) ∧ w'.cell? ⟨RB, j * 4, none⟩ = some (.string y) ∧ Below W.heap.size W w')
    (first | with_reducible exact ⟨dcell a3, dcell a1, dcell a2, (Below.refl _ W).drew⟩ | with_reducible exact ⟨a3, a1, a2, kb⟩)
    (first | (go_at_call 110; refine (C _).mono ?_; rintro e w2 ⟨rfl, kb⟩; replace a3 := celln kb (dcell a3); replace a1 := celln kb (dcell a1); replace a2 := celln kb (dcell a2); replace kb := kbq (Below.refl _ W).drew kb))
  go_wp2
  go_ret
  exact ⟨rfl, kb⟩
def cswK (n : Nat) : Nat := if n = 0 then 225 else if n = 1 then 226 else 233
noncomputable def cswB (RB n : Nat) : Array Value := if n ≤ 1 then #[] else #[.slice (some ⟨RB, 0, none⟩) n n, typeHandle Tryz.prog 79]
theorem infoRule : (Tryz.prog.info? 79).map (fun i => (i.size, i.hasPointers, i.bytes)) = some (4, true, 40) := by kernel_rfl
theorem infoRules : (Tryz.prog.info? 22).map (fun i => i.desc) = some (.slice 79) := by kernel_rfl
theorem kindRule (w : World) : (Extern.Rtype.kind 79).run Tryz.prog w = .ok 25 w := by kernel_rfl
theorem aggRule (w : World) : (isAgg 79).run Tryz.prog w = .ok true w := by kernel_rfl
theorem info_rule : ∃ ie, Tryz.prog.info? 79 = some ie ∧ ie.size = 4 ∧ ie.hasPointers = true ∧ ie.bytes = 40 := by
  have h := infoRule
  cases e : Tryz.prog.info? 79 with
  | none => rw [e] at h; cases h
  | some ie => rw [e] at h; simp at h; exact ⟨ie, rfl, h.1, h.2.1, h.2.2⟩
theorem info_rules : ∃ i, Tryz.prog.info? 22 = some i ∧ i.desc = .slice 79 := by
  have h := infoRules
  cases e : Tryz.prog.info? 22 with
  | none => rw [e] at h; cases h
  | some i => rw [e] at h; simp at h; exact ⟨i, rfl, h⟩
theorem csw_enters (args : Array Value) (W : World) : (callFunc 233 args).run Tryz.prog W = ((Extern.ReflectliteSwapper.swap false args).run Tryz.prog W).andThen fun v w' => .ok (.value v) w' :=
  run_callFunc_extern Tryz.func233 (by kernel_rfl) (by kernel_rfl) (by kernel_rfl) (e := Extern.ReflectliteSwapper.swap false) (by kernel_rfl) args W
theorem cswapC_any (RB RX n : Nat) (r : Nat → Rl) : cSwapC (cswK n) (cswB RB n) RB RX n r := by
  intro W f i j hS hi hj hij
  obtain ⟨ie, hie, z1, z2, z3⟩ := info_rule
  have e1 : cswK n = 233 := by unfold cswK; rw [if_neg (by omega), if_neg (by omega)]
  have e2 : cswB RB n = #[.slice (some ⟨RB, 0, none⟩) n n, typeHandle Tryz.prog 79] := by unfold cswB; rw [if_neg (by omega)]
  obtain ⟨s1, s2⟩ := hS.swap i j hi hj hij
  refine ⟨_, ?_, s1, s2⟩
  rw [e1, e2, csw_enters]
  have one : ∀ x : Rl, ∀ v ∈ x.cs, v.oneCell' = true := by
    intro x v hv
    simp only [List.mem_cons, List.not_mem_nil, or_false] at hv
    rcases hv with rfl | rfl | rfl | rfl <;> rfl
  have cel : ∀ k, k < n → ∀ (q : Nat) (v : Value), (r (f k)).cs[q]? = some v → W.cell? ⟨RB, 0 + k * ie.size + q, none⟩ = some v := by
    intro k hk q v hq
    obtain ⟨h0, h1, h2, h3⟩ := (hS.rows k hk).1
    rw [z1, Nat.zero_add]
    match q, hq with
    | 0, hq => simp at hq; subst hq; exact h0
    | 1, hq => simp at hq; subst hq; exact h1
    | 2, hq => simp at hq; subst hq; exact h2
    | 3, hq => simp at hq; subst hq; exact h3
    | q + 4, hq => simp at hq
  have fro : ∀ k, k < n → ∀ q, q < ie.size → W.frozen? ⟨RB, 0 + k * ie.size + q, none⟩ = false := by
    intro k hk q hq
    obtain ⟨h0, h1, h2, h3⟩ := (hS.rows k hk).2
    rw [z1] at hq
    rw [z1, Nat.zero_add]
    match q, hq with
    | 0, _ => exact h0
    | 1, _ => exact h1
    | 2, _ => exact h2
    | 3, _ => exact h3
  have R := Lib.run_swap_cells (P := Tryz.prog) false 79 ie hie aggRule RB 0 n n i j hi hj (r (f i)).cs (r (f j)).cs (by rw [z1]; rfl) (by rw [z1]; rfl) (one _) (one _) W (cel i hi) (cel j hj) (fro i hi) (fro j hj)
  rw [z1, Nat.zero_add, Nat.zero_add] at R
  rw [show (#[Value.int .i64 (i : Int), .int .i64 (j : Int)] ++ #[.slice (some ⟨RB, 0, none⟩) n n, typeHandle Tryz.prog 79] : Array Value) = #[.int .i64 i, .int .i64 j, .slice (some ⟨RB, 0, none⟩) n n, typeHandle Tryz.prog 79] from rfl, R]
  rfl
theorem cswk_is (ie : TypeInfo) (h : ie.hasPointers = true) (hb : ie.bytes = 40) (n : Nat) : Lib.swapperK n ie 25 = if n = 0 then 1 else if n = 1 then 2 else 9 := by
  unfold Lib.swapperK
  simp [h, hb]
theorem lit9 : Tryz.prog.funcs.findIdx? (·.name == "internal/reflectlite" ++ ".Swapper$" ++ toString 9) = some 233 := by kernel_rfl
theorem cswapper_run (RB n : Nat) (w : World) : (Extern.ReflectliteSwapper.swapper "internal/reflectlite" (Extern.ReflectliteValue.valueError "Swapper") #[.iface 22 (.slice (some ⟨RB, 0, none⟩) n n)]).run Tryz.prog w
      = .ok (.func (.func (cswK n)) #[] (cswB RB n)) w := by
  obtain ⟨ie, hie, z1, z2, z3⟩ := info_rule
  obtain ⟨i, hi, hd⟩ := info_rules
  have hk := cswk_is ie z2 z3 n
  have R := fun f hf => Lib.run_swapper_slice (P := Tryz.prog) 22 79 i ie hi hd hie 25 kindRule (some ⟨RB, 0, none⟩) n n f hf w
  rw [hk] at R
  unfold cswK cswB
  by_cases h0 : n = 0
  · rw [if_pos h0] at R ⊢
    rw [R _ lit1, if_pos (by omega), if_pos (by omega)]
  · by_cases h1 : n = 1
    · rw [if_neg h0, if_pos h1] at R
      rw [if_neg h0, if_pos h1, R _ lit2, if_pos (by omega), if_pos (by omega)]
    · rw [if_neg h0, if_neg h1] at R
      rw [if_neg h0, if_neg h1, R _ lit9, if_neg (by omega), if_neg (by omega)]
set_option maxHeartbeats 1000000 in
theorem ssl_any (RB RX n : Nat) (r : Nat → Rl) (hn : n ≤ 1099511627776) (hr : ∀ x, (r x).p.size ≤ 9223372036854775807) (W : World) (f : Nat → Nat) (hS : SoW W RB RX n r f) (hf : ∀ i j, i < j → j < n → f i < f j) :
    Calls Tryz.prog 158 #[.iface 22 (.slice (some ⟨RB, 0, none⟩) n n), .func (Fn.func 159) #[] #[.pointer (some ⟨RX, 0, none⟩)]] W fun e w' => e = .returned (.tuple #[]) ∧ (∃ g, SoW w' RB RX n r g ∧ Mv 0 n f g ∧ Srt (lessR r) 0 n g) ∧ W.grownBy w' (some RB) := by
  obtain ⟨i, hi, hd⟩ := info_rules
  have C := fun W' (h : SoW W' RB RX n r f) => stable_any (lessR_swo r) (cswapC_any RB RX n r) (cless1_any RB RX n r hn hr) hn W' f h hf
  have S1 := fun o o2 => (hS.alloc o).alloc o2
  have hv := Lib.run_valueOf_slice (P := Tryz.prog) 22 79 i hi hd (some ⟨RB, 0, none⟩) n n W
  have hs := fun w => cswapper_run RB n w
  have hl := fun a w ha => Lib.run_valueLen_slice (P := Tryz.prog) 22 79 i hi hd (by kernel_rfl) a (some ⟨RB, 0, none⟩) n n w ha
  unfold cdatV at C
  generalize cswK n = sf at *
  generalize cswB RB n = sb at *
  clear hS hi hd hf hr
  have hgs : Tryz.prog.globals.size = 0 := by kernel_rfl
  simp only [typeHandle, hgs] at hv hl
  go_enter Tryz.func158, Tryz.ntmps158
  go_wp2
  rw [run_callFunc_extern Tryz.func190 (by kernel_rfl) (by kernel_rfl) (by kernel_rfl) (e := fun args => Extern.ReflectliteValue.unpack (args.getD 0 (.tuple #[]))) (by kernel_rfl),
    show Sem.run Tryz.prog ((fun args : Array Value => Extern.ReflectliteValue.unpack (args.getD 0 (.tuple #[]))) #[.iface 22 (.slice (some ⟨RB, 0, none⟩) n n)]) W = _ from hv]
  simp only [Result.andThen]
  rw [Oper.upon_value]
  go_wp2
  rw [run_callFunc_extern Tryz.func191 (by kernel_rfl) (by kernel_rfl) (by kernel_rfl) (e := Extern.ReflectliteSwapper.swapper "internal/reflectlite" (Extern.ReflectliteValue.valueError "Swapper")) (by kernel_rfl), hs]
  simp only [Result.andThen]
  rw [Oper.upon_value]
  go_wp2
  rw [run_callFunc_extern Tryz.func193 (by kernel_rfl) (by kernel_rfl) (by kernel_rfl) (e := Extern.ReflectliteValue.method (Extern.ReflectliteValue.valueError "reflectlite.Value.Len" 0) Extern.ReflectliteValue.len) (by kernel_rfl),
    hl _ _ (by simp)]
  simp only [Result.andThen]
  rw [Oper.upon_value]
  go_wp2_with (go_at_call 192; refine (C _ (S1 _ _)).mono ?_; rintro e w' ⟨rfl, hR, hg⟩)
  go_end0
  exact ⟨rfl, hR, gb_trans (gb_trans (gb_alloc _ _ _) (gb_alloc _ _ _)) hg⟩
def Short (s : ByteArray) : Prop := (1 ≤ s.size ∧ s.size ≤ 12) ∧ (lb s).all (fun c => visB (c.toNat : Int)) = true
theorem small_words {xs : List ByteArray} (h : ∀ x ∈ xs, x.size ≤ 281474976710656) : ∀ x ∈ xs, x.size ≤ 9223372036854775807 := fun x hx => Nat.le_trans (h x hx) (by omega)
def Lim (xs : List ByteArray) : Prop := ∀ x ∈ xs, x.size ≤ 281474976710656
theorem Lim.at {xs : List ByteArray} (h : Lim xs) (k : Nat) : (xs.getD k nob).size ≤ 281474976710656 := by
  by_cases hk : k < xs.length
  · rw [List.getD_eq_getElem?_getD, List.getElem?_eq_getElem hk]; exact h _ (List.getElem_mem hk)
  · rw [List.getD_eq_getElem?_getD, List.getElem?_eq_none (by omega)]; decide
theorem cinfoStr : (Tryz.prog.info? 9).map (fun i => (i.zero, i.size, i.bytes)) = some (some (.string ⟨#[]⟩), 1, 16) := by kernel_rfl
theorem own_lt {w : World} {base : Nat} {v : Value} {xs : List ByteArray} (h : ORow w base v xs) : ∀ k, v.ownBlock = some k → base ≤ k := fun k hk => (h.lt k hk).1
theorem Own.fit {s : ByteArray} {E B : Nat} {k : Int} (h : Own s E B k) : sat ((E : Int) * (B : Int)) ≤ 4611686018427387904 ∧ sat ((E : Int) * (B : Int)) = (E : Int) * (B : Int) := by
  have h1 : E * B ≤ 4294967296 * 65536 := Nat.mul_le_mul h.e2 h.b2
  have h2 : ((E * B : Nat) : Int) = (E : Int) * (B : Int) := by simp
  have h3 : (E : Int) * (B : Int) ≤ 281474976710656 := by omega
  unfold sat
  rw [if_pos (by omega)]
  exact ⟨by omega, rfl⟩
theorem Own.right {s : ByteArray} {E B : Nat} {k : Int} (h : Own s E B k) : ruE s E B k = 0 := by
  have h1 := h.fit.1
  have := h.e1; have := h.b1; have := h.k1; have := h.k2
  rw [ru_is, h.pf, if_neg (by decide), if_neg (by omega), if_neg (by omega), if_neg (by omega), show isK k = true from decide_eq_true ⟨h.k1, h.k2⟩, if_neg (by decide)]
theorem ORow.below {w w' : World} {base : Nat} {v : Value} {xs : List ByteArray} (h : ORow w base v xs) (g : Below w.heap.size w w') : ORow w' base v xs := by
  obtain ⟨h1, h2⟩ := h
  refine ⟨h1, ?_⟩
  rcases h2 with h2 | ⟨gb, cap, cur, hv, hb, hg, h3⟩
  · exact .inl h2
  · exact .inr ⟨gb, cap, cur, hv, hb, (g.block _ (lt_heap hg)).trans hg, h3⟩
theorem sts_news {w : World} {b off m : Nat} {xs : List ByteArray} (h : Sts w (some ⟨b, off, none⟩) m xs) (hm : 0 < m) : ∀ j u, (tvs xs)[j]? = some u → w.cell? ((⟨b, off, none⟩ : Addr).add j) = some u := by
  intro j u hu
  obtain ⟨b', off', e, hb, hc⟩ := h.2.2 hm
  simp only [Option.some.injEq, Addr.mk.injEq, and_true] at e
  obtain ⟨rfl, rfl⟩ := e
  have hj : j < xs.length := by
    by_cases hj : j < xs.length
    · exact hj
    · rw [List.getElem?_eq_none (by simp; omega)] at hu; cases hu
  rw [Go.WideShapes.add_plain, hc j (by rw [← h.1]; exact hj), List.getD_eq_getElem?_getD, List.getElem?_eq_getElem hj]
  simpa [List.getElem?_map, List.getElem?_eq_getElem hj] using hu
theorem tvs_one (xs : List ByteArray) : ∀ u ∈ tvs xs, u.oneCell' = true := by
  intro u hu
  obtain ⟨x, _, rfl⟩ := List.mem_map.1 hu
  rfl
theorem ORow.rows {w : World} {base g N cap : Nat} {xs : List ByteArray} (h : ORow w base (.slice (some ⟨g, 0, none⟩) N cap) xs) (hl : Lim xs) : Sts w (some ⟨g, 0, none⟩) N xs ∧ xs.length = N ∧ N ≤ cap ∧ cap ≤ 9223372036854775807 := by
  obtain ⟨A, c, e, h1, h2, h3⟩ := h.sts (small_words hl)
  simp only [Value.slice.injEq] at e
  obtain ⟨rfl, rfl, rfl⟩ := e
  exact ⟨h3, rfl, h1, h2⟩
theorem fn_take {rs : List Rl} {k j : Nat} (h : j < k) : fnOf (rs.take k) j = fnOf rs j := by
  simp [fnOf, List.getD_eq_getElem?_getD, List.getElem?_take, if_pos h]
theorem fn_drop {rs : List Rl} {k j : Nat} : fnOf (rs.drop k) j = fnOf rs (k + j) := by
  simp [fnOf, List.getD_eq_getElem?_getD, List.getElem?_drop]
theorem fn_app1 {a b : List Rl} {k : Nat} (h : k < a.length) : fnOf (a ++ b) k = fnOf a k := by
  simp [fnOf, List.getD_eq_getElem?_getD, List.getElem?_append_left h]
theorem fn_app2 {a b : List Rl} {k : Nat} (h : a.length ≤ k) : fnOf (a ++ b) k = fnOf b (k - a.length) := by
  simp [fnOf, List.getD_eq_getElem?_getD, List.getElem?_append_right h]
theorem s4_of_block {w : World} {B o : Nat} {cs : Array Value} {t : TypeId} (h : w.heap[B]? = some (.cells cs t (0, 0))) : S4 w B o := by
  refine ⟨?_, ?_, ?_, ?_⟩ <;> (unfold World.frozen?; simp [h])
def OrdK (rs : List Rl) (m : Nat) (L : List Rl) : Prop :=
  L.length = m ∧ ∃ h : Nat → Nat, Mv 0 m id h ∧ Srt (lessR (fnOf rs)) 0 m h ∧ ∀ k, k < m → fnOf L k = fnOf rs (h k)
theorem OrdK.nil (rs : List Rl) : OrdK rs 0 [] := ⟨rfl, id, .refl, fun i j _ _ h => absurd h (Nat.not_lt_zero _), fun k h => absurd h (Nat.not_lt_zero _)⟩
theorem Mv.onto {a b : Nat} {f g : Nat → Nat} (x : Mv a b f g) : ∀ k, a ≤ k → k < b → ∃ j, a ≤ j ∧ j < b ∧ g j = f k := by
  induction x with
  | refl => exact fun k h1 h2 => ⟨k, h1, h2, rfl⟩
  | xch i j _ hi hib hj hjb ih =>
    intro k h1 h2
    obtain ⟨q, q1, q2, q3⟩ := ih k h1 h2
    by_cases c : q = i
    · refine ⟨j, hj, hjb, ?_⟩
      unfold Wd.xch
      by_cases d : j = i
      · rw [if_pos d, ← q3, c, d]
      · rw [if_neg d, if_pos rfl, ← q3, c]
    · by_cases d : q = j
      · refine ⟨i, hi, hib, ?_⟩
        unfold Wd.xch
        rw [if_pos rfl, ← q3, d]
      · refine ⟨q, q1, q2, ?_⟩
        unfold Wd.xch
        rw [if_neg c, if_neg d, q3]
theorem id_inj : Inj id := fun i j h => h
theorem srt_uniq {lt : Nat → Nat → Bool} (O : Swo lt) {n : Nat} {f g : Nat → Nat} (mf : Mv 0 n id f) (mg : Mv 0 n id g) (sf : Srt lt 0 n f) (sg : Srt lt 0 n g) : ∀ k, k < n → f k = g k := by
  intro k
  induction k using Nat.strongRecOn with
  | ind k ih =>
    intro hk
    obtain ⟨i0, a1, a2, a3⟩ := mf.back k (Nat.zero_le _) hk
    obtain ⟨j, b1, b2, b3⟩ := mg.onto i0 a1 a2
    have e1 : g j = f k := b3.trans a3.symm
    obtain ⟨i1, c1, c2, c3⟩ := mg.back k (Nat.zero_le _) hk
    obtain ⟨i, d1, d2, d3⟩ := mf.onto i1 c1 c2
    have e2 : f i = g k := d3.trans c3.symm
    have hj : k ≤ j := by
      by_cases h : j < k
      · have := ih j h (by omega)
        have := mf.inj id_inj j k (this.trans e1)
        omega
      · omega
    have hi : k ≤ i := by
      by_cases h : i < k
      · have := ih i h (by omega)
        have := mg.inj id_inj i k (this.symm.trans e2)
        omega
      · omega
    by_cases h1 : j = k
    · rw [← e1, h1]
    · by_cases h2 : i = k
      · rw [← e2, h2]
      · have x1 := sg k j (Nat.zero_le _) (by omega) b2
        have x2 := sf k i (Nat.zero_le _) (by omega) d2
        rw [e1] at x1
        rw [e2] at x2
        exact absurd x2 (fun x2 => x1.asy O x2)
theorem OrdK.step {rs L : List Rl} {m i : Nat} (h : OrdK rs m L) (hm : m < rs.length) (hi : i ≤ m) (hlow : ∀ k, i ≤ k → k < m → ls (lb (fnOf rs m).p) (lb (fnOf L k).p) = true) (hup : i = 0 ∨ ls (lb (fnOf rs m).p) (lb (fnOf L (i - 1)).p) = false) :
    OrdK rs (m + 1) (L.take i ++ fnOf rs m :: L.drop i) := by
  obtain ⟨a1, f, mf, sf, ef⟩ := h
  have fm : f m = m := mf.out m (.inr (Nat.le_refl _))
  refine ⟨by simp; omega, ins f m i, ?_, ?_, ?_⟩
  · have mv : ∀ d, d ≤ m - i → Mv 0 (m + 1) id (ins f m (m - d)) := by
      intro d
      induction d with
      | zero => intro _; rw [Nat.sub_zero, ins_start]; exact mf.mono (Nat.le_refl _) (by omega)
      | succ d ih =>
        intro hd
        have := ins_step f m (m - d) (by omega) (by omega)
        rw [show m - (d + 1) = m - d - 1 by omega, ← this]
        exact .xch _ _ (ih (by omega)) (Nat.zero_le _) (by omega) (Nat.zero_le _) (by omega)
    have := mv (m - i) (Nat.le_refl _)
    rwa [show m - (m - i) = i by omega] at this
  · refine ins_srt (lessR_swo _) sf (Nat.zero_le _) hi (fun k h1 h2 => ?_) ?_
    · show ls (lb (fnOf rs (f m)).p) (lb (fnOf rs (f k)).p) = true
      rw [fm, ← ef k h2]; exact hlow k h1 h2
    · by_cases c : i = 0
      · exact .inl (by omega)
      · rcases hup with h | h
        · omega
        · refine .inr ⟨?_, ?_⟩
          · show ls (lb (fnOf rs (f m)).p) (lb (fnOf rs (f (i - 1))).p) = false
            rw [fm, ← ef (i - 1) (by omega)]; exact h
          · obtain ⟨j, x, y, z⟩ := mf.back (i - 1) (Nat.zero_le _) (by omega)
            rw [fm, z]; exact y
  · intro k hk
    unfold ins
    by_cases c : k < i
    · rw [if_pos c, fn_app1 (by simp; omega), fn_take c]; exact ef k (by omega)
    · rw [if_neg c]
      by_cases d : k = i
      · rw [if_pos d, fn_app2 (by simp; omega), fm]
        simp [fnOf, d, a1, Nat.min_eq_left hi]
      · rw [if_neg d, if_pos (by omega), fn_app2 (by simp; omega)]
        have e : k - (L.take i).length = (k - 1 - i) + 1 := by simp; omega
        rw [e]
        have e2 : fnOf (fnOf rs m :: L.drop i) (k - 1 - i + 1) = fnOf (L.drop i) (k - 1 - i) := by simp [fnOf]
        rw [e2, fn_drop, show i + (k - 1 - i) = k - 1 by omega]
        exact ef (k - 1) (by omega)
def posL (x : Rl) (l : List Rl) : Nat → Nat
  | 0 => 0
  | k + 1 => if ls (lb x.p) (lb (fnOf l k).p) = true then posL x l k else k + 1
theorem posL_le (x : Rl) (l : List Rl) : ∀ k, posL x l k ≤ k
  | 0 => Nat.le_refl _
  | k + 1 => by
    unfold posL
    split
    · have := posL_le x l k; omega
    · exact Nat.le_refl _
theorem posL_low (x : Rl) (l : List Rl) : ∀ k j, posL x l k ≤ j → j < k → ls (lb x.p) (lb (fnOf l j).p) = true
  | 0, j, _, h => absurd h (Nat.not_lt_zero _)
  | k + 1, j, h1, h2 => by
    unfold posL at h1
    split at h1
    · rename_i c
      by_cases e : j = k
      · rw [e]; exact c
      · exact posL_low x l k j h1 (by omega)
    · omega
theorem posL_up (x : Rl) (l : List Rl) : ∀ k, posL x l k = 0 ∨ ls (lb x.p) (lb (fnOf l (posL x l k - 1)).p) = false
  | 0 => .inl rfl
  | k + 1 => by
    unfold posL
    split
    · exact posL_up x l k
    · rename_i c
      exact .inr (by simpa using c)
def insL (x : Rl) (l : List Rl) : List Rl := l.take (posL x l l.length) ++ x :: l.drop (posL x l l.length)
def ordL (rs : List Rl) : List Rl := rs.foldl (fun l x => insL x l) []
theorem ordL_snoc (rs : List Rl) (x : Rl) : ordL (rs ++ [x]) = insL x (ordL rs) := by simp [ordL]
theorem ordK_take (rs : List Rl) : ∀ m, m ≤ rs.length → OrdK rs m (ordL (rs.take m)) := by
  intro m
  induction m with
  | zero => intro _; exact OrdK.nil rs
  | succ m ih =>
    intro h
    have e : rs.take (m + 1) = rs.take m ++ [fnOf rs m] := by
      rw [List.take_add_one, fn_at (by omega), List.getElem?_eq_getElem (by omega)]; rfl
    rw [e, ordL_snoc]
    have H := ih (by omega)
    have hl := H.1
    unfold insL
    rw [hl]
    exact H.step (by omega) (posL_le _ _ _) (posL_low _ _ _) (posL_up _ _ _)
theorem ordL_ord (rs : List Rl) : OrdK rs rs.length (ordL rs) := by
  have := ordK_take rs rs.length (Nat.le_refl _)
  rwa [List.take_length] at this
theorem ordL_length (rs : List Rl) : (ordL rs).length = rs.length := (ordL_ord rs).1
theorem ordL_mem (rs : List Rl) (x : Rl) : x ∈ ordL rs ↔ x ∈ rs := by
  obtain ⟨h1, f, mf, sf, ef⟩ := ordL_ord rs
  constructor
  · intro h
    obtain ⟨k, hk, e⟩ := List.getElem_of_mem h
    obtain ⟨j, _, b, c⟩ := mf.back k (Nat.zero_le _) (by omega)
    rw [← e, ← fn_at hk, ef k (by omega), c]
    exact fn_mem b
  · intro h
    obtain ⟨k, hk, e⟩ := List.getElem_of_mem h
    obtain ⟨j, _, b, c⟩ := mf.onto k (Nat.zero_le _) hk
    rw [← e, ← fn_at hk, show fnOf rs k = fnOf rs (f j) from by rw [c]; rfl, ← ef j b]
    exact fn_mem (by omega)
theorem ordL_ok {rs : List Rl} (h : ∀ r ∈ rs, Okr r) : ∀ r ∈ ordL rs, Okr r := fun r hr => h r ((ordL_mem rs r).1 hr)
theorem made_so {w : World} {base g n : Nat} (h : w.ownsRow base 79 4 (.slice (some ⟨g, 0, none⟩) n n) n (madeCells (Value.agg #[.string ⟨#[]⟩, .int .u64 0, .int .u64 0, .int .u8 0]).cells (n * 4)).toList) :
    g < w.heap.size ∧ ∀ k, k < n → R4 w g (k * 4) rl0 ∧ S4 w g (k * 4) := by
  obtain ⟨h1, h2⟩ := h
  rcases h2 with ⟨e, _⟩ | ⟨g', cap, cur, e, hb, hg, hc1, hc2, hsz, htk⟩
  · cases e
  · simp only [Value.slice.injEq, Option.some.injEq, Addr.mk.injEq, and_true, true_and] at e
    obtain ⟨rfl, rfl⟩ := e
    refine ⟨lt_heap hg, fun k hk => ⟨?_, s4_of_block hg⟩⟩
    have at_ : ∀ j, j < 4 → cur[k * 4 + j]? = some ((Value.agg #[.string ⟨#[]⟩, .int .u64 0, .int .u64 0, .int .u8 0]).cells[j]!) := by
      intro j hj
      have e : (cur.toList.take (n * 4))[k * 4 + j]? = (madeCells (Value.agg #[.string ⟨#[]⟩, .int .u64 0, .int .u64 0, .int .u8 0]).cells (n * 4)).toList[k * 4 + j]? := by rw [htk]
      rw [List.getElem?_take, if_pos (by omega)] at e
      have e2 : cur[k * 4 + j]? = cur.toList[k * 4 + j]? := by simp
      rw [e2, e]
      unfold madeCells
      have hlt : k * 4 + j < n * 4 := by omega
      simp [hlt]
      have : (k * 4 + j) % 4 = j := by omega
      simp [Value.cells, this]
    exact r4_of_block hg (at_ 0 (by omega)) (at_ 1 (by omega)) (at_ 2 (by omega)) (at_ 3 (by omega))
abbrev upTo (rs : List Rl) (k : Nat) : Nat → Rl := fun j => if j < k then fnOf rs j else rl0
theorem SoW.put {W : World} {RB RX n : Nat} {r : Nat → Rl} (h : SoW W RB RX n r id) (k : Nat) (hk : k < n) (x : Rl) : SoW (W.setCells RB (k * 4) x.cs) RB RX n (fun j => if j = k then x else r j) id := by
  have g := gb_sets W RB (k * 4) x
  refine ⟨Nat.lt_of_lt_of_le h.lt g.size, h.ne, gb_cell g h.ne h.var, fun j hj => ⟨?_, s4_put (h.rows j hj).2⟩⟩
  by_cases c : j = k
  · subst c
    simp only [id, if_true]
    exact r4_put (h.rows j hj).1 _
  · simp only [id, if_neg c]
    exact r4_far (h.rows j hj).1 (by omega)
theorem upTo_put (rs : List Rl) (k : Nat) : (fun j => if j = k then fnOf rs k else upTo rs k j) = upTo rs (k + 1) := by
  funext j
  unfold upTo
  by_cases c : j = k
  · subst c; rw [if_pos rfl, if_pos (by omega)]
  · rw [if_neg c]
    by_cases d : j < k
    · rw [if_pos d, if_pos (by omega)]
    · rw [if_neg d, if_neg (by omega)]
theorem SoW.cong {W : World} {RB RX n : Nat} {r s : Nat → Rl} {f : Nat → Nat} (h : SoW W RB RX n r f) (e : ∀ k, k < n → s (f k) = r (f k)) : SoW W RB RX n s f :=
  ⟨h.lt, h.ne, h.var, fun k hk => by rw [e k hk]; exact h.rows k hk⟩
theorem gn_below {w w' : World} (g : w.grownBy w' none) : Below w.heap.size w w' := ⟨g.os, g.tape, g.output, g.size, fun k hk => g.block k hk (fun e => by cases e)⟩
theorem gb_soft {w W : World} {B : Nat} (h : w.grownBy W (some B)) {b o : Nat} {v : Value} (hb : b ≠ B) (c : w.cell? ⟨b, o, none⟩ = some v) (f : w.frozen? ⟨b, o, none⟩ = false) : W.frozen? ⟨b, o, none⟩ = false :=
  (World.frozen?_of_block (w := w) (h.block b (cell_lt c) (fun e => hb (by injection e)))).trans f
theorem Rls.gb {w W : World} {B n : Nat} {A : Option Addr} {rs : List Rl} (h : Rls w A n rs) (g : Below w.heap.size w W) : Rls W A n rs := h.below g
theorem ordL_at {rs : List Rl} {g : Nat → Nat} (hm : Mv 0 rs.length id g) (hs : Srt (lessR (fnOf rs)) 0 rs.length g) : ∀ k, k < rs.length → fnOf (ordL rs) k = fnOf rs (g k) := by
  obtain ⟨h1, f, mf, sf, ef⟩ := ordL_ord rs
  intro k hk
  rw [ef k hk, srt_uniq (lessR_swo _) mf hm sf hs k hk]
theorem put_but (W : World) (b : Nat) (x y : Value) : W.grownBy ((W.setCell ⟨b, 0, none⟩ x).setCell ⟨b, 1, none⟩ y) (some b) := by
  refine ⟨rfl, rfl, rfl, ?_, fun k hk hn => ?_⟩
  · simp only [World.size_setCell]; exact Nat.le_refl _
  · have hk' : k ≠ b := fun e => hn (by rw [e])
    rw [Below.heap_setCell _ _ _ _ (fun e => hk' e), Below.heap_setCell _ _ _ _ (fun e => hk' e)]
set_option maxHeartbeats 1000000 in
theorem order_new (most : Int) (A : Option Addr) (n cap : Nat) (rs : List Rl) (w : World) (h : Rls w A n rs) (hn : n ≤ 1099511627776) :
    Calls Tryz.prog 109 #[.agg #[.int .i64 most, .slice A n cap]] w fun e w' => (∃ B, e = .returned (.agg #[.int .i64 most, .slice (some ⟨B, 0, none⟩) n n]) ∧ w.heap.size ≤ B ∧ Rls w' (some ⟨B, 0, none⟩) n (ordL rs)) ∧ Below w.heap.size w w' := by
  obtain ⟨i0, hi, hy0, hy1, hy2⟩ := info_parts zeroRule
  have H := Lib.hid h
  have hl := h.1
  clear h
  go_enter Tryz.func109, Tryz.ntmps109
  go_wp2_with (refine wpList_make_full _ rfl _ _ 22 rfl (w.heap.size + 2) 79 i0 _ 4 Tryz.underlying22 hi hy0 hy1 .i64 .i64 _ _ n rfl rfl rfl rfl (by rw [hy2]; omega) (by unfold maxLen; omega) (by simp) ?_; intro w1 hO1 g1; refine stopHere ?_)
  unfold Stop
  have k1 := gn_below g1
  have hM := Lib.hid (made_so hO1)
  have z1 : w.heap.size + 2 < w1.heap.size := by have := hM.out.1; simpa using this
  have bx0 : w1.cell? ⟨w.heap.size, 0, none⟩ = some (.int .i64 most) := celln k1 (by simp)
  have bx1 : w1.cell? ⟨w.heap.size, 1, none⟩ = some (.slice A n cap) := celln k1 (by simp)
  have rc0 : w1.cell? ⟨w.heap.size + 1, 0, none⟩ = some (.int .i64 0) := celln k1 (by simp)
  have rc1 : w1.cell? ⟨w.heap.size + 1, 1, none⟩ = some (.slice none 0 0) := celln k1 (by simp)
  have rf0 : w1.frozen? ⟨w.heap.size + 1, 0, none⟩ = false := (k1.frozen (p := ⟨w.heap.size + 1, 0, none⟩) (by simp)).trans (by simp)
  have rf1 : w1.frozen? ⟨w.heap.size + 1, 1, none⟩ = false := (k1.frozen (p := ⟨w.heap.size + 1, 1, none⟩) (by simp)).trans (by simp)
  have lt0 : w.heap.size < w1.heap.size := by omega
  have lt1 : w.heap.size + 1 < w1.heap.size := by omega
  go_wp2
  have kw : Below w.heap.size w w1 := (((Below.refl w.heap.size w).alloc (Nat.le_refl _) (.cells #[.int .i64 most, .slice A n cap] 24)).alloc (by simp) (.cells #[.int .i64 0, .slice none 0 0] 24)).trans (k1.mono (by simp; omega))
  have ka := (Below.refl w1.heap.size w1).alloc (Nat.le_refl _) (.cells #[.slice (some ⟨w.heap.size + 1 + 1, 0, none⟩) n n] 22)
  have S0 : SoW (w1.alloc (.cells #[.slice (some ⟨w.heap.size + 1 + 1, 0, none⟩) n n] 22)) (w.heap.size + 1 + 1) w1.heap.size n (upTo rs 0) id := by
    have hm := hM.out
    simp only [World.size_alloc] at hm
    refine ⟨by simp; omega, by omega, by simp, fun k hk => ?_⟩
    have e : upTo rs 0 (id k) = rl0 := by unfold upTo; rw [if_neg (Nat.not_lt_zero _)]
    rw [e]
    exact ⟨(hm.2 k hk).1.of_block (ka.block _ hm.1), (hm.2 k hk).2.of_block (ka.block _ hm.1)⟩
  replace bx0 := celln ka bx0
  replace bx1 := celln ka bx1
  replace rf0 := (ka.frozen (p := ⟨w.heap.size + 1, 0, none⟩) lt1).trans rf0
  replace rf1 := (ka.frozen (p := ⟨w.heap.size + 1, 1, none⟩) lt1).trans rf1
  replace rc0 := celln ka rc0
  replace rc1 := celln ka rc1
  replace kw := kw.alloc kw.size (.cells #[.slice (some ⟨w.heap.size + 1 + 1, 0, none⟩) n n] 22)
  have hRX : w.heap.size + 2 < w1.heap.size := z1
  generalize w1.heap.size = RX at *
  generalize hW : w1.alloc (.cells #[.slice (some ⟨w.heap.size + 1 + 1, 0, none⟩) n n] 22) = W1 at *
  clear hW hO1 g1 k1 hM ka lt0 lt1 z1 hi hy0 hy1 hy2
  go_loopw [13] (fun i wr => ∃ k : Nat, i = .int .i64 (k : Int) ∧ k ≤ n ∧ SoW wr (w.heap.size + 1 + 1) RX n (upTo rs k) id ∧ W1.grownBy wr (some (w.heap.size + 1 + 1))) (fun i _ => n - (intOf i).toNat)
  case atStart => exact ⟨0, rfl, Nat.zero_le _, S0, gb_refl _ _⟩
  case round =>
    obtain ⟨k, rfl, hk, hS, hg⟩ := hrel
    have q0 := gb_cell hg (by omega) bx0
    have q1 := gb_cell hg (by omega) bx1
    have hkw : Below w.heap.size w wr := kw.trans (gb_below hg (by omega) S0.lt)
    by_cases hkn : k < n
    · obtain ⟨b, off, rfl, hb, hc⟩ := H.out.2.2 (by omega)
      have ok := H.out.ok k
      obtain ⟨x0, x1, x2, x3⟩ := (hc k hkn).of_block (hkw.block b hb)
      have ku := upTo_put rs k
      generalize hX : fnOf rs k = x at *
      have HX := Lib.hid hX
      have i0 : (0 : Int) ≤ (k : Int) := by omega
      have i1 : (k : Int) < (n : Int) := by omega
      clear hc S0 bx0 bx1 rc0 rc1 rf0 rf1 kw hX
      go_wp2_with (go_at_call 69; refine stopHere ?_)
      unfold Stop
      refine (clone_any _ _ ok.p).mono ?_
      rintro e w2 ⟨rfl, kb⟩
      have y0 : w2.cell? ⟨wr.heap.size, 0, none⟩ = some (.string x.p) := celln kb (by simp)
      have y1 : w2.cell? ⟨wr.heap.size, 1, none⟩ = some (.int .u64 x.e) := celln kb (by simp)
      have y2 : w2.cell? ⟨wr.heap.size, 2, none⟩ = some (.int .u64 x.b) := celln kb (by simp)
      have y3 : w2.cell? ⟨wr.heap.size, 3, none⟩ = some (.int .u8 x.k) := celln kb (by simp)
      have f0 : w2.frozen? ⟨wr.heap.size, 0, none⟩ = false := (kb.frozen (p := ⟨wr.heap.size, 0, none⟩) (by simp)).trans (by simp)
      have B3 : Below wr.heap.size wr (w2.setCell ⟨wr.heap.size, 0, none⟩ (.string x.p)) := (((Below.refl _ wr).alloc (Nat.le_refl _) _).trans (kb.mono (by simp))).setCell (Nat.le_refl _) _
      go_upto_region 6 with fail
      replace y0 : (w2.setCell ⟨wr.heap.size, 0, none⟩ (.string x.p)).cell? ⟨wr.heap.size, 0, none⟩ = some (.string x.p) := World.cell?_setCell_same _ _ _ y0
      replace y1 := (cs_other w2 wr.heap.size 0 (.string x.p) wr.heap.size 1 (.inr (by omega))).trans y1
      replace y2 := (cs_other w2 wr.heap.size 0 (.string x.p) wr.heap.size 2 (.inr (by omega))).trans y2
      replace y3 := (cs_other w2 wr.heap.size 0 (.string x.p) wr.heap.size 3 (.inr (by omega))).trans y3
      generalize w2.setCell ⟨wr.heap.size, 0, none⟩ (.string x.p) = w3 at *
      have S3 := hS.below B3
      have v3 := S3.var
      obtain ⟨⟨c0, c1, c2, c3⟩, ⟨e0, e1, e2, e3⟩⟩ := S3.rows k hkn
      have P3 := Lib.hid (S3.put k hkn x)
      have G3 := Lib.hid (gb_trans (gb_trans hg (gb_of B3)) (gb_sets w3 (w.heap.size + 1 + 1) (k * 4) x))
      rw [ku] at P3
      clear f0 kb hS hg q0 q1 B3 hkw x0 x1 x2 x3
      go_wp2
      go_roundw
      case rel => exact ⟨k + 1, by go_num, hkn, P3.out, G3.out⟩
      case measure => simp [intOf]; omega
    · obtain rfl : k = n := by omega
      have S1 : SoW wr (w.heap.size + 1 + 1) RX k (fnOf rs) id := hS.cong (fun j hj => by unfold upTo; rw [if_pos (show id j < k from hj)])
      have C := ssl_any (w.heap.size + 1 + 1) RX k (fnOf rs) hn (fun x => by have := (H.out.ok x).p; omega) wr id S1 (fun i j h _ => h)
      have v1 := S1.var
      have B1 := kw.trans (gb_below hg (by omega) S0.lt)
      have t0 := gb_soft hg (by omega) rc0 rf0
      have t1 := gb_soft hg (by omega) rc1 rf1
      replace rc0 := gb_cell hg (by omega) rc0
      replace rc1 := gb_cell hg (by omega) rc1
      clear S0 hS
      go_wp2_with (go_at_call 158; refine stopHere ?_)
      unfold Stop
      refine C.mono ?_
      rintro e w2 ⟨rfl, ⟨g, hS2, hm2, hs2⟩, hg2⟩
      have v2 := hS2.var
      have d0 := gb_cell hg2 (by omega) q0
      have d1 := gb_cell hg2 (by omega) q1
      have s0 := gb_cell hg2 (by omega) rc0
      have s1 := gb_cell hg2 (by omega) rc1
      replace t0 := gb_soft hg2 (by omega) rc0 t0
      replace t1 := gb_soft hg2 (by omega) rc1 t1
      have BF := Lib.hid (((B1.trans (gb_below hg2 (by omega) S1.lt)).setCell (p := ⟨w.heap.size + 1, 0, none⟩) (by simp) (.int .i64 most)).setCell (p := ⟨w.heap.size + 1, 1, none⟩) (by simp) (.slice (some ⟨w.heap.size + 1 + 1, 0, none⟩) k k))
      have BG := Lib.hid ((put_but w2 (w.heap.size + 1) (.int .i64 most) (.slice (some ⟨w.heap.size + 1 + 1, 0, none⟩) k k)))
      clear C rc0 rc1 hg hg2 rf0 rf1 bx0 bx1 q0 q1 kw hkw B1
      go_wp2
      have r0 : ((w2.setCell ⟨w.heap.size + 1, 0, none⟩ (.int .i64 most)).setCell ⟨w.heap.size + 1, 1, none⟩ (.slice (some ⟨w.heap.size + 1 + 1, 0, none⟩) k k)).cell? ⟨w.heap.size + 1, 0, none⟩ = some (.int .i64 most) :=
        (cs_other _ _ _ _ _ _ (.inr (by omega))).trans (World.cell?_setCell_same _ _ _ s0)
      have r1 : ((w2.setCell ⟨w.heap.size + 1, 0, none⟩ (.int .i64 most)).setCell ⟨w.heap.size + 1, 1, none⟩ (.slice (some ⟨w.heap.size + 1 + 1, 0, none⟩) k k)).cell? ⟨w.heap.size + 1, 1, none⟩ = some (.slice (some ⟨w.heap.size + 1 + 1, 0, none⟩) k k) :=
        World.cell?_setCell_same _ _ _ ((cs_other _ _ _ _ _ _ (.inr (by omega))).trans s1)
      have hR : Rls ((w2.setCell ⟨w.heap.size + 1, 0, none⟩ (.int .i64 most)).setCell ⟨w.heap.size + 1, 1, none⟩ (.slice (some ⟨w.heap.size + 1 + 1, 0, none⟩) k k)) (some ⟨w.heap.size + 1 + 1, 0, none⟩) k (ordL rs) := by
        have hlt := hS2.lt
        have hb := BG.out.block (w.heap.size + 1 + 1) hlt (fun e => by injection e; omega)
        refine ⟨by rw [ordL_length]; exact hl, ordL_ok H.out.2.1, fun _ => ⟨_, 0, rfl, Nat.lt_of_lt_of_le hlt BG.out.size, fun j hj => ?_⟩⟩
        rw [Nat.zero_add, ordL_at (by rw [hl]; exact hm2) (by rw [hl]; exact hs2) j (by omega)]
        exact (hS2.rows j hj).1.of_block hb
      have hB := BF.out
      generalize (w2.setCell ⟨w.heap.size + 1, 0, none⟩ (.int .i64 most)).setCell ⟨w.heap.size + 1, 1, none⟩ (.slice (some ⟨w.heap.size + 1 + 1, 0, none⟩) k k) = w9 at *
      refine bodyPost_ret (v := .agg #[.int .i64 most, .slice (some ⟨w.heap.size + 1 + 1, 0, none⟩) k k]) ?_ rfl ⟨⟨_, rfl, by omega, hR⟩, hB⟩
      simp [results, Tryz.results109, go_sem, r0, r1]
theorem order_any (most : Int) (A : Option Addr) (n cap : Nat) (rs : List Rl) (w : World) (h : Rls w A n rs) (hn : n ≤ 1099511627776) :
    Calls Tryz.prog 109 #[.agg #[.int .i64 most, .slice A n cap]] w fun e w' => (∃ B, e = .returned (.agg #[.int .i64 most, .slice (some ⟨B, 0, none⟩) n n]) ∧ Rls w' (some ⟨B, 0, none⟩) n (ordL rs)) ∧ Below w.heap.size w w' :=
  (order_new most A n cap rs w h hn).mono fun e w' ⟨⟨B, h1, _, h2⟩, h3⟩ => ⟨⟨B, h1, h2⟩, h3⟩
def fdI (rs : List Rl) (p : ByteArray) : Int := match rs.findIdx? (fun r => decide (r.p = p)) with | some i => (i : Int) | none => -1
theorem fd_at {rs : List Rl} {p : ByteArray} (k : Nat) (hk : k < rs.length) (h : (fnOf rs k).p = p) (g : ∀ j, j < k → (fnOf rs j).p ≠ p) : fdI rs p = k := by
  have e : rs.findIdx? (fun r => decide (r.p = p)) = some k := by
    rw [List.findIdx?_eq_some_iff_getElem]
    refine ⟨hk, by rw [← fn_at hk]; exact decide_eq_true h, fun j hj => ?_⟩
    rw [← fn_at (by omega)]
    simpa using g j hj
  unfold fdI
  rw [e]
theorem fd_none {rs : List Rl} {p : ByteArray} (g : ∀ j, j < rs.length → (fnOf rs j).p ≠ p) : fdI rs p = -1 := by
  have e : rs.findIdx? (fun r => decide (r.p = p)) = none := by
    rw [List.findIdx?_eq_none_iff]
    intro x hx
    obtain ⟨j, hj, e⟩ := List.getElem_of_mem hx
    have := g j hj
    rw [fn_at hj, e] at this
    simpa using this
  unfold fdI
  rw [e]
theorem fd_ways (rs : List Rl) (p : ByteArray) : (∃ k, k < rs.length ∧ (fnOf rs k).p = p ∧ (∀ j, j < k → (fnOf rs j).p ≠ p) ∧ fdI rs p = k) ∨ ((∀ j, j < rs.length → (fnOf rs j).p ≠ p) ∧ fdI rs p = -1) := by
  by_cases h : ∃ k, k < rs.length ∧ (fnOf rs k).p = p
  · have : ∀ n, (∃ k, k < n ∧ k < rs.length ∧ (fnOf rs k).p = p) → ∃ k, k < rs.length ∧ (fnOf rs k).p = p ∧ (∀ j, j < k → (fnOf rs j).p ≠ p) := by
      intro n
      induction n with
      | zero => rintro ⟨k, hk, _⟩; omega
      | succ n ih =>
        rintro ⟨k, hk, hl, e⟩
        by_cases c : ∃ j, j < n ∧ j < rs.length ∧ (fnOf rs j).p = p
        · exact ih c
        · by_cases d : k = n
          · exact ⟨k, hl, e, fun j hj he => c ⟨j, by omega, by omega, he⟩⟩
          · exact absurd ⟨k, by omega, hl, e⟩ c
    obtain ⟨k, hk, e⟩ := h
    obtain ⟨k, hk, e, g⟩ := this (k + 1) ⟨k, by omega, hk, e⟩
    exact .inl ⟨k, hk, e, g, fd_at k hk e g⟩
  · have g : ∀ j, j < rs.length → (fnOf rs j).p ≠ p := fun j hj e => h ⟨j, hj, e⟩
    exact .inr ⟨g, fd_none g⟩
def hasB (rs : List Rl) (p : ByteArray) : Bool := decide (0 ≤ fdI rs p)
theorem has1_core (x p : ByteArray) (e b k : Int) (PB : Nat) (w : World) (hc : w.cell? ⟨PB, 0, none⟩ = some (.string p)) :
    Calls Tryz.prog 157 #[rul x e b k, .pointer (some ⟨PB, 0, none⟩)] w fun e w' => e = .returned (.bool (decide (x = p))) ∧ Below w.heap.size w w' := by
  have hb := cell_lt hc
  have B := (Below.refl _ w).alloc (Nat.le_refl _) (.cells #[.string x, .int .u64 e, .int .u64 b, .int .u8 k] 79)
  have ts := text_same (a := x) (b := p)
  cases hd : decide (x = p) with
  | true =>
    rw [hd] at ts
    clear hd
    go_enter Tryz.func157, Tryz.ntmps157
    go_wp2
    go_ret
    exact ⟨rfl, B⟩
  | false =>
    rw [hd] at ts
    clear hd
    go_enter Tryz.func157, Tryz.ntmps157
    go_wp2
    go_ret
    exact ⟨rfl, B⟩
theorem has1_any (r : Rl) (p : ByteArray) (PB : Nat) (w : World) (hc : w.cell? ⟨PB, 0, none⟩ = some (.string p)) :
    Calls Tryz.prog 157 #[r.v, .pointer (some ⟨PB, 0, none⟩)] w fun e w' => e = .returned (.bool (decide (r.p = p))) ∧ Below w.heap.size w w' := has1_core r.p p r.e r.b r.k PB w hc
theorem indexF_any (A : Option Addr) (n cap : Nat) (rs : List Rl) (p : ByteArray) (PB : Nat) (w : World) (h : Rls w A n rs) (hc : w.cell? ⟨PB, 0, none⟩ = some (.string p)) (hn : n ≤ 9223372036854775807) :
    Calls Tryz.prog 189 #[.slice A n cap, .func (Fn.func 157) #[] #[.pointer (some ⟨PB, 0, none⟩)]] w fun e w' => e = .returned (.int .i64 (fdI rs p)) ∧ Below w.heap.size w w' := by
  have H := Lib.hid h
  have hl := h.1
  have FW := Lib.hid (fun (k : Nat) (hk : k < n) (e : (fnOf rs k).p = p) (g : ∀ j, j < k → (fnOf rs j).p ≠ p) => fd_at (rs := rs) k (by omega) e g)
  have FN := Lib.hid (fun (g : ∀ j, j < n → (fnOf rs j).p ≠ p) => fd_none (rs := rs) (p := p) (fun j hj => g j (by omega)))
  generalize fdI rs p = F at *
  clear h hl
  go_enter Tryz.func189, Tryz.ntmps189
  go_wp2
  go_loopw [8] (fun i wr => ∃ k : Nat, i = .int .i64 (k : Int) ∧ k ≤ n ∧ Hid (∀ j, j < k → (fnOf rs j).p ≠ p) ∧ Below w.heap.size w wr) (fun i _ => n - (intOf i).toNat)
  case atStart => exact ⟨0, rfl, Nat.zero_le _, Lib.hid (fun j hj => absurd hj (Nat.not_lt_zero _)), Below.refl _ _⟩
  case round =>
    obtain ⟨k, rfl, hk, D, hB⟩ := hrel
    by_cases hkn : k < n
    · obtain ⟨b, off, rfl, hb, hcl⟩ := H.out.2.2 (by omega)
      obtain ⟨x0, x1, x2, x3⟩ := (hcl k hkn).of_block (hB.block b hb)
      have C := has1_any (fnOf rs k) p PB wr (celln hB hc)
      have FWk := Lib.hid (FW.out k hkn)
      have i0 : (0 : Int) ≤ (k : Int) := by omega
      have i1 : (k : Int) < (n : Int) := by omega
      unfold Rl.v at C
      cases hd : decide ((fnOf rs k).p = p) with
      | true =>
        rw [hd] at C
        have e := FWk.out (of_decide_eq_true hd) D.out
        subst e
        generalize fnOf rs k = x at *
        clear hcl hd FW FWk
        go_wp2_with (go_at_call 157; refine C.mono ?_; rintro e w2 ⟨rfl, kb⟩)
        go_ret
        exact ⟨rfl, kbq hB kb⟩
      | false =>
        rw [hd] at C
        have E := Lib.hid (of_decide_eq_false hd)
        generalize hX : fnOf rs k = x at *
        have HX := Lib.hid hX
        clear hcl hd FW FWk hX
        go_wp2_with (go_at_call 157; refine C.mono ?_; rintro e w2 ⟨rfl, kb⟩)
        go_roundw
        case rel =>
          refine ⟨k + 1, by go_num, hkn, Lib.hid (fun j hj => ?_), kbq hB kb⟩
          by_cases c : j = k
          · rw [c, HX.out]; exact E.out
          · exact D.out j (by omega)
        case measure => simp [intOf]; omega
    · obtain rfl : k = n := by omega
      have e := FN.out D.out
      subst e
      go_wp2
      go_ret
      exact ⟨rfl, hB⟩
theorem chas_any (A : Option Addr) (n cap : Nat) (rs : List Rl) (p : ByteArray) (w : World) (h : Rls w A n rs) (hn : n ≤ 9223372036854775807) :
    Calls Tryz.prog 107 #[.slice A n cap, .string p] w fun e w' => e = .returned (.bool (hasB rs p)) ∧ Below w.heap.size w w' := by
  have B := (Below.refl _ w).alloc (Nat.le_refl _) (.cells #[.string p] 9)
  have C0 := indexF_any A n cap rs p w.heap.size (w.alloc (.cells #[.string p] 9)) (h.below B) (by simp) hn
  have C : Calls Tryz.prog 156 #[.slice A n cap, .func (Fn.func 157) #[] #[.pointer (some ⟨w.heap.size, 0, none⟩)]] (w.alloc (.cells #[.string p] 9)) fun e w' => e = .returned (.bool (hasB rs p)) ∧ Below (w.alloc (.cells #[.string p] 9)).heap.size (w.alloc (.cells #[.string p] 9)) w' := by
    unfold hasB
    generalize fdI rs p = F at *
    generalize w.alloc (.cells #[.string p] 9) = W at *
    clear B
    go_enter Tryz.func156, Tryz.ntmps156
    go_wp2_with (go_at_call 189; refine C0.mono ?_; rintro e w2 ⟨rfl, kb⟩)
    go_ret
    exact ⟨rfl, kb⟩
  clear C0 h
  go_enter Tryz.func107, Tryz.ntmps107
  go_wp2_with (go_at_call 156; refine C.mono ?_; rintro e w2 ⟨rfl, kb⟩)
  go_ret
  exact ⟨rfl, kbq B kb⟩
theorem may_any (m : Int) (w : World) (hm : U m) :
    Calls Tryz.prog 105 #[.int .u64 m] w fun e w' => e = .returned (.bool (decide (1 ≤ m ∧ m ≤ 1000000))) ∧ w = w' := by
  by_cases h1 : 1 ≤ m
  · by_cases h2 : m ≤ 1000000
    · rw [decide_eq_true ⟨h1, h2⟩]
      go_enter Tryz.func105, Tryz.ntmps105
      go_wp2
      go_ret
      exact ⟨rfl, rfl⟩
    · rw [decide_eq_false (fun g => h2 g.2)]
      go_enter Tryz.func105, Tryz.ntmps105
      go_wp2
      go_ret
      exact ⟨rfl, rfl⟩
  · rw [decide_eq_false (fun g => h1 g.1)]
    go_enter Tryz.func105, Tryz.ntmps105
    go_wp2
    go_ret
    exact ⟨rfl, rfl⟩
theorem one_sts (W : World) (x : ByteArray) (B : Nat) (hB : W.heap.size = B) (hx : x.size ≤ 9223372036854775807) : Sts (W.alloc (.cells #[.string x] 9)) (some ⟨B, 0, none⟩) 1 [x] := by
  subst hB
  exact ⟨rfl, fun y hy => by simp only [List.mem_cons, List.not_mem_nil, or_false] at hy; subst hy; exact hx, fun _ => ⟨W.heap.size, 0, rfl, by simp, fun k hk => by
    obtain rfl : k = 0 := by omega
    simp⟩⟩
theorem wpList_app_txt (w : World) {ops : Array Oper} {rest : List Oper} {o : Oper} {a : Act} {Q : Exit → Act → World → Prop} (hgd : o.guard = none) (s x : Operand)
    (ho : o.op = .call { callee := .builtin .append, args := #[s, x], argTypes := #[85, 85] })
    (base : Nat) (v : Value) (acc : List ByteArray) (hs : a.eval s = v) (hown : ORow w base v acc) (b off c : Nat) (t : ByteArray) (hx : a.eval x = .slice (some ⟨b, off, none⟩) 1 c) (hT : Sts w (some ⟨b, off, none⟩) 1 [t])
    (hsz : acc.length ≤ 1099511627776) (hbase : base ≤ w.heap.size)
    (h : ∀ g cap w', ORow w' base (.slice (some ⟨g, 0, none⟩) (acc.length + 1) cap) (acc ++ [t]) → Below base w w' → wpList Tryz.prog ops Q rest (a.put o.dst (.slice (some ⟨g, 0, none⟩) (acc.length + 1) cap)) w') : wpList Tryz.prog ops Q (o :: rest) a w := by
  obtain ⟨i0, hi, hy0, hy1, hy2⟩ := info_parts cinfoStr
  refine wpList_append_lies w hgd s x 85 ho base 9 i0 (.string ⟨#[]⟩) 1 16 Tryz.underlying85 hi hy0 hy1 hy2 rfl (by decide) v acc.length (tvs acc) hs hown ⟨b, off, none⟩ 1 c (tvs [t]) hx rfl (sts_news hT (by omega)) (tvs_one [t]) (by omega) (by unfold maxLen; omega) (by omega) hbase w.heap.size rfl ?_
  intro g cap w' own grow _ _
  refine h g cap w' ?_ ((Below.refl base w).grown grow hbase (own_lt hown))
  unfold ORow tvs
  rw [List.map_append, List.length_append]
  exact own
theorem pfs_take (rs : List Rl) (k : Nat) (h : k < rs.length) : (rs.map Rl.p).take (k + 1) = (rs.map Rl.p).take k ++ [(fnOf rs k).p] := by
  rw [List.take_add_one, List.getElem?_eq_getElem (by simpa using h), fn_at h]
  simp
theorem prefixes_any (A : Option Addr) (n cap : Nat) (rs : List Rl) (w : World) (h : Rls w A n rs) (hn : n ≤ 1099511627776) :
    Calls Tryz.prog 108 #[.slice A n cap] w fun e w' => (∃ v, e = .returned v ∧ ORow w' w.heap.size v (rs.map Rl.p)) ∧ Below w.heap.size w w' := by
  have H := Lib.hid h
  have hl := h.1
  clear h
  go_enter Tryz.func108, Tryz.ntmps108
  go_wp2
  go_loopw [3, 8] (fun v i wr => ∃ k : Nat, i = .int .i64 (k : Int) ∧ k ≤ n ∧ ORow wr w.heap.size v ((rs.map Rl.p).take k) ∧ Below w.heap.size w wr) (fun _ i _ => n - (intOf i).toNat)
  case atStart => exact ⟨0, rfl, Nat.zero_le _, ORow.nil _ _, Below.refl _ _⟩
  case round =>
    obtain ⟨k, rfl, hk, hO, hB⟩ := hrel
    by_cases hkn : k < n
    · obtain ⟨b, off, rfl, hb, hcl⟩ := H.out.2.2 (by omega)
      obtain ⟨x0, x1, x2, x3⟩ := (hcl k hkn).of_block (hB.block b hb)
      have i0 : (0 : Int) ≤ (k : Int) := by omega
      have i1 : (k : Int) < (n : Int) := by omega
      have hsz : (fnOf rs k).p.size ≤ 9223372036854775807 := by have := (H.out.ok k).p; omega
      have ht := pfs_take rs k (by omega)
      have hacc : ((rs.map Rl.p).take k).length = k := by simp; omega
      generalize (fnOf rs k).p = t at *
      generalize (fnOf rs k).e = p at *
      generalize (fnOf rs k).b = q at *
      generalize (fnOf rs k).k = u at *
      generalize (rs.map Rl.p).take k = acc at *
      have B2 := ((Below.refl _ wr).alloc (Nat.le_refl _) (.cells #[.string t, .int .u64 p, .int .u64 q, .int .u8 u] 79)).alloc (by simp) (.cells #[.string t] 9)
      have T2 := one_sts (wr.alloc (.cells #[.string t, .int .u64 p, .int .u64 q, .int .u8 u] 79)) t (wr.heap.size + 1) (by simp) hsz
      clear hcl hsz
      go_wp2_with (refine wpList_app_txt _ rfl _ _ rfl w.heap.size _ acc rfl (hO.below B2) _ _ _ t rfl T2 (by omega) (by have := hB.size; have := B2.size; omega) ?_; intro g cp w2 hO2 kb)
      go_roundw
      case rel => exact ⟨k + 1, by go_num, hkn, by rw [ht]; rw [← hacc]; rw [hacc] at hO2 ⊢; exact hO2, (hB.trans (B2.mono hB.size)).trans kb⟩
      case measure => simp [intOf]; omega
    · obtain rfl : k = n := by omega
      rw [show (rs.map Rl.p).take k = rs.map Rl.p from List.take_of_length_le (by simp; omega)] at hO
      go_wp2
      go_ret
      exact ⟨⟨_, rfl, hO⟩, hB⟩
abbrev Rl.er (r : Rl) : Int := ruE r.p r.e r.b r.k
def frE : List Rl → Int
  | [] => 0
  | r :: l => if r.er ≠ 0 then r.er else frE l
theorem frE_at : ∀ {rs : List Rl} (k : Nat), k < rs.length → (∀ j, j < k → (fnOf rs j).er = 0) → (fnOf rs k).er ≠ 0 → frE rs = (fnOf rs k).er
  | [], k, h, _, _ => by simp at h
  | r :: l, 0, h, g, e => by
    have e' : r.er ≠ 0 := e
    unfold frE
    rw [if_pos e']; rfl
  | r :: l, k + 1, h, g, e => by
    have e0 : r.er = 0 := g 0 (by omega)
    have s : ∀ j, fnOf (r :: l) (j + 1) = fnOf l j := fun j => by simp [fnOf]
    rw [s] at e ⊢
    unfold frE
    rw [if_neg (by simp [e0])]
    exact frE_at k (by simpa using h) (fun j hj => by rw [← s]; exact g (j + 1) (by omega)) e
theorem frE_none : ∀ {rs : List Rl}, (∀ j, j < rs.length → (fnOf rs j).er = 0) → frE rs = 0
  | [], _ => rfl
  | r :: l, g => by
    have e0 : r.er = 0 := g 0 (by simp)
    have s : ∀ j, fnOf (r :: l) (j + 1) = fnOf l j := fun j => by simp [fnOf]
    unfold frE
    rw [if_neg (by simp [e0])]
    exact frE_none (fun j hj => by rw [← s]; exact g (j + 1) (by simpa using hj))
def riE (m : Int) (rs : List Rl) : Int :=
  if ¬ (1 ≤ m ∧ m ≤ 1000000) then 29 else if 1000 < rs.length then 32 else if frE rs ≠ 0 then frE rs else if hasB rs nob = false then 31 else if soB ((ordL rs).map Rl.p) = false then 28 else 0
theorem field1_run (m : Int) (A : Option Addr) (n c : Nat) (W : World) : (Instr.field 24 (.agg #[.int .i64 m, .slice A n c]) 1).run Tryz.prog W = .ok (.slice A n c) W := by kernel_rfl
set_option maxHeartbeats 1000000 in
theorem cright_any (m : Int) (A : Option Addr) (n cap : Nat) (rs : List Rl) (w : World) (h : Rls w A n rs) (hn : n ≤ 1099511627776) (hm : -9223372036854775808 ≤ m ∧ m ≤ 9223372036854775807) :
    Calls Tryz.prog 60 #[.agg #[.int .i64 m, .slice A n cap]] w fun e w' => e = .returned (.int .u16 (riE m rs)) ∧ Below w.heap.size w w' := by
  have hu : U (IntKind.u64.wrap m) := by rw [IntKind.wrap_u64]; unfold U; omega
  have MA := fun W => may_any (IntKind.u64.wrap m) W hu
  have emay : decide (1 ≤ IntKind.u64.wrap m ∧ IntKind.u64.wrap m ≤ 1000000) = decide (1 ≤ m ∧ m ≤ 1000000) := by
    rw [IntKind.wrap_u64]
    by_cases c : 1 ≤ m ∧ m ≤ 1000000
    · rw [decide_eq_true c, decide_eq_true (by omega)]
    · rw [decide_eq_false c, decide_eq_false (by omega)]
  rw [emay] at MA
  clear hu emay
  generalize hmu : IntKind.u64.wrap m = mu at *
  have H := Lib.hid h
  have hl := h.1
  clear h
  by_cases c1 : 1 ≤ m ∧ m ≤ 1000000
  · rw [decide_eq_true c1] at MA
    by_cases c2 : 1000 < n
    · have e : riE m rs = 32 := by unfold riE; rw [if_neg (by simp [c1]), if_pos (by omega)]
      rw [e]
      have c2' : (1000 : Int) < (n : Int) := by omega
      go_enter Tryz.func60, Tryz.ntmps60
      go_wp2_with (go_at_call 105; refine (MA _).mono ?_; rintro e w2 ⟨rfl, rfl⟩)
      go_ret
      exact ⟨rfl, (Below.refl _ w).alloc (Nat.le_refl _) _⟩
    · have e : riE m rs = if frE rs ≠ 0 then frE rs else if hasB rs nob = false then 31 else if soB ((ordL rs).map Rl.p) = false then 28 else 0 := by unfold riE; rw [if_neg (by simp [c1]), if_neg (by omega)]
      have c2' : ¬ (1000 : Int) < (n : Int) := by omega
      have B0 := (Below.refl _ w).alloc (Nat.le_refl _) (.cells #[.int .i64 m, .slice A n cap] 24)
      have b0 : (w.alloc (.cells #[.int .i64 m, .slice A n cap] 24)).cell? ⟨w.heap.size, 0, none⟩ = some (.int .i64 m) := by simp
      have b1 : (w.alloc (.cells #[.int .i64 m, .slice A n cap] 24)).cell? ⟨w.heap.size, 1, none⟩ = some (.slice A n cap) := by simp
      have HF := Lib.hid (fun (k : Nat) (hk : k < n) (g : ∀ j, j < k → (fnOf rs j).er = 0) (e1 : (fnOf rs k).er ≠ 0) => e.trans (by rw [frE_at k (by omega) g e1, if_pos e1]))
      have HN := Lib.hid (fun (g : ∀ j, j < n → (fnOf rs j).er = 0) => e.trans (by rw [frE_none (fun j hj => g j (by omega)), if_neg (by simp)]))
      generalize riE m rs = R at *
      clear e
      go_enter Tryz.func60, Tryz.ntmps60
      go_wp2_with (go_at_call 105; refine (MA _).mono ?_; rintro e w2 ⟨rfl, rfl⟩)
      have hw : w.heap.size < (w.alloc (.cells #[.int .i64 m, .slice A n cap] 24)).heap.size := by simp
      generalize hW : w.alloc (.cells #[.int .i64 m, .slice A n cap] 24) = W1 at *
      clear hW
      go_loopw [18] (fun i wr => ∃ k : Nat, i = .int .i64 (k : Int) ∧ k ≤ n ∧ Hid (∀ j, j < k → (fnOf rs j).er = 0) ∧ Below W1.heap.size W1 wr) (fun i _ => n - (intOf i).toNat)
      case atStart => exact ⟨0, rfl, Nat.zero_le _, Lib.hid (fun j hj => absurd hj (Nat.not_lt_zero _)), Below.refl _ _⟩
      case round =>
        obtain ⟨k, rfl, hk, D, hB⟩ := hrel
        have hBw : Below w.heap.size w wr := B0.trans (hB.mono (by omega))
        have d0 := celln hB b0
        have d1 := celln hB b1
        by_cases hkn : k < n
        · obtain ⟨b, off, rfl, hb, hcl⟩ := H.out.2.2 (by omega)
          obtain ⟨x0, x1, x2, x3⟩ := (hcl k hkn).of_block (hBw.block b hb)
          have ok := H.out.ok k
          have C := fun W => right_any (fnOf rs k).p (fnOf rs k).e (fnOf rs k).b (fnOf rs k).k W (by have := ok.p; omega) ok.e ok.b
          have FF := Lib.hid (HF.out k hkn D.out)
          have i0 : (0 : Int) ≤ (k : Int) := by omega
          have i1 : (k : Int) < (n : Int) := by omega
          have hE : Hid ((fnOf rs k).er = ruE (fnOf rs k).p (fnOf rs k).e (fnOf rs k).b (fnOf rs k).k) := Lib.hid rfl
          generalize ruE (fnOf rs k).p (fnOf rs k).e (fnOf rs k).b (fnOf rs k).k = E at *
          generalize (fnOf rs k).p = t at *
          generalize (fnOf rs k).e = p at *
          generalize (fnOf rs k).b = q at *
          generalize (fnOf rs k).k = u at *
          clear hcl HF HN ok
          by_cases hz : E = 0
          · have t1 : (E != 0) = false := by simp [hz]
            have t2 : (E == 0) = true := by simp [hz]
            go_wp2_with (go_at_call 106; refine (C _).mono ?_; rintro e w2 ⟨rfl, kk⟩)
            go_roundw
            case rel =>
              refine ⟨k + 1, by go_num, hkn, Lib.hid (fun j hj => ?_), kbq hB (((Below.refl _ wr).alloc (Nat.le_refl _) _).trans (kk.2.mono (by simp)))⟩
              by_cases g : j = k
              · rw [g, hE.out]; exact hz
              · exact D.out j (by omega)
            case measure => simp [intOf]; omega
          · have t1 : (E != 0) = true := by simp [hz]
            have t2 : (E == 0) = false := by simp [hz]
            have FE := FF.out (by rw [hE.out]; exact hz)
            rw [hE.out] at FE
            subst FE
            go_wp2_with (go_at_call 106; refine (C _).mono ?_; rintro e w2 ⟨rfl, kk⟩)
            go_ret
            exact ⟨rfl, hBw.trans ((((Below.refl _ wr).alloc (Nat.le_refl _) _).trans (kk.2.mono (by simp))).mono hBw.size)⟩
        · obtain rfl : k = n := by omega
          have HH := HN.out D.out
          have C := chas_any A k cap rs nob wr (H.out.below hBw) (by omega)
          have CO := fun W (g : Below w.heap.size w W) => order_any m A k cap rs W (H.out.below g) hn
          clear HN HF
          cases ch : hasB rs nob with
          | false =>
            rw [ch] at C HH
            rw [if_pos rfl] at HH
            subst HH
            go_wp2_with (go_at_call 107; refine C.mono ?_; rintro e w2 ⟨rfl, kb⟩)
            go_ret
            exact ⟨rfl, kbq hBw kb⟩
          | true =>
            rw [ch] at C HH
            rw [if_neg (by simp)] at HH
            have lim : ∀ x ∈ (ordL rs).map Rl.p, x.size ≤ 9223372036854775807 := fun x hx => by
              obtain ⟨y, hy, rfl⟩ := List.mem_map.1 hx
              have := (ordL_ok H.out.2.1 y hy).p
              omega
            have HL := Lib.hid lim
            clear lim
            have FR := fun B W => field1_run m (some ⟨B, 0, none⟩) k k W
            have hlen : ((ordL rs).map Rl.p).length = k := by rw [List.length_map, ordL_length]; exact hl
            cases hso : soB ((ordL rs).map Rl.p)
            all_goals
              rw [hso] at HH
              first | rw [if_pos rfl] at HH | rw [if_neg (by decide)] at HH
              subst HH
              go_wp2_with (first
                | (go_at_call 107; refine C.mono ?_; rintro e w2 ⟨rfl, kb⟩; replace d0 := celln kb d0; replace d1 := celln kb d1; have hB2 := kbq hBw kb; have CO2 := CO w2 hB2)
                | (go_at_call 109; refine CO2.mono ?_; rintro e w3 ⟨⟨BB, rfl, hR⟩, kb3⟩; have CP := prefixes_any _ _ k (ordL rs) w3 hR hn; have hB3 := kbq hB2 kb3)
                | (go_at_call 108; refine CP.mono ?_; rintro e w4 ⟨⟨v, rfl, hO⟩, kb4⟩; have hB4 := kbq hB3 kb4; obtain ⟨A4, c4, rfl, hc1, hc2, hS⟩ := hO.sts HL.out; have CS := sorted_any A4 _ c4 _ w4 hS (by rw [hlen]; omega); rw [hlen, hso] at CS; rw [hlen])
                | (go_at_call 61; refine CS.mono ?_; rintro e w5 ⟨rfl, kb5⟩))
              go_ret
              exact ⟨rfl, kbq hB4 kb5⟩
  · have e : riE m rs = 29 := by unfold riE; rw [if_pos c1]
    rw [e]
    rw [decide_eq_false c1] at MA
    go_enter Tryz.func60, Tryz.ntmps60
    go_wp2_with (go_at_call 105; refine (MA _).mono ?_; rintro e w2 ⟨rfl, rfl⟩)
    go_ret
    exact ⟨rfl, (Below.refl _ w).alloc (Nat.le_refl _) _⟩
def OwnR (r : Rl) : Prop := (∃ E B : Nat, r.e = (E : Int) ∧ r.b = (B : Int) ∧ Own r.p E B r.k) ∧ (r.p.size = 0 ∨ Short r.p)
structure Polr (m : Int) (rs : List Rl) : Prop where
  m1 : 1 ≤ m
  m2 : m ≤ 50
  hd : ∃ k rest, rs = ⟨nob, 1000, 5, k⟩ :: rest
  own : ∀ r ∈ rs, OwnR r
  nd : (rs.map Rl.p).Nodup
theorem OwnR.okr {r : Rl} (h : OwnR r) : Okr r := by
  obtain ⟨⟨E, B, he, hb, H⟩, _⟩ := h
  have := H.e2; have := H.b2; have := H.sz; have := H.k1; have := H.k2
  exact ⟨by omega, by rw [he]; unfold U; omega, by rw [hb]; unfold U; omega, by omega, by omega⟩
theorem Polr.ok {m : Int} {rs : List Rl} (h : Polr m rs) : ∀ r ∈ rs, Okr r := fun r hr => (h.own r hr).okr
theorem OwnR.er {r : Rl} (h : OwnR r) : r.er = 0 := by
  obtain ⟨⟨E, B, e1, e2, H⟩, _⟩ := h
  show ruE r.p r.e r.b r.k = 0
  rw [e1, e2]
  exact H.right
end
end Go.Proofs.YtbejkcdaefkibaaGreat.Wd


namespace Go.Proofs.YtbejkcdaefkibaaGreat.Wd
open Go Go.RowKit Go.Deep Go.Shelf
set_option linter.unusedVariables false
set_option maxRecDepth 100000
attribute [local go_sem] Oper.semAt_some
def Ers (w : World) (A : Option Addr) (n : Nat) (xs : List En) : Prop :=
  xs.length = n ∧ (0 < n → ∃ b off, A = some ⟨b, off, none⟩ ∧ b < w.heap.size ∧ ∀ k, k < n → S2 w b (off + k * 2) (atE xs k))
theorem Ers.below {w w' : World} {A : Option Addr} {n : Nat} {xs : List En} (h : Ers w A n xs) (g : Below w.heap.size w w') : Ers w' A n xs :=
  ⟨h.1, fun h0 => by
    obtain ⟨b, off, e, hb, hc⟩ := h.2 h0
    exact ⟨b, off, e, Nat.lt_of_lt_of_le hb g.size, fun k hk => ⟨celln g (hc k hk).1, celln g (hc k hk).2⟩⟩⟩
theorem Ers.nil (w : World) (A : Option Addr) : Ers w A 0 [] := ⟨rfl, fun h => absurd h (Nat.lt_irrefl _)⟩
theorem OwE.ers {w : World} {base : Nat} {v : Value} {xs : List En} (h : OwE w base v xs) : ∃ A cap, v = .slice A xs.length cap ∧ (xs.length ≤ cap ∧ cap ≤ 9223372036854775807) ∧ Ers w A xs.length xs := by
  obtain ⟨A, cap, e, h1, h2, h3⟩ := h.form
  refine ⟨A, cap, e, ⟨h1, by unfold maxLen at h2; omega⟩, rfl, fun h0 => ?_⟩
  obtain ⟨b, rfl, _, hb, hc⟩ := h3 h0
  exact ⟨b, 0, rfl, hb, fun k hk => by rw [Nat.zero_add]; exact hc k hk⟩
def Oke (x : En) : Prop := x.1.size ≤ 281474976710656 ∧ U x.2
theorem atE_mem {xs : List En} {k : Nat} (h : k < xs.length) : atE xs k ∈ xs := by simp [atE, List.getD, h]
theorem atE_take {xs : List En} {k : Nat} (h : k < xs.length) : xs.take (k + 1) = xs.take k ++ [atE xs k] := by
  rw [List.take_succ_eq_append_getElem h]; simp [atE, List.getD, h]
theorem atE_drop {xs : List En} {k : Nat} (h : k < xs.length) : xs.drop k = atE xs k :: xs.drop (k + 1) := by
  rw [List.drop_eq_getElem_cons h]; simp [atE, List.getD, h]
set_option maxHeartbeats 2000000 in
theorem ekeys_any (A : Option Addr) (n cap : Nat) (xs : List En) (w : World) (h : Ers w A n xs) (hn : n ≤ 1000000000) :
    Calls Tryz.prog 62 #[.slice A n cap] w fun e w' => ∃ u, e = .returned u ∧ ORow w' w.heap.size u (xs.map Prod.fst) ∧ Below w.heap.size w w' := by
  have HL := Lib.hid h.1
  have R2 := Lib.hid h
  clear h
  go_enter Tryz.func62, Tryz.ntmps62
  go_wp2
  go_loopw [3, 8] (fun u i wr => ∃ j : Nat, i = .int .i64 (j : Int) ∧ j ≤ n ∧ Hid (ORow wr w.heap.size u ((xs.take j).map Prod.fst)) ∧ Hid (Below w.heap.size w wr)) (fun _ i _ => n - (intOf i).toNat)
  case atStart => exact ⟨0, rfl, Nat.zero_le _, Lib.hid (ORow.nil _ _), Lib.hid (Below.refl _ _)⟩
  case round =>
    obtain ⟨j, rfl, hj, HO, hB⟩ := hrel
    have lk : ((xs.take j).map Prod.fst).length ≤ 1000000000 := by rw [List.length_map, List.length_take, HL.out]; omega
    obtain ⟨ks, hks⟩ : ∃ ks, (xs.take j).map Prod.fst = ks := ⟨_, rfl⟩
    rw [hks] at HO lk
    have HK := Lib.hid hks
    clear hks
    by_cases hlt : j < n
    · obtain ⟨b, off, rfl, hb, hcc⟩ := (R2.out.below hB.out).2 (by omega)
      obtain ⟨x0, x1⟩ := hcc j hlt
      have ht := Lib.hid (atE_take (xs := xs) (k := j) (by rw [HL.out]; exact hlt))
      clear hcc
      generalize atE xs j = y at *
      obtain ⟨K, D⟩ := y
      dsimp only at x0 x1
      have hw2 := hB.out.size
      go_wp2_with (at_builtin; refine wpList_app_tx _ rfl _ _ rfl w.heap.size _ ks rfl ?o _ 0 1 K rfl ?c1 ?c2 ?c3 ?_)
      case o => exact own_below (show ORow wr _ _ _ from HO.out) (((Below.refl _ _).alloc (Nat.le_refl _) (.cells (En.cs (K, D)) Tae)).alloc (by simp) _)
      case c1 =>
        have e := (Blk.new (wr.alloc (.cells (En.cs (K, D)) Tae)) #[.string K] 9).cell 0
        rwa [show (wr.alloc (.cells (En.cs (K, D)) Tae)).heap.size = wr.heap.size + 1 by simp] at e
      case c2 => omega
      case c3 => simp; omega
      intro g cap w3 own bel
      have OD := Lib.hid own
      have B2 := Lib.hid (((hB.out.alloc hB.out.size (.cells (En.cs (K, D)) Tae)).alloc (by simp; omega) (.cells #[.string K] 9)).trans bel)
      clear own bel HO
      go_wp2
      go_roundw
      case rel => exact ⟨j + 1, by go_num, by omega, Lib.hid (by rw [ht.out, List.map_append, HK.out]; exact OD.out), B2⟩
      case measure => simp [intOf]; omega
    · have HE : Hid (xs.map Prod.fst = ks) := Lib.hid (by rw [← HK.out, List.take_of_length_le (by rw [HL.out]; omega)])
      go_wp2
      go_ret
      exact ⟨_, rfl, by rw [HE.out]; exact HO.out, hB.out⟩
def enE (rs : List Rl) (C : Int) (x : En) : Int := if rtB (lb x.1) = true then (if sbI x.2 C < 1 ∨ capR ((findR rs x.1).getD rl0) < sbI x.2 C then 44 else 0) else 12
def feE (rs : List Rl) (C : Int) : List En → Int
  | [] => 0
  | x :: r => if enE rs C x = 0 then feE rs C r else enE rs C x
def enR (m : Int) (rs : List Rl) (C : Int) (es : List En) : Int :=
  if riE m rs = 0 then (if 9223372036854775807 < C then 11 else if m < (es.length : Int) then 32 else if soB (es.map Prod.fst) = true then feE rs C es else 42) else riE m rs
theorem asked_any (T : Option Addr) (C : Int) (w : World) :
    Calls Tryz.prog 63 #[.pointer T, .int .u64 C] w fun e w' => ∃ P, e = .returned (.func (Fn.func 111) #[] #[.pointer (some ⟨P, 0, none⟩), .pointer (some ⟨P + 1, 0, none⟩)]) ∧ w'.cell? ⟨P, 0, none⟩ = some (.pointer T) ∧ w'.cell? ⟨P + 1, 0, none⟩ = some (.int .u64 C) ∧ Below w.heap.size w w' := by
  go_enter Tryz.func63, Tryz.ntmps63
  go_wp2
  go_ret
  exact ⟨w.heap.size, rfl, by simp, by simp, ((Below.refl _ w).alloc (Nat.le_refl _) _).alloc (by simp) _⟩
set_option maxHeartbeats 2000000 in
theorem asked1_any (x : En) (P T : Nat) (C : Int) (rs : List Rl) (w : World) (h0 : w.cell? ⟨P, 0, none⟩ = some (.pointer (some ⟨T, 0, none⟩))) (h1 : w.cell? ⟨P + 1, 0, none⟩ = some (.int .u64 C)) (hT : TreeAt w T rs) (hx : Oke x) (hC : U C) (hok : ∀ K r, findR rs K = some r → Okr r) :
    Calls Tryz.prog 111 #[.agg (En.cs x), .pointer (some ⟨P, 0, none⟩), .pointer (some ⟨P + 1, 0, none⟩)] w fun e w' => e = .returned (.int .u16 (enE rs C x)) ∧ Below w.heap.size w w' := by
  obtain ⟨K, D⟩ := x
  have hK : K.size ≤ 281474976710656 := hx.1
  have hD : U D := hx.2
  have kB := (Below.refl _ w).alloc (Nat.le_refl _) (.cells (En.cs (K, D)) Tae)
  have c0 := celln kB h0
  have c1 := celln kB h1
  have T1 := Lib.hid (hT.below kB)
  have CR := Lib.hid (fun W => kright_any K W (by omega))
  have hrr : Okr ((findR rs K).getD rl0) := by
    cases e : findR rs K with
    | none => exact okr0
    | some r => exact hok K r e
  have KB := Lib.hid kB
  have b0 := Lib.hid (Blk.new w (En.cs (K, D)) Tae)
  have HE : enE rs C (K, D) = if rtB (lb K) = true then (if sbI D C < 1 ∨ capR ((findR rs K).getD rl0) < sbI D C then 44 else 0) else 12 := rfl
  have CF := Lib.hid (fun W (g : TreeAt W T rs) => find_any T K rs W hK g)
  have CS := Lib.hid (fun W => num_sub D C W hD hC)
  rw [HE]
  clear HE h0 h1 hT kB hx
  generalize hri : (findR rs K).getD rl0 = rr at *
  obtain ⟨p, e, b, k⟩ := rr
  have hp : p.size ≤ 281474976710656 := hrr.p
  have CC := Lib.hid (fun W => cap_any p e b k W (by omega) hrr.e hrr.b)
  rw [show capR ⟨p, e, b, k⟩ = caI p e b k from rfl]
  generalize caI p e b k = cp at *
  generalize sbI D C = f at *
  generalize rtB (lb K) = rt at *
  clear hri hrr
  cases rt with
  | false =>
    rw [if_neg (by decide)]
    go_enter Tryz.func111, Tryz.ntmps111
    go_upto_region 1 with fail
    generalize w.alloc (.cells (En.cs (K, D)) Tae) = W at *
    have x0 := b0.out.cell 0
    have x1 := b0.out.cell 1
    simp at x0 x1
    go_wp2_with (go_at_call 112; refine (CR.out _).mono ?_; rintro e w2 ⟨rfl, rfl⟩)
    go_ret
    exact ⟨rfl, KB.out⟩
  | true =>
    rw [if_pos rfl]
    obtain ⟨E, hE⟩ : ∃ E : Int, (if f < 1 ∨ cp < f then 44 else 0) = E := ⟨_, rfl⟩
    rw [hE]
    have HE := Lib.hid hE
    clear hE
    go_enter Tryz.func111, Tryz.ntmps111
    go_upto_region 1 with fail
    generalize w.alloc (.cells (En.cs (K, D)) Tae) = W at *
    have x0 := b0.out.cell 0
    have x1 := b0.out.cell 1
    simp at x0 x1
    go_wp2_with (first
      | (go_at_call 112; refine (CR.out _).mono ?_; rintro e w2 ⟨rfl, hh⟩; subst hh)
      | (go_at_call 113; refine (CF.out _ T1.out).mono ?_; rintro e w3 ⟨rfl, g⟩; refine stopHere ?_))
    unfold Stop
    have b3 := Lib.hid (b0.out.below g)
    have K3 := Lib.hid (kbq KB.out g)
    have c1 := celln g c1
    clear x0 x1 c0 CF T1 CR b0 KB g
    have k4 := (Below.refl _ w3).alloc (Nat.le_refl _) (.cells #[.string p, .int .u64 e, .int .u64 b, .int .u8 k] 79)
    have b4 := Lib.hid (b3.out.below k4)
    have r4 := Lib.hid (Blk.new w3 #[.string p, .int .u64 e, .int .u64 b, .int .u8 k] 79)
    have K4 := Lib.hid (kbq K3.out k4)
    have d1 := celln k4 c1
    go_upto_region 4 with fail
    generalize w3.alloc (.cells #[.string p, .int .u64 e, .int .u64 b, .int .u8 k] 79) = W4 at *
    have x0 := b4.out.cell 0
    have x1 := b4.out.cell 1
    have y0 := r4.out.cell 0
    have y1 := r4.out.cell 1
    have y2 := r4.out.cell 2
    have y3 := r4.out.cell 3
    simp at x0 x1 y0 y1 y2 y3
    clear c1
    by_cases f1 : f < 1
    · have hEE : E = 44 := by rw [← HE.out, if_pos (.inl f1)]
      subst hEE
      go_wp2_with (go_at_call 114; refine (CS.out _).mono ?_; rintro e w2 ⟨rfl, hh⟩; subst hh)
      go_ret
      exact ⟨rfl, K4.out⟩
    · by_cases f2 : cp < f
      · have hEE : E = 44 := by rw [← HE.out, if_pos (.inr f2)]
        subst hEE
        go_wp2_with (first
          | (go_at_call 114; refine (CS.out _).mono ?_; rintro e w2 ⟨rfl, hh⟩; subst hh)
          | (go_at_call 68; refine (CC.out _).mono ?_; rintro e w5 ⟨rfl, _, g⟩))
        go_ret
        exact ⟨rfl, kbq K4.out g⟩
      · have hEE : E = 0 := by rw [← HE.out, if_neg (by omega)]
        subst hEE
        go_wp2_with (first
          | (go_at_call 114; refine (CS.out _).mono ?_; rintro e w2 ⟨rfl, hh⟩; subst hh)
          | (go_at_call 68; refine (CC.out _).mono ?_; rintro e w5 ⟨rfl, _, g⟩))
        go_ret
        exact ⟨rfl, kbq K4.out g⟩
end Go.Proofs.YtbejkcdaefkibaaGreat.Wd


namespace Go.Proofs.YtbejkcdaefkibaaGreat.Wd
open Go Go.RowKit Go.Deep Go.Shelf
set_option linter.unusedVariables false
set_option maxRecDepth 100000
attribute [local go_sem] Oper.semAt_some
abbrev Tpo : TypeId := 24
theorem ri_most {m : Int} {rs : List Rl} (h : riE m rs = 0) : 1 ≤ m ∧ m ≤ 1000000 := by
  unfold riE at h
  by_cases z : 1 ≤ m ∧ m ≤ 1000000
  · exact z
  · rw [if_pos z] at h; cases h
set_option maxHeartbeats 8000000 in
theorem eright_any (m : Int) (A : Option Addr) (n cap : Nat) (rs : List Rl) (C : Int) (A2 : Option Addr) (n2 cap2 : Nat) (es : List En) (w : World) (h : Rls w A n rs) (hn : n ≤ 1099511627776) (hm : -9223372036854775808 ≤ m ∧ m ≤ 9223372036854775807) (h2 : Ers w A2 n2 es) (hx : ∀ x ∈ es, Oke x) (hn2 : n2 ≤ 9223372036854775807) (hC : U C) :
    Calls Tryz.prog 26 #[.agg #[.int .i64 m, .slice A n cap], .agg (spC C (.slice A2 n2 cap2))] w fun e w' => e = .returned (.int .u16 (enR m rs C es)) ∧ Below w.heap.size w w' := by
  have hl2 : es.length = n2 := h2.1
  have k0 := Lib.hid (((Below.refl _ w).alloc (Nat.le_refl _) (.cells #[.int .i64 m, .slice A n cap] Tpo)).alloc (by simp) (.cells (spC C (.slice A2 n2 cap2)) Tsp))
  have b0 := Lib.hid ((Blk.new w #[.int .i64 m, .slice A n cap] Tpo).alloc (.cells (spC C (.slice A2 n2 cap2)) Tsp))
  have b1 := Blk.new (w.alloc (.cells #[.int .i64 m, .slice A n cap] Tpo)) (spC C (.slice A2 n2 cap2)) Tsp
  rw [show (w.alloc (.cells #[.int .i64 m, .slice A n cap] Tpo)).heap.size = w.heap.size + 1 by simp] at b1
  replace b1 := Lib.hid b1
  have H0 := Lib.hid (h.below k0.out)
  have H2 := Lib.hid (h2.below k0.out)
  have HX := Lib.hid hx
  have hok := Lib.hid (fun K r (e : findR rs K = some r) => find_okr h.2.1 K r e)
  obtain ⟨R, hR⟩ : ∃ R, enR m rs C es = R := ⟨_, rfl⟩
  obtain ⟨E0, hE0⟩ : ∃ E, riE m rs = E := ⟨_, rfl⟩
  have HM := Lib.hid (fun (e : E0 = 0) => ri_most (hE0.trans e))
  have HR : Hid ((if E0 = 0 then (if 9223372036854775807 < C then 11 else if m < (n2 : Int) then 32 else if soB (es.map Prod.fst) = true then feE rs C es else 42) else E0) = R) := Lib.hid (by rw [← hR, ← hE0, ← hl2]; rfl)
  have CR := Lib.hid (fun W (g : Rls W A n rs) => cright_any m A n cap rs W g hn hm)
  rw [hE0] at CR
  rw [hR]
  have HL := Lib.hid hl2
  clear h h2 hx hR hE0 hl2
  go_enter Tryz.func26, Tryz.ntmps26
  go_upto_region 1 with fail
  generalize (w.alloc (.cells #[.int .i64 m, .slice A n cap] Tpo)).alloc (.cells (spC C (.slice A2 n2 cap2)) Tsp) = W at *
  have x0 := b0.out.cell 0
  have x1 := b0.out.cell 1
  simp at x0 x1
  go_wp2_with (go_at_call 60; refine (CR.out _ H0.out).mono ?_; rintro e w1 ⟨rfl, g⟩; refine stopHere ?_)
  unfold Stop
  have K1 := Lib.hid (kbq k0.out g)
  have B0 := Lib.hid (b0.out.below g)
  have B1 := Lib.hid (b1.out.below g)
  have H1 := Lib.hid (H0.out.below g)
  have H3 := Lib.hid (H2.out.below g)
  clear x0 x1 CR k0 b0 b1 H0 H2 g
  have x0 := B0.out.cell 0
  have x1 := B0.out.cell 1
  have y0 := B1.out.cell 0
  have y1 := B1.out.cell 1
  simp at x0 x1 y0 y1
  by_cases e0 : E0 = 0
  · subst e0
    obtain ⟨hm1, hm2⟩ := HM.out rfl
    have HR2 : Hid ((if 9223372036854775807 < C then 11 else if m < (n2 : Int) then 32 else if soB (es.map Prod.fst) = true then feE rs C es else 42) = R) := Lib.hid (by rw [← HR.out, if_pos rfl])
    clear HR HM
    by_cases c1 : 9223372036854775807 < C
    · have hRR : R = 11 := by rw [← HR2.out, if_pos c1]
      subst hRR
      go_wp2
      go_ret
      exact ⟨rfl, K1.out⟩
    · by_cases c2 : m < (n2 : Int)
      · have hRR : R = 32 := by rw [← HR2.out, if_neg c1, if_pos c2]
        subst hRR
        go_wp2
        go_ret
        exact ⟨rfl, K1.out⟩
      · have HR3 : Hid ((if soB (es.map Prod.fst) = true then feE rs C es else 42) = R) := Lib.hid (by rw [← HR2.out, if_neg c1, if_neg c2])
        have CKY := Lib.hid (ekeys_any A2 n2 cap2 es w1 H3.out (by omega))
        clear HR2
        go_upto_region 8 with fail
        go_wp2_with (go_at_call 62; refine CKY.out.mono ?_; rintro e w2 ⟨u, rfl, o2, g⟩; refine stopHere ?_)
        unfold Stop
        obtain ⟨ks, hks⟩ : ∃ ks, es.map Prod.fst = ks := ⟨_, rfl⟩
        have hkl : ks.length = n2 := by rw [← hks, List.length_map]; exact HL.out
        obtain ⟨A3, c3, eu, _, _, hst⟩ := o2.sts (fun x hx => by
          obtain ⟨s, h1, rfl⟩ := List.mem_map.1 hx
          have := (HX.out s h1).1; omega)
        rw [hks] at hst HR3 eu
        rw [hkl] at hst eu
        subst eu
        have CSO := Lib.hid (sorted_any A3 n2 c3 ks w2 hst (by omega))
        have K2 := Lib.hid (kbq K1.out g)
        have C0 := Lib.hid (B0.out.below g)
        have C1 := Lib.hid (B1.out.below g)
        have H4 := Lib.hid (H1.out.below g)
        have H5 := Lib.hid (H3.out.below g)
        clear o2 hst g x0 x1 y0 y1 B0 B1 H1 H3 K1 CKY hks
        have x0 := C0.out.cell 0
        have x1 := C0.out.cell 1
        have y0 := C1.out.cell 0
        have y1 := C1.out.cell 1
        simp at x0 x1 y0 y1
        cases hso : soB ks with
        | false =>
          rw [hso] at CSO
          have hRR : R = 42 := by rw [← HR3.out, hso]; rfl
          subst hRR
          clear hso
          go_wp2_with (go_at_call 61; refine CSO.out.mono ?_; rintro e w3 ⟨rfl, g⟩)
          go_ret
          exact ⟨rfl, kbq K2.out g⟩
        | true =>
          rw [hso] at CSO
          have HR4 : Hid (feE rs C es = R) := Lib.hid (by rw [← HR3.out, hso, if_pos rfl])
          clear hso HR3
          go_upto_region 10 with (go_at_call 61; refine CSO.out.mono ?_; rintro e w3 ⟨rfl, g⟩)
          have K3 := Lib.hid (kbq K2.out g)
          have D0 := Lib.hid (C0.out.below g)
          have D1 := Lib.hid (C1.out.below g)
          have H6 := Lib.hid (H4.out.below g)
          have H7 := Lib.hid (H5.out.below g)
          clear x0 x1 y0 y1 C0 C1 H4 H5 K2 CSO g
          have x0 := D0.out.cell 0
          have x1 := D0.out.cell 1
          have y0 := D1.out.cell 0
          have y1 := D1.out.cell 1
          simp at x0 x1 y0 y1
          have MK := Lib.hid (fun (V : World) (g : Below w3.heap.size w3 V) => (show Below w3.heap.size w3 V ∧ V.cell? ⟨w.heap.size, 0, none⟩ = some (.int .i64 m) ∧ V.cell? ⟨w.heap.size, 1, none⟩ = some (.slice A n cap) ∧ V.cell? ⟨w.heap.size + 1, 0, none⟩ = some (.int .u64 C) ∧ V.cell? ⟨w.heap.size + 1, 1, none⟩ = some (.slice A2 n2 cap2) from
            ⟨g, (D0.out.below g).cell 0, (D0.out.below g).cell 1, (D1.out.below g).cell 0, (D1.out.below g).cell 1⟩))
          have CN := Lib.hid (fun (V : World) (g : Below w3.heap.size w3 V) => pnew_any A n cap rs V (H6.out.below g) (by omega))
          have kW := Below.refl w3.heap.size w3
          go_wp2_with fail
          go_region_held3 (fun w' => Below w3.heap.size w3 w' ∧ w'.cell? ⟨w.heap.size, 0, none⟩ = some (.int .i64 m) ∧ w'.cell? ⟨w.heap.size, 1, none⟩ = some (.slice A n cap) ∧ w'.cell? ⟨w.heap.size + 1, 0, none⟩ = some (.int .u64 C) ∧ w'.cell? ⟨w.heap.size + 1, 1, none⟩ = some (.slice A2 n2 cap2))
            (first | with_reducible exact MK.out _ kW | with_reducible exact MK.out _ kW.drew)
            (first
              | (go_at_call 58; (first
                | (with_reducible refine (CN.out _ kW).mono ?_; rintro r w4 ⟨T, rfl, hT, g⟩; have kT := Below.refl w4.heap.size w4; replace kW := kbq kW g; clear g)
                | (with_reducible refine (CN.out _ kW.drew).mono ?_; rintro r w4 ⟨T, rfl, hT, g⟩; have kT := Below.refl w4.heap.size w4; replace kW := kbq kW.drew g; clear g)))
              | (go_at_call 63; (with_reducible refine (asked_any _ _ _).mono ?_); rintro r w5 ⟨P, rfl, p0, p1, g⟩; (first | with_reducible (replace kW := kbq kW g; replace kT := kbq kT g; clear g) | with_reducible (replace kW := kbq kW.drew g; replace kT := kbq kT.drew g; clear g))))
          rename_i hH
          have HT5 := Lib.hid (hT.out.below kT)
          have K5 := Lib.hid (kbq K3.out kW)
          have D5 := Lib.hid (D1.out.below kW)
          have E5 := Lib.hid (H7.out.below kW)
          have P0 := Lib.hid p0
          have P1 := Lib.hid p1
          clear hH x0 x1 y0 y1 MK CN kT kW hT p0 p1 D0 D1 H6 H7 K3
          have y1 := D5.out.cell 1
          simp at y1
          go_wp2_with fail
          go_loopw [38] (fun i wr => ∃ j : Nat, i = .int .i64 (j : Int) ∧ j ≤ n2 ∧ Hid (feE rs C (es.drop j) = R) ∧ Hid (Below w5.heap.size w5 wr)) (fun i _ => n2 - (intOf i).toNat)
          case atStart => exact ⟨0, rfl, Nat.zero_le _, Lib.hid HR4.out, Lib.hid (Below.refl _ _)⟩
          case round =>
            obtain ⟨j, rfl, hj, HD, hB⟩ := hrel
            have hBs := hB.out.size
            by_cases hlt : j < n2
            · obtain ⟨b, off, rfl, hb, hcc⟩ := (E5.out.below hB.out).2 (by omega)
              obtain ⟨x0, x1⟩ := hcc j hlt
              have hj' : j < es.length := by rw [HL.out]; exact hlt
              have hd := Lib.hid (atE_drop hj')
              have ho := Lib.hid (HX.out _ (atE_mem hj'))
              have CA := Lib.hid (fun W (g : Below w5.heap.size w5 W) => asked1_any (atE es j) P T C rs W (celln g P0.out) (celln g P1.out) (HT5.out.below g) ho.out hC hok.out)
              have HDD : Hid (feE rs C (es.drop j) = if enE rs C (atE es j) = 0 then feE rs C (es.drop (j + 1)) else enE rs C (atE es j)) := Lib.hid (by rw [hd.out]; rfl)
              clear hcc hj' hd ho
              generalize enE rs C (atE es j) = Ey at *
              generalize atE es j = y at *
              obtain ⟨K, D⟩ := y
              dsimp only at x0 x1
              have hB2 := Lib.hid (hB.out.alloc hB.out.size (.cells (En.cs (K, D)) Tae))
              by_cases ez : Ey = 0
              · have HD' : Hid (feE rs C (es.drop (j + 1)) = R) := Lib.hid (by rw [← HD.out, HDD.out, if_pos ez])
                subst ez
                clear HDD HD
                go_wp2_with (go_at_call 111; refine (CA.out _ hB2.out).mono ?_; rintro e w6 ⟨rfl, g⟩)
                go_roundw
                case rel => exact ⟨j + 1, by go_num, by omega, HD', Lib.hid (hB2.out.trans (g.mono hB2.out.size))⟩
                case measure => simp [intOf]; omega
              · have hRR : R = Ey := by rw [← HD.out, HDD.out, if_neg ez]
                subst hRR
                have hne : (R != 0) = true := by simpa using ez
                clear HDD HD ez
                go_wp2_with (go_at_call 111; refine (CA.out _ hB2.out).mono ?_; rintro e w6 ⟨rfl, g⟩)
                go_ret
                exact ⟨rfl, kbq K5.out (hB2.out.trans (g.mono hB2.out.size))⟩
            · have hRR : R = 0 := by
                have := HD.out
                rw [List.drop_eq_nil_of_le (by rw [HL.out]; omega)] at this
                exact this.symm
              subst hRR
              clear HD HR4
              go_wp2
              go_ret
              exact ⟨rfl, kbq K5.out hB.out⟩
  · have hRR : R = E0 := by rw [← HR.out, if_neg e0]
    subst hRR
    have hne : (R != 0) = true := by simpa using e0
    go_wp2
    go_ret
    exact ⟨rfl, K1.out⟩
end Go.Proofs.YtbejkcdaefkibaaGreat.Wd


namespace Go.Proofs.YtbejkcdaefkibaaGreat.Wd
open Go Go.RowKit Go.Deep Go.Shelf
set_option linter.unusedVariables false
set_option maxRecDepth 100000
attribute [local go_sem] Oper.semAt_some
def rlE (rs : List Rl) (K : ByteArray) : Rl := (findR rs K).getD rl0
def esl (rs : List Rl) (cl : Int) (x : En) : Sl := ⟨x.1, rlE rs x.1, koK (rlE rs x.1).k, koA (rlE rs x.1).k cl (capR (rlE rs x.1)) (x.2 - cl), koB (rlE rs x.1).k cl⟩
theorem rlE_ok {rs : List Rl} (h : ∀ K r, findR rs K = some r → Okr r) (K : ByteArray) : Okr (rlE rs K) := by
  unfold rlE
  cases e : findR rs K with
  | none => exact okr0
  | some r => exact h K r e
set_option maxHeartbeats 8000000 in
theorem slot_any (T : Nat) (cl : Int) (x : En) (rs : List Rl) (w : World) (hT : TreeAt w T rs) (hx : Oke x) (hcl : U cl) (hge : cl < x.2) (hok : ∀ K r, findR rs K = some r → Okr r) :
    Calls Tryz.prog 101 #[.pointer (some ⟨T, 0, none⟩), .int .u64 cl, .agg (En.cs x)] w fun e w' => e = .returned (esl rs cl x).v ∧ Below w.heap.size w w' := by
  obtain ⟨K, D⟩ := x
  have hK : K.size ≤ 281474976710656 := hx.1
  have hD : U D := hx.2
  have hge : cl < D := hge
  have hrr := rlE_ok hok K
  have HS : Hid (esl rs cl (K, D) = ⟨K, rlE rs K, koK (rlE rs K).k, koA (rlE rs K).k cl (capR (rlE rs K)) (D - cl), koB (rlE rs K).k cl⟩) := Lib.hid rfl
  have CF := Lib.hid (fun W (g : TreeAt W T rs) => find_any T K rs W hK g)
  rw [show (findR rs K).getD rl0 = rlE rs K from rfl] at CF
  obtain ⟨S, hS⟩ : ∃ S, esl rs cl (K, D) = S := ⟨_, rfl⟩
  rw [hS] at HS ⊢
  clear hS
  generalize rlE rs K = rr at *
  obtain ⟨p, e, b, k⟩ := rr
  have hp : p.size ≤ 281474976710656 := hrr.p
  have hcpU : U (capR ⟨p, e, b, k⟩) := capR_U hrr
  have CC := Lib.hid (fun W => cap_any p e b k W (by omega) hrr.e hrr.b)
  rw [show caI p e b k = capR ⟨p, e, b, k⟩ from rfl] at CC
  generalize capR ⟨p, e, b, k⟩ = cp at *
  have hf : U (D - cl) := by unfold U at *; omega
  have CO := Lib.hid (fun W => kof_any k cl cp (D - cl) W hcl hcpU hf)
  have hsb : IntKind.u64.wrap (D - cl) = D - cl := by rw [IntKind.wrap_u64]; unfold U at *; omega
  have HS2 : Hid (S = ⟨K, ⟨p, e, b, k⟩, koK k, koA k cl cp (D - cl), koB k cl⟩) := HS
  generalize koK k = kk at *
  generalize koA k cl cp (D - cl) = ka at *
  generalize koB k cl = kb at *
  have b0 := Lib.hid ((Blk.new w (En.cs (K, D)) Tae).alloc (.cells zsl Tas))
  have b1 := Blk.new (w.alloc (.cells (En.cs (K, D)) Tae)) zsl Tas
  rw [show (w.alloc (.cells (En.cs (K, D)) Tae)).heap.size = w.heap.size + 1 by simp] at b1
  replace b1 := Lib.hid b1
  have k0 := Lib.hid (((Below.refl _ w).alloc (Nat.le_refl _) (.cells (En.cs (K, D)) Tae)).alloc (by simp) (.cells zsl Tas))
  have T0 := Lib.hid (hT.below k0.out)
  clear hT hx hok HS hrr
  go_enter Tryz.func101, Tryz.ntmps101
  go_upto_region 1 with fail
  generalize (w.alloc (.cells (En.cs (K, D)) Tae)).alloc (.cells zsl Tas) = W0 at *
  have x0 := b0.out.cell 0
  simp at x0
  go_wp2_with (go_at_call 113; refine (CF.out _ T0.out).mono ?_; rintro e w1 ⟨rfl, g⟩; refine stopHere ?_)
  unfold Stop
  have k4 := (Below.refl _ w1).alloc (Nat.le_refl _) (.cells #[.string p, .int .u64 e, .int .u64 b, .int .u8 k] 79)
  have b2 := Lib.hid ((b0.out.below g).below k4)
  have b3 := Lib.hid ((b1.out.below g).below k4)
  have r4 := Lib.hid (Blk.new w1 #[.string p, .int .u64 e, .int .u64 b, .int .u8 k] 79)
  have K4 := Lib.hid (kbq (kbq k0.out g) k4)
  clear x0 b0 b1 k0 T0 CF g k4
  go_upto_region 2 with fail
  generalize w1.alloc (.cells #[.string p, .int .u64 e, .int .u64 b, .int .u8 k] 79) = W at *
  generalize hY : w1.heap.size = Y at *
  have x0 := b2.out.cell 0
  have x1 := b2.out.cell 1
  have r0 := r4.out.cell 0
  have r1 := r4.out.cell 1
  have r2 := r4.out.cell 2
  have r3 := r4.out.cell 3
  simp at x0 x1 r0 r1 r2 r3
  have lY := r4.out.lt
  have lB := b2.out.lt
  have kr := Tch.refl (fun _ => False) W
  clear hY
  go_cut [9, 10] from 18 to 30 (fun v _ wx => ∃ Z, v = .pointer (some ⟨Z, 0, none⟩) ∧ W.heap.size ≤ Z ∧ Blk wx Z #[.int .u8 kk, .int .u64 ka, .int .u64 kb] 90 ∧ Tch (fun _ => False) W wx)
  case first =>
    go_region_held3 (fun w' => Tch (fun _ => False) W w' ∧ w'.cell? ⟨Y, 0, none⟩ = some (.string p) ∧ w'.cell? ⟨Y, 1, none⟩ = some (.int .u64 e) ∧ w'.cell? ⟨Y, 2, none⟩ = some (.int .u64 b) ∧ w'.cell? ⟨Y, 3, none⟩ = some (.int .u8 k) ∧ w'.cell? ⟨w.heap.size, 1, none⟩ = some (.int .u64 D))
      (first | with_reducible exact ⟨kr, r0, r1, r2, r3, x1⟩ | with_reducible exact ⟨(td kr), dcell r0, dcell r1, dcell r2, dcell r3, dcell x1⟩ | with_reducible exact ⟨(ta kr), acell r0, acell r1, acell r2, acell r3, acell x1⟩ | with_reducible exact ⟨(td (ta kr)), dcell (acell r0), dcell (acell r1), dcell (acell r2), dcell (acell r3), dcell (acell x1)⟩ | with_reducible exact ⟨(ts3 kr (.inr hz)), sc3 r0 (Nat.ne_of_lt (Nat.lt_of_lt_of_le lY hz)), sc3 r1 (Nat.ne_of_lt (Nat.lt_of_lt_of_le lY hz)), sc3 r2 (Nat.ne_of_lt (Nat.lt_of_lt_of_le lY hz)), sc3 r3 (Nat.ne_of_lt (Nat.lt_of_lt_of_le lY hz)), sc3 x1 (Nat.ne_of_lt (Nat.lt_of_lt_of_le lB hz))⟩ | with_reducible exact ⟨(td (ts3 kr (.inr hz))), dcell (sc3 r0 (Nat.ne_of_lt (Nat.lt_of_lt_of_le lY hz))), dcell (sc3 r1 (Nat.ne_of_lt (Nat.lt_of_lt_of_le lY hz))), dcell (sc3 r2 (Nat.ne_of_lt (Nat.lt_of_lt_of_le lY hz))), dcell (sc3 r3 (Nat.ne_of_lt (Nat.lt_of_lt_of_le lY hz))), dcell (sc3 x1 (Nat.ne_of_lt (Nat.lt_of_lt_of_le lB hz)))⟩ | with_reducible exact ⟨(ts3 kr (.inr (Nat.le_refl _))), sc3 r0 (Nat.ne_of_lt lY), sc3 r1 (Nat.ne_of_lt lY), sc3 r2 (Nat.ne_of_lt lY), sc3 r3 (Nat.ne_of_lt lY), sc3 x1 (Nat.ne_of_lt lB)⟩ | with_reducible exact ⟨(td (ts3 kr (.inr (Nat.le_refl _)))), dcell (sc3 r0 (Nat.ne_of_lt lY)), dcell (sc3 r1 (Nat.ne_of_lt lY)), dcell (sc3 r2 (Nat.ne_of_lt lY)), dcell (sc3 r3 (Nat.ne_of_lt lY)), dcell (sc3 x1 (Nat.ne_of_lt lB))⟩)
      (first
        | (go_at_call 68; ((with_reducible refine (CC.out _).mono ?_); rintro r w' ⟨rfl, _, g⟩; (first | with_reducible (replace kr := tb kr g; replace r0 := celln g r0; replace r1 := celln g r1; replace r2 := celln g r2; replace r3 := celln g r3; replace x1 := celln g x1; try (replace zb := zb.below g; (try clear z0 z1 z2 zf0 zf1 zf2); obtain ⟨z0, z1, z2, zf0, zf1, zf2⟩ := blk3 zb)) | with_reducible (replace kr := tb (td kr) g; replace r0 := celln g (dcell r0); replace r1 := celln g (dcell r1); replace r2 := celln g (dcell r2); replace r3 := celln g (dcell r3); replace x1 := celln g (dcell x1); try (replace zb := (zb.dr).below g; (try clear z0 z1 z2 zf0 zf1 zf2); obtain ⟨z0, z1, z2, zf0, zf1, zf2⟩ := blk3 zb)) | with_reducible (have zb := (Blk.new _ _ _).below g; obtain ⟨z0, z1, z2, zf0, zf1, zf2⟩ := blk3 zb; have hz := kr.size; replace kr := tb (ta kr) g; replace r0 := celln g (acell r0); replace r1 := celln g (acell r1); replace r2 := celln g (acell r2); replace r3 := celln g (acell r3); replace x1 := celln g (acell x1)) | with_reducible (have zb := ((Blk.new _ _ _).dr).below g; obtain ⟨z0, z1, z2, zf0, zf1, zf2⟩ := blk3 zb; have hz := kr.size; replace kr := tb (td (ta kr)) g; replace r0 := celln g (dcell (acell r0)); replace r1 := celln g (dcell (acell r1)); replace r2 := celln g (dcell (acell r2)); replace r3 := celln g (dcell (acell r3)); replace x1 := celln g (dcell (acell x1))))))
        | (go_at_call 150; ((with_reducible refine (CO.out _).mono ?_); rintro r w' ⟨rfl, _, g⟩; (first | with_reducible (replace kr := tb kr g; replace r0 := celln g r0; replace r1 := celln g r1; replace r2 := celln g r2; replace r3 := celln g r3; replace x1 := celln g x1; try (replace zb := zb.below g; (try clear z0 z1 z2 zf0 zf1 zf2); obtain ⟨z0, z1, z2, zf0, zf1, zf2⟩ := blk3 zb)) | with_reducible (replace kr := tb (td kr) g; replace r0 := celln g (dcell r0); replace r1 := celln g (dcell r1); replace r2 := celln g (dcell r2); replace r3 := celln g (dcell r3); replace x1 := celln g (dcell x1); try (replace zb := (zb.dr).below g; (try clear z0 z1 z2 zf0 zf1 zf2); obtain ⟨z0, z1, z2, zf0, zf1, zf2⟩ := blk3 zb)) | with_reducible (have zb := (Blk.new _ _ _).below g; obtain ⟨z0, z1, z2, zf0, zf1, zf2⟩ := blk3 zb; have hz := kr.size; replace kr := tb (ta kr) g; replace r0 := celln g (acell r0); replace r1 := celln g (acell r1); replace r2 := celln g (acell r2); replace r3 := celln g (acell r3); replace x1 := celln g (acell x1)) | with_reducible (have zb := ((Blk.new _ _ _).dr).below g; obtain ⟨z0, z1, z2, zf0, zf1, zf2⟩ := blk3 zb; have hz := kr.size; replace kr := tb (td (ta kr)) g; replace r0 := celln g (dcell (acell r0)); replace r1 := celln g (dcell (acell r1)); replace r2 := celln g (dcell (acell r2)); replace r3 := celln g (dcell (acell r3)); replace x1 := celln g (dcell (acell x1)))))))
    all_goals
      first
      | (have hB := bset3 (p0 := .int .u8 kk) (p1 := .int .u64 ka) (p2 := .int .u64 kb) zb
         have hY := (show W.heap.size ≤ _ by first | exact hz | exact Nat.le_refl _)
         have hk9 := ts3 (p0 := .int .u8 kk) (p1 := .int .u64 ka) (p2 := .int .u64 kb) kr (.inr hY)
         generalize ((World.setCell _ _ (.int .u8 kk)).setCell _ (.int .u64 ka)).setCell _ (.int .u64 kb) = W9 at *
         go_wp2
         go_meet
         case rel => exact ⟨_, rfl, hY, hB, hk9⟩)
      | (have hB := Blk.new w' #[.int .u8 kk, .int .u64 ka, .int .u64 kb] 90
         have hY := kr.size
         have hk9 := ta (o := .cells #[.int .u8 kk, .int .u64 ka, .int .u64 kb] 90) kr
         generalize w'.alloc (.cells #[.int .u8 kk, .int .u64 ka, .int .u64 kb] 90) = W9 at *
         go_wp2
         go_meet
         case rel => exact ⟨_, rfl, hY, hB, hk9⟩)
  case rest =>
  obtain ⟨Z, rfl, hZ, hB, hk9⟩ := hcut
  have a2 := Lib.hid (hk9.blk b2.out (fun x => x))
  have a3 := Lib.hid (hk9.blk b3.out (fun x => x))
  have a4 := Lib.hid (hk9.blk r4.out (fun x => x))
  have k9 := Lib.hid (Tch.belowF K4.out hk9)
  clear x0 x1 r0 r1 r2 r3 kr b2 b3 r4 K4 hk9
  obtain ⟨z0, z1, z2, _⟩ := blk3 hB
  have x0 := a2.out.cell 0
  have r0 := a4.out.cell 0
  have r1 := a4.out.cell 1
  have r2 := a4.out.cell 2
  have r3 := a4.out.cell 3
  simp at x0 r0 r1 r2 r3
  obtain ⟨y0, y1, y2, y3, y4, y5, y6, y7, f0, f1, f2, f3, f4, f5, f6, f7⟩ := blk8 a3.out
  have hS2 := HS2.out
  subst hS2
  go_wp2
  have z := bset8 a3.out (⟨K, ⟨p, e, b, k⟩, kk, ka, kb⟩ : Sl)
  have kz := tch_below k9.out (ts8 (p0 := .string K) (p1 := .string p) (p2 := .int .u64 e) (p3 := .int .u64 b) (p4 := .int .u8 k) (p5 := .int .u8 kk) (p6 := .int .u64 ka) (p7 := .int .u64 kb) (Tch.refl (fun k => k = w.heap.size + 1) wc) (X := w.heap.size + 1) (.inl rfl)) (Nat.le_refl _) (fun k h e => by omega)
  obtain ⟨q0, q1, q2, q3, q4, q5, q6, q7⟩ := Blk.eight z
  refine bodyPost_ret (v := .agg #[.string K, .string p, .int .u64 e, .int .u64 b, .int .u8 k, .int .u8 kk, .int .u64 ka, .int .u64 kb]) ?_ rfl ⟨rfl, kz⟩
  simp only at q0 q1 q2 q3 q4 q5 q6 q7
  simp [results, Tryz.results101, go_sem, q0, q1, q2, q3, q4, q5, q6, q7]
end Go.Proofs.YtbejkcdaefkibaaGreat.Wd


namespace Go.Proofs.YtbejkcdaefkibaaGreat.Wd
open Go Go.RowKit Go.Deep Go.Shelf
set_option linter.unusedVariables false
set_option maxRecDepth 100000
attribute [local go_sem] Oper.semAt_some
def Kq (N L : Nat) (A C : World) : Prop := A.heap.size ≤ C.heap.size ∧ ∀ k, k < N → k ≠ L → C.heap[k]? = A.heap[k]?
theorem Kq.trans {N L : Nat} {A B C : World} (h : Kq N L A B) (g : Kq N L B C) : Kq N L A C := ⟨Nat.le_trans h.1 g.1, fun k h1 h2 => (g.2 k h1 h2).trans (h.2 k h1 h2)⟩
theorem Kq.put {N L : Nat} (W : World) (l : Nat) (o o' : Obj) (hN : N ≤ l) (h : W.heap[l]? = some o) : Kq N L W (W.putObj l o') :=
  ⟨by simp, fun k h1 _ => putO_other (fun e => by omega)⟩
theorem Kq.of {N L : Nat} {A C : World} (h : Below A.heap.size A C) (hN : N ≤ A.heap.size) : Kq N L A C := ⟨h.size, fun k h1 _ => h.block k (by omega)⟩
theorem Kq.blk {N L : Nat} {A C : World} (h : Kq N L A C) {k : Nat} {cs : Array Value} {t : TypeId} (x : Blk A k cs t) (h1 : k < N) (h2 : k ≠ L) : Blk C k cs t := (h.2 k h1 h2).trans x
theorem Kq.box {N L : Nat} {A C : World} (h : Kq N L A C) {k : Nat} {v : Value} {t : TypeId} (x : Boxed A k t v) (h1 : k < N) (h2 : k ≠ L) : Boxed C k t v := (h.2 k h1 h2).trans x
theorem Kq.cell {N L : Nat} {A C : World} (h : Kq N L A C) {k o : Nat} {v : Value} (x : A.cell? ⟨k, o, none⟩ = some v) (h1 : k < N) (h2 : k ≠ L) : C.cell? ⟨k, o, none⟩ = some v := by
  have := h.2 k h1 h2
  simp only [World.cell?] at x ⊢
  rw [this]; exact x
def Tro (N L : Nat) (w : World) (T : Nat) (rs : List Rl) : Prop := ∃ F R lo, w.heap[T]? = some (.cells #[ndp (some R), .int .i64 (cntT rs rs.length : Int)] 175) ∧ Lies w F lo ∧ Grove F R rs ∧ (T < N ∧ T ≠ L) ∧ ∀ b nd, F b = some nd → (b < N ∧ b ≠ L) ∧ ∀ m, nd.mp = some m → m < N ∧ m ≠ L
theorem Tro.at {N L : Nat} {w : World} {T : Nat} {rs : List Rl} (h : Tro N L w T rs) : TreeAt w T rs := by
  obtain ⟨F, R, lo, h1, h2, h3, _⟩ := h
  exact ⟨F, R, lo, h1, h2, h3⟩
theorem Tro.kq {N L : Nat} {A C : World} {T : Nat} {rs : List Rl} (h : Tro N L A T rs) (g : Kq N L A C) : Tro N L C T rs := by
  obtain ⟨F, R, lo, h1, h2, h3, h4, h5⟩ := h
  exact ⟨F, R, lo, (g.2 T h4.1 h4.2).trans h1, ⟨fun b nd hb => (g.2 b (h5 b nd hb).1.1 (h5 b nd hb).1.2).trans (h2.node b nd hb), fun b nd m hb hm => (g.2 m ((h5 b nd hb).2 m hm).1 ((h5 b nd hb).2 m hm).2).trans (h2.map b nd m hb hm), h2.bare, h2.apart, h2.low, h2.small⟩, h3, h4, h5⟩
theorem Tro.of {N L : Nat} {w : World} {T : Nat} {rs : List Rl} {v : Value} (h : TreeAt w T rs) (hN : w.heap.size = N) (hL : Boxed w L Tass v) : Tro N L w T rs := by
  obtain ⟨F, R, lo, h1, h2, h3⟩ := h
  have hL : w.heap[L]? = some (.cells #[v] Tass) := hL
  refine ⟨F, R, lo, h1, h2, h3, ⟨by rw [← hN]; exact heap_lt h1, fun e => ?_⟩, fun b nd hb => ⟨⟨by rw [← hN]; exact heap_lt (h2.node b nd hb), fun e => ?_⟩, fun m hm => ⟨by rw [← hN]; exact heap_lt (h2.map b nd m hb hm), fun e => ?_⟩⟩⟩
  · subst e; rw [hL] at h1; injection h1 with h1; injection h1 with _ h1; exact absurd h1 (by decide)
  · subst e; have := h2.node _ nd hb; rw [hL] at this; injection this with this; injection this with _ this; exact absurd this (by decide)
  · subst e; have := h2.map b nd _ hb hm; rw [hL] at this; injection this with this; cases this
def acE (rs : List Rl) (cl : Int) (es : List En) : List Sl := (es.filter (fun x => decide (cl < x.2))).map (esl rs cl)
theorem acE_app (rs : List Rl) (cl : Int) (a b : List En) : acE rs cl (a ++ b) = acE rs cl a ++ acE rs cl b := by unfold acE; rw [List.filter_append, List.map_append]
theorem acE_one (rs : List Rl) (cl : Int) (x : En) : acE rs cl [x] = if cl < x.2 then [esl rs cl x] else [] := by
  unfold acE
  by_cases z : cl < x.2
  · rw [if_pos z, List.filter_cons_of_pos (by simpa using z)]; rfl
  · rw [if_neg z, List.filter_cons_of_neg (by simpa using z)]; rfl
theorem acE_len (rs : List Rl) (cl : Int) (es : List En) : (acE rs cl es).length ≤ es.length := by unfold acE; rw [List.length_map]; exact List.length_filter_le _ _
abbrev Tq64 : TypeId := 25
abbrev Tpt : TypeId := 119
set_option maxHeartbeats 4000000 in
theorem eact1_stops (n : Nat) (hn : 8 ≤ n) (N L b1 b2 b3 T : Nat) (cl : Int) (rs : List Rl) (A2 : Option Addr) (n2 cap2 : Nat) (es : List En) (w : World) (hN : w.heap.size = N) (h1 : Boxed w b1 Tens (.slice A2 n2 cap2)) (h2 : Boxed w b2 Tq64 (.int .u64 cl)) (h3 : Boxed w b3 Tpt (.pointer (some ⟨T, 0, none⟩)))
    (hb : b1 ≠ L ∧ b2 ≠ L ∧ b3 ≠ L) (hE : Ers w A2 n2 es) (hEL : 0 < n2 → ∀ ad, A2 = some ad → ad.block ≠ L) (hT : Tro N L w T rs) (hx : ∀ x ∈ es, Oke x) (hcl : U cl) (hok : ∀ K r, findR rs K = some r → Okr r) (hn2 : n2 ≤ 1000000000) :
    SeqStopsK Fence.wide n Tryz.prog 100 #[.pointer (some ⟨b1, 0, none⟩), .pointer (some ⟨b2, 0, none⟩), .pointer (some ⟨b3, 0, none⟩)] (fun s : Sl => #[s.v]) (Kq N L) (fun xs => xs = acE rs cl es) (fun _ => True) n2 w := by
  have hn1 : 1 ≤ n := by omega
  intro l J Jx W hW hJ hJx hY h0
  have l1 : b1 < N := by rw [← hN]; exact h1.lt
  have l2 : b2 < N := by rw [← hN]; exact h2.lt
  have l3 : b3 < N := by rw [← hN]; exact h3.lt
  have HY := Lib.hid hY
  have HJ := Lib.hid hJ
  have H0 := Lib.hid h0
  have HL := Lib.hid hE.1
  have HX := Lib.hid hx
  have HOK := Lib.hid hok
  have K0 : Hid (Kq N L w W) := Lib.hid (Kq.of hW (by omega))
  have HB1 := Lib.hid (fun V (g : Kq N L w V) => g.box h1 l1 hb.1)
  have HB2 := Lib.hid (fun V (g : Kq N L w V) => g.box h2 l2 hb.2.1)
  have HB3 := Lib.hid (fun V (g : Kq N L w V) => g.box h3 l3 hb.2.2)
  have HTR := Lib.hid (fun V (g : Kq N L w V) => hT.kq g)
  have HEC : Hid (∀ k, k < n2 → ∃ b off, A2 = some ⟨b, off, none⟩ ∧ ∀ V, Kq N L w V → S2 V b (off + k * 2) (atE es k)) := Lib.hid (fun k hk => by
    obtain ⟨b, off, e, hb, hc⟩ := hE.2 (by omega)
    have hne := hEL (by omega) _ e
    exact ⟨b, off, e, fun V g => ⟨g.cell (hc k hk).1 (by rw [← hN]; exact hb) hne, g.cell (hc k hk).2 (by rw [← hN]; exact hb) hne⟩⟩)
  have hWs := hW.size
  clear hY hJ hJx h0 hE hx hok h1 h2 h3 hT hEL hW
  refine callsIn_of_wp Tryz.func100 rfl trivial ?_ rfl
  simp only [Tryz.ntmps100, List.size_toArray, List.length_cons, List.length_nil, Nat.reduceAdd, Nat.reduceSub, Array.replicate_succ, Array.replicate_zero, List.push_toArray, List.append_toArray, List.nil_append, List.cons_append]
  have c1 := (HB1.out W K0.out).cell
  gi_wp2
  gi_loopw [9] (fun i wr => ∃ k : Nat, i = .int .i64 (k : Int) ∧ k ≤ n2 ∧ ∃ xs : List Sl, Hid (xs = acE rs cl (es.take k)) ∧ J xs wr ∧ Hid (Kq N L w wr)) (fun i _ => n2 - (intOf i).toNat)
  case atStart => exact ⟨0, rfl, Nat.zero_le _, [], Lib.hid rfl, H0.out, K0⟩
  case round =>
    obtain ⟨k, rfl, hk, xs, hxs, hJs, hK⟩ := hrel
    have hwrs : N ≤ wr.heap.size := by have := hK.out.1; omega
    by_cases hlt : k < n2
    · have hlt' : (k : Int) < (n2 : Int) := by omega
      obtain ⟨b, off, rfl, hcell⟩ := HEC.out k hlt
      obtain ⟨x0, x1⟩ := hcell wr hK.out
      have hke : k < es.length := by rw [HL.out]; exact hlt
      have ht := atE_take hke
      have hox := Lib.hid (HX.out _ (atE_mem hke))
      have HXS : Hid (acE rs cl (es.take (k + 1)) = xs ++ if cl < (atE es k).2 then [esl rs cl (atE es k)] else []) := Lib.hid (by rw [ht, acE_app, acE_one, hxs.out])
      have hxl : xs.length < n2 := by
        have := acE_len rs cl (es.take k)
        rw [← hxs.out, List.length_take] at this
        omega
      clear hcell ht hke
      generalize atE es k = x at *
      have ga := (Below.refl _ wr).alloc (Nat.le_refl _) (.cells (En.cs x) Tae)
      have KV : Hid (Kq N L w (wr.alloc (.cells (En.cs x) Tae))) := Lib.hid (hK.out.trans (Kq.of ga hwrs))
      have JV : Hid (J xs (wr.alloc (.cells (En.cs x) Tae))) := Lib.hid (HJ.out _ _ _ none hJs ⟨ga.os, ga.tape, ga.output, ga.size, fun k hk _ => ga.block k hk⟩ (fun _ e => by cases e))
      have bX := Lib.hid (Blk.new wr (En.cs x) Tae)
      have hVs : N ≤ (wr.alloc (.cells (En.cs x) Tae)).heap.size := by simp; omega
      clear ga hJs
      obtain ⟨K, D⟩ := x
      dsimp only at x0 x1 HXS
      have c2 := (HB2.out _ KV.out).cell
      have c3 := (HB3.out _ KV.out).cell
      by_cases hD : cl < D
      · have hge : decide (cl < D) = true := decide_eq_true hD
        have CS := Lib.hid (callsIn_wide (n := n - 1) |>.2 (slot_any T cl (K, D) rs _ (HTR.out _ KV.out).at hox.out hcl hD HOK.out))
        gi_wp2_with (refine ⟨trivial, ?_⟩; gi_at_call 101; refine CS.out.mono ?_; rintro e w2 ⟨rfl, kb⟩; refine stopHere ?_)
        unfold Stop
        have K2 : Hid (Kq N L w w2) := Lib.hid (KV.out.trans (Kq.of kb hVs))
        have J2 : Hid (J xs w2) := Lib.hid (HJ.out _ _ _ none JV.out ⟨kb.os, kb.tape, kb.output, kb.size, fun k hk _ => kb.block k hk⟩ (fun _ e => by cases e))
        obtain ⟨fn, tmps, assign, body, hy, hR⟩ := HY.out xs (esl rs cl (K, D)) w2 J2.out hxl
        have HR := Lib.hid (hR.mono (R' := fun e W' => ∃ o : Bool, e = .returned (.bool o) ∧ Hid ((o = true ∧ J (xs ++ [esl rs cl (K, D)]) W' ∧ Kq N L w2 W') ∨ (o = false ∧ Jx (xs ++ [esl rs cl (K, D)]) W'))) (by
          rintro e W' (⟨rfl, h1, h2⟩ | ⟨rfl, h1⟩)
          · exact ⟨true, rfl, Lib.hid (.inl ⟨rfl, h1, h2⟩)⟩
          · exact ⟨false, rfl, Lib.hid (.inr ⟨rfl, h1⟩)⟩))
        clear hR kb CS c2 c3 KV JV bX x0 x1
        have HXP : Hid (xs ++ [esl rs cl (K, D)] = acE rs cl (es.take (k + 1))) := Lib.hid (by rw [HXS.out, if_pos hD])
        gi_wp2_with (refine HR.out.mono ?_; rintro e W3 ⟨o, rfl, h3⟩; refine stopHere ?_)
        unfold Stop
        rcases h3.out with ⟨rfl, hJ3, hk3⟩ | ⟨rfl, hJ3⟩
        · gi_wp2
          go_roundw
          case rel => exact ⟨k + 1, by go_num, hlt, _, HXP, hJ3, Lib.hid (K2.out.trans hk3)⟩
          case measure => simp [intOf]; omega
        · gi_wp2
          refine bodyPost_ret (results_none rfl _ _ _) rfl ?_
          exact ⟨⟨_, rfl⟩, .inr ⟨_, hJ3⟩⟩
      · have hge : decide (cl < D) = false := decide_eq_false hD
        have HXP : Hid (xs = acE rs cl (es.take (k + 1))) := Lib.hid (by rw [HXS.out, if_neg hD, List.append_nil])
        gi_wp2
        refine ⟨trivial, ?_⟩
        gi_wp2
        refine ⟨fun f h => (by cases h), ?_⟩
        gi_wp2
        go_roundw
        case rel => exact ⟨k + 1, by go_num, hlt, xs, HXP, JV.out, KV⟩
        case measure => simp [intOf]; omega
    · have hlt' : ¬ (k : Int) < (n2 : Int) := by omega
      have HXP : Hid (xs = acE rs cl es) := Lib.hid (by rw [hxs.out, List.take_of_length_le (by rw [HL.out]; omega)])
      gi_wp2
      go_end0
      exact ⟨⟨_, rfl⟩, .inl (by rw [← HXP.out]; exact hJs)⟩
end Go.Proofs.YtbejkcdaefkibaaGreat.Wd


namespace Go.Proofs.YtbejkcdaefkibaaGreat.Wd
open Go Go.RowKit Go.Deep Go.Shelf
set_option linter.unusedVariables false
set_option maxRecDepth 100000
attribute [local go_sem] Oper.semAt_some
attribute [local go_sem ↓ 2000] builtin_app
theorem eactive_any (T : Option Addr) (cl : Int) (A2 : Option Addr) (n2 cap2 : Nat) (w : World) :
    Calls Tryz.prog 57 #[.pointer T, .int .u64 cl, .slice A2 n2 cap2] w fun e w' => ∃ P, e = .returned (.func (Fn.func 100) #[] #[.pointer (some ⟨P + 2, 0, none⟩), .pointer (some ⟨P + 1, 0, none⟩), .pointer (some ⟨P, 0, none⟩)]) ∧ w.heap.size ≤ P ∧ Boxed w' P Tpt (.pointer T) ∧ Boxed w' (P + 1) Tq64 (.int .u64 cl) ∧ Boxed w' (P + 2) Tens (.slice A2 n2 cap2) ∧ Below w.heap.size w w' := by
  have b0 := ((Boxed.new w Tpt (.pointer T)).alloc (.cells #[.int .u64 cl] Tq64)).alloc (.cells #[.slice A2 n2 cap2] Tens)
  have b1 := (Boxed.new (w.alloc (.cells #[.pointer T] Tpt)) Tq64 (.int .u64 cl)).alloc (.cells #[.slice A2 n2 cap2] Tens)
  have b2 := Boxed.new ((w.alloc (.cells #[.pointer T] Tpt)).alloc (.cells #[.int .u64 cl] Tq64)) Tens (.slice A2 n2 cap2)
  rw [show (w.alloc (.cells #[.pointer T] Tpt)).heap.size = w.heap.size + 1 by simp] at b1
  rw [show ((w.alloc (.cells #[.pointer T] Tpt)).alloc (.cells #[.int .u64 cl] Tq64)).heap.size = w.heap.size + 2 by simp] at b2
  have kk := (((Below.refl _ w).alloc (Nat.le_refl _) (.cells #[.pointer T] Tpt)).alloc (by simp) (.cells #[.int .u64 cl] Tq64)).alloc (by simp; omega) (.cells #[.slice A2 n2 cap2] Tens)
  have B := Lib.hid (show Boxed _ _ _ _ ∧ Boxed _ _ _ _ ∧ Boxed _ _ _ _ ∧ Below _ _ _ from ⟨b0, b1, b2, kk⟩)
  clear b0 b1 b2 kk
  go_enter Tryz.func57, Tryz.ntmps57
  go_wp2
  go_ret
  exact ⟨w.heap.size, rfl, Nat.le_refl _, B.out.1, B.out.2.1, B.out.2.2.1, B.out.2.2.2⟩
theorem esl_oks {rs : List Rl} {X : Int} {x : En} (hx : Oke x) (hok : ∀ K r, findR rs K = some r → Okr r) (hX : U X) (h : X < x.2) : Oks (esl rs X x) := by
  have hr := rlE_ok hok x.1
  have hu := hx.2
  refine ⟨hx.1, hr, ?_, koA_U _ _ _ _ hX (capR_U hr) (by unfold U at *; omega), koB_U _ _ hX⟩
  show 0 ≤ koK (rlE rs x.1).k ∧ koK (rlE rs x.1).k ≤ 255
  unfold koK
  have := hr.k
  split <;> omega
theorem acE_oks {rs : List Rl} {X : Int} {es : List En} (hx : ∀ x ∈ es, Oke x) (hok : ∀ K r, findR rs K = some r → Okr r) (hX : U X) : ∀ s ∈ acE rs X es, Oks s := by
  intro s hs
  unfold acE at hs
  obtain ⟨x, h1, rfl⟩ := List.mem_map.1 hs
  obtain ⟨h2, h3⟩ := List.mem_filter.1 h1
  exact esl_oks (hx x h2) hok hX (by simpa using h3)
def Inq (N L : Nat) (w W0 : World) (pre : List Sl) (W : World) : Prop := (∃ v, Boxed W L Tass v ∧ W.ownsRow N Tas 8 v pre.length (flatS pre)) ∧ Below w.heap.size w W ∧ Kq N L W0 W
theorem Inq.own {N L Bd : Nat} {w W0 : World} (hN : N ≤ Bd) (hn : w.heap.size ≤ N) (hW : W0.heap.size = N) : OwnFrom Bd (Inq N L w W0) := fun s X Y row hs hg hr => by
  obtain ⟨⟨v, h1, h2⟩, h3, h4⟩ := hs
  have hbx : ∀ {B : Nat} {t : TypeId} {u : Value}, Boxed X B t u → some B ≠ row := by
    intro B t u hb e'
    obtain ⟨_, o, ho, hc⟩ := hr B e'.symm
    rw [show X.heap[B]? = _ from hb] at ho; cases ho; cases hc
  refine ⟨⟨v, h1.kept hg (hbx h1), h2.kept hg ?_⟩, h3.grown hg h3.size (fun k e' => by have := (hr k e').1; omega), h4.trans ⟨hg.size, fun k hk hkL => hg.block k (by have := h4.1; omega) (fun e => by have := (hr k e.symm).1; omega)⟩⟩
  rcases h2.2 with ⟨rfl, _⟩ | ⟨g, cap, cur, rfl, _, hgb, _⟩
  · exact .inl rfl
  · refine .inr (fun e' => ?_)
    obtain ⟨_, o, ho, hc⟩ := hr g (by simpa [Value.ownBlock] using e'.symm)
    rw [hgb] at ho; cases ho; cases hc
theorem inq_end {N L Bd : Nat} {w W0 W w3 : World} {v v' : Value} {pre : List Sl} {x : Sl} (hv : Boxed W L Tass v) (hrow : W.ownsRow N Tas 8 v pre.length (flatS pre)) (hBW : Below w.heap.size w W) (hK : Kq N L W0 W) (hN : W0.heap.size = N) (hw : w.heap.size ≤ L) (hLN : L < N)
    (ho : w3.ownsRow N Tas 8 v' (pre.length + 1) (flatS (pre ++ [x]))) (hg : (W.alloc (.cells x.cs Tas)).grownBy w3 v.ownBlock) :
    KeepsFrom Bd W (w3.setCell ⟨L, 0, none⟩ v') ∧ Kq N L W (w3.setCell ⟨L, 0, none⟩ v') ∧ Inq N L w W0 (pre ++ [x]) (w3.setCell ⟨L, 0, none⟩ v') := by
  have hs := hK.1
  have hsg := hg.size
  simp at hsg
  obtain ⟨_, a2, _, a4, a5⟩ := hv.appended (by decide) (own_base (by omega : w.heap.size ≤ N) hrow) (by have := hBW.size; omega) hw (own_base (by omega : w.heap.size ≤ N) ho) hg
  have hq : Kq N L W (w3.setCell ⟨L, 0, none⟩ v') := ⟨by simp; omega, fun k h1 h2 => by
    rw [Below.heap_setCell _ _ _ _ h2, hg.block k (by simp; omega) (fun e => by have := (World.ownsRow.lt hrow k e.symm).1; omega)]
    exact al_old _ _ (by omega)⟩
  refine ⟨a4.from _, hq, ⟨v', a2, ?_⟩, hBW.trans (a5.mono (Nat.le_refl _)), hK.trans hq⟩
  rw [List.length_append]
  exact ownsRow_setCell_below ho (by show L < N; omega) _
set_option maxHeartbeats 8000000 in
theorem enter_ok (m : Int) (A : Option Addr) (n cap : Nat) (rs : List Rl) (C cl : Int) (A2 : Option Addr) (n2 cap2 : Nat) (es : List En) (w : World) (h : Rls w A n rs) (hn : n ≤ 1099511627776) (hm : -9223372036854775808 ≤ m ∧ m ≤ 9223372036854775807) (h2 : Ers w A2 n2 es) (hx : ∀ x ∈ es, Oke x) (hn2 : n2 ≤ 1000000000) (hC : U C) (hcl : U cl) (h0 : enR m rs C es = 0) :
    Calls Tryz.prog 25 #[.agg #[.int .i64 m, .slice A n cap], .int .u64 cl, .agg (spC C (.slice A2 n2 cap2))] w fun e w' => ((woE m (max cl C) (acE rs (max cl C) es) = 0 ∧ ∃ T B S, e = .returned (.tuple #[ptr T, .int .u16 0]) ∧ Tbl w' T B m (max cl C) S ∧ S.Perm (acE rs (max cl C) es) ∧ ∀ k, B k → w.heap.size ≤ k) ∨ (woE m (max cl C) (acE rs (max cl C) es) ≠ 0 ∧ e = .returned (.tuple #[.pointer none, .int .u16 (woE m (max cl C) (acE rs (max cl C) es))]))) ∧ Below w.heap.size w w' := by
  have k0 := Lib.hid (((Below.refl _ w).alloc (Nat.le_refl _) (.cells #[.int .i64 m, .slice A n cap] Tpo)).alloc (by simp) (.cells (spC C (.slice A2 n2 cap2)) Tsp))
  have b0 := Lib.hid ((Blk.new w #[.int .i64 m, .slice A n cap] Tpo).alloc (.cells (spC C (.slice A2 n2 cap2)) Tsp))
  have b1 := Blk.new (w.alloc (.cells #[.int .i64 m, .slice A n cap] Tpo)) (spC C (.slice A2 n2 cap2)) Tsp
  rw [show (w.alloc (.cells #[.int .i64 m, .slice A n cap] Tpo)).heap.size = w.heap.size + 1 by simp] at b1
  replace b1 := Lib.hid b1
  have CR := Lib.hid (eright_any m A n cap rs C A2 n2 cap2 es _ (h.below k0.out) hn hm (h2.below k0.out) hx (by omega) hC)
  rw [h0] at CR
  have H0 := Lib.hid (h.below k0.out)
  have H2 := Lib.hid (h2.below k0.out)
  have HX := Lib.hid hx
  have HLE : Hid (es.length = n2) := Lib.hid h2.1
  have hok := Lib.hid (fun K r (e : findR rs K = some r) => find_okr h.2.1 K r e)
  have h2b : Hid (∀ ad, A2 = some ad → 0 < n2 → ad.block < w.heap.size) := Lib.hid (fun ad e h0 => by
    obtain ⟨b, off, e2, hb, _⟩ := h2.2 h0
    rw [e] at e2; cases e2; exact hb)
  obtain ⟨X, hX⟩ : ∃ X, max cl C = X := ⟨_, rfl⟩
  have hXU : U X := by unfold U at *; omega
  rw [hX]
  clear h h2 hx h0
  refine (callsIn_wide (n := 20)).1 ?_
  refine callsIn_of_wp_marks Tryz.func25 rfl trivial ?_ rfl
  simp only [Tryz.ntmps25, List.size_toArray, List.length_cons, List.length_nil, Nat.reduceAdd, Nat.reduceSub, Array.replicate_succ, Array.replicate_zero, List.push_toArray, List.append_toArray, List.nil_append, List.cons_append]
  refine wpIn_wide.2 ?_
  go_upto_region 1 with fail
  generalize (w.alloc (.cells #[.int .i64 m, .slice A n cap] Tpo)).alloc (.cells (spC C (.slice A2 n2 cap2)) Tsp) = W at *
  have x0 := b0.out.cell 0
  have x1 := b0.out.cell 1
  have y0 := b1.out.cell 0
  have y1 := b1.out.cell 1
  simp at x0 x1 y0 y1
  go_upto_region 2 with (go_at_call 26; refine CR.out.mono ?_; rintro e w1 ⟨rfl, g⟩)
  have B0 := Lib.hid (b0.out.below g)
  have B1 := Lib.hid (b1.out.below g)
  have H1 := Lib.hid (H0.out.below g)
  have H3 := Lib.hid (H2.out.below g)
  have K1 := Lib.hid (kbq k0.out g)
  clear x0 x1 y0 y1 CR b0 b1 H0 H2 k0 g
  have y0 := B1.out.cell 0
  have y1 := B1.out.cell 1
  simp at y0 y1
  go_upto_region 6 with fail
  have g2 : Below w1.heap.size w1 (w1.alloc (.cells #[.slice none 0 0] Tass)) := (Below.refl _ w1).alloc (Nat.le_refl _) _
  have bL := Lib.hid (Boxed.new w1 Tass (.slice none 0 0))
  have D0 := Lib.hid (B0.out.below g2)
  have D1 := Lib.hid (B1.out.below g2)
  have H4 := Lib.hid (H1.out.below g2)
  have H5 := Lib.hid (H3.out.below g2)
  have K2 := Lib.hid (kbq K1.out g2)
  have hLw := Lib.hid K1.out.size
  have hLs := Lib.hid B0.out.lt
  clear B0 B1 H1 H3 K1 y0 y1 g2
  generalize w1.alloc (.cells #[.slice none 0 0] Tass) = W2 at *
  obtain ⟨L, hL⟩ : ∃ L, w1.heap.size = L := ⟨_, rfl⟩
  rw [hL] at bL hLw hLs ⊢
  clear hL
  have p0 := D0.out.cell 0
  have p1 := D0.out.cell 1
  have y0 := D1.out.cell 0
  have y1 := D1.out.cell 1
  simp at p0 p1 y0 y1
  have MK := Lib.hid (fun (V : World) (g : Below W2.heap.size W2 V) => (show Below W2.heap.size W2 V ∧ V.cell? ⟨w.heap.size, 0, none⟩ = some (.int .i64 m) ∧ V.cell? ⟨w.heap.size, 1, none⟩ = some (.slice A n cap) ∧ V.cell? ⟨w.heap.size + 1, 0, none⟩ = some (.int .u64 C) ∧ V.cell? ⟨w.heap.size + 1, 1, none⟩ = some (.slice A2 n2 cap2) from
    ⟨g, (D0.out.below g).cell 0, (D0.out.below g).cell 1, (D1.out.below g).cell 0, (D1.out.below g).cell 1⟩))
  have CN := Lib.hid (fun (V : World) (g : Below W2.heap.size W2 V) => pnew_any A n cap rs V (H4.out.below g) (by omega))
  have kW := Below.refl W2.heap.size W2
  go_wp2_with fail
  go_region_held3 (fun w' => Below W2.heap.size W2 w' ∧ w'.cell? ⟨w.heap.size, 0, none⟩ = some (.int .i64 m) ∧ w'.cell? ⟨w.heap.size, 1, none⟩ = some (.slice A n cap) ∧ w'.cell? ⟨w.heap.size + 1, 0, none⟩ = some (.int .u64 C) ∧ w'.cell? ⟨w.heap.size + 1, 1, none⟩ = some (.slice A2 n2 cap2))
    (first | with_reducible exact MK.out _ kW | with_reducible exact MK.out _ kW.drew)
    (first
      | (go_at_call 58; (first
        | (with_reducible refine (CN.out _ kW).mono ?_; rintro r w4 ⟨T, rfl, hT, g⟩; have kT := Below.refl w4.heap.size w4; replace kW := kbq kW g; have hw4 := kW.size; clear g)
        | (with_reducible refine (CN.out _ kW.drew).mono ?_; rintro r w4 ⟨T, rfl, hT, g⟩; have kT := Below.refl w4.heap.size w4; replace kW := kbq kW.drew g; have hw4 := kW.size; clear g)))
      | (go_at_call 57; (with_reducible refine (eactive_any _ _ _ _ _ _).mono ?_); rintro r w5 ⟨P, rfl, hP, q0, q1, q2, g⟩; (first | with_reducible (replace kW := kbq kW g; replace kT := kbq kT g; clear g) | with_reducible (replace kW := kbq kW.drew g; replace kT := kbq kT.drew g; clear g))))
  rename_i hH
  clear hH
  have hLW := bL.out.lt
  have hTL := kT.size
  have hP2 : W2.heap.size ≤ P := by omega
  have bL5 : Boxed w5 L Tass (.slice none 0 0) := (kW.block L hLW).trans bL.out
  have hL5 := bL5.lt
  have hTR : Tro w5.heap.size L w5 T rs := Tro.of (hT.out.below kT) rfl bL5
  have hEL : 0 < n2 → ∀ ad, A2 = some ad → ad.block ≠ L := fun h0 ad e => by have := h2b.out ad e h0; have := hLw.out; omega
  have K5 := Lib.hid (kbq K2.out kW)
  have hw5 := K5.out.size
  have HST := eact1_stops 19 (by decide) w5.heap.size L (P + 2) (P + 1) P T X rs A2 n2 cap2 es w5 rfl q2 q1 q0 ⟨by omega, by omega, by omega⟩ (H5.out.below kW) hEL hTR HX.out hXU hok.out hn2
  have D5 := Lib.hid (D0.out.below kW)
  have HLW := hLw.out
  clear p0 p1 y0 y1 MK CN q0 q1 q2 hT kT hTR hEL h2b D0 D1 H4 H5 K2 kW bL
  go_wp2_with fail
  refine (wpIn_wide (n := 20)).1 ?_
  refine wpIn_rangeFunc_ownH rfl (by decide) (gf := 100) (lb := #[ptr (P + 2), ptr (P + 1), ptr P]) rfl trivial (enters_of Tryz.func100 (by kernel_rfl) rfl)
    HST Kq.trans (fun W l o o' hl x _ _ => Kq.put W l o o' hl x) (Below.refl _ _) (fun _ => rfl)
    (Inq w5.heap.size L w w5) (fun _ _ _ => False) (Inq.own (Nat.le_refl _) hw5 rfl) (fun _ s A Bw row hs hg hr => hs) ⟨⟨_, bL5, World.ownsRow_nil _ _ _ _⟩, K5.out, Nat.le_refl _, fun _ _ _ => rfl⟩
    (fun x a' W => ∃ b, Blk W b x.cs Tas ∧ a' = { tmps := #[.agg #[.int .i64 m, .slice A n cap], .int .u64 X, .agg (spC C (.slice A2 n2 cap2)), ptr w.heap.size, undef, ptr (w.heap.size + 1), .pointer none, .int .u16 0, .int .u16 0, ptr L, ptr b, .agg #[.int .i64 m, .slice A n cap], .agg #[.int .u64 C, .slice A2 n2 cap2], .int .u16 0, .int .u16 0, .bool false, undef, .int .u64 cl, ptr (w.heap.size + 1), .int .u64 C, .int .u64 X, .pointer (some ⟨w.heap.size, 1, none⟩), .slice A n cap, ptr T, .int .u64 X, .pointer (some ⟨w.heap.size + 1, 1, none⟩), .slice A2 n2 cap2, .func (.func 100) #[] #[ptr (P + 2), ptr (P + 1), ptr P], x.v, undef, undef, undef, undef, undef, undef, undef, undef, undef, undef, undef], defers := [] })
    ?hAx ?assign ?body ?done ?stop
  case hAx =>
    rintro x a' s X Y row ⟨b, hb, e⟩ hg hr
    refine ⟨b, (hg.block b hb.lt (fun e' => ?_)).trans hb, e⟩
    obtain ⟨_, o, ho, hc⟩ := hr b e'.symm
    rw [show X.heap[b]? = _ from hb] at ho; cases ho; cases hc
  case assign =>
    intro l pre x W K hI hK
    have hs := hI.2.2.1
    gi_wp2
    refine hK _ _ ((KeepsOthers.alloc W _).from _) (Kq.of ((Below.refl _ W).alloc (Nat.le_refl _) _) hs) ((Inq.own (Nat.le_refl _) hw5 rfl).alloc _ hI) ⟨W.heap.size, Blk.new _ _ _, rfl⟩
  case body =>
    rintro l pre x a' W hl ⟨r, hr⟩ hI ⟨b, hb, rfl⟩ hlen
    obtain ⟨⟨v, hv, hrow⟩, hBW, hK⟩ := id hI
    have hs := hK.1
    obtain ⟨g, cap, w3, hrun, ho3, hg3, hg4⟩ := app_slot x hrow rfl (Below.refl _ W) (by omega) hs
    have b3 := (hv.alloc (.cells x.cs Tas)).kept hg3 (hv.not_row (by decide) hrow)
    have c3 := b3.cell
    have f3 := b3.frozen
    have cO := hv.cell
    have fO := hv.frozen
    have cOa : (W.alloc (.cells x.cs Tas)).cell? ⟨L, 0, none⟩ = some v := acell cO
    have x0 := hb.cell 0
    have x1 := hb.cell 1
    have x2 := hb.cell 2
    have x3 := hb.cell 3
    have x4 := hb.cell 4
    have x5 := hb.cell 5
    have x6 := hb.cell 6
    have x7 := hb.cell 7
    simp at x0 x1 x2 x3 x4 x5 x6 x7
    have Z := Lib.hid (inq_end (Bd := w5.heap.size) hv hrow hBW hK rfl HLW hL5 ho3 hg3)
    have h2 : 1 ≤ 20 - 1 - 1 := by decide
    clear hI hv hrow hb hBW hK b3 ho3 hg3 HST
    gi_wp2
    show KeepsFrom _ _ _ ∧ Kq _ _ _ _ ∧ Inq _ _ _ _ _ _
    exact Z.out
  case done =>
    rintro D xs W hD hS hI hK
    obtain ⟨⟨v, hv, hrow⟩, hBW, hKq⟩ := id hI
    subst hS
    have hL4 : w5.heap.size ≤ D := hD
    obtain ⟨A3, cap3, rfl, _, hRd, _, _⟩ := OwS.rds (w := W) (base := w5.heap.size) (v := v) (xs := acE rs X es) hrow
    have hLs2 := hLs.out
    have bp := hKq.blk D5.out (by omega) (by omega)
    have p0 := bp.cell 0
    have p1 := bp.cell 1
    simp at p0 p1
    have cO := hv.cell
    have fO := hv.frozen
    have HOKS := acE_oks HX.out hok.out hXU
    have hlen : (acE rs X es).length ≤ 1000000000 := by have := acE_len rs X es; have := HLE.out; omega
    have HK := Lib.hid hK
    have hBW2 := hBW.size
    have HBW := Lib.hid hBW
    have hDW := heap_lt hK
    by_cases hwo : woE m X (acE rs X es) = 0
    · have CO := Lib.hid (of_ok m X A3 _ cap3 _ W hRd HOKS hXU hlen hwo)
      clear hI hK hv hrow hBW hKq bp D5 hRd HOKS HST
      dsimp only
      go_wp2_with (go_at_call 59; refine CO.out.mono ?_; rintro e w6 ⟨T6, B6, S6, rfl, hT6, hp6, hB6, g6⟩)
      have hK6 := (g6.block D hDW).trans HK.out
      have g6s := g6.size
      refine ⟨by simp, .inl ⟨_, _, rfl, run_takeDeferred hK6, ?_⟩⟩
      refine ⟨.tuple #[ptr T6, .int .u16 0], by simp [results, Tryz.f25, go_sem], .inl ⟨hwo, T6, B6, S6, rfl, hT6.keep (fun k hk _ => putO_other (fun e => by have := hB6 k hk; omega)), hp6, fun k hk => by have := hB6 k hk; omega⟩, ?_⟩
      exact (HBW.out.trans (g6.mono (by omega))).grown (grownBy_putObj' w6 D _) (by omega) (fun k e => by cases e; omega)
    · have CO := Lib.hid (of_bad m X A3 _ cap3 _ W hRd HOKS hXU hlen hwo)
      clear hI hK hv hrow hBW hKq bp D5 hRd HOKS HST
      dsimp only
      go_wp2_with (go_at_call 59; refine CO.out.mono ?_; rintro e w6 ⟨rfl, g6⟩)
      have hK6 := (g6.block D hDW).trans HK.out
      have g6s := g6.size
      refine ⟨by simp, .inl ⟨_, _, rfl, run_takeDeferred hK6, ?_⟩⟩
      refine ⟨.tuple #[.pointer none, .int .u16 (woE m X (acE rs X es))], by simp [results, Tryz.f25, go_sem], .inr ⟨hwo, rfl⟩, ?_⟩
      exact (HBW.out.trans (g6.mono (by omega))).grown (grownBy_putObj' w6 D _) (by omega) (fun k e => by cases e; omega)
  case stop =>
    rintro D cc pre W hD _ hF
    exact hF.elim
end Go.Proofs.YtbejkcdaefkibaaGreat.Wd

