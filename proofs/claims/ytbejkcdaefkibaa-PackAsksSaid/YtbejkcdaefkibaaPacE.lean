/- Elder words: rows of texts and of entries that a call owns; no conditions but those that each names. -/
import Derived.Test.YtbejkcdaefkibaaPacO
import Derived.Test.YtbejkcdaefkibaaPacM
import Derived.Test.YtbejkcdaefkibaaPacA
import Derived.WalkKit
import Derived.Laws.Bits64b
import Derived.Below
import Derived.Deep.Draws
import Derived.Test.YtbejkcdaefkibaaRows
import Derived.ProofKit
import Derived.OpenShut
import Derived.Handy
import Derived.Lib.Hide
import Derived.Deep.RegionHeld3
import Derived.Deep.QuietTactic
import Derived.BigQuiet
import Derived.RangeFuncNested
import Derived.RangeFuncBound
import Derived.RangeFuncCalls
import Derived.RangeFuncLeaves
import Derived.Shelf.Abstract
import Derived.Shelf.RegionOpen
import Derived.OwnWalkIn
import Derived.TacticsInMore
import Derived.LoopNIn
import Derived.LoopIn
import Derived.LoopTactic
import Derived.OwnWalk
import Derived.Laws.OwnMore
import Derived.Maps.OwnSet
import Derived.Laws.EntriesVeiled
import Derived.Shelf.LaysM
import Derived.Shelf.Strconv.Clone
import Derived.ScopeJumps
import Derived.WalkMore
import Derived.Lib.ReflectliteSwap
import Derived.Deep.CutRange
import Derived.Deep.DeepCutAuto
import Derived.Lib.ItoaNum
import Derived.Lib.ItoaLen
import Derived.Laws.Strings
import GoSem.Op.String
import Derived.Lib.BufferWrite
import Derived.Laws.IdiomStrings
import Derived.Laws.ResultCell
import Derived.Laws.Rows
import Derived.WalkLawsBesides
import Derived.WalkSpells
import Derived.Deep.WholeRow
import Derived.StillTailTactics
import Derived.Deep.AppendLies
import Derived.Deep.DeepAppendWide
import Derived.Laws.ComplexArith
import Derived.WalkSmall
import Derived.Laws.Entries
import Derived.Laws.AppendOwn
import Derived.Deep.LoopGhost
import Derived.Lib.QuietBelow
import Derived.PlainAid
import Derived.Lib.SlBytesConst
import Derived.Lib.SmallJoins
import Derived.Laws.AppendOwnNone
import Derived.Laws.MakeOwn
import Derived.Lib.AppendStr
import Derived.Deep.RegionLaw
import Derived.Defers
import Derived.Recover
import Derived.Deep.Slices
import Derived.OneCell
import Derived.Laws.Cover3
import Derived.Laws.BytesArg
import Derived.Sort.AssemblyPlain
import Derived.Sort.WalkA
import Derived.Sort.Walk13a
import Derived.Shelf.Small.Bits
import Derived.Shelf.SlIter.Collect
import Derived.Stop.RegionWithIn
import Derived.Laws.StructEq
import Derived.Deep.CutBlock
import Derived.Sort.LotB
import Derived.Sort.LotC
import Derived.Sort.LotD3
namespace Go.Proofs.Ytbejkcdaefkibaa.Wd
open Go Go.RowKit Go.Shelf Go.Deep
set_option linter.unusedVariables false
set_option maxRecDepth 100000
abbrev Tens : TypeId := 23
abbrev Tae : TypeId := 31
theorem zeroAe : (Try.prog.info? Tae).map (fun i => (i.zero, i.size, i.bytes)) = some (some (.agg #[.string ⟨#[]⟩, .int .u64 0]), 2, 24) := by kernel_rfl
theorem infoTx : (Try.prog.info? 9).map (fun i => (i.zero, i.size, i.bytes)) = some (some (.string ⟨#[]⟩), 1, 16) := by kernel_rfl
/-- Texts, as cells. -/
abbrev tvs (xs : List ByteArray) : List Value := xs.map Value.string
/-- A row of texts that a call owns. -/
def ORow (w : World) (base : Nat) (v : Value) (xs : List ByteArray) : Prop := w.ownsRow base 9 1 v xs.length (tvs xs)
theorem ORow.nil (w : World) (base : Nat) : ORow w base (.slice none 0 0) [] := World.ownsRow_nil _ _ _ _
theorem ORow.sts {w : World} {base : Nat} {v : Value} {xs : List ByteArray} (h : ORow w base v xs) (hx : ∀ x ∈ xs, x.size ≤ 9223372036854775807) :
    ∃ A c, v = .slice A xs.length c ∧ xs.length ≤ c ∧ c ≤ 9223372036854775807 ∧ Sts w A xs.length xs := by
  obtain ⟨h1, h2⟩ := h
  rcases h2 with ⟨rfl, h0⟩ | ⟨g, cap, cur, rfl, hb, hg, hc1, hc2, hsz, htk⟩
  · have : xs = [] := List.eq_nil_of_length_eq_zero h0
    subst this
    exact ⟨none, 0, rfl, by simp, by omega, ⟨rfl, fun x hx => (List.not_mem_nil hx).elim, fun h => absurd h (Nat.lt_irrefl 0)⟩⟩
  · refine ⟨_, cap, rfl, hc1, hc2, rfl, hx, fun hn => ⟨g, 0, rfl, heap_lt hg, fun k hk => ?_⟩⟩
    have e : (cur.toList.take (xs.length * 1))[k]? = (tvs xs)[k]? := by rw [htk]
    rw [List.getElem?_take, if_pos (by omega)] at e
    rw [Nat.zero_add, List.getD_eq_getElem?_getD, List.getElem?_eq_getElem hk]
    have e2 : w.cell? ⟨g, k, none⟩ = cur[k]? := by simp [World.cell?, hg]
    rw [e2]
    simpa [List.getElem?_map, List.getElem?_eq_getElem hk] using e
theorem text_one (y : ByteArray) : ∀ u ∈ tvs [y], u.oneCell' = true := by
  intro u hu
  obtain ⟨x, _, rfl⟩ := List.mem_map.1 hu
  rfl
/-- One text more. -/
theorem wpList_app_tx (w : World) {ops : Array Oper} {rest : List Oper} {o : Oper} {a : Act} {Q : Exit → Act → World → Prop} (hgd : o.guard = none) (s x : Operand)
    (ho : o.op = .call { callee := .builtin .append, args := #[s, x], argTypes := #[61, 61] })
    (base : Nat) (v : Value) (acc : List ByteArray) (hs : a.eval s = v) (hown : ORow w base v acc) (b off c : Nat) (y : ByteArray) (hx : a.eval x = .slice (some ⟨b, off, none⟩) 1 c) (hT : w.cell? ⟨b, off, none⟩ = some (.string y))
    (hsz : acc.length + 1 ≤ 1099511627776) (hbase : base ≤ w.heap.size)
    (h : ∀ g cap w', ORow w' base (.slice (some ⟨g, 0, none⟩) (acc.length + 1) cap) (acc ++ [y]) → Below base w w' → wpList Try.prog ops Q rest (a.put o.dst (.slice (some ⟨g, 0, none⟩) (acc.length + 1) cap)) w') : wpList Try.prog ops Q (o :: rest) a w := by
  obtain ⟨i0, hi, hy0, hy1, hy2⟩ := info_parts infoTx
  refine wpList_append_lies w hgd s x 61 ho base 9 i0 (.string ⟨#[]⟩) 1 16 Try.underlying61 hi hy0 hy1 hy2 rfl (by decide) v acc.length (tvs acc) hs hown ⟨b, off, none⟩ 1 c (tvs [y]) hx (by simp) ?_ (text_one y) (by decide) (by unfold maxLen; omega) (by omega) hbase w.heap.size rfl ?_
  · intro j u hu
    have hj : j = 0 := by
      by_cases z : j = 0
      · exact z
      · rw [List.getElem?_eq_none (by simp; omega)] at hu; cases hu
    subst hj
    have e : ((⟨b, off, none⟩ : Addr).add 0) = ⟨b, off, none⟩ := rfl
    rw [e, hT]; simpa using hu
  · intro g cap w' own grow _ _
    refine h g cap w' ?_ ((Below.refl base w).grown grow hbase (fun k hk => (World.ownsRow.lt hown k hk).1))
    unfold ORow tvs
    rw [List.map_append, List.length_append]
    exact own

def flatE : List En → List Value
  | [] => []
  | x :: xs => (En.cs x).toList ++ flatE xs
theorem flatE_append (a b : List En) : flatE (a ++ b) = flatE a ++ flatE b := by
  induction a with
  | nil => rfl
  | cons x xs ih => rw [List.cons_append, flatE, flatE, ih, List.append_assoc]
theorem flatE_len (a : List En) : (flatE a).length = a.length * 2 := by
  induction a with
  | nil => rfl
  | cons x xs ih => rw [flatE, List.length_append, ih, List.length_cons]; simp; omega
abbrev en0 : En := (⟨#[]⟩, 0)
abbrev atE (xs : List En) (k : Nat) : En := xs.getD k en0
theorem flatE_at : ∀ (xs : List En) (k : Nat), k < xs.length → ∀ j, j < 2 → (flatE xs)[k * 2 + j]? = (En.cs (atE xs k))[j]?
  | [], _, h, _, _ => absurd h (Nat.not_lt_zero _)
  | x :: xs, 0, _, j, hj => by
    rw [flatE, List.getElem?_append_left (by simp; omega)]; simp
  | x :: xs, k + 1, h, j, hj => by
    rw [flatE, List.getElem?_append_right (by simp; omega)]
    have := flatE_at xs k (by simpa using h) j hj
    rw [show (k + 1) * 2 + j - (En.cs x).toList.length = k * 2 + j by simp; omega, this]
    simp
theorem flatE_one (xs : List En) : ∀ u ∈ flatE xs, u.oneCell' = true := by
  induction xs with
  | nil => intro u hu; cases hu
  | cons x xs ih =>
    intro u hu
    rw [flatE, List.mem_append] at hu
    rcases hu with hu | hu
    · simp at hu
      rcases hu with rfl | rfl <;> rfl
    · exact ih u hu
theorem atE_take {xs : List En} {k j : Nat} (h : j < k) : atE (xs.take k) j = atE xs j := by
  simp only [atE, List.getD_eq_getElem?_getD, List.getElem?_take, if_pos h]
theorem atE_drop {xs : List En} {k j : Nat} : atE (xs.drop k) j = atE xs (k + j) := by
  simp only [atE, List.getD_eq_getElem?_getD, List.getElem?_drop]
theorem atE_mem {xs : List En} {k : Nat} (h : k < xs.length) : atE xs k ∈ xs := by
  simp only [atE, List.getD_eq_getElem?_getD, List.getElem?_eq_getElem h]
  exact List.getElem_mem h
/-- A row of entries that a call owns. -/
def OwE (w : World) (base : Nat) (v : Value) (xs : List En) : Prop := w.ownsRow base Tae 2 v xs.length (flatE xs)
theorem OwE.nil (w : World) (base : Nat) : OwE w base (.slice none 0 0) [] := World.ownsRow_nil _ _ _ _
theorem OwE.below {w w' : World} {base : Nat} {v : Value} {l : List En} (h : OwE w base v l) (g : Below w.heap.size w w') : OwE w' base v l := own_below h g
/-- An entry lies in two cells. -/
def S2 (w : World) (b o : Nat) (x : En) : Prop := w.cell? ⟨b, o, none⟩ = some (.string x.1) ∧ w.cell? ⟨b, o + 1, none⟩ = some (.int .u64 (x.2 : Int))
theorem S2.below {w w' : World} {b o : Nat} {x : En} (h : S2 w b o x) (g : Below w.heap.size w w') : S2 w' b o x := ⟨celln g h.1, celln g h.2⟩
/-- A row of entries that lies in memory. -/
def Ens (w : World) (A : Option Addr) (n : Nat) (xs : List En) : Prop :=
  xs.length = n ∧ (0 < n → ∃ b off, A = some ⟨b, off, none⟩ ∧ b < w.heap.size ∧ ∀ k, k < n → S2 w b (off + k * 2) (atE xs k))
theorem Ens.below {w w' : World} {A : Option Addr} {n : Nat} {xs : List En} (h : Ens w A n xs) (g : Below w.heap.size w w') : Ens w' A n xs :=
  ⟨h.1, fun hn => by
    obtain ⟨b, off, e, hb, hc⟩ := h.2 hn
    exact ⟨b, off, e, Nat.lt_of_lt_of_le hb g.size, fun k hk => (hc k hk).below g⟩⟩
theorem Ens.nil (w : World) (A : Option Addr) : Ens w A 0 [] := ⟨rfl, fun h => absurd h (Nat.lt_irrefl _)⟩
theorem Ens.front {w : World} {A : Option Addr} {n k : Nat} {xs : List En} (h : Ens w A n xs) (hk : k ≤ n) : Ens w A k (xs.take k) :=
  ⟨by rw [List.length_take, h.1]; omega, fun hn => by
    obtain ⟨b, off, e, hb, hc⟩ := h.2 (by omega)
    exact ⟨b, off, e, hb, fun j hj => by rw [atE_take hj]; exact hc j (by omega)⟩⟩
theorem Ens.cut {w : World} {b off n k : Nat} {xs : List En} (h : Ens w (some ⟨b, off, none⟩) n xs) (hk : k ≤ n) :
    Ens w (some ⟨b, off + k * 2, none⟩) (n - k) (xs.drop k) :=
  ⟨by rw [List.length_drop, h.1], fun hn => by
    obtain ⟨b', off', e, hb, hc⟩ := h.2 (by omega)
    simp only [Option.some.injEq, Addr.mk.injEq] at e
    obtain ⟨rfl, rfl, _⟩ := e
    refine ⟨b, off + k * 2, rfl, hb, fun j hj => ?_⟩
    rw [atE_drop, Nat.add_assoc, ← Nat.add_mul]
    exact hc (k + j) (by omega)⟩
theorem OwE.form {w : World} {base : Nat} {v : Value} {xs : List En} (h : OwE w base v xs) : ∃ A cap, v = .slice A xs.length cap ∧ xs.length ≤ cap ∧ cap ≤ maxLen ∧ Ens w A xs.length xs ∧ (∀ ad, A = some ad → base ≤ ad.block ∧ ad.off = 0 ∧ ad.spot = none) := by
  rcases h.2 with ⟨rfl, h0⟩ | ⟨g, cap, cur, rfl, hb, hgg, h1, h2, h3, h4⟩
  · exact ⟨none, 0, by rw [h0], by omega, by unfold maxLen; omega, ⟨rfl, fun hp => by omega⟩, fun ad e => by cases e⟩
  · have hc : ∀ k, k < xs.length → ∀ j, j < 2 → w.cell? ⟨g, k * 2 + j, none⟩ = (En.cs (atE xs k))[j]? := fun k hk j hj => by
      rw [← flatE_at xs k hk j hj, ← h4, List.getElem?_take, if_pos (by omega)]
      simp [World.cell?, hgg]
    refine ⟨_, cap, rfl, h1, h2, ⟨rfl, fun _ => ⟨g, 0, rfl, heap_lt hgg, fun k hk => ?_⟩⟩, fun ad e => by cases e; exact ⟨hb, rfl, rfl⟩⟩
    rw [Nat.zero_add]
    exact ⟨hc k hk 0 (by omega), hc k hk 1 (by omega)⟩
theorem Ens.news {w : World} {b off n : Nat} {xs : List En} (h : Ens w (some ⟨b, off, none⟩) n xs) : ∀ j u, (flatE xs)[j]? = some u → w.cell? ((⟨b, off, none⟩ : Addr).add j) = some u := by
  intro j u hu
  have hj : j < xs.length * 2 := by
    by_cases z : j < xs.length * 2
    · exact z
    · rw [List.getElem?_eq_none (by rw [flatE_len]; omega)] at hu; cases hu
  obtain ⟨b', off', e, hb, hc⟩ := h.2 (by rw [← h.1]; omega)
  simp only [Option.some.injEq, Addr.mk.injEq] at e
  obtain ⟨rfl, rfl, _⟩ := e
  have hk := hc (j / 2) (by rw [← h.1]; omega)
  have e2 := flatE_at xs (j / 2) (by omega) (j % 2) (by omega)
  rw [show j / 2 * 2 + j % 2 = j by omega, hu] at e2
  rw [Go.WideShapes.add_plain]
  rcases (by omega : j % 2 = 0 ∨ j % 2 = 1) with hm | hm
  · rw [hm] at e2
    have e3 : off + j = off + j / 2 * 2 := by omega
    rw [e3, hk.1]; simpa using e2.symm
  · rw [hm] at e2
    have e3 : off + j = off + j / 2 * 2 + 1 := by omega
    rw [e3, hk.2]; simpa using e2.symm
theorem Blk.two {w : World} {b : Nat} {x : En} {t : TypeId} (h : Blk w b (En.cs x) t) : S2 w b 0 x := ⟨h.cell 0, h.cell 1⟩
/-- Entries behind entries. -/
theorem wpList_app_en (w : World) {ops : Array Oper} {rest : List Oper} {o : Oper} {a : Act} {Q : Exit → Act → World → Prop} (hgd : o.guard = none) (s x : Operand)
    (ho : o.op = .call { callee := .builtin .append, args := #[s, x], argTypes := #[Tens, Tens] })
    (base : Nat) (v : Value) (acc : List En) (hs : a.eval s = v) (hown : OwE w base v acc) (ao : Option Addr) (m c : Nat) (l : List En) (hx : a.eval x = .slice ao m c) (hT : Ens w ao m l) (hn : ao = none → c = 0) (ha : ∀ ad, ao = some ad → ad.spot = none)
    (hsz : acc.length + m ≤ 1099511627776) (hbase : base ≤ w.heap.size)
    (h : ∀ v' w', OwE w' base v' (acc ++ l) → w.grownBy w' v.ownBlock → wpList Try.prog ops Q rest (a.put o.dst v') w') : wpList Try.prog ops Q (o :: rest) a w := by
  obtain ⟨i0, hz, hz0, hz1, hz2⟩ := info_parts zeroAe
  cases ao with
  | none =>
    obtain rfl := hn rfl
    have hm : m = 0 := by
      by_cases hm : 0 < m
      · obtain ⟨_, _, e, _⟩ := hT.2 hm; cases e
      · omega
    subst hm
    have hl : l = [] := List.eq_nil_of_length_eq_zero hT.1
    subst hl
    exact wpList_append_own_none hgd s x Tens ho base Tae i0 2 Try.underlying23 hz v acc.length (flatE acc) hs hown hx (h _ w (by rw [List.append_nil]; exact hown) (World.grownBy.refl w _))
  | some ad =>
    obtain ⟨b, off, sp⟩ := ad
    obtain rfl : sp = none := ha _ rfl
    refine wpList_append_own_wide w hgd s x Tens ho base Tae i0 (.agg #[.string ⟨#[]⟩, .int .u64 0]) 2 24 Try.underlying23 hz hz0 hz1 hz2 rfl (by decide) v acc.length (flatE acc) hs hown ⟨b, off, none⟩ m c (flatE l) hx (by rw [flatE_len, hT.1]) hT.news (flatE_one l) (by unfold maxLen; omega) (by omega) hbase ?_
    intro v' w' own grow _
    refine h v' w' ?_ grow
    unfold OwE
    rw [flatE_append, List.length_append, hT.1]
    exact own
end Go.Proofs.Ytbejkcdaefkibaa.Wd
