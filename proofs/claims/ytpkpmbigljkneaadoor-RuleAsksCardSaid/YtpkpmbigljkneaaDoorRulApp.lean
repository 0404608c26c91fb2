/- Texts behind texts: append onto a row that the call owns; plain facts on lines that are none; no conditions but those that each names. -/
import Derived.Test.YtpkpmbigljkneaaDoorRulPr
namespace Go.Proofs.YtpkpmbigljkneaaDoor.Wd
open Go Go.RowKit
set_option linter.unusedVariables false

theorem ORow.below {w w' : World} {base : Nat} {v : Value} {xs : List ByteArray} (h : ORow w base v xs) (g : Below w.heap.size w w') : ORow w' base v xs := by
  obtain ⟨h1, h2⟩ := h
  refine ⟨h1, ?_⟩
  rcases h2 with h2 | ⟨gb, cap, cur, hv, hb, hg, h3⟩
  · exact .inl h2
  · exact .inr ⟨gb, cap, cur, hv, hb, (g.block _ (lt_heap hg)).trans hg, h3⟩
theorem sts_news {w : World} {b off m : Nat} {xs : List ByteArray} (h : Sts w (some ⟨b, off, none⟩) m xs) (hm : 0 < m) : ∀ j u, (tvs xs)[j]? = some u → w.cell? ((⟨b, off, none⟩ : Addr).add j) = some u := by
  intro j u hu
  obtain ⟨b', off', e, hb, hc⟩ := h.2.2 hm
  simp only [Option.some.injEq, Addr.mk.injEq, and_true] at e
  obtain ⟨rfl, rfl⟩ := e
  have hj : j < xs.length := by
    by_cases hj : j < xs.length
    · exact hj
    · rw [List.getElem?_eq_none (by simp; omega)] at hu; cases hu
  rw [Go.WideShapes.add_plain, hc j (by rw [← h.1]; exact hj), List.getD_eq_getElem?_getD, List.getElem?_eq_getElem hj]
  simpa [List.getElem?_map, List.getElem?_eq_getElem hj] using hu
theorem tvs_one (xs : List ByteArray) : ∀ u ∈ tvs xs, u.oneCell' = true := by
  intro u hu
  obtain ⟨x, _, rfl⟩ := List.mem_map.1 hu
  rfl
theorem wpList_app_texts (w : World) {ops : Array Oper} {rest : List Oper} {o : Oper} {a : Act} {Q : Exit → Act → World → Prop} (hgd : o.guard = none) (s x : Operand)
    (ho : o.op = .call { callee := .builtin .append, args := #[s, x], argTypes := #[25, 25] })
    (base : Nat) (v : Value) (acc : List ByteArray) (hs : a.eval s = v) (hown : ORow w base v acc) (b off m c : Nat) (xs : List ByteArray) (hx : a.eval x = .slice (some ⟨b, off, none⟩) m c) (hT : Sts w (some ⟨b, off, none⟩) m xs)
    (hm : 0 < m) (N : Nat) (hN : acc.length + m = N) (hsz : N ≤ 1000) (hbase : base ≤ w.heap.size)
    (h : ∀ g cap w', ORow w' base (.slice (some ⟨g, 0, none⟩) N cap) (acc ++ xs) → Below base w w' → wpList Tryd.prog ops Q rest (a.put o.dst (.slice (some ⟨g, 0, none⟩) N cap)) w') : wpList Tryd.prog ops Q (o :: rest) a w := by
  obtain ⟨i0, hi, hy0, hy1, hy2⟩ := info_parts infoStr
  subst hN
  refine wpList_append_lies w hgd s x 25 ho base 9 i0 (.string ⟨#[]⟩) 1 16 Tryd.underlying25 hi hy0 hy1 hy2 rfl (by decide) v acc.length (tvs acc) hs hown ⟨b, off, none⟩ m c (tvs xs) hx (by rw [List.length_map, hT.1]; omega) (sts_news hT hm) (tvs_one xs) hm (by unfold maxLen; omega) (by omega) hbase w.heap.size rfl ?_
  intro g cap w' own grow _ _
  refine h g cap w' ?_ ((Below.refl base w).grown grow hbase (own_lt hown))
  unfold ORow tvs
  rw [List.map_append, List.length_append, hT.1]
  exact own

/-! ### Lines that are none -/
theorem ans_short (xs : List ByteArray) (h : ¬ (xs.length = 4 ∧ (xs.getD 0 nob).toList = defL)) (h5 : ¬ (xs.length = 5 ∧ (xs.getD 0 nob).toList = rulL)) : ansA xs = zeroA 22 0 := by
  unfold ansA; rw [if_neg h, if_neg h5]
theorem defS_list : defS.toList = defL := by rw [ByteArray.toList_eq]
theorem rulS_list : rulS.toList = rulL := by rw [ByteArray.toList_eq]
theorem def_not_rul : ¬ defL = rulL := by decide
theorem take_def (x y z : ByteArray) (k : Nat) (h : k < 4) : ansA ([defS, x, y, z].take k) = zeroA 22 0 :=
  ans_short _ (fun g => by have := g.1; simp at this; omega) (fun g => by have := g.1; simp at this; omega)
theorem take_rul (p x y z : ByteArray) (k : Nat) (h : k < 5) : ansA ([rulS, p, x, y, z].take k) = zeroA 22 0 := by
  refine ans_short _ (fun g => ?_) (fun g => by have := g.1; simp at this; omega)
  have hk : k = 4 := by have := g.1; simp at this; omega
  subst hk
  have := g.2
  have e : ([rulS, p, x, y, z].take 4).getD 0 nob = rulS := rfl
  rw [e, rulS_list] at this
  exact absurd this (by decide)
theorem more_def (x y z v : ByteArray) : ansA ([defS, x, y, z] ++ [v]) = zeroA 22 0 := by
  refine ans_short _ (fun g => by have := g.1; simp at this) (fun g => ?_)
  have := g.2
  have e : ([defS, x, y, z] ++ [v]).getD 0 nob = defS := rfl
  rw [e, defS_list] at this
  exact absurd this (by decide)
theorem more_rul (p x y z v : ByteArray) : ansA ([rulS, p, x, y, z] ++ [v]) = zeroA 22 0 :=
  ans_short _ (fun g => by have := g.1; simp at this) (fun g => by have := g.1; simp at this)
theorem other_def (x y z v : ByteArray) (h : ¬ v = defS) : ansA [v, x, y, z] = zeroA 22 0 := by
  refine ans_short _ (fun g => ?_) (fun g => by have := g.1; simp at this)
  have := g.2
  have e : [v, x, y, z].getD 0 nob = v := rfl
  rw [e, ← defS_list] at this
  have e2 := @text_same v defS
  rw [this] at e2
  simp at e2
  exact h e2
theorem other_rul (p x y z v : ByteArray) (h : ¬ v = rulS) : ansA [v, p, x, y, z] = zeroA 22 0 := by
  refine ans_short _ (fun g => by have := g.1; simp at this) (fun g => ?_)
  have := g.2
  have e : [v, p, x, y, z].getD 0 nob = v := rfl
  rw [e, ← rulS_list] at this
  have e2 := @text_same v rulS
  rw [this] at e2
  simp at e2
  exact h e2
end Go.Proofs.YtpkpmbigljkneaaDoor.Wd
