/- Rules behind rules at a step of a region that draws; parts of rows; no conditions but those that each names. -/
import Derived.Test.YtckaiejbgnhgcaaGreatDoorZCfgPr
import Derived.Test.YtckaiejbgnhgcaaGreatDoorZCfgBe
import Derived.Test.YtckaiejbgnhgcaaGreatDoorZCfgOn
import Derived.Deep.RegionLaw
namespace Go.Proofs.YtckaiejbgnhgcaaGreatDoor.Wd
open Go Go.RowKit
set_option linter.unusedVariables false
set_option maxRecDepth 100000
theorem step_app_rls {ops : Array Oper} {o : Oper} {a : Act} {w : World} {K : Act → World → Prop} {Q : Exit → Act → World → Prop} {E : Prop} (hg : o.guard = none) (s x : Operand)
    (ho : o.op = .call { callee := .builtin .append, args := #[s, x], argTypes := #[26, 26] })
    (base : Nat) (v : Value) (acc : List Rl) (hs : a.eval s = v) (hown : ORls w base v acc) (ao : Option Addr) (m c : Nat) (xs : List Rl) (hx : a.eval x = .slice ao m c) (hT : Rls w ao m xs) (hn : ao = none → c = 0) (ha : ∀ ad, ao = some ad → ad.spot = none)
    (hsz : acc.length + m ≤ 1099511627776) (hbase : base ≤ w.heap.size)
    (h : ∀ v' w', ORls w' base v' (acc ++ xs) → Below base w w' → K (a.put o.dst v') w') :
    if Region.wanted o (yielded ops a.tmps) = true then Oper.wp Tryz.prog o a w K Q else E := by
  have hw : Region.wanted o (yielded ops a.tmps) = true := by simp [Region.wanted, hg]
  rw [if_pos hw]
  obtain ⟨i0, hz, hz0, hz1, hz2⟩ := info_parts zeroRule
  cases ao with
  | none =>
    obtain rfl := hn rfl
    have hm : m = 0 := by
      by_cases hm : 0 < m
      · obtain ⟨_, _, e, _⟩ := hT.2.2 hm; cases e
      · omega
    subst hm
    have hl : xs = [] := List.eq_nil_of_length_eq_zero hT.1
    subst hl
    have hrun := run_append_owned_none (P := Tryz.prog) (w := w) base 26 o.type 37 i0 4 Tryz.underlying26 hz v acc.length (flatR acc) hown
    unfold Oper.wp
    simp [execOp, ho, resolve, invoke, builtin, hs, hx, hrun, Result.andThen]
    exact h _ w (by rw [List.append_nil]; exact hown) (Below.refl _ _)
  | some ad =>
    obtain ⟨b, off, sp⟩ := ad
    obtain rfl : sp = none := ha _ rfl
    have hnews : ∀ j u, (flatR xs)[j]? = some u → w.cell? ((⟨b, off, none⟩ : Addr).add j) = some u := by
      by_cases hm : 0 < m
      · obtain ⟨b', off', e, hb, hc⟩ := hT.2.2 hm
        simp only [Option.some.injEq, Addr.mk.injEq, and_true] at e
        obtain ⟨rfl, rfl⟩ := e
        exact flatR_news (fun k hk => hc k (by rw [← hT.1]; exact hk))
      · have hl : xs = [] := List.eq_nil_of_length_eq_zero (by rw [hT.1]; omega)
        subst hl
        intro j u hu
        simp [flatR] at hu
    refine wp_append_own w s x 26 ho base 37 i0 (.agg #[.string ⟨#[]⟩, .int .u64 0, .int .u64 0, .int .u8 0]) 4 40 Tryz.underlying26 hz hz0 hz1 hz2 rfl (by decide) v acc.length (flatR acc) hs hown ⟨b, off, none⟩ m c (flatR xs) hx (by rw [flatR_length, hT.1]) hnews (flatR_one xs) (by unfold maxLen; omega) (by omega) hbase ?_
    intro v' w' own grow _
    refine h v' w' ?_ ((Below.refl base w).grown grow hbase (fun k hk => (World.ownsRow.lt hown k hk).1))
    unfold ORls
    rw [flatR_append, List.length_append, hT.1]
    exact own
/-- A row of rules without room behind it. -/
theorem rslice_clip (A : Option Addr) (n cap : Nat) (hi : n ≤ cap) (hcap : cap ≤ 9223372036854775807) (W : World) : (Instr.slice 26 (.slice A n cap) none (some (.int .i64 (n : Int))) (some (.int .i64 (n : Int)))).run Tryz.prog W = .ok (.slice A n n) W := by
  obtain ⟨i0, hz, hz0, hz1, hz2⟩ := info_parts zeroRule
  simp [go_sem, Tryz.underlying26, sizeOf, typeInfo, hz, hz1, hi]
theorem rls_set {W : World} {A : Option Addr} {n P o : Nat} {rs : List Rl} (h : Rls W A n rs) (hlo : ∀ b off, A = some ⟨b, off, none⟩ → 0 < n → b ≠ P) (a : Value) : Rls (W.setCell ⟨P, o, none⟩ a) A n rs := by
  refine ⟨h.1, h.2.1, fun hn => ?_⟩
  obtain ⟨b1, o1, e, hlt, hc⟩ := h.2.2 hn
  have hne := hlo b1 o1 e hn
  refine ⟨b1, o1, e, by simpa using hlt, fun k hk => ?_⟩
  obtain ⟨z0, z1, z2, z3⟩ := hc k hk
  have hf : ∀ (o' : Nat) (u : Value), W.cell? ⟨b1, o', none⟩ = some u → (W.setCell ⟨P, o, none⟩ a).cell? ⟨b1, o', none⟩ = some u := fun o' u hu => (cs_other _ _ _ _ _ _ (by first | exact .inl hne | exact .inl (fun e => hne e.symm))).trans hu
  exact ⟨hf _ _ z0, hf _ _ z1, hf _ _ z2, hf _ _ z3⟩
/-- A row of rules, as append may take it. -/
def Row (w : World) (A : Option Addr) (n c : Nat) : Prop := ∃ rs, Rls w A n rs ∧ n ≤ c ∧ c ≤ 9223372036854775807 ∧ (A = none → c = 0) ∧ (∀ ad, A = some ad → ad.spot = none)
theorem Row.below {w w' : World} {A : Option Addr} {n c : Nat} (h : Row w A n c) (g : Below w.heap.size w w') : Row w' A n c := by
  obtain ⟨rs, h1, h2⟩ := h
  exact ⟨rs, h1.below g, h2⟩
theorem rows_flat {w : World} {A : Option Addr} {n : Nat} {rs : List Rl} (h : Rls w A n rs) (hs : ∀ ad, A = some ad → ad.spot = none) : ∀ b, A = some b → ∀ j u, (flatR rs)[j]? = some u → w.cell? (b.add j) = some u := by
  intro b e
  by_cases hm : 0 < n
  · obtain ⟨b', off', e', hb, hc⟩ := h.2.2 hm
    rw [e] at e'
    injection e' with e'
    subst e'
    exact flatR_news (fun k hk => hc k (by rw [← h.1]; exact hk))
  · have hl : rs = [] := List.eq_nil_of_length_eq_zero (by rw [h.1]; omega)
    subst hl
    intro j u hu
    simp [flatR] at hu
end Go.Proofs.YtckaiejbgnhgcaaGreatDoor.Wd
