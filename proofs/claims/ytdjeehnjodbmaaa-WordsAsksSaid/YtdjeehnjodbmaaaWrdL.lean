/- Rows of bytes behind one another, and parts of them; what is told of a byte that may not be; no conditions but those that each names. -/
import Derived.Test.YtdjeehnjodbmaaaWrdN
import Derived.Laws.AppendOwnNone
import Derived.Laws.MakeOwn
namespace Go.Proofs.Ytdjeehnjodbmaaa.Wd
open Go Go.RowKit
set_option linter.unusedVariables false

theorem txt_news {w : World} {b off n : Nat} {l : List UInt8} (h : Txt w (some ⟨b, off, none⟩) n l) : ∀ j u, (bvs l)[j]? = some u → w.cell? ((⟨b, off, none⟩ : Addr).add j) = some u := by
  intro j u hu
  rw [bvs, List.getElem?_map] at hu
  have hj : j < l.length := by
    by_cases hj : j < l.length
    · exact hj
    · rw [List.getElem?_eq_none (by omega)] at hu; cases hu
  rw [List.getElem?_eq_getElem hj] at hu
  obtain ⟨b', off', e, _, hc⟩ := h.2 (by rw [← h.1]; omega)
  simp only [Option.some.injEq, Addr.mk.injEq] at e
  obtain ⟨rfl, rfl, _⟩ := e
  rw [Go.WideShapes.add_plain, hc j (by rw [← h.1]; exact hj), List.getD_eq_getElem?_getD, List.getElem?_eq_getElem hj]
  exact hu

/-- Bytes behind bytes. -/
theorem wpList_app_bytes (w : World) {ops : Array Oper} {rest : List Oper} {o : Oper} {a : Act} {Q : Exit → Act → World → Prop} (hgd : o.guard = none) (s x : Operand)
    (ho : o.op = .call { callee := .builtin .append, args := #[s, x], argTypes := #[22, 22] })
    (base : Nat) (v : Value) (acc : List UInt8) (hs : a.eval s = v) (hown : BRow w base v acc) (ao : Option Addr) (m c : Nat) (l : List UInt8) (hx : a.eval x = .slice ao m c) (hT : Txt w ao m l) (hn : ao = none → c = 0) (ha : ∀ ad, ao = some ad → ad.spot = none)
    (hsz : acc.length + m ≤ 140737488355328) (hbase : base ≤ w.heap.size)
    (h : ∀ v' w', BRow w' base v' (acc ++ l) → w.grownBy w' v.ownBlock → wpList Try.prog ops Q rest (a.put o.dst v') w') : wpList Try.prog ops Q (o :: rest) a w := by
  obtain ⟨i0, hz, hz0, hz1, hz2⟩ := info_parts infoByte
  cases ao with
  | none =>
    obtain rfl := hn rfl
    have hm : m = 0 := by
      by_cases hm : 0 < m
      · obtain ⟨_, _, e, _⟩ := hT.2 hm; cases e
      · omega
    subst hm
    have hl : l = [] := List.eq_nil_of_length_eq_zero hT.1
    subst hl
    exact wpList_append_own_none hgd s x 22 ho base 5 i0 1 Try.underlying22 hz v acc.length (bvs acc) hs hown hx (h _ w (by rw [List.append_nil]; exact hown) (World.grownBy.refl w _))
  | some ad =>
    obtain ⟨b, off, sp⟩ := ad
    obtain rfl : sp = none := ha _ rfl
    refine wpList_append_own w hgd s x 22 ho base 5 i0 (.int .u8 0) 1 1 Try.underlying22 hz hz0 hz1 hz2 rfl (by decide) v acc.length (bvs acc) hs hown ⟨b, off, none⟩ m c (bvs l) hx (by rw [bvs_length, hT.1]; omega) (txt_news hT) (bvs_one l) (by unfold maxLen; omega) (by omega) hbase ?_
    intro v' w' own grow _
    refine h v' w' ?_ grow
    unfold BRow
    rw [bvs_append, List.length_append, hT.1]
    exact own
theorem txt_one (W : World) (b : UInt8) : Txt (W.alloc (.cells #[.int .u8 (b.toNat : Int)] 5)) (some ⟨W.heap.size, 0, none⟩) 1 [b] := txt_lit [b] _ _ _ rfl
theorem BRow.below {w w' : World} {base : Nat} {v : Value} {l : List UInt8} (h : BRow w base v l) (g : Below w.heap.size w w') : BRow w' base v l := own_below h g
/-- A row of bytes, as it is told. -/
theorem BRow.form2 {w : World} {base : Nat} {v : Value} {l : List UInt8} (h : BRow w base v l) : ∃ A c, v = .slice A l.length c ∧ (l.length ≤ c ∧ c ≤ 9223372036854775807) ∧ Txt w A l.length l ∧ (A = none → c = 0) ∧ (∀ ad, A = some ad → ad.spot = none ∧ ad.off = 0) := by
  rcases h.2 with ⟨rfl, h0⟩ | ⟨g, cap, cur, rfl, _⟩
  · refine ⟨none, 0, by rw [h0], by omega, ⟨rfl, fun hn => by omega⟩, fun _ => rfl, fun ad e => by cases e⟩
  · obtain ⟨A, c, e, h1, h2, h3⟩ := h.txt
    simp only [Value.slice.injEq] at e
    obtain ⟨rfl, _, rfl⟩ := e
    exact ⟨_, _, rfl, ⟨h1, h2⟩, h3, (fun e => by cases e), fun ad e => by cases e; exact ⟨rfl, rfl⟩⟩
/-- The front of a row of bytes. -/
theorem Txt.front {w : World} {A : Option Addr} {n i : Nat} {l : List UInt8} (h : Txt w A n l) (hi : i ≤ n) : Txt w A i (l.take i) :=
  ⟨by rw [List.length_take, h.1]; omega, fun h0 => by
    obtain ⟨b, off, e, hb, hc⟩ := h.2 (by omega)
    refine ⟨b, off, e, hb, fun k hk => (hc k (by omega)).trans ?_⟩
    simp only [List.getD_eq_getElem?_getD, List.getElem?_take, if_pos hk]⟩
theorem bslice_front (A : Option Addr) (n cap i : Nat) (hi : i ≤ cap) (hcap : cap ≤ 9223372036854775807) (W : World) : (Instr.slice 22 (.slice A n cap) none (some (.int .i64 (i : Int))) none).run Try.prog W = .ok (.slice A i cap) W := by
  obtain ⟨i0, hz, hz0, hz1, hz2⟩ := info_parts infoByte
  simp [go_sem, Try.underlying22, sizeOf, typeInfo, hz, hz1, hi]
theorem bslice_back (A : Option Addr) (n cap i : Nat) (hi : i ≤ n) (hn : n ≤ cap) : ∃ A', (∀ W : World, (Instr.slice 22 (.slice A n cap) (some (.int .i64 (i : Int))) none none).run Try.prog W = .ok (.slice A' (n - i) (cap - i)) W) ∧
    (∀ (W : World) (l : List UInt8), Txt W A n l → Txt W A' (n - i) (l.drop i)) ∧ (A' = none → A = none) ∧ ((∀ ad, A = some ad → ad.spot = none) → ∀ ad, A' = some ad → ad.spot = none) := by
  obtain ⟨i0, hz, hz0, hz1, hz2⟩ := info_parts infoByte
  refine ⟨if cap = i then A else A.map (·.add (i * 1)), fun W => ?_, fun W l h => ?_, fun h => ?_, fun h ad e => ?_⟩
  · simp [go_sem, Try.underlying22, sizeOf, typeInfo, hz, hz1, hi, sliced]
  · refine ⟨by rw [List.length_drop, h.1], fun h0 => ?_⟩
    obtain ⟨b, off, rfl, hb, hc⟩ := h.2 (by omega)
    rw [if_neg (by omega)]
    refine ⟨b, off + i, by simp [Go.WideShapes.add_plain], hb, fun k hk => ?_⟩
    rw [Nat.add_assoc, hc (i + k) (by omega)]
    simp [List.getD_eq_getElem?_getD]
  · split at h
    · exact h
    · cases A with
      | none => rfl
      | some ad => simp at h
  · split at e
    · exact h ad e
    · cases A with
      | none => simp at e
      | some ad' =>
        have := h ad' rfl
        obtain ⟨b, off, sp⟩ := ad'
        simp at this
        subst this
        simp [Go.WideShapes.add_plain] at e
        rw [← e]

/-! ### A byte that may not be -/
def badB (l : List UInt8) : Bool := l.any fun b => decide (kd b = 1)
theorem aut_er : ∀ (l : List UInt8) (m : Mo) (n c : Nat) (line : List Wo) (lines : List (List Wo)), (aut l m n c line lines).er = if badB l = true then 20 else 0
  | [], m, n, c, line, lines => rfl
  | b :: t, m, n, c, line, lines => by
    have e : badB (b :: t) = (decide (kd b = 1) || badB t) := by simp [badB]
    rw [e]
    rcases kd_cases b with h | h | h | h
    · rw [aut_1 h, h]; rfl
    · rw [aut_2 h, aut_er t, h]; simp
    · rw [aut_3 h, aut_er t, h]; simp
    · rw [aut_v (by unfold vs; rw [decide_eq_true_iff]; omega), aut_er t]
      rw [decide_eq_false (by omega), Bool.false_or]
theorem spl_er (l : List UInt8) (h : l.length ≤ 1048576) : (spl l).er = if badB l = true then 20 else 0 := by
  unfold spl
  rw [if_neg (by omega), aut_er]
theorem kd_bad (b : UInt8) : (kd b = 1) ↔ (b.toNat < 32 ∧ b.toNat ≠ 9 ∧ b.toNat ≠ 10) ∨ 126 < b.toNat := by
  have e0 : ∀ k : UInt8, b = k ↔ b.toNat = k.toNat := fun k => ⟨fun h => by rw [h], fun h => UInt8.toNat_inj.1 h⟩
  have hk : kd b = if b.toNat = 32 ∨ b.toNat = 9 then 2 else if b.toNat = 10 then 3 else if b.toNat = 35 then 4 else if 33 ≤ b.toNat ∧ b.toNat ≤ 126 then 5 else 1 := by
    unfold kd
    simp only [e0, UInt8.le_iff_toNat_le]
    rfl
  rw [hk]
  clear hk e0
  generalize b.toNat = v
  split
  · omega
  · split
    · omega
    · split
      · omega
      · split <;> omega
end Go.Proofs.Ytdjeehnjodbmaaa.Wd
