/- Rows of slots that a call owns; no conditions but those that each names. -/
import Derived.Test.YtkfncanfgpmgaaaGreatTabL
namespace Go.Proofs.YtkfncanfgpmgaaaGreat.Wd
open Go Go.RowKit Go.Shelf Go.Deep
set_option linter.unusedVariables false
set_option maxRecDepth 100000

abbrev Tas : TypeId := 48
abbrev Tass : TypeId := 28
def flatS : List Sl → List Value
  | [] => []
  | s :: xs => s.cs.toList ++ flatS xs
theorem flatS_append (a b : List Sl) : flatS (a ++ b) = flatS a ++ flatS b := by
  induction a with
  | nil => rfl
  | cons x xs ih => rw [List.cons_append, flatS, flatS, ih, List.append_assoc]
theorem flatS_len (a : List Sl) : (flatS a).length = a.length * 8 := by
  induction a with
  | nil => rfl
  | cons x xs ih => rw [flatS, List.length_append, ih, List.length_cons]; simp; omega
abbrev sl0 : Sl := ⟨⟨#[]⟩, ⟨⟨#[]⟩, 0, 0, 0⟩, 0, 0, 0⟩
abbrev atS (xs : List Sl) (k : Nat) : Sl := xs.getD k sl0
theorem flatS_at : ∀ (xs : List Sl) (k : Nat), k < xs.length → ∀ j, j < 8 → (flatS xs)[k * 8 + j]? = (atS xs k).cs[j]?
  | [], _, h, _, _ => absurd h (Nat.not_lt_zero _)
  | x :: xs, 0, _, j, hj => by
    rw [flatS, List.getElem?_append_left (by simp; omega)]; simp
  | x :: xs, k + 1, h, j, hj => by
    rw [flatS, List.getElem?_append_right (by simp; omega)]
    have := flatS_at xs k (by simpa using h) j hj
    rw [show (k + 1) * 8 + j - x.cs.toList.length = k * 8 + j by simp; omega, this]
    simp
theorem flatS_one (xs : List Sl) : ∀ u ∈ flatS xs, u.oneCell' = true := by
  induction xs with
  | nil => intro u hu; cases hu
  | cons x xs ih =>
    intro u hu
    rw [flatS, List.mem_append] at hu
    rcases hu with hu | hu
    · simp at hu
      rcases hu with rfl | rfl | rfl | rfl | rfl | rfl | rfl | rfl <;> rfl
    · exact ih u hu
/-- A row of slots that a call owns. -/
def OwS (w : World) (base : Nat) (v : Value) (xs : List Sl) : Prop := w.ownsRow base Tas 8 v xs.length (flatS xs)
theorem OwS.nil (w : World) (base : Nat) : OwS w base (.slice none 0 0) [] := World.ownsRow_nil _ _ _ _
theorem zeroAs : (Tryz.prog.info? Tas).map (fun i => (i.zero, i.size, i.bytes)) = some (some (.agg #[.string ⟨#[]⟩, .string ⟨#[]⟩, .int .u64 0, .int .u64 0, .int .u8 0, .int .u8 0, .int .u64 0, .int .u64 0]), 8, 80) := by kernel_rfl
theorem own_tch {S : Nat → Prop} {w w' : World} {base : Nat} {e : TypeId} {size n : Nat} {v : Value} {xs : List Value} (h : w.ownsRow base e size v n xs) (g : Tch S w w') (hS : ∀ k, base ≤ k → k < w.heap.size → ¬ S k) : w'.ownsRow base e size v n xs := by
  refine ⟨h.1, ?_⟩
  rcases h.2 with hn | ⟨b, cap, cur, rfl, hb, hgg, rest⟩
  · exact .inl hn
  · exact .inr ⟨b, cap, cur, rfl, hb, (g.block b (heap_lt hgg) (hS b hb (heap_lt hgg))).trans hgg, rest⟩
/-- A slot lies in eight cells. -/
def S8 (w : World) (b o : Nat) (s : Sl) : Prop := ∀ j, j < 8 → w.cell? ⟨b, o + j, none⟩ = s.cs[j]?
theorem S8.eight {w : World} {b o : Nat} {s : Sl} (h : S8 w b o s) : w.cell? ⟨b, o, none⟩ = some (.string s.key) ∧ w.cell? ⟨b, o + 1, none⟩ = some (.string s.r.p) ∧ w.cell? ⟨b, o + 2, none⟩ = some (.int .u64 s.r.e) ∧ w.cell? ⟨b, o + 3, none⟩ = some (.int .u64 s.r.b) ∧ w.cell? ⟨b, o + 4, none⟩ = some (.int .u8 s.r.k) ∧ w.cell? ⟨b, o + 5, none⟩ = some (.int .u8 s.k) ∧ w.cell? ⟨b, o + 6, none⟩ = some (.int .u64 s.a) ∧ w.cell? ⟨b, o + 7, none⟩ = some (.int .u64 s.b) :=
  ⟨h 0 (by omega), h 1 (by omega), h 2 (by omega), h 3 (by omega), h 4 (by omega), h 5 (by omega), h 6 (by omega), h 7 (by omega)⟩
/-- What such a row's form is, and where each lies. -/
theorem OwS.form {w : World} {base : Nat} {v : Value} {xs : List Sl} (h : OwS w base v xs) : ∃ A cap, v = .slice A xs.length cap ∧ xs.length ≤ cap ∧ cap ≤ maxLen ∧ (0 < xs.length → ∃ b, A = some ⟨b, 0, none⟩ ∧ base ≤ b ∧ b < w.heap.size ∧ ∀ k, k < xs.length → S8 w b (k * 8) (atS xs k)) := by
  rcases h.2 with ⟨rfl, h0⟩ | ⟨g, cap, cur, rfl, hb, hgg, h1, h2, h3, h4⟩
  · refine ⟨none, 0, by rw [h0], by omega, by unfold maxLen; omega, fun hp => by omega⟩
  · refine ⟨_, cap, rfl, h1, h2, fun _ => ⟨g, rfl, hb, heap_lt hgg, fun k hk j hj => ?_⟩⟩
    rw [← flatS_at xs k hk j hj, ← h4, List.getElem?_take, if_pos (by omega)]
    simp [World.cell?, hgg]
/-- One more. -/
theorem wpList_app_s (w : World) {ops : Array Oper} {rest : List Oper} {o : Oper} {a : Act} {Q : Exit → Act → World → Prop} (hgd : o.guard = none) (s x : Operand)
    (ho : o.op = .call { callee := .builtin .append, args := #[s, x], argTypes := #[Tass, Tass] })
    (base : Nat) (v : Value) (acc : List Sl) (hs : a.eval s = v) (hown : OwS w base v acc) (b off c : Nat) (y : Sl) (hx : a.eval x = .slice (some ⟨b, off, none⟩) 1 c)
    (hR : S8 w b off y) (hsz : acc.length + 1 ≤ 1099511627776) (hbase : base ≤ w.heap.size)
    (h : ∀ g cap w', OwS w' base (.slice (some ⟨g, 0, none⟩) (acc.length + 1) cap) (acc ++ [y]) → Below base w w' → w.grownBy w' v.ownBlock → (v.ownBlock = some g ∨ g = w.heap.size) → wpList Tryz.prog ops Q rest (a.put o.dst (.slice (some ⟨g, 0, none⟩) (acc.length + 1) cap)) w') : wpList Tryz.prog ops Q (o :: rest) a w := by
  obtain ⟨i0, hi, hy0, hy1, hy2⟩ := info_parts zeroAs
  refine wpList_append_lies w hgd s x Tass ho base Tas i0 _ 8 80 Tryz.underlying28 hi hy0 hy1 hy2 rfl (by decide) v acc.length (flatS acc) hs hown ⟨b, off, none⟩ 1 c (flatS [y]) hx (by rw [flatS_len]; rfl) ?_ (flatS_one _) (by decide) (by unfold maxLen; omega) (by omega) hbase w.heap.size rfl ?_
  · intro j u hu
    have hj : j < 8 := by
      by_cases z : j < 8
      · exact z
      · rw [List.getElem?_eq_none (by rw [flatS_len]; simp; omega)] at hu; cases hu
    have := flatS_at [y] 0 (by simp) j hj
    simp only [Nat.zero_mul, Nat.zero_add] at this
    rw [this] at hu
    have z := hR j hj
    have e : ((⟨b, off, none⟩ : Addr).add j) = ⟨b, off + j, none⟩ := by
      unfold Addr.add
      split
      · rename_i hj0; subst hj0; rfl
      · rfl
    rw [e, z]; simpa [atS] using hu
  · intro g cap w' own grow hg hgs
    refine h g cap w' ?_ ((Below.refl base w).grown grow hbase (fun k hk => (World.ownsRow.lt hown k hk).1)) grow hg
    unfold OwS
    rw [List.length_append, flatS_append]
    exact own
end Go.Proofs.YtkfncanfgpmgaaaGreat.Wd
