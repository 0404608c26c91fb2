/- The document's answers of chapter 10: which byte is a blank, what is joined (tollerref10.blank, Join); the words of a line, plain; no conditions but those that each names. -/
import Derived.Test.YtdjeehnjodbmaaaWrdG
import Derived.Test.YtdjeehnjodbmaaaWrdJ
namespace Go.Proofs.Ytdjeehnjodbmaaa.Wd
open Go Go.RowKit
set_option linter.unusedVariables false
set_option linter.unusedSimpArgs false

theorem rblank_any (c : UInt8) (w : World) : Calls Try.prog 25 #[.int .u8 (c.toNat : Int)] w fun e w' => e = .returned (.bool (decide (kd c = 2))) ∧ w = w' := by
  have e0 : ∀ k : UInt8, c = k ↔ c.toNat = k.toNat := fun k => ⟨fun h => by rw [h], fun h => UInt8.toNat_inj.1 h⟩
  have hk : (kd c = 2) ↔ c.toNat = 32 ∨ c.toNat = 9 := by rw [kd_two, e0, e0]; rfl
  have hd : decide (kd c = 2) = decide (c.toNat = 32 ∨ c.toNat = 9) := by simp only [hk]
  rw [hd]
  clear hk hd e0
  generalize c.toNat = v
  by_cases h1 : v = 32
  · rw [decide_eq_true (.inl h1)]; subst h1
    go_enter Try.func25, Try.ntmps25
    go_wp2
    go_ret
    exact ⟨rfl, rfl⟩
  · have d1 : ((v : Int) == 32) = false := beq_eq_false_iff_ne.2 (by omega)
    by_cases h2 : v = 9
    · rw [decide_eq_true (.inr h2)]; subst h2
      go_enter Try.func25, Try.ntmps25
      go_wp2
      go_ret
      exact ⟨rfl, rfl⟩
    · have d2 : ((v : Int) == 9) = false := beq_eq_false_iff_ne.2 (by omega)
      rw [decide_eq_false (by omega)]
      go_enter Try.func25, Try.ntmps25
      go_wp2
      go_ret
      exact ⟨rfl, rfl⟩

/-! ### The words of a line, word by word -/
theorem okL_drop {s : List UInt8} (h : okL s) (k : Nat) : okL (s.drop k) := fun b hb => h b (List.mem_of_mem_drop hb)
theorem lnW_word : ∀ (r x : List UInt8) (c0 n c : Nat) (line : List Wo), okL r → lnW r (.wrd x c0) n c line = lnW (r.dropWhile vs) .gap n (c + (r.takeWhile vs).length) (line ++ [(x ++ r.takeWhile vs, n, c0)])
  | [], x, c0, n, c, line, _ => by simp [lnW, shutL]
  | b :: t, x, c0, n, c, line, hs => by
    have ht : okL t := fun y hy => hs y (List.mem_cons_of_mem _ hy)
    rcases hs b List.mem_cons_self with h | h
    · have hv : vs b = false := by unfold vs; rw [h]; rfl
      rw [List.dropWhile_cons, List.takeWhile_cons, if_neg (by rw [hv]; decide), if_neg (by rw [hv]; decide), lnW_2 h, lnW_2 h]
      simp only [List.append_nil, List.length_nil, Nat.add_zero]
      rfl
    · rw [lnW_v h, List.dropWhile_cons, List.takeWhile_cons, if_pos h, if_pos h]
      show lnW t (.wrd (x ++ [b]) c0) n (c + 1) line = _
      rw [lnW_word t _ _ _ _ _ ht]
      simp only [List.length_cons, List.append_assoc, List.cons_append, List.nil_append]
      rw [show c + 1 + (t.takeWhile vs).length = c + ((t.takeWhile vs).length + 1) by omega]
theorem lnW_rem : ∀ (t : List UInt8) (n c : Nat), okL t → lnW t .rem n c [] = []
  | [], n, c, _ => rfl
  | b :: t, n, c, hs => by
    have ht : okL t := fun y hy => hs y (List.mem_cons_of_mem _ hy)
    rcases hs b List.mem_cons_self with h | h
    · rw [lnW_2 h]; exact lnW_rem t n (c + 1) ht
    · rw [lnW_v h]; exact lnW_rem t n (c + 1) ht
/-- A word of a line, and what is behind it. -/
theorem line_word {s : List UInt8} (hs : okL s) {k : Nat} (hk : k < s.length) (hv : vs (s.getD k 0) = true) : ∃ L, 0 < L ∧ k + L ≤ s.length ∧ (∀ j, 1 ≤ j → j < L → vs (s.getD (k + j) 0) = true) ∧ (k + L < s.length → vs (s.getD (k + L) 0) = false) ∧
    ∀ n line, (s.getD k 0 = 35 → line ≠ []) → lnW (s.drop k) .gap n (k + 1) line = lnW (s.drop (k + L)) .gap n (k + L + 1) (line ++ [((s.drop k).take L, n, k + 1)]) := by
  obtain ⟨h1, h2, h3, h4⟩ := while_len (s.drop (k + 1))
  have hl : ((s.drop (k + 1)).takeWhile vs).length ≤ s.length - (k + 1) := by
    have := congrArg List.length h1
    rw [List.length_take, List.length_drop] at this
    omega
  have gd : ∀ j, (s.drop (k + 1)).getD j 0 = s.getD (k + 1 + j) 0 := fun j => by simp [List.getD_eq_getElem?_getD]
  generalize hq : ((s.drop (k + 1)).takeWhile vs).length = q at *
  refine ⟨q + 1, by omega, by omega, fun j hj1 hj2 => ?_, fun he => ?_, fun n line h35 => ?_⟩
  · have := h3 (j - 1) (by omega)
    rw [gd, show k + 1 + (j - 1) = k + j by omega] at this
    exact this
  · have := h4 (by rw [List.length_drop]; omega)
    rw [gd, show k + 1 + q = k + (q + 1) by omega] at this
    exact this
  · have e : seen (s.getD k 0) .gap (k + 1) line = .wrd [s.getD k 0] (k + 1) := if_neg (fun g => h35 ((kd_four _).1 g.1) g.2)
    rw [drop_at hk, lnW_v hv, e, lnW_word _ _ _ _ _ _ (okL_drop hs _), hq, ← h2, List.drop_drop, List.take_succ_cons, h1, show k + 1 + q = k + (q + 1) by omega]
    rw [show k + 1 + 1 + q = k + (q + 1) + 1 by omega]
    rfl
theorem line_hash {s : List UInt8} (hs : okL s) {k : Nat} (hk : k < s.length) (h : s.getD k 0 = 35) (n : Nat) : lnW (s.drop k) .gap n (k + 1) [] = [] := by
  have hv : vs (s.getD k 0) = true := by rw [h]; decide
  have e : seen (s.getD k 0) .gap (k + 1) [] = .rem := if_pos ⟨(kd_four _).2 h, rfl⟩
  rw [drop_at hk, lnW_v hv, e, lnW_rem _ _ _ (okL_drop hs _)]
theorem line_blank {s : List UInt8} {k : Nat} (hk : k < s.length) (h : kd (s.getD k 0) = 2) (n : Nat) (line : List Wo) : lnW (s.drop k) .gap n (k + 1) line = lnW (s.drop (k + 1)) .gap n (k + 1 + 1) line := by
  rw [drop_at hk, lnW_2 h]; rfl
end Go.Proofs.Ytdjeehnjodbmaaa.Wd
