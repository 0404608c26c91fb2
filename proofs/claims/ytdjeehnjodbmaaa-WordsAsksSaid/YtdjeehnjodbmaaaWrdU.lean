/- The document's answer of chapter 10: a text's words (tollerref10.Split), for texts that are not too long; no conditions but those that each names. -/
import Derived.Test.YtdjeehnjodbmaaaWrdE
import Derived.Test.YtdjeehnjodbmaaaWrdV
namespace Go.Proofs.Ytdjeehnjodbmaaa.Wd
open Go Go.RowKit
set_option linter.unusedVariables false
set_option linter.unusedSimpArgs false

/-! ### Plain -/
theorem aut_stray : ∀ (s : List UInt8) (b : UInt8) (r : List UInt8) (m : Mo) (n c : Nat) (line : List Wo) (lines : List (List Wo)), okL s → kd b = 1 → aut (s ++ b :: r) m n c line lines = .bad n (c + s.length)
  | [], b, r, m, n, c, line, lines, _, hb => by rw [List.nil_append, aut_1 hb]; rfl
  | x :: t, b, r, m, n, c, line, lines, hs, hb => by
    have ht : okL t := fun y hy => hs y (List.mem_cons_of_mem _ hy)
    rw [List.cons_append, List.length_cons, show c + (t.length + 1) = c + 1 + t.length by omega]
    rcases hs x List.mem_cons_self with h | h
    · rw [aut_2 h, aut_stray t b r _ _ _ _ _ ht hb]
    · rw [aut_v h, aut_stray t b r _ _ _ _ _ ht hb]
theorem part_more {bs : List UInt8} {fr k : Nat} (h : fr ≤ k) (hk : k < bs.length) : bs.drop fr = part bs fr k ++ bs.getD k 0 :: bs.drop (k + 1) := by
  rw [← drop_at hk]
  have := (List.take_append_drop (k - fr) (bs.drop fr)).symm
  rw [List.drop_drop, show fr + (k - fr) = k by omega] at this
  exact this
theorem part_all {bs : List UInt8} {fr : Nat} : bs.drop fr = part bs fr bs.length := by
  unfold part
  rw [List.take_of_length_le (by rw [List.length_drop]; omega)]
theorem part_ok_succ {bs : List UInt8} {fr k : Nat} (h : fr ≤ k) (hk : k < bs.length) (hs : okL (part bs fr k)) (hb : kd (bs.getD k 0) = 2 ∨ vs (bs.getD k 0) = true) : okL (part bs fr (k + 1)) := by
  have e : part bs fr (k + 1) = part bs fr k ++ [bs.getD k 0] := by
    have h1 := part_more h hk
    have h2 : part bs fr (k + 1) = (bs.drop fr).take (k + 1 - fr) := rfl
    rw [h2, h1, List.take_append, part_len h (by omega), List.take_of_length_le (by rw [part_len h (by omega)]; omega), show k + 1 - fr - (k - fr) = 1 by omega]
    rfl
  rw [e]
  intro b hm
  rcases List.mem_append.1 hm with hm | hm
  · exact hs b hm
  · simp at hm; subst hm; exact hb
theorem part_none (bs : List UInt8) (k : Nat) : okL (part bs k k) := by
  unfold part
  rw [Nat.sub_self, List.take_zero]
  intro b hb
  cases hb
/-- What is met at a place of a text whose line goes on. -/
theorem step_nl {bs : List UInt8} {fr k nn : Nat} {acc : List (List Wo)} (h : fr ≤ k) (hk : k < bs.length) (hs : okL (part bs fr k)) (h10 : bs.getD k 0 = 10) : aut (bs.drop fr) .gap nn 1 [] acc = aut (bs.drop (k + 1)) .gap (nn + 1) 1 [] (flush (line0 (part bs fr k) nn) acc) := by
  rw [part_more h hk, h10, aut_line _ _ _ _ _ _ _ hs]; rfl
theorem step_fin {bs : List UInt8} {fr nn : Nat} {acc : List (List Wo)} (hs : okL (part bs fr bs.length)) : aut (bs.drop fr) .gap nn 1 [] acc = .ok (flush (line0 (part bs fr bs.length) nn) acc) := by
  rw [part_all, aut_last _ _ _ _ _ _ hs]; rfl
theorem step_bad {bs : List UInt8} {fr k nn : Nat} {acc : List (List Wo)} (h : fr ≤ k) (hk : k < bs.length) (hs : okL (part bs fr k)) (hb : kd (bs.getD k 0) = 1) : aut (bs.drop fr) .gap nn 1 [] acc = .bad nn (k - fr + 1) := by
  rw [part_more h hk, aut_stray _ _ _ _ _ _ _ _ hs hb, part_len h (by omega), Nat.add_comm]

/-! ### A part of a row of bytes -/
theorem bslice_part (A : Option Addr) (n cap i j : Nat) (h : i ≤ j) (hj : j ≤ n) (hn : n ≤ cap) : ∃ A', (∀ W : World, (Instr.slice 22 (.slice A n cap) (some (.int .i64 (i : Int))) (some (.int .i64 (j : Int))) none).run Try.prog W = .ok (.slice A' (j - i) (cap - i)) W) ∧
    ∀ (W : World) (l : List UInt8), Txt W A n l → Txt W A' (j - i) (part l i j) := by
  obtain ⟨i0, hz, hz0, hz1, hz2⟩ := info_parts infoByte
  refine ⟨if cap = i then A else A.map (·.add (i * 1)), fun W => ?_, fun W l hl => ?_⟩
  · have hjc : j ≤ cap := by omega
    simp [go_sem, Try.underlying22, sizeOf, typeInfo, hz, hz1, h, hjc, sliced]
  · refine ⟨part_len h (by rw [hl.1]; exact hj), fun h0 => ?_⟩
    obtain ⟨b, off, rfl, hb, hc⟩ := hl.2 (by omega)
    rw [if_neg (by omega)]
    refine ⟨b, off + i, by simp [Go.WideShapes.add_plain], hb, fun k hk => ?_⟩
    rw [Nat.add_assoc, hc (i + k) (by omega), part_at hk]

/-! ### What holds in every round -/
structure RInv (w0 W : World) (acc : List (List Wo)) (v : Value) : Prop where
  below : Below w0.heap.size w0 W
  lt : w0.heap.size < W.heap.size
  place : R2 W w0.heap.size (.int .i64 0) (.int .i64 0)
  rows : ∃ us, W.ownsRow (w0.heap.size + 1) 37 1 v acc.length us ∧ Each W (w0.heap.size + 1) W.heap.size us acc
theorem RInv.grow {w0 W W' : World} {acc : List (List Wo)} {v : Value} (h : RInv w0 W acc v) (g : Below W.heap.size W W') : RInv w0 W' acc v := by
  obtain ⟨us, h1, h2⟩ := h.rows
  have hlt := h.lt
  have hsz := g.size
  exact ⟨kbq h.below g, by omega, h.place.below g hlt, us, own_below h1 g, h2.imp fun u ws hu hk => ⟨own_below hu g, fun k e => by have := hk k e; omega⟩⟩
theorem RInv.out {w0 W W' : World} {acc : List (List Wo)} {v : Value} (h : RInv w0 W acc v) (g : W.grownBy W' (some w0.heap.size)) : WRows W' v acc := by
  obtain ⟨us, h1, h2⟩ := h.rows
  exact ⟨us, own_mono (own_but h1 g (by omega)) (Nat.zero_le _), h2.imp fun u ws hu hk => ⟨own_mono (own_but hu g (by omega)) (Nat.zero_le _), fun k e => by have := hk k e; have := g.size; omega⟩⟩
theorem RInv.push {w0 W W' : World} {acc : List (List Wo)} {v vL v' : Value} {line : List Wo} {us : List Value} (h : RInv w0 W acc v) (hL : WRow W (w0.heap.size + 1) vL line)
    (h3 : W.ownsRow (w0.heap.size + 1) 37 1 v acc.length us) (h5 : Each W (w0.heap.size + 1) W.heap.size us acc)
    (own : W'.ownsRow (w0.heap.size + 1) 37 1 v' (acc.length + 1) (us ++ [vL])) (g : W.grownBy W' v.ownBlock) : RInv w0 W' (acc ++ [line]) v' := by
  have hlt := h.lt
  have hb : Below (w0.heap.size + 1) W W' := (Below.refl _ W).grown g (by omega) (own_block h3)
  have hsz := g.size
  have hvL := hL.kept g (own_apart hL h3 (by decide))
  refine ⟨h.below.trans (hb.mono (by omega)), by omega, h.place.below hb (by omega), us ++ [vL], ?_, ?_⟩
  · rw [List.length_append]; exact own
  · refine Each.push (h5.imp fun u ws hu hk => ⟨hu.kept g (own_apart hu h3 (by decide)), fun k e => by have := hk k e; omega⟩) ⟨hvL, ?_, fun k e => (hvL.lt k e).2⟩
    obtain ⟨A, c', e⟩ := own_slice hL; rw [e]; rfl
end Go.Proofs.Ytdjeehnjodbmaaa.Wd
