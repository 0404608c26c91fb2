/- Two tables in one memory; what a charge of one key leaves of another one; no conditions but those that each names. -/
import Derived.Test.YtkfncanfgpmgaaaGreatTabRb
namespace Go.Proofs.YtkfncanfgpmgaaaGreat.Wd
open Go Go.RowKit Go.Shelf Go.Deep
set_option linter.unusedVariables false
set_option maxRecDepth 100000

/-- Two tables that share no block. -/
def Pr (w : World) (n0 T Y : Nat) (m1 c1 : Int) (S1 : List Sl) (m2 c2 : Int) (S2 : List Sl) : Prop :=
  n0 ≤ w.heap.size ∧ ∃ B1 B2 : Nat → Prop, Tbl w T B1 m1 c1 S1 ∧ Tbl w Y B2 m2 c2 S2 ∧ (∀ k, B1 k → ¬ B2 k) ∧ (∀ k, B1 k → n0 ≤ k ∧ k < w.heap.size) ∧ ∀ k, B2 k → n0 ≤ k ∧ k < w.heap.size
section
variable {w w' : World} {n0 T Y : Nat} {m1 c1 m2 c2 : Int} {S1 S2 : List Sl}
theorem Pr.swap (h : Pr w n0 T Y m1 c1 S1 m2 c2 S2) : Pr w n0 Y T m2 c2 S2 m1 c1 S1 := by
  obtain ⟨h0, B1, B2, h1, h2, h3, h4, h5⟩ := h
  exact ⟨h0, B2, B1, h2, h1, fun k a b => h3 k b a, h5, h4⟩
theorem Pr.below (h : Pr w n0 T Y m1 c1 S1 m2 c2 S2) (g : Below w.heap.size w w') : Pr w' n0 T Y m1 c1 S1 m2 c2 S2 := by
  obtain ⟨h0, B1, B2, h1, h2, h3, h4, h5⟩ := h
  exact ⟨Nat.le_trans h0 g.size, B1, B2, h1.below g, h2.below g, h3, fun k a => ⟨(h4 k a).1, Nat.lt_of_lt_of_le (h4 k a).2 g.size⟩, fun k a => ⟨(h5 k a).1, Nat.lt_of_lt_of_le (h5 k a).2 g.size⟩⟩
theorem Pr.dr (h : Pr w n0 T Y m1 c1 S1 m2 c2 S2) : Pr w.drew n0 T Y m1 c1 S1 m2 c2 S2 := h.below (Drew.lo (Drew.one w) (Nat.le_refl _))
theorem Pr.wf1 (h : Pr w n0 T Y m1 c1 S1 m2 c2 S2) : Wf m1 c1 S1 := by obtain ⟨_, B1, B2, h1, _⟩ := h; exact h1.wf
theorem Pr.wf2 (h : Pr w n0 T Y m1 c1 S1 m2 c2 S2) : Wf m2 c2 S2 := h.swap.wf1
theorem Pr.clock1 (h : Pr w n0 T Y m1 c1 S1 m2 c2 S2) : w.cell? ⟨T, 1, none⟩ = some (.int .u64 c1) := by obtain ⟨_, B1, B2, h1, _⟩ := h; exact h1.cells.2.1
theorem Pr.clock2 (h : Pr w n0 T Y m1 c1 S1 m2 c2 S2) : w.cell? ⟨Y, 1, none⟩ = some (.int .u64 c2) := h.swap.clock1
theorem pr_turn {B1 B2 : Nat → Prop} {m c : Int} {S : List Sl} (h0 : n0 ≤ w.heap.size) (h2 : Tbl w Y B2 m2 c2 S2) (h3 : ∀ k, B1 k → ¬ B2 k) (h4 : ∀ k, B1 k → n0 ≤ k ∧ k < w.heap.size) (h5 : ∀ k, B2 k → n0 ≤ k ∧ k < w.heap.size)
    (g : Tch B1 w w') (t : Tbl w' T (Nx B1 w) m c S) : Hid (Pr w' n0 T Y m c S m2 c2 S2) ∧ Tch (fun k => n0 ≤ k) w w' := by
  refine ⟨Lib.hid ⟨Nat.le_trans h0 g.size, fun k => Nx B1 w k ∧ k < w'.heap.size, B2, t.low, h2.keep (fun k hk hl => g.block k hl (fun x => h3 k x hk)), fun k a b => ?_, fun k a => ⟨?_, a.2⟩, fun k a => ⟨(h5 k a).1, Nat.lt_of_lt_of_le (h5 k a).2 g.size⟩⟩, g.mono (fun k _ hk => (h4 k hk).1)⟩
  · rcases a.1 with x | x
    · exact h3 k x b
    · have := (h5 k b).2; have : w.heap.size ≤ k := x; omega
  · rcases a.1 with x | x
    · exact (h4 k x).1
    · have : w.heap.size ≤ k := x; omega
theorem Pr.charge1 (h : Pr w n0 T Y m1 c1 S1 m2 c2 S2) (k : ByteArray) (r : Rl) (n : Int) (hk : k.size ≤ 281474976710656) (hr : Okr r) (hnn : U n) :
    Calls Tryz.prog 18 #[ptr T, .string k, .agg #[.string r.p, .int .u64 r.e, .int .u64 r.b, .int .u8 r.k], .int .u64 n] w fun e w' => e = .returned (chA m1 c1 S1 k r n).v ∧ Hid (Pr w' n0 T Y m1 c1 (chN m1 c1 S1 k r n) m2 c2 S2) ∧ Tch (fun k => n0 ≤ k) w w' := by
  obtain ⟨h0, B1, B2, h1, h2, h3, h4, h5⟩ := h
  refine (charge_tab T B1 m1 c1 S1 k r n w h1 hk hr hnn).mono ?_
  rintro e w' ⟨rfl, g, t⟩
  exact ⟨rfl, pr_turn h0 h2 h3 h4 h5 g t⟩
theorem Pr.charge2 (h : Pr w n0 T Y m1 c1 S1 m2 c2 S2) (k : ByteArray) (r : Rl) (n : Int) (hk : k.size ≤ 281474976710656) (hr : Okr r) (hnn : U n) :
    Calls Tryz.prog 18 #[ptr Y, .string k, .agg #[.string r.p, .int .u64 r.e, .int .u64 r.b, .int .u8 r.k], .int .u64 n] w fun e w' => e = .returned (chA m2 c2 S2 k r n).v ∧ Hid (Pr w' n0 T Y m1 c1 S1 m2 c2 (chN m2 c2 S2 k r n)) ∧ Tch (fun k => n0 ≤ k) w w' :=
  (h.swap.charge1 k r n hk hr hnn).mono (fun _ _ ⟨a, b, c⟩ => ⟨a, Lib.hid b.out.swap, c⟩)
theorem Pr.tick1 (h : Pr w n0 T Y m1 c1 S1 m2 c2 S2) (x : Int) (hx : U x) :
    Calls Tryz.prog 20 #[ptr T, .int .u64 x] w fun e w' => e = .returned (.int .u64 (max c1 x)) ∧ Hid (Pr w' n0 T Y m1 (max c1 x) (S1.filter (actB (max c1 x))) m2 c2 S2) ∧ Tch (fun k => n0 ≤ k) w w' := by
  obtain ⟨h0, B1, B2, h1, h2, h3, h4, h5⟩ := h
  refine (tick_any T B1 m1 c1 x S1 w h1 hx).mono ?_
  rintro e w' ⟨rfl, g, t⟩
  exact ⟨rfl, pr_turn h0 h2 h3 h4 h5 g t⟩
theorem Pr.tick2 (h : Pr w n0 T Y m1 c1 S1 m2 c2 S2) (x : Int) (hx : U x) :
    Calls Tryz.prog 20 #[ptr Y, .int .u64 x] w fun e w' => e = .returned (.int .u64 (max c2 x)) ∧ Hid (Pr w' n0 T Y m1 c1 S1 m2 (max c2 x) (S2.filter (actB (max c2 x)))) ∧ Tch (fun k => n0 ≤ k) w w' :=
  (h.swap.tick1 x hx).mono (fun _ _ ⟨a, b, c⟩ => ⟨a, Lib.hid b.out.swap, c⟩)
end
theorem ruleK_okr (k : Int) (hk : 0 ≤ k ∧ k ≤ 255) : Okr (ruleK k) := by
  have h6 : k % 6 = 0 ∨ k % 6 = 1 ∨ k % 6 = 2 ∨ k % 6 = 3 ∨ k % 6 = 4 ∨ k % 6 = 5 := by omega
  have h3 : k / 6 % 3 = 0 ∨ k / 6 % 3 = 1 ∨ k / 6 % 3 = 2 := by omega
  unfold ruleK
  by_cases c : 250 ≤ k
  · rw [if_pos c]
    rcases h6 with h | h | h | h | h | h <;> rcases h3 with g | g | g <;> (unfold ruleP; simp only [h, g]; exact ⟨by decide, by unfold U; decide, by unfold U; decide, by decide⟩)
  · rw [if_neg c]
    rcases h6 with h | h | h | h | h | h <;> rcases h3 with g | g | g <;> (unfold ruleP; simp only [h, g]; exact ⟨by decide, by unfold U; decide, by unfold U; decide, by decide⟩)

/-! ### What is left of another key -/
theorem getS_offne {S : List Sl} {k k' : ByteArray} (h : k' ≠ k) : getS (offS k S) k' = getS S k' := by
  unfold getS offS
  rw [List.find?_filter]
  congr 1
  funext s
  by_cases e : s.key = k'
  · simp [e, h]
  · simp [e]
theorem getS_cons {S : List Sl} {s : Sl} {k : ByteArray} : getS (s :: S) k = if s.key = k then some s else getS S k := by
  unfold getS
  rw [List.find?_cons]
  by_cases e : s.key = k <;> simp [e]
theorem getS_putne {c : Int} {S : List Sl} {s : Sl} {k' : ByteArray} (h : k' ≠ s.key) : getS (putS c s S) k' = getS S k' := by
  unfold putS
  split
  · exact getS_offne h
  · rw [getS_cons, if_neg (fun e => h e.symm), getS_offne h]
theorem getS_put {c : Int} {S : List Sl} {s : Sl} : getS (putS c s S) s.key = if flS c s = 0 then none else some s := by
  unfold putS
  split
  · exact getS_off _ _
  · rw [getS_cons, if_pos rfl]
theorem getS_dropne {S : List Sl} {k k' : ByteArray} {r : Rl} (h : k' ≠ k) : getS (dropS S k r) k' = getS S k' := by
  unfold dropS
  split
  · split
    · rfl
    · exact getS_offne h
  · rfl
theorem getS_chne {m c n : Int} {S : List Sl} {k k' : ByteArray} {r : Rl} (h : k' ≠ k) : getS (chN m c S k r n) k' = getS S k' := by
  unfold chN
  split
  · split
    · exact getS_dropne h
    · unfold decS
      split
      · rw [getS_putne h, getS_dropne h]
      · exact getS_dropne h
  · rfl
theorem putS_len (c : Int) (s : Sl) (S : List Sl) : (putS c s S).length ≤ S.length + 1 := by
  have := offS_le s.key S
  unfold putS; split <;> simp <;> omega
theorem dropS_len (S : List Sl) (k : ByteArray) (r : Rl) : (dropS S k r).length ≤ S.length := by
  unfold dropS
  split
  · split
    · exact Nat.le_refl _
    · exact offS_le _ _
  · exact Nat.le_refl _
theorem chN_len (m c n : Int) (S : List Sl) (k : ByteArray) (r : Rl) : (chN m c S k r n).length ≤ S.length + 1 := by
  have h1 := dropS_len S k r
  unfold chN
  split
  · split
    · omega
    · unfold decS
      split
      · have := putS_len c (slOf k r (stNx c r (stOf c r (getS (dropS S k r) k)) n)) (dropS S k r); omega
      · omega
  · omega
/-- What is told of a key, and kept of it, hangs on what is kept of it, where there is a place. -/
theorem dropS_get (S : List Sl) (k : ByteArray) (r : Rl) : getS (dropS S k r) k = match getS S k with | some s => if s.r.e = r.e ∧ s.r.b = r.b then some s else none | none => none := by
  unfold dropS
  cases e : getS S k with
  | none => simpa using e
  | some s =>
    by_cases z : s.r.e = r.e ∧ s.r.b = r.b
    · simp [z, e]
    · simp only [if_neg z]
      exact getS_off k S
theorem full_no {m : Int} {S : List Sl} (k : ByteArray) (r : Rl) (h : (S.length : Int) < m) : fullB m (dropS S k r) k = false := by
  have := dropS_len S k r
  unfold fullB
  rw [Bool.and_eq_false_iff]
  right
  simp; omega
theorem ch_same {m c n : Int} {S1 S2 : List Sl} {k : ByteArray} {r : Rl} (hg : getS S1 k = getS S2 k) (h1 : (S1.length : Int) < m) (h2 : (S2.length : Int) < m) :
    chA m c S1 k r n = chA m c S2 k r n ∧ getS (chN m c S1 k r n) k = getS (chN m c S2 k r n) k := by
  have e : getS (dropS S1 k r) k = getS (dropS S2 k r) k := by rw [dropS_get, dropS_get, hg]
  constructor
  · unfold chA
    rw [full_no k r h1, full_no k r h2, e]
  · unfold chN
    rw [full_no k r h1, full_no k r h2, e]
    by_cases z : wkE k r = 0
    · rw [if_pos z, if_pos z]
      (try rw [if_neg (by decide : ¬ (false = true)), if_neg (by decide : ¬ (false = true))])
      generalize stOf c r (getS (dropS S2 k r) k) = st
      show getS (if stIn c r st n = true then putS c (slOf k r (stNx c r st n)) (dropS S1 k r) else dropS S1 k r) k = getS (if stIn c r st n = true then putS c (slOf k r (stNx c r st n)) (dropS S2 k r) else dropS S2 k r) k
      by_cases q : stIn c r st n = true
      · rw [if_pos q, if_pos q]
        have a := getS_put (c := c) (S := dropS S1 k r) (s := slOf k r (stNx c r st n))
        have b := getS_put (c := c) (S := dropS S2 k r) (s := slOf k r (stNx c r st n))
        exact a.trans b.symm
      · rw [if_neg q, if_neg q]; exact e
    · rw [if_neg z, if_neg z]; exact hg
theorem getS_filter {S : List Sl} {p : Sl → Bool} {k : ByteArray} (h : S.Pairwise (fun x y => x.key ≠ y.key)) : getS (S.filter p) k = (getS S k).filter p := by
  cases e : getS S k with
  | none => exact getS_none.2 (fun s hs => getS_none.1 e s (List.mem_filter.1 hs).1)
  | some s =>
    obtain ⟨h1, h2⟩ := getS_some e
    cases ha : p s with
    | true =>
      rw [getS_of (h.sublist List.filter_sublist) (List.mem_filter.2 ⟨h1, ha⟩) h2]
      unfold Option.filter; simp only [ha, if_true]
    | false =>
      rw [show (some s).filter p = none by unfold Option.filter; simp [ha]]
      exact getS_none.2 (fun t ht e3 => by
        obtain ⟨t1, t2⟩ := List.mem_filter.1 ht
        have := pw_one h t1 h1 (e3.trans h2.symm)
        rw [this, ha] at t2; cases t2)
end Go.Proofs.YtkfncanfgpmgaaaGreat.Wd
