/- A table in memory, by what it holds alone: how one is lost, and kept; which one is due first; no conditions but those that each names. -/
import Derived.Test.YtkfncanfgpmgaaaGreatTabP
namespace Go.Proofs.YtkfncanfgpmgaaaGreat.Wd
open Go Go.RowKit Go.Shelf Go.Deep
set_option linter.unusedVariables false
set_option maxRecDepth 100000

/-- A table that holds these, each with when it is due. -/
def TabL (w : World) (T : Nat) (B : Nat → Prop) (m c : Int) (L : List (Sl × Int)) : Prop := ∃ M F bs, TabM w T M B m c F bs ∧ bs.map F = L
/-- Without a key. -/
def offL (k : ByteArray) (L : List (Sl × Int)) : List (Sl × Int) := L.filter (fun x => decide (x.1.key ≠ k))
/-- With one in the place of who has its key. -/
def putL (c : Int) (s : Sl) (L : List (Sl × Int)) : List (Sl × Int) := if dueS c s = 0 then offL s.key L else (s, dueS c s) :: offL s.key L
def ApL (L : List (Sl × Int)) : Prop := L.Pairwise (fun x y => x.1.key ≠ y.1.key)
theorem map_off (F : Nat → Sl × Int) (bs : List Nat) (k : ByteArray) : (offB F k bs).map F = offL k (bs.map F) := by
  unfold offB offL
  rw [List.filter_map]; rfl
theorem TabL.ap {w : World} {T : Nat} {B : Nat → Prop} {m c : Int} {L : List (Sl × Int)} (h : TabL w T B m c L) : ApL L := by
  obtain ⟨M, F, bs, h1, rfl⟩ := h
  exact List.pairwise_map.2 h1.ap
theorem TabL.few {w : World} {T : Nat} {B : Nat → Prop} {m c : Int} {L : List (Sl × Int)} (h : TabL w T B m c L) : L.length ≤ 1000000 := by
  obtain ⟨M, F, bs, h1, rfl⟩ := h
  rw [List.length_map]; exact h1.few
theorem TabL.mono {w : World} {T : Nat} {B C : Nat → Prop} {m c : Int} {L : List (Sl × Int)} (h : TabL w T B m c L) (hs : ∀ k, B k → C k) : TabL w T C m c L := by
  obtain ⟨M, F, bs, h1, e⟩ := h
  exact ⟨M, F, bs, h1.mono hs, e⟩
theorem TabL.low {w : World} {T : Nat} {B : Nat → Prop} {m c : Int} {L : List (Sl × Int)} (h : TabL w T B m c L) : TabL w T (fun k => B k ∧ k < w.heap.size) m c L := by
  obtain ⟨M, F, bs, h1, e⟩ := h
  exact ⟨M, F, bs, h1.low, e⟩
theorem TabL.keep {w w' : World} {T : Nat} {B : Nat → Prop} {m c : Int} {L : List (Sl × Int)} (h : TabL w T B m c L) (hk : ∀ k, B k → k < w.heap.size → w'.heap[k]? = w.heap[k]?) : TabL w' T B m c L := by
  obtain ⟨M, F, bs, h1, e⟩ := h
  exact ⟨M, F, bs, h1.keep hk, e⟩
theorem TabL.below {w w' : World} {T : Nat} {B : Nat → Prop} {m c : Int} {L : List (Sl × Int)} (h : TabL w T B m c L) (g : Below w.heap.size w w') : TabL w' T B m c L := h.keep (fun k _ hl => g.block k hl)
theorem TabL.cells {w : World} {T : Nat} {B : Nat → Prop} {m c : Int} {L : List (Sl × Int)} (h : TabL w T B m c L) :
    w.cell? ⟨T, 0, none⟩ = some (.int .i64 m) ∧ w.cell? ⟨T, 1, none⟩ = some (.int .u64 c) ∧ w.frozen? ⟨T, 1, none⟩ = false ∧ T < w.heap.size := by
  obtain ⟨M, F, bs, h1, e⟩ := h
  obtain ⟨a, b, _, d, e, _⟩ := h1.cells
  exact ⟨a, b, d 1, e⟩
theorem lose_L (T : Nat) (B : Nat → Prop) (m c : Int) (L : List (Sl × Int)) (k : ByteArray) (w : World) (h : TabL w T B m c L) (hs : k.size ≤ 9223372036854775807) :
    Calls Tryz.prog 42 #[ptr T, .string k] w fun e w' => e = .returned (.tuple #[]) ∧ TabL w' T B m c (offL k L) ∧ Tch B w w' := by
  obtain ⟨M, F, bs, h1, rfl⟩ := h
  refine (lose_any T M B m c F bs k w h1 hs).mono ?_
  rintro e w' ⟨rfl, h2, h3⟩
  exact ⟨rfl, ⟨M, F, _, h2, map_off _ _ _⟩, h3⟩
theorem put_L (T : Nat) (B : Nat → Prop) (m c : Int) (L : List (Sl × Int)) (s : Sl) (w : World) (h : TabL w T B m c L) (hs : Oks s) (hc : U c) (hf : (offL s.key L).length < 1000000) :
    Calls Tryz.prog 61 #[ptr T, s.v] w fun e w' => e = .returned (.tuple #[]) ∧ TabL w' T (Nx B w) m c (putL c s L) ∧ Tch B w w' := by
  obtain ⟨M, F, bs, h1, rfl⟩ := h
  refine (put_any T M B m c F bs s w h1 hs hc (by rw [← map_off, List.length_map] at hf; exact hf)).mono ?_
  rintro e w' ⟨rfl, h2, h3⟩
  refine ⟨rfl, ?_, h2⟩
  unfold putL
  by_cases z : dueS c s = 0
  · rw [if_pos z] at h3 ⊢
    exact ⟨M, F, _, h3, map_off _ _ _⟩
  · rw [if_neg z] at h3 ⊢
    obtain ⟨x, hx, h4⟩ := h3
    refine ⟨M, _, _, h4, ?_⟩
    rw [List.map_cons, updF_x, ← map_off]
    congr 1
    apply List.map_congr_left
    intro b hb
    refine updF_o _ _ _ ?_
    obtain ⟨q, hq, _, hm⟩ := h1.que
    obtain ⟨i, hi, e⟩ := (hm b).2 (off_mem.1 hb).1
    have : b < w.heap.size := by
      rcases hq.que with ⟨A, cap, hQ, hA⟩ | ⟨h0, _⟩
      · rw [← e]; exact (hQ.nd i hi).lt
      · omega
    omega
/-- Who is due first stands in front. -/
theorem TabL.first {w : World} {T : Nat} {B : Nat → Prop} {m c : Int} {L : List (Sl × Int)} (h : TabL w T B m c L) :
    (L = [] ∧ ∃ a cap, w.cell? ⟨T, 3, none⟩ = some (.slice a 0 cap)) ∨
    ∃ A n cap b s d, w.cell? ⟨T, 3, none⟩ = some (.slice (some ⟨A, 0, none⟩) (n + 1) cap) ∧ w.cell? ⟨A, 0, none⟩ = some (ptr b) ∧ Blk w b (kcs (s, d) 0) Tsl ∧ (s, d) ∈ L ∧ ∀ y ∈ L, d ≤ y.2 := by
  obtain ⟨M, F, bs, h1, rfl⟩ := h
  obtain ⟨q, hq, ho, hm⟩ := h1.que
  cases hn : bs.length with
  | zero =>
    obtain rfl : bs = [] := List.length_eq_zero_iff.1 hn
    rw [hn] at hq
    left
    refine ⟨rfl, ?_⟩
    rcases hq.que with ⟨A, cap, hQ, hA⟩ | ⟨_, hc⟩
    · exact ⟨_, _, hQ.var⟩
    · exact ⟨_, _, hc⟩
  | succ n =>
    rw [hn] at hq ho hm
    right
    rcases hq.que with ⟨A, cap, hQ, hA⟩ | ⟨h0, _⟩
    · refine ⟨A, n, cap, q 0, (F (q 0)).1, (F (q 0)).2, hQ.var, (hQ.at (by omega)).1, hQ.nd 0 (by omega), ?_, ?_⟩
      · exact List.mem_map.2 ⟨q 0, (hm _).1 ⟨0, by omega, rfl⟩, rfl⟩
      · intro y hy
        obtain ⟨b, hb, rfl⟩ := List.mem_map.1 hy
        obtain ⟨i, hi, e⟩ := (hm b).2 hb
        have := ho.top (dueR_tr F) (dueR_rf F) i hi
        rw [e] at this; exact this
    · omega
theorem offL_mem {k : ByteArray} {L : List (Sl × Int)} {x : Sl × Int} : x ∈ offL k L ↔ x ∈ L ∧ x.1.key ≠ k := by unfold offL; simp [List.mem_filter]
theorem offL_no {k : ByteArray} {L : List (Sl × Int)} (h : ∀ x ∈ L, x.1.key ≠ k) : offL k L = L := List.filter_eq_self.2 (fun x hx => by simpa using h x hx)
/-- One, and all others. -/
theorem offL_perm {x : Sl × Int} : ∀ {L : List (Sl × Int)}, ApL L → x ∈ L → L.Perm (x :: offL x.1.key L)
  | [], _, h => nomatch h
  | y :: ys, ha, h => by
    obtain ⟨h1, h2⟩ := List.pairwise_cons.1 ha
    rcases List.mem_cons.1 h with e | hx
    · subst e
      have : offL x.1.key (x :: ys) = ys := by
        unfold offL
        rw [List.filter_cons_of_neg (by simp)]
        exact offL_no (fun z hz => (h1 z hz).symm)
      rw [this]
    · have hne : y.1.key ≠ x.1.key := h1 x hx
      have : offL x.1.key (y :: ys) = y :: offL x.1.key ys := by
        unfold offL
        rw [List.filter_cons_of_pos (by simpa using hne)]
      rw [this]
      exact ((offL_perm h2 hx).cons y).trans (List.Perm.swap _ _ _)
theorem ApL.perm {L L' : List (Sl × Int)} (h : ApL L) (p : L.Perm L') : ApL L' := (p.pairwise_iff (fun {_ _} hne => Ne.symm hne)).1 h
end Go.Proofs.YtkfncanfgpmgaaaGreat.Wd
