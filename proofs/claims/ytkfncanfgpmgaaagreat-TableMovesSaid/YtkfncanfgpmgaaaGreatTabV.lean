/- A queue of slots in memory, nil too: who joins it, and who leaves, and which blocks are written; no conditions but those that each names. -/
import Derived.Test.YtkfncanfgpmgaaaGreatTabW
import Derived.Deep.AppendLies
namespace Go.Proofs.YtkfncanfgpmgaaaGreat.Wd
open Go Go.RowKit Go.Shelf Go.Deep
set_option linter.unusedVariables false
set_option maxRecDepth 100000

/-- Some blocks, and all that come. -/
def Nx (B : Nat → Prop) (w : World) : Nat → Prop := fun k => B k ∨ w.heap.size ≤ k
theorem Tch.next {B : Nat → Prop} {a b c : World} (h : Tch B a b) (g : Tch (Nx B a) b c) : Tch B a c :=
  ⟨g.os.trans h.os, g.tape.trans h.tape, g.output.trans h.output, Nat.le_trans h.size g.size, fun k hk hn =>
    (g.block k (Nat.lt_of_lt_of_le hk h.size) (fun e => e.elim hn (fun x => by omega))).trans (h.block k hk hn)⟩
theorem Nx.next {B : Nat → Prop} {a b : World} (h : a.heap.size ≤ b.heap.size) {k : Nat} (hk : Nx (Nx B a) b k) : Nx B a k := hk.elim id (fun x => .inr (Nat.le_trans h x))

/-- A queue, its row not made yet, or in one of some blocks. -/
structure Qub (w : World) (T n : Nat) (q : Nat → Nat) (F : Nat → Sl × Int) (B : Nat → Prop) : Prop where
  que : (∃ A cap, Que w T A n cap q F ∧ B A) ∨ (n = 0 ∧ w.cell? ⟨T, 3, none⟩ = some (.slice none 0 0))
  mem : ∀ i, i < n → B (q i)
  top : B T
theorem Qub.mono {w : World} {T n : Nat} {q : Nat → Nat} {F : Nat → Sl × Int} {B C : Nat → Prop} (h : Qub w T n q F B) (hs : ∀ k, B k → C k) : Qub w T n q F C :=
  ⟨h.que.imp (fun ⟨A, cap, x, y⟩ => ⟨A, cap, x, hs A y⟩) id, fun i hi => hs _ (h.mem i hi), hs _ h.top⟩
/-- Who joins stands behind all. -/
def qpu (q : Nat → Nat) (n x : Nat) : Nat → Nat := fun k => if k = n then x else q k
theorem qpu_n (q : Nat → Nat) (n x : Nat) : qpu q n x n = x := if_pos rfl
theorem qpu_o (q : Nat → Nat) (n x : Nat) {k : Nat} (h : k ≠ n) : qpu q n x k = q k := if_neg h
def qrow (q : Nat → Nat) (n : Nat) : List Value := (List.range n).map (fun i => ptr (q i))
theorem qrow_len (q : Nat → Nat) (n : Nat) : (qrow q n).length = n := by simp [qrow]
theorem qrow_at (q : Nat → Nat) (n i : Nat) (h : i < n) : (qrow q n)[i]? = some (ptr (q i)) := by simp [qrow, h]
theorem Que.owns {w : World} {T A n cap : Nat} {q : Nat → Nat} {F : Nat → Sl × Int} (h : Que w T A n cap q F) : w.ownsRow 0 Tps 1 (.slice (some ⟨A, 0, none⟩) n cap) n (qrow q n) := by
  obtain ⟨cur, hb, h1, h2, h3, h4⟩ := h.row
  refine ⟨by rw [qrow_len, Nat.mul_one], .inr ⟨A, cap, cur, rfl, Nat.zero_le _, hb, h2, h3, by rw [h1, Nat.mul_one], ?_⟩⟩
  apply List.ext_getElem?
  intro i
  rw [Nat.mul_one, List.getElem?_take]
  by_cases hi : i < n
  · rw [if_pos hi, qrow_at q n i hi, ← h4 i hi]; simp
  · rw [if_neg hi, List.getElem?_eq_none (by rw [qrow_len]; omega)]
theorem zeroPs : (Tryz.prog.info? Tps).map (fun i => (i.zero, i.size, i.bytes)) = some (some (.pointer none), 1, 8) := by kernel_rfl

/-- What is asked of one who joins. -/
structure Fresh (w : World) (T n : Nat) (q : Nat → Nat) (F : Nat → Sl × Int) (x : Nat) (p : Int) : Prop where
  blk : Blk w x (kcs (F x) p) Tsl
  new : ¬ In n q x
  ne : x ≠ T
theorem fz_cs {w : World} {a b o p : Nat} {v : Value} : (w.setCell ⟨a, o, none⟩ v).frozen? ⟨b, p, none⟩ = w.frozen? ⟨b, p, none⟩ := by simp only [World.frozen?_setCell]
theorem ownb (a : Nat) (n c : Nat) : Value.ownBlock (.slice (some ⟨a, 0, none⟩) n c) = some a := rfl

/-- The row has grown by one, and the variable holds it. -/
theorem que_push {w w1 w2 : World} {T n cap g x : Nat} {q : Nat → Nat} {F : Nat → Sl × Int} {v : Value} {o : Option Nat} (p : Int) (hw : w1 = (w.setCell ⟨x, 9, none⟩ (.int .i64 n)).alloc (.cells #[ptr x] Tps)) (hx : Fresh w T n q F x p)
    (hv : w.cell? ⟨T, 3, none⟩ = some v) (hnd : ∀ i, i < n → Blk w (q i) (kcs (F (q i)) i) Tsl) (hin : ∀ i j, i < n → j < n → q i = q j → i = j) (htw : ∀ i, i < n → q i ≠ T) (hn : n + 1 ≤ 1099511627776)
    (own : w2.ownsRow 0 Tps 1 (.slice (some ⟨g, 0, none⟩) (n + 1) cap) (n + 1) (qrow q n ++ [ptr x])) (grow : w1.grownBy w2 o) (ho : ∀ a, o = some a → ∃ cs, Blk w a cs Tps) (hg : o = some g ∨ g = w1.heap.size) (hT : ∀ cs, ¬ Blk w T cs Tps) :
    Que (w2.setCell ⟨T, 3, none⟩ (.slice (some ⟨g, 0, none⟩) (n + 1) cap)) T g (n + 1) cap (qpu q n x) F := by
  subst hw
  have nt : ¬ (Tps = Tsl) := by decide
  have keep : ∀ b cs, Blk w b cs Tsl → b ≠ x → Blk w2 b cs Tsl := by
    intro b cs hb hbx
    have h1 : Blk (w.setCell ⟨x, 9, none⟩ (.int .i64 n)) b cs Tsl := hb.other 9 _ hbx
    have h2 := h1.alloc (.cells #[ptr x] Tps)
    refine (grow.block b h2.lt (fun e => ?_)).trans h2
    obtain ⟨cs', hc⟩ := ho b e.symm
    have hc' : w.heap[b]? = some (.cells cs' Tps) := hc
    have hb' : w.heap[b]? = some (.cells cs Tsl) := hb
    rw [hc'] at hb'
    injection hb' with hb'
    injection hb' with _ e2
    exact nt e2
  have gT : g ≠ T := by
    intro e
    have hlt := cell_lt hv
    rcases hg with h | h
    · obtain ⟨cs, hc⟩ := ho g h
      rw [e] at hc
      exact hT cs hc
    · rw [e] at h; simp at h; omega
  have tx : T < w2.heap.size := by
    have := grow.size; simp at this; have := cell_lt hv; omega
  have hcT : ∃ u, w2.cell? ⟨T, 3, none⟩ = some u := by
    refine ⟨v, ?_⟩
    have h1 : (w.setCell ⟨x, 9, none⟩ (.int .i64 n)).cell? ⟨T, 3, none⟩ = some v := by rw [cs_other _ _ _ _ _ _ (.inl (Ne.symm hx.ne))]; exact hv
    have h2 := acell (o := .cells #[ptr x] Tps) h1
    refine (World.cell?_of_block (grow.block T (cell_lt h2) (fun e => ?_))).trans h2
    obtain ⟨cs', hc⟩ := ho T e.symm
    exact hT cs' hc
  have hbx : Blk w2 x (kcs (F x) n) Tsl := by
    have h1 := hx.blk.set 9 (.int .i64 n)
    rw [kcs_set] at h1
    have h2 := h1.alloc (.cells #[ptr x] Tps)
    refine (grow.block x h2.lt (fun e => ?_)).trans h2
    obtain ⟨cs', hc⟩ := ho x e.symm
    have hc' : w.heap[x]? = some (.cells cs' Tps) := hc
    have hb' : w.heap[x]? = some (.cells (kcs (F x) p) Tsl) := hx.blk
    rw [hc'] at hb'
    injection hb' with hb'
    injection hb' with _ e2
    exact nt e2
  obtain ⟨hl, hn2 | ⟨g', c', cur, e, _, hgb, h1, h2, h3, h4⟩⟩ := own
  · cases hn2.1
  · simp only [Value.slice.injEq, Option.some.injEq, Addr.mk.injEq, and_true, true_and] at e
    obtain ⟨e1, e2⟩ := e
    subst e1; subst e2
    have nd' : ∀ i, i < n + 1 → Blk w2 (qpu q n x i) (kcs (F (qpu q n x i)) i) Tsl := by
      intro i hi
      by_cases z : i = n
      · rw [z, qpu_n]; exact hbx
      · rw [qpu_o _ _ _ z]
        exact keep _ _ (hnd i (by omega)) (fun e => hx.new ⟨i, by omega, e⟩)
    have tw' : ∀ i, i < n + 1 → qpu q n x i ≠ g ∧ qpu q n x i ≠ T := by
      intro i hi
      constructor
      · intro e
        have h5 := nd' i hi
        rw [e] at h5
        have h5' : w2.heap[g]? = some (.cells _ Tsl) := h5
        rw [hgb] at h5'
        injection h5' with h5'
        injection h5' with _ e2
        exact nt e2
      · by_cases z : i = n
        · rw [z, qpu_n]; exact hx.ne
        · rw [qpu_o _ _ _ z]; exact htw i (by omega)
    refine ⟨?_, ⟨cur, Blk.other hgb 3 _ gT, by rw [h3, Nat.mul_one], h1, h2, fun i hi => ?_⟩, hn, fun i hi => (nd' i hi).other 3 _ (tw' i hi).2, ?_, gT, tw'⟩
    · obtain ⟨u, hu⟩ := hcT
      exact World.cell?_setCell_same _ _ _ hu
    · have h6 : (cur.toList.take ((n + 1) * 1))[i]? = (qrow q n ++ [ptr x])[i]? := by rw [h4]
      rw [Nat.mul_one, List.getElem?_take, if_pos hi] at h6
      rw [← Array.getElem?_toList, h6]
      by_cases z : i = n
      · rw [z, qpu_n, List.getElem?_append_right (by rw [qrow_len]; omega), qrow_len]; simp
      · rw [qpu_o _ _ _ z, List.getElem?_append_left (by rw [qrow_len]; omega), qrow_at _ _ _ (by omega)]
    · intro i j hi hj e
      by_cases z : i = n
      · by_cases y : j = n
        · omega
        · rw [z, qpu_n, qpu_o _ _ _ y] at e
          exact absurd ⟨j, by omega, e.symm⟩ hx.new
      · by_cases y : j = n
        · rw [y, qpu_n, qpu_o _ _ _ z] at e
          exact absurd ⟨i, by omega, e⟩ hx.new
        · rw [qpu_o _ _ _ z, qpu_o _ _ _ y] at e
          exact hin i j (by omega) (by omega) e
end Go.Proofs.YtkfncanfgpmgaaaGreat.Wd
