/- A range over a function whose iterator keeps variables of its own, and may itself range over a function: what each side owes the other, and the law of the statement; no conditions but those that each names. -/
import Derived.Test.YtinlppadebdjgaaStaA
import Derived.RangeFuncNested
import Derived.RangeFuncBound
import Derived.RangeFuncCalls
import Derived.RangeFuncLeaves
namespace Go.Proofs.Ytinlppadebdjgaa.Wd
open Go Go.RowKit
set_option linter.unusedVariables false

/-- What lay below n, what lay from B on, and block p, lies as it lay. -/
structure Mid (n p B : Nat) (A C : World) : Prop where
  os : C.os = A.os
  tape : C.tape = A.tape
  output : C.output = A.output
  size : A.heap.size ≤ C.heap.size
  low : ∀ k, k < n → C.heap[k]? = A.heap[k]?
  one : C.heap[p]? = A.heap[p]?
  high : ∀ k, B ≤ k → k < A.heap.size → C.heap[k]? = A.heap[k]?
theorem Mid.refl (n p B : Nat) (A : World) : Mid n p B A A := ⟨rfl, rfl, rfl, Nat.le_refl _, fun _ _ => rfl, rfl, fun _ _ _ => rfl⟩
theorem Mid.trans {n p B : Nat} {a b c : World} (h : Mid n p B a b) (k : Mid n p B b c) : Mid n p B a c :=
  ⟨k.os.trans h.os, k.tape.trans h.tape, k.output.trans h.output, Nat.le_trans h.size k.size, fun i hi => (k.low i hi).trans (h.low i hi), k.one.trans h.one, fun i hi hj => (k.high i hi (Nat.lt_of_lt_of_le hj h.size)).trans (h.high i hi hj)⟩
theorem Mid.drew {n p B : Nat} {a b : World} (h : Mid n p B a b) : Mid n p B a b.drew := ⟨h.os, h.tape, h.output, h.size, h.low, h.one, h.high⟩
theorem Mid.drewN {n p B : Nat} {a b : World} (h : Mid n p B a b) (m : Nat) : Mid n p B a (b.drewN m) := ⟨h.os, h.tape, h.output, h.size, h.low, h.one, h.high⟩
theorem Mid.alloc {n p B : Nat} {a b : World} (h : Mid n p B a b) (hn : n ≤ b.heap.size) (hp : p < b.heap.size) (o : Obj) : Mid n p B a (b.alloc o) :=
  h.trans ⟨rfl, rfl, rfl, by simp, fun k hk => Below.heap_alloc _ _ _ (by omega), Below.heap_alloc _ _ _ hp, fun k _ hk => Below.heap_alloc _ _ _ hk⟩
theorem Mid.setCell {n p B : Nat} {a b : World} (h : Mid n p B a b) {q : Addr} (hn : n ≤ q.block) (hp : q.block ≠ p) (hq : q.block < B) (u : Value) : Mid n p B a (b.setCell q u) :=
  h.trans ⟨rfl, rfl, rfl, by simp [World.setCell], fun k hk => Below.heap_setCell _ _ _ _ (by omega), Below.heap_setCell _ _ _ _ (by omega), fun k hk _ => Below.heap_setCell _ _ _ _ (by omega)⟩
/-- A store into a block that was made since. -/
theorem Mid.setNew {n p B : Nat} {a b : World} (h : Mid n p B a b) {q : Addr} (hn : n ≤ q.block) (hp : q.block ≠ p) (hq : a.heap.size ≤ q.block) (u : Value) : Mid n p B a (b.setCell q u) :=
  ⟨h.os, h.tape, h.output, by have := h.size; simpa [World.setCell] using this, fun k hk => (Below.heap_setCell _ _ _ _ (by omega)).trans (h.low k hk), (Below.heap_setCell _ _ _ _ (by omega)).trans h.one, fun k hk hl => (Below.heap_setCell _ _ _ _ (by omega)).trans (h.high k hk hl)⟩
theorem Mid.ofBelow {n p B : Nat} {a b : World} (h : Below a.heap.size a b) (hn : n ≤ a.heap.size) (hp : p < a.heap.size) : Mid n p B a b :=
  ⟨h.os, h.tape, h.output, h.size, fun k hk => h.block k (by omega), h.block p hp, fun k _ hk => h.block k hk⟩
theorem Mid.mono {n n' p B B' : Nat} {a b : World} (h : Mid n p B a b) (hn : n' ≤ n) (hB : B ≤ B') : Mid n' p B' a b :=
  ⟨h.os, h.tape, h.output, h.size, fun k hk => h.low k (by omega), h.one, fun k hk hl => h.high k (by omega) hl⟩
/-- The block that is kept is another one. -/
theorem Mid.turn {n p p' B B' : Nat} {a b : World} (h : Mid n p B a b) (hB : B ≤ B') (hp : B ≤ p') (hq : p' < a.heap.size) : Mid n p' B' a b :=
  ⟨h.os, h.tape, h.output, h.size, h.low, h.high p' hp hq, fun k hk hl => h.high k (by omega) hl⟩
theorem Mid.below {n p B : Nat} {a b : World} (h : Mid n p B a b) : Below n a b := ⟨h.os, h.tape, h.output, h.size, h.low⟩
theorem block_of_cell {w : World} {p : Addr} {v : Value} (h : w.cell? p = some v) : p.block < w.heap.size := by
  rcases Nat.lt_or_ge p.block w.heap.size with g | g
  · exact g
  · exfalso
    have e : w.heap[p.block]? = none := Array.getElem?_eq_none g
    simp [World.cell?, e] at h
theorem Mid.boxHigh {n p B : Nat} {a b : World} (h : Mid n p B a b) {q : Nat} {t : TypeId} {v : Value} (hq : B ≤ q) (c : Boxed a q t v) : Boxed b q t v := by
  have hc := c.cell
  exact (h.high q hq (block_of_cell hc)).trans c
theorem Mid.boxOne {n p B : Nat} {a b : World} (h : Mid n p B a b) {t : TypeId} {v : Value} (c : Boxed a p t v) : Boxed b p t v := h.one.trans c

/-- What is said of blocks below B alone. -/
def Abl (B : Nat) (J : Nat → World → Prop) : Prop := ∀ s A C, J s A → Below B A C → J s C
theorem Abl.mono {B B' : Nat} {J : Nat → World → Prop} (h : Abl B J) (hB : B ≤ B') : Abl B' J := fun s A C hs hb => h s A C hs (hb.mono hB)
theorem Abl.and {B : Nat} {I J : Nat → World → Prop} (h : Abl B I) (h' : Abl B J) : Abl B (fun s W => I s W ∧ J s W) := fun s A C hs hb => ⟨h s A C hs.1 hb, h' s A C hs.2 hb⟩
theorem abl_box (B p : Nat) (t : TypeId) (f : Nat → Value) (hp : p < B) : Abl B (fun s W => Boxed W p t (f s)) := fun s A C hs hb => (hb.block p hp).trans hs
theorem abl_below {n B : Nat} (w : World) (hn : n ≤ B) : Abl B (fun _ W => Below n w W) := fun s A C hs hb => hs.trans (hb.mono hn)

/-- An iterator that goes through xs, whatever the body, as long as the body says 'more', and leaves what lay below n, and the iterator's own blocks, alone. -/
def Gives2 {α : Type} (F : Fence) (n : Nat) (P : Program) (g : Nat) (lb : Array Value) (encs : α → Array Value) (n₀ p₀ : Nat) (xs : List α) (w : World) : Prop :=
  ∀ (l : Nat) (J : Nat → World → Prop) (W : World), Below w.heap.size w W → Abl W.heap.size J →
    (∀ k x W1, xs[k]? = some x → J k W1 → YieldAt F (n - 1) P l (encs x) W1 fun e W' => e = .returned (.bool true) ∧ J (k + 1) W' ∧ Mid n₀ p₀ W.heap.size W1 W') →
    J 0 W →
    CallsIn F n P g (#[.func (.yield l) #[] #[]] ++ lb) W fun e W' => (∃ v, e = .returned v) ∧ J xs.length W'

def midPost (n₀ p₀ B : Nat) (I : Nat → World → Prop) (k : Nat) (W : World) : Exit → Act → World → Prop
  | .normal, _, W' => Mid n₀ p₀ B W W' ∧ I k W'
  | _, _, _ => False

theorem below_put {B l : Nat} {W : World} (o : Obj) (h : B ≤ l) : Below B W (W.putObj l o) :=
  ⟨rfl, rfl, rfl, by simp, fun k hk => World.putObj_heap_other (by omega)⟩
theorem mid_put {n p B l : Nat} {W : World} (o : Obj) (h : n ≤ l) (hp : p ≠ l) (h' : l < B) : Mid n p B W (W.putObj l o) :=
  ⟨rfl, rfl, rfl, by simp, fun k hk => World.putObj_heap_other (by omega), World.putObj_heap_other hp, fun k hk _ => World.putObj_heap_other (by omega)⟩

variable {F : Fence} {n : Nat} {P : Program}

theorem wpIn_range2 {α : Type} {g : Operand} {ps : Array Tmp} {assign body : Code} {Q : Exit → Act → World → Prop} {a : Act} {w : World}
    (hro : F.round = none) (h1 : 1 ≤ n) {gf : Nat} {lb : Array Value} (hg : a.eval g = .func (.func gf) #[] lb) (hFg : F.fn gf) (eg : ∀ args w, (callFunc gf args).run P w = .ok (.enter gf args) w)
    {encs : α → Array Value} {n₀ p₀ : Nat} {xs : List α} {w0 : World} (hseq : Gives2 F (n - 1) P gf lb encs n₀ p₀ xs w0) (hn : n₀ ≤ w.heap.size) (hp : p₀ < w.heap.size) (hb0 : Below w0.heap.size w0 w) (hps : ∀ x, (encs x).size = ps.size)
    (I : Nat → World → Prop) (hI : Abl w.heap.size I) (h0 : I 0 w) (Ax : α → Act → World → Prop) (hAx : ∀ x a', OwnFrom w.heap.size (fun (_ : Unit) W => Ax x a' W))
    (hassign : ∀ (l k : Nat) (x : α) (W : World) (K : Act → World → Prop), xs[k]? = some x → I k W → w.heap.size ≤ W.heap.size → (∀ a' W', Mid n₀ p₀ w.heap.size W W' → I k W' → Ax x a' W' → K a' W') →
      assign.wpIn (F.inRound l) (n - 1 - 1) P (Exit.then K (fun _ _ _ => False)) { tmps := (ps.zip (encs x)).foldl (fun t (p, v) => t.setIfInBounds p v) a.tmps, defers := [] } W)
    (hbody : ∀ (l k : Nat) (x : α) (a' : Act) (W : World), xs[k]? = some x → I k W → w.heap.size ≤ W.heap.size → Ax x a' W → body.wpIn (F.inRound l) (n - 1 - 1) P (midPost n₀ p₀ w.heap.size I (k + 1) W) a' W)
    (hdone : ∀ (D : Nat) (W : World), w.heap.size ≤ D → I xs.length W → W.heap[D]? = some (.deferred (some [])) → Q .normal { a with defers := { target := .collected D, args := #[] } :: a.defers } W) :
    (Code.rangeFunc g ps assign body).wpIn F n P Q a w := by
  refine wpIn_rangeFunc ?_
  intro fn hfn
  rw [hro]
  obtain ⟨rec, hrec⟩ : ∃ rec : LoopState → Option Code → Loop, rec = fun st pe => { state := st, pending := pe, fn, tmps := a.tmps, params := ps, assign, body, defers := w.heap.size } := ⟨_, rfl⟩
  obtain ⟨W1, hW1⟩ : ∃ W1, (w.alloc (.deferred (some []))).alloc (.loop (rec .ready none)) = W1 := ⟨_, rfl⟩
  have hL1 : W1.heap[w.heap.size + 1]? = some (.loop (rec .ready none)) := by
    rw [← hW1]; have := World.alloc_heap_new (w.alloc (.deferred (some []))) (.loop (rec .ready none)); rwa [World.size_alloc] at this
  have hK1 : W1.heap[w.heap.size]? = some (.deferred (some [])) := by
    rw [← hW1]; exact (Below.heap_alloc _ _ _ (by simp)).trans (World.alloc_heap_new w _)
  have hs1 : W1.heap.size = w.heap.size + 2 := by rw [← hW1]; simp
  have hw1 : Below w.heap.size w W1 := by rw [← hW1]; exact ((Below.refl _ w).alloc (Nat.le_refl _) _).alloc (by simp) _
  have hI1 : I 0 W1 := hI _ _ _ h0 hw1
  have hb1 : Below w0.heap.size w0 W1 := hb0.trans (hw1.mono hb0.size)
  refine ⟨w.heap.size + 1, [{ target := .collected w.heap.size, args := #[] }], W1, { target := .fn (.func gf) lb, args := #[.func (.yield (w.heap.size + 1)) #[] #[]] }, W1, gf,
    #[.func (.yield (w.heap.size + 1)) #[] #[]] ++ lb, W1, ?_, ?_, ?_, ?_, fun _ => h1, ?_⟩
  · rw [← hW1, hrec]; exact run_enterLoop_outer _ _ _ _ _
  · simp only [resolve, hg]
    simp [go_sem]
  · intro f' hf'; simp [Target.leads] at hf'; subst hf'; exact hFg
  · simp [invoke, go_sem, eg]
  · refine (hseq (w.heap.size + 1)
      (fun k W => I k W ∧ W.heap[w.heap.size + 1]? = some (.loop (rec .ready none)) ∧ W.heap[w.heap.size]? = some (.deferred (some [])))
      W1 hb1
      (fun s A C hs hb => ⟨hI s A C hs.1 (hb.mono (by omega)), (hb.block _ (by omega)).trans hs.2.1, (hb.block _ (by omega)).trans hs.2.2⟩)
      ?_ ⟨hI1, hL1, hK1⟩).mono ?_
    · -- ONE ROUND
      rintro k x W hx ⟨hi, hl, hk⟩
      have hlt : w.heap.size + 1 < W.heap.size := (Array.getElem?_eq_some_iff.1 hl).1
      have hy := run_yield (P := P) (args := encs x) hl (by rw [hrec]; exact hps x)
      rw [hrec] at hy
      refine ⟨fn, _, assign, body, hy, roundIn_of_wpIn hfn (hassign _ k x W _ hx hi (by omega) ?_)⟩
      clear hy
      intro a' Wa hma hia hax
      have hla := (hma.high _ (by omega) (by omega)).trans hl
      have hka := (hma.high _ (Nat.le_refl _) (by omega)).trans hk
      have hlta : w.heap.size + 1 < Wa.heap.size := (Array.getElem?_eq_some_iff.1 hla).1
      refine ⟨_, run_beginRound hla (by rw [hrec]), ?_⟩
      have hl2 : (Wa.putObj (w.heap.size + 1) (.loop { rec .ready none with state := .busy })).heap[w.heap.size + 1]? = some (.loop { rec .ready none with state := .busy }) := World.putObj_heap_same hlta
      have hk2 : (Wa.putObj (w.heap.size + 1) (.loop { rec .ready none with state := .busy })).heap[w.heap.size]? = some (.deferred (some [])) := (World.putObj_heap_other (by omega)).trans hka
      refine wpIn_mono (hbody _ k x a' _ hx (hI _ _ _ hia (below_put _ (by omega))) (by simp; omega) ((hAx x a').putObj (s := ()) _ hax (by omega) hla rfl)) ?_
      rintro e a3 W3 hq
      cases e with
      | normal =>
        obtain ⟨hm3, hi3⟩ := hq
        have hl3 := (hm3.high _ (by omega) (by simp; omega)).trans hl2
        have hk3 := (hm3.high _ (Nat.le_refl _) (by simp; omega)).trans hk2
        have hr := run_endRound (P := P) none hl3
        refine ⟨_, _, hr, rfl, ⟨hI _ _ _ hi3 (below_put _ (by omega)), ?_, (World.putObj_heap_other (by omega)).trans hk3⟩, ?_⟩
        · have h4 := (Array.getElem?_eq_some_iff.1 hl3).1
          have := World.putObj_heap_same (o := .loop (rec .ready none)) h4
          rw [hrec] at this ⊢
          exact this
        · exact (((hma.mono (Nat.le_refl _) (by omega)).trans (mid_put _ (by omega) (by omega) (by omega))).trans (hm3.mono (Nat.le_refl _) (by omega))).trans (mid_put _ (by omega) (by omega) (by omega))
      | ret => exact hq.elim
      | exit id => exact hq.elim
      | goto t => exact hq.elim
      | panic ch => exact hq.elim
      | outgrown => exact hq.elim
    · -- BEHIND THE ITERATOR
      rintro e W2 ⟨⟨v, rfl⟩, hi, hl, hk⟩
      exact ⟨none, _, by have := run_endLoop (P := P) hl (by rw [hrec]; simp); rw [hrec] at this; exact this, hdone _ _ (Nat.le_refl _) (hI _ _ _ hi (below_put _ (by omega))) ((World.putObj_heap_other (by omega)).trans hk)⟩
end Go.Proofs.Ytinlppadebdjgaa.Wd
