/- A range over a function whose iterator keeps variables of its own, and may itself range over a function: what each side owes the other, and the law of the statement; no conditions but those that each names. -/
import Derived.Test.YtinlppadebdjgaaStaA
import Derived.RangeFuncNested
import Derived.RangeFuncBound
import Derived.RangeFuncCalls
import Derived.RangeFuncLeaves
namespace Go.Proofs.Ytinlppadebdjgaa.Wd
open Go Go.RowKit
set_option linter.unusedVariables false

/-- What lay below n, what lay from B on, and block p, lies as it lay. -/
structure Mid (n p B : Nat) (A C : World) : Prop where
  os : C.os = A.os
  tape : C.tape = A.tape
  output : C.output = A.output
  size : A.heap.size ≤ C.heap.size
  low : ∀ k, k < n → C.heap[k]? = A.heap[k]?
  one : C.heap[p]? = A.heap[p]?
  high : ∀ k, B ≤ k → k < A.heap.size → C.heap[k]? = A.heap[k]?
theorem Mid.refl (n p B : Nat) (A : World) : Mid n p B A A := ⟨rfl, rfl, rfl, Nat.le_refl _, fun _ _ => rfl, rfl, fun _ _ _ => rfl⟩
theorem Mid.trans {n p B : Nat} {a b c : World} (h : Mid n p B a b) (k : Mid n p B b c) : Mid n p B a c :=
  ⟨k.os.trans h.os, k.tape.trans h.tape, k.output.trans h.output, Nat.le_trans h.size k.size, fun i hi => (k.low i hi).trans (h.low i hi), k.one.trans h.one, fun i hi hj => (k.high i hi (Nat.lt_of_lt_of_le hj h.size)).trans (h.high i hi hj)⟩
theorem Mid.drew {n p B : Nat} {a b : World} (h : Mid n p B a b) : Mid n p B a b.drew := ⟨h.os, h.tape, h.output, h.size, h.low, h.one, h.high⟩
theorem Mid.drewN {n p B : Nat} {a b : World} (h : Mid n p B a b) (m : Nat) : Mid n p B a (b.drewN m) := ⟨h.os, h.tape, h.output, h.size, h.low, h.one, h.high⟩
theorem Mid.alloc {n p B : Nat} {a b : World} (h : Mid n p B a b) (hn : n ≤ b.heap.size) (hp : p < b.heap.size) (o : Obj) : Mid n p B a (b.alloc o) :=
  h.trans ⟨rfl, rfl, rfl, by simp, fun k hk => Below.heap_alloc _ _ _ (by omega), Below.heap_alloc _ _ _ hp, fun k _ hk => Below.heap_alloc _ _ _ hk⟩
theorem Mid.setCell {n p B : Nat} {a b : World} (h : Mid n p B a b) {q : Addr} (hn : n ≤ q.block) (hp : q.block ≠ p) (hq : q.block < B) (u : Value) : Mid n p B a (b.setCell q u) :=
  h.trans ⟨rfl, rfl, rfl, by simp [World.setCell], fun k hk => Below.heap_setCell _ _ _ _ (by omega), Below.heap_setCell _ _ _ _ (by omega), fun k hk _ => Below.heap_setCell _ _ _ _ (by omega)⟩
/-- A store into a block that was made since. -/
theorem Mid.setNew {n p B : Nat} {a b : World} (h : Mid n p B a b) {q : Addr} (hn : n ≤ q.block) (hp : q.block ≠ p) (hq : a.heap.size ≤ q.block) (u : Value) : Mid n p B a (b.setCell q u) :=
  ⟨h.os, h.tape, h.output, by have := h.size; simpa [World.setCell] using this, fun k hk => (Below.heap_setCell _ _ _ _ (by omega)).trans (h.low k hk), (Below.heap_setCell _ _ _ _ (by omega)).trans h.one, fun k hk hl => (Below.heap_setCell _ _ _ _ (by omega)).trans (h.high k hk hl)⟩
theorem Mid.ofBelow {n p B : Nat} {a b : World} (h : Below a.heap.size a b) (hn : n ≤ a.heap.size) (hp : p < a.heap.size) : Mid n p B a b :=
  ⟨h.os, h.tape, h.output, h.size, fun k hk => h.block k (by omega), h.block p hp, fun k _ hk => h.block k hk⟩
theorem Mid.mono {n n' p B B' : Nat} {a b : World} (h : Mid n p B a b) (hn : n' ≤ n) (hB : B ≤ B') : Mid n' p B' a b :=
  ⟨h.os, h.tape, h.output, h.size, fun k hk => h.low k (by omega), h.one, fun k hk hl => h.high k (by omega) hl⟩
/-- The block that is kept is another one. -/
theorem Mid.turn {n p p' B B' : Nat} {a b : World} (h : Mid n p B a b) (hB : B ≤ B') (hp : B ≤ p') (hq : p' < a.heap.size) : Mid n p' B' a b :=
  ⟨h.os, h.tape, h.output, h.size, h.low, h.high p' hp hq, fun k hk hl => h.high k (by omega) hl⟩
theorem Mid.below {n p B : Nat} {a b : World} (h : Mid n p B a b) : Below n a b := ⟨h.os, h.tape, h.output, h.size, h.low⟩
theorem block_of_cell {w : World} {p : Addr} {v : Value} (h : w.cell? p = some v) : p.block < w.heap.size := by
  rcases Nat.lt_or_ge p.block w.heap.size with g | g
  · exact g
  · exfalso
    have e : w.heap[p.block]? = none := Array.getElem?_eq_none g
    simp [World.cell?, e] at h
theorem Mid.boxHigh {n p B : Nat} {a b : World} (h : Mid n p B a b) {q : Nat} {t : TypeId} {v : Value} (hq : B ≤ q) (c : Boxed a q t v) : Boxed b q t v := by
  have hc := c.cell
  exact (h.high q hq (block_of_cell hc)).trans c
theorem Mid.boxOne {n p B : Nat} {a b : World} (h : Mid n p B a b) {t : TypeId} {v : Value} (c : Boxed a p t v) : Boxed b p t v := h.one.trans c

/-- What is said of blocks below B alone. -/
def Abl (B : Nat) (J : Nat → World → Prop) : Prop := ∀ s A C, J s A → Below B A C → J s C
theorem Abl.mono {B B' : Nat} {J : Nat → World → Prop} (h : Abl B J) (hB : B ≤ B') : Abl B' J := fun s A C hs hb => h s A C hs (hb.mono hB)
theorem Abl.and {B : Nat} {I J : Nat → World → Prop} (h : Abl B I) (h' : Abl B J) : Abl B (fun s W => I s W ∧ J s W) := fun s A C hs hb => ⟨h s A C hs.1 hb, h' s A C hs.2 hb⟩
theorem abl_box (B p : Nat) (t : TypeId) (f : Nat → Value) (hp : p < B) : Abl B (fun s W => Boxed W p t (f s)) := fun s A C hs hb => (hb.block p hp).trans hs
theorem abl_below {n B : Nat} (w : World) (hn : n ≤ B) : Abl B (fun _ W => Below n w W) := fun s A C hs hb => hs.trans (hb.mono hn)

/-- An iterator that goes through xs, whatever the body, as long as the body says 'more', and leaves what lay below n, and the iterator's own blocks, alone. -/
def Gives2 {α : Type} (F : Fence) (n : Nat) (P : Program) (g : Nat) (lb : Array Value) (encs : α → Array Value) (n₀ p₀ : Nat) (xs : List α) (w : World) : Prop :=
  ∀ (l : Nat) (J : Nat → World → Prop) (W : World), Below w.heap.size w W → Abl W.heap.size J →
    (∀ k x W1, xs[k]? = some x → J k W1 → YieldAt F (n - 1) P l (encs x) W1 fun e W' => e = .returned (.bool true) ∧ J (k + 1) W' ∧ Mid n₀ p₀ W.heap.size W1 W') →
    J 0 W →
    CallsIn F n P g (#[.func (.yield l) #[] #[]] ++ lb) W fun e W' => (∃ v, e = .returned v) ∧ J xs.length W'

def midPost (n₀ p₀ B : Nat) (I : Nat → World → Prop) (k : Nat) (W : World) : Exit → Act → World → Prop
  | .normal, _, W' => Mid n₀ p₀ B W W' ∧ I k W'
  | _, _, _ => False

theorem below_put {B l : Nat} {W : World} (o : Obj) (h : B ≤ l) : Below B W (W.putObj l o) :=
  ⟨rfl, rfl, rfl, by simp, fun k hk => World.putObj_heap_other (by omega)⟩
theorem mid_put {n p B l : Nat} {W : World} (o : Obj) (h : n ≤ l) (hp : p ≠ l) (h' : l < B) : Mid n p B W (W.putObj l o) :=
  ⟨rfl, rfl, rfl, by simp, fun k hk => World.putObj_heap_other (by omega), World.putObj_heap_other hp, fun k hk _ => World.putObj_heap_other (by omega)⟩

/-! ### The statement, entered, gone round, and left -/
/-- A loop's record, before and between its rounds, or in one. -/
def rcd (fn : FuncId) (ts : Array Value) (ps : Array Tmp) (u c : Code) (D : Nat) (st : LoopState) : Loop := { state := st, pending := none, fn := fn, tmps := ts, params := ps, assign := u, body := c, defers := D }
/-- What a loop that was entered at the size z has laid: a block for calls that are put off, and its record. -/
def Lies (z : Nat) (r : Loop) (W : World) : Prop := W.heap[z + 1]? = some (.loop r) ∧ W.heap[z]? = some (.deferred (some []))
theorem Lies.lt {z : Nat} {r : Loop} {W : World} (h : Lies z r W) : z + 1 < W.heap.size := (Array.getElem?_eq_some_iff.1 h.1).1
theorem Lies.mid {z n p : Nat} {r : Loop} {A C : World} (h : Lies z r A) (m : Mid n p z A C) : Lies z r C :=
  ⟨(m.high _ (by omega) h.lt).trans h.1, (m.high _ (Nat.le_refl _) (by have := h.lt; omega)).trans h.2⟩
theorem Lies.low {z B : Nat} {r : Loop} {A C : World} (h : Lies z r A) (b : Below B A C) (hB : z + 2 ≤ B) : Lies z r C :=
  ⟨(b.block _ (by omega)).trans h.1, (b.block _ (by omega)).trans h.2⟩
theorem Lies.turned {z : Nat} {r : Loop} {W : World} (h : Lies z r W) (r' : Loop) : Lies z r' (W.putObj (z + 1) (.loop r')) :=
  ⟨World.putObj_heap_same h.lt, (World.putObj_heap_other (by omega)).trans h.2⟩
/-- The world behind the entrance. -/
def entered (w : World) (r : Loop) : World := (w.alloc (.deferred (some []))).alloc (.loop r)
theorem entered_size (w : World) (r : Loop) : (entered w r).heap.size = w.heap.size + 2 := by unfold entered; simp
theorem entered_below (w : World) (r : Loop) : Below w.heap.size w (entered w r) := by
  unfold entered
  exact ((Below.refl _ w).alloc (Nat.le_refl _) _).alloc (by simp) _
theorem entered_lies (w : World) (r : Loop) : Lies w.heap.size r (entered w r) := by
  unfold entered
  have h0 := World.alloc_heap_new w (.deferred (some []))
  have h1 := World.alloc_heap_new (w.alloc (.deferred (some []))) (.loop r)
  rw [World.size_alloc] at h1
  exact ⟨h1, (Below.heap_alloc _ _ _ (by simp)).trans h0⟩

variable {F : Fence} {n : Nat} {P : Program}

/-- One round: the left sides are assigned, the body is walked, and both leave what the iterator leans on alone. -/
theorem one_round {fn : FuncId} {ts args : Array Value} {ps : Array Tmp} {u c : Code} {z n₀ p₀ k : Nat} {I : Nat → World → Prop} {Ay : Act → World → Prop} {W : World}
    (hfn : F.fn fn) (hI : Abl z I) (hn : n₀ ≤ z) (hp : p₀ < z) (hs : args.size = ps.size) (hAy : ∀ a', OwnFrom z (fun (_ : Unit) V => Ay a' V)) (hL : Lies z (rcd fn ts ps u c z .ready) W)
    (hu : ∀ K : Act → World → Prop, (∀ a' V, Mid n₀ p₀ z W V → I k V → Ay a' V → K a' V) →
      u.wpIn (F.inRound (z + 1)) n P (Exit.then K (fun _ _ _ => False)) { tmps := (ps.zip args).foldl (fun t (p, v) => t.setIfInBounds p v) ts, defers := [] } W)
    (hc : ∀ a' V, I k V → z ≤ V.heap.size → Ay a' V → c.wpIn (F.inRound (z + 1)) n P (midPost n₀ p₀ z I (k + 1) V) a' V) :
    YieldAt F n P (z + 1) args W fun e V => e = .returned (.bool true) ∧ (I (k + 1) V ∧ Lies z (rcd fn ts ps u c z .ready) V) ∧ Mid n₀ p₀ (z + 2) W V := by
  have hz : z + 1 ≠ p₀ := by omega
  refine ⟨fn, _, u, c, run_yield hL.1 hs, roundIn_of_wpIn hfn (hu _ fun a' V m i y => ?_)⟩
  have lV := hL.mid m
  have zV := lV.lt
  refine ⟨_, run_beginRound lV.1 rfl, wpIn_mono (hc a' _ (hI _ _ _ i (below_put _ (by omega))) (by simp; omega) ((hAy a').putObj (s := ()) _ y (by omega) lV.1 rfl)) ?_⟩
  intro e b V2 q
  cases e with
  | normal =>
    have lB := (lV.turned (rcd fn ts ps u c z .busy)).mid q.1
    refine ⟨_, _, run_endRound none lB.1, rfl, ⟨hI _ _ _ q.2 (below_put _ (by omega)), lB.turned _⟩, ?_⟩
    have s1 : Mid n₀ p₀ (z + 2) W V := m.mono (Nat.le_refl _) (by omega)
    have s2 : Mid n₀ p₀ (z + 2) V (V.putObj (z + 1) (.loop (rcd fn ts ps u c z .busy))) := mid_put _ (by omega) hz.symm (by omega)
    exact ((s1.trans s2).trans (q.1.mono (Nat.le_refl _) (by omega))).trans (mid_put _ (by omega) hz.symm (by omega))
  | _ => exact q.elim

/-- The whole statement. -/
theorem wpIn_range2 {α : Type} {g : Operand} {ps : Array Tmp} {u c : Code} {Q : Exit → Act → World → Prop} {a : Act} {w : World}
    (hro : F.round = none) (h1 : 1 ≤ n) {gf : Nat} {lb : Array Value} (hval : a.eval g = .func (.func gf) #[] lb) (hgf : F.fn gf) (hent : ∀ args w, (callFunc gf args).run P w = .ok (.enter gf args) w)
    {encs : α → Array Value} {n₀ p₀ : Nat} {xs : List α} {w0 : World} (hseq : Gives2 F (n - 1) P gf lb encs n₀ p₀ xs w0) (hn : n₀ ≤ w.heap.size) (hp : p₀ < w.heap.size) (hb0 : Below w0.heap.size w0 w) (hps : ∀ x, (encs x).size = ps.size)
    (I : Nat → World → Prop) (hI : Abl w.heap.size I) (h0 : I 0 w) (Ax : α → Act → World → Prop) (hAx : ∀ x a', OwnFrom w.heap.size (fun (_ : Unit) W => Ax x a' W))
    (hassign : ∀ (l k : Nat) (x : α) (W : World) (K : Act → World → Prop), xs[k]? = some x → I k W → w.heap.size ≤ W.heap.size → (∀ a' W', Mid n₀ p₀ w.heap.size W W' → I k W' → Ax x a' W' → K a' W') →
      u.wpIn (F.inRound l) (n - 1 - 1) P (Exit.then K (fun _ _ _ => False)) { tmps := (ps.zip (encs x)).foldl (fun t (p, v) => t.setIfInBounds p v) a.tmps, defers := [] } W)
    (hbody : ∀ (l k : Nat) (x : α) (a' : Act) (W : World), xs[k]? = some x → I k W → w.heap.size ≤ W.heap.size → Ax x a' W → c.wpIn (F.inRound l) (n - 1 - 1) P (midPost n₀ p₀ w.heap.size I (k + 1) W) a' W)
    (hdone : ∀ (D : Nat) (W : World), w.heap.size ≤ D → I xs.length W → W.heap[D]? = some (.deferred (some [])) → Q .normal { a with defers := { target := .collected D, args := #[] } :: a.defers } W) :
    (Code.rangeFunc g ps u c).wpIn F n P Q a w := by
  refine wpIn_rangeFunc fun fn hfn => ?_
  have hz := entered_size w (rcd fn a.tmps ps u c w.heap.size .ready)
  have hb := entered_below w (rcd fn a.tmps ps u c w.heap.size .ready)
  have hl := entered_lies w (rcd fn a.tmps ps u c w.heap.size .ready)
  have hr : (Instr.enterLoop fn a.tmps ps u c F.round).run P w = .ok (w.heap.size + 1, [{ target := .collected w.heap.size, args := #[] }]) (entered w (rcd fn a.tmps ps u c w.heap.size .ready)) := by
    rw [hro]; exact run_enterLoop_outer _ _ _ _ _
  generalize entered w (rcd fn a.tmps ps u c w.heap.size .ready) = W1 at hz hb hl hr
  have call := hseq (w.heap.size + 1) (fun k V => I k V ∧ Lies w.heap.size (rcd fn a.tmps ps u c w.heap.size .ready) V) W1 (hb0.trans (hb.mono hb0.size))
    (fun s A C hs b => ⟨hI _ _ _ hs.1 (b.mono (by omega)), hs.2.low b (by omega)⟩)
    (fun k x V hx hV => by
      rw [hz]
      exact one_round hfn hI hn hp (hps x) (hAx x) hV.2 (fun K hK => hassign _ k x V K hx hV.1 (by have := hV.2.lt; omega) hK) (fun a' V' i z y => hbody _ k x a' V' hx i z y))
    ⟨hI _ _ _ h0 hb, hl⟩
  refine ⟨_, _, _, { target := .fn (.func gf) lb, args := #[.func (.yield (w.heap.size + 1)) #[] #[]] }, W1, gf, _, W1, hr, ?_, ?_, ?_, fun _ => h1, call.mono ?_⟩
  · simp only [resolve, hval]; simp [go_sem]
  · intro f' hf'
    simp [Target.leads] at hf'
    exact hf' ▸ hgf
  · simp [invoke, go_sem, hent]
  · rintro e V ⟨⟨v, rfl⟩, i, l⟩
    exact ⟨none, _, run_endLoop l.1 (by simp [rcd]), hdone _ _ (Nat.le_refl _) (hI _ _ _ i (below_put _ (by omega))) ((World.putObj_heap_other (by omega)).trans l.2)⟩
end Go.Proofs.Ytinlppadebdjgaa.Wd
