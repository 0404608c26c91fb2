/- A table in memory, and how one is lost; no conditions but those that each names. A table in memory: how one is kept in the place of who has its key; no conditions but those that each names. A table in memory, by what it holds alone: how one is lost, and kept; which one is due first; no conditions but those that each names. Rows of slots that a call owns; no conditions but those that each names. A table in memory: what a sweep does; no conditions but those that each names. A table in memory, by the slots that are active; what a sweep leaves of them; no conditions but those that each names. A table in memory: New, Tick, Clock, what is wrong with a key, a slot's copy; no conditions but those that each names. A table in memory: what a tick does; no conditions but those that each names. A table in memory: who is looked up, what is kept of a key; no conditions but those that each names. A table in memory, by who is active: one is put in; what is kept of a key is in bounds; no conditions but those that each names. A table in memory: what is decided of a key for which there is a place; no conditions but those that each names. A table in memory: what a charge does; no conditions but those that each names. A table in memory: what a charge does; no conditions but those that each names. Deeds of choices in memory, how heavy they are, their keys and rules; no conditions but those that each names. Deeds of choices in memory, how heavy they are, their rules; when answers are the same; the chapter's example; no conditions but those that each names. When two answers are the same; the chapter's example (known); no conditions but those that each names. Deeds that came in read as such; one key alone in a table, as data; no conditions but those that each names. One key alone in a table, as data: what charges and time do; no conditions but those that each names. One key alone in a table; calls at drawn worlds; no conditions but those that each names. Two tables in one memory; what a charge of one key leaves of another one; no conditions but those that each names. Elder words: Migrate; no conditions but those that each names. -/
import Derived.Test.YtbejkcdaefkibaaGreatZAA
import Derived.Deep.RegionHeld3
import Derived.BigQuiet
import Derived.Laws.BytesArg
import Derived.Deep.Slices
import Derived.OpenShut
import Derived.Deep.LoopGhost
import Derived.Deep.CutRange
import Derived.WalkKit
import Derived.Laws.Bits64b
import Derived.Below
import Derived.Deep.Draws
import Derived.Test.YtbejkcdaefkibaaGreatRows
import Derived.ProofKit
import Derived.Handy
import Derived.Lib.Hide
import Derived.Deep.QuietTactic
import Derived.Maps.OwnSet
import Derived.Laws.EntriesVeiled
import Derived.ScopeJumps
import Derived.WalkMore
namespace Go.Proofs.YtbejkcdaefkibaaGreat.Wd
open Go Go.RowKit Go.Shelf Go.Deep
set_option linter.unusedVariables false
set_option maxRecDepth 100000

abbrev TTab : TypeId := 115
/-- A table in block T, its map in block M: as many as may be, its clock, and the slots in some blocks. -/
structure TabM (w : World) (T M : Nat) (B : Nat → Prop) (m c : Int) (F : Nat → Sl × Int) (bs : List Nat) : Prop where
  top : ∃ v, Blk w T #[.int .i64 m, .int .u64 c, .map (some M), v] TTab
  map : Mp w M F bs
  inB : B M
  que : ∃ q, Qub w T bs.length q F (fun k => B k ∧ k ≠ M) ∧ Ord (dueR F) 0 bs.length q ∧ ∀ x, In bs.length q x ↔ x ∈ bs
  ap : Ap F bs
  few : bs.length ≤ 1000000
  keys : ∀ b ∈ bs, (F b).1.key.size ≤ 281474976710656

theorem off_no {F : Nat → Sl × Int} {bs : List Nat} {k : ByteArray} (h : ¬ Has F bs k) : offB F k bs = bs := by
  refine List.filter_eq_self.2 (fun b hb => ?_)
  simp only [decide_eq_true_eq]
  exact fun e => h ⟨b, hb, e⟩
theorem off_mem {F : Nat → Sl × Int} {bs : List Nat} {k : ByteArray} {x : Nat} : x ∈ offB F k bs ↔ x ∈ bs ∧ (F x).1.key ≠ k := by
  unfold offB; simp [List.mem_filter]
theorem off_len {F : Nat → Sl × Int} {k : ByteArray} {b : Nat} : ∀ {bs : List Nat}, Ap F bs → b ∈ bs → (F b).1.key = k → (offB F k bs).length + 1 = bs.length
  | [], _, h, _ => nomatch h
  | x :: xs, ha, h, e => by
    obtain ⟨h1, h2⟩ := List.pairwise_cons.1 ha
    by_cases z : (F x).1.key = k
    · have hn : ¬ Has F xs k := fun ⟨c, hc, ec⟩ => h1 c hc (z.trans ec.symm)
      have : offB F k (x :: xs) = xs := by
        unfold offB
        rw [List.filter_cons_of_neg (by simp [z])]
        exact off_no hn
      rw [this]; rfl
    · have hb : b ∈ xs := by
        rcases List.mem_cons.1 h with rfl | h
        · exact absurd e z
        · exact h
      have : offB F k (x :: xs) = x :: offB F k xs := by
        unfold offB
        rw [List.filter_cons_of_pos (by simp [z])]
      rw [this, List.length_cons, List.length_cons, off_len h2 hb e]
theorem off_ap {F : Nat → Sl × Int} {bs : List Nat} (h : Ap F bs) (k : ByteArray) : Ap F (offB F k bs) := h.sublist (List.filter_sublist)
theorem TabM.tm {w : World} {T M : Nat} {B : Nat → Prop} {m c : Int} {F : Nat → Sl × Int} {bs : List Nat} (h : TabM w T M B m c F bs) : T ≠ M := fun e => by
  obtain ⟨v, hb⟩ := h.top
  exact h.map.nocells (e ▸ hb)
theorem TabM.cells {w : World} {T M : Nat} {B : Nat → Prop} {m c : Int} {F : Nat → Sl × Int} {bs : List Nat} (h : TabM w T M B m c F bs) :
    w.cell? ⟨T, 0, none⟩ = some (.int .i64 m) ∧ w.cell? ⟨T, 1, none⟩ = some (.int .u64 c) ∧ w.cell? ⟨T, 2, none⟩ = some (.map (some M)) ∧ (∀ i, w.frozen? ⟨T, i, none⟩ = false) ∧ T < w.heap.size ∧ ∀ cs, ¬ Blk w T cs Tps := by
  obtain ⟨v, hb⟩ := h.top
  refine ⟨hb.cell 0, hb.cell 1, hb.cell 2, fun i => hb.fz i, hb.lt, fun cs hc => ?_⟩
  have nt : ¬ (Tps = TTab) := by decide
  have h1 : w.heap[T]? = some (.cells _ TTab) := hb
  have h2 : w.heap[T]? = some (.cells cs Tps) := hc
  rw [h1] at h2
  injection h2 with h2
  injection h2 with _ e2
  exact nt e2.symm
/-- What lies elsewhere may turn. -/
theorem Que.keep {w w' : World} {T A n cap : Nat} {q : Nat → Nat} {F : Nat → Sl × Int} (h : Que w T A n cap q F) (hT : w'.heap[T]? = w.heap[T]?) (hA : w'.heap[A]? = w.heap[A]?) (hq : ∀ i, i < n → w'.heap[q i]? = w.heap[q i]?) : Que w' T A n cap q F := by
  obtain ⟨cur, hb, r⟩ := h.row
  exact ⟨(World.cell?_of_block hT).trans h.var, ⟨cur, hA.trans hb, r⟩, h.few, fun i hi => (hq i hi).trans (h.nd i hi), h.inj, h.one, h.two⟩
theorem Qub.keep {w w' : World} {T n : Nat} {q : Nat → Nat} {F : Nat → Sl × Int} {B : Nat → Prop} (h : Qub w T n q F B) (hk : ∀ k, B k → k < w.heap.size → w'.heap[k]? = w.heap[k]?) : Qub w' T n q F B := by
  refine ⟨?_, h.mem, h.top⟩
  rcases h.que with ⟨A, cap, hQ, hA⟩ | ⟨h0, hv⟩
  · obtain ⟨cur, hb, r⟩ := hQ.row
    exact .inl ⟨A, cap, hQ.keep (hk T h.top (cell_lt hQ.var)) (hk A hA hb.lt) (fun i hi => hk _ (h.mem i hi) (hQ.nd i hi).lt), hA⟩
  · exact .inr ⟨h0, (World.cell?_of_block (hk T h.top (cell_lt hv))).trans hv⟩
theorem TabM.keep {w w' : World} {T M : Nat} {B : Nat → Prop} {m c : Int} {F : Nat → Sl × Int} {bs : List Nat} (h : TabM w T M B m c F bs) (hk : ∀ k, B k → k < w.heap.size → w'.heap[k]? = w.heap[k]?) : TabM w' T M B m c F bs := by
  obtain ⟨v, hb⟩ := h.top
  obtain ⟨q, h1, h2, h3⟩ := h.que
  exact ⟨⟨v, (hk T h1.top.1 hb.lt).trans hb⟩, h.map.kept (hk M h.inB h.map.lt), h.inB, ⟨q, h1.keep (fun k hB hl => hk k hB.1 hl), h2, h3⟩, h.ap, h.few, h.keys⟩
theorem TabM.below {w w' : World} {T M : Nat} {B : Nat → Prop} {m c : Int} {F : Nat → Sl × Int} {bs : List Nat} (h : TabM w T M B m c F bs) (g : Below w.heap.size w w') : TabM w' T M B m c F bs := h.keep (fun k _ hl => g.block k hl)
theorem TabM.mono {w : World} {T M : Nat} {B C : Nat → Prop} {m c : Int} {F : Nat → Sl × Int} {bs : List Nat} (h : TabM w T M B m c F bs) (hs : ∀ k, B k → C k) : TabM w T M C m c F bs := by
  obtain ⟨q, h1, h2, h3⟩ := h.que
  exact ⟨h.top, h.map, hs _ h.inB, ⟨q, h1.mono (fun k hk => ⟨hs k hk.1, hk.2⟩), h2, h3⟩, h.ap, h.few, h.keys⟩

theorem lose_any (T M : Nat) (B : Nat → Prop) (m c : Int) (F : Nat → Sl × Int) (bs : List Nat) (k : ByteArray) (w : World) (h : TabM w T M B m c F bs) (hs : k.size ≤ 9223372036854775807) :
    Calls Tryz.prog 82 #[ptr T, .string k] w fun e w' => e = .returned (.tuple #[]) ∧ TabM w' T M B m c F (offB F k bs) ∧ Tch B w w' := by
  obtain ⟨c0, c1, c2, cf, ct, cn⟩ := h.cells
  by_cases hp : Has F bs k
  · obtain ⟨b, hb, hk⟩ := hp
    obtain ⟨q, hq, ho, hm⟩ := h.que
    obtain ⟨i, hi, ei⟩ := (hm b).2 hb
    have hl := off_len h.ap hb hk
    have L := h.map.look_yes h.ap hs hb hk
    rw [← hl] at hq ho hi hm
    have C := Lib.hid (qleave_any T (offB F k bs).length i q F _ w hq ho (cf 3) hi)
    rw [ei] at C
    have H := Lib.hid h
    have HM := Lib.hid hm
    have HK := Lib.hid hk
    have HB := Lib.hid hb
    have ntm := Lib.hid h.tm
    have d0 : ∀ w1 : World, w1.heap[M]? = w.heap[M]? → ∃ w', (Builtin.delete_ #[Tmap, Tstr] 0 #[.map (some M), .string k]).run Tryz.prog w1 = .ok (.tuple #[]) w' ∧ Mp w' M F (offB F k bs) ∧ w1.grownBy w' (some M) ∧ w'.heap.size = w1.heap.size := fun w1 e => (h.map.kept e).drop hs _
    have HD := Lib.hid d0
    clear h hq ho hm d0 hb hk
    go_enter Tryz.func82, Tryz.ntmps82
    go_wp2_with (go_at_call 134; refine C.out.mono ?_; rintro e w1 ⟨rfl, hr, hg, ht⟩; refine stopHere ?_)
    unfold Stop
    have eM : w1.heap[M]? = w.heap[M]? := hg.block M H.out.map.lt (fun x => x.2 rfl)
    obtain ⟨w2, hrun, hmp, hgr, hsz⟩ := HD.out w1 eM
    obtain ⟨v, hv⟩ := H.out.top
    obtain ⟨v1, hv1⟩ := ht _ _ hv
    have k2 : w1.cell? ⟨T, 2, none⟩ = some (.map (some M)) := hv1.cell 2
    have HR := Lib.hid hr
    have HG := Lib.hid hg
    have HV := Lib.hid hv1
    have HP := Lib.hid hmp
    have HS := Lib.hid hgr
    clear C L c0 c1 c2 cf ct cn hr hg ht hv hv1 hmp hgr HD
    go_wp2
    go_end0
    obtain ⟨q', r1, r2, r3⟩ := HR.out
    have hg2 : ∀ k, k ≠ M → k < w1.heap.size → w2.heap[k]? = w1.heap[k]? := fun k hk hl => HS.out.block k hl (fun e => hk (by injection e))
    refine ⟨rfl, ⟨⟨v1, (hg2 T ntm.out HV.out.lt).trans HV.out⟩, HP.out, H.out.inB, ⟨q', r1.keep (fun k hk hl => hg2 k hk.2 hl), r2, fun x => ?_⟩, off_ap H.out.ap k, by have := H.out.few; omega, fun b hb => H.out.keys b (off_mem.1 hb).1⟩, ?_⟩
    · rw [r3, HM.out, off_mem]
      constructor
      · rintro ⟨x1, x2⟩
        exact ⟨x1, fun e => x2 (ap_one H.out.ap x1 HB.out (e.trans HK.out.symm))⟩
      · rintro ⟨x1, x2⟩
        exact ⟨x1, fun e => x2 (by rw [e]; exact HK.out)⟩
    · have g1 : Tch B w w1 := HG.out.mono (fun k _ hk => hk.1)
      exact g1.trans ⟨HS.out.os, HS.out.tape, HS.out.output, HS.out.size, fun k hl hn => hg2 k (fun e => hn (e ▸ H.out.inB)) hl⟩
  · have L := h.map.look_no hs hp
    have H := Lib.hid h
    have HP := Lib.hid hp
    clear h hp
    go_enter Tryz.func82, Tryz.ntmps82
    go_wp2
    refine bodyPost_ret (results_none rfl _ _ _) rfl ?_
    exact ⟨rfl, by rw [off_no HP.out]; exact H.out, Tch.refl _ _⟩
end Go.Proofs.YtbejkcdaefkibaaGreat.Wd
namespace Go.Proofs.YtbejkcdaefkibaaGreat.Wd
open Go Go.RowKit Go.Shelf Go.Deep
set_option linter.unusedVariables false
set_option maxRecDepth 100000

/-- A slot that can be handed on. -/
structure Oks (s : Sl) : Prop where
  key : s.key.size ≤ 281474976710656
  r : Okr s.r
  k : 0 ≤ s.k ∧ s.k ≤ 255
  a : U s.a
  b : U s.b
abbrev capS (s : Sl) : Int := caI s.r.p s.r.e s.r.b s.r.k
/-- How full it is. -/
def flS (c : Int) (s : Sl) : Int := kfI s.k s.a s.b c (capS s)
/-- When it is due. -/
def dueS (c : Int) (s : Sl) : Int := kuI c (flS c s)
theorem caI_U (p : ByteArray) (e b k : Int) (he : U e) (hb : U b) : U (caI p e b k) := by
  unfold caI; split
  · exact sat_U _ (Int.mul_nonneg he.1 hb.1)
  · exact U_zero

theorem TabM.low {w : World} {T M : Nat} {B : Nat → Prop} {m c : Int} {F : Nat → Sl × Int} {bs : List Nat} (h : TabM w T M B m c F bs) : TabM w T M (fun k => B k ∧ k < w.heap.size) m c F bs := by
  obtain ⟨v, hb⟩ := h.top
  obtain ⟨q, h1, h2, h3⟩ := h.que
  refine ⟨⟨v, hb⟩, h.map, ⟨h.inB, h.map.lt⟩, ⟨q, ?_, h2, h3⟩, h.ap, h.few, h.keys⟩
  refine ⟨?_, fun i hi => ?_, ⟨⟨h1.top.1, hb.lt⟩, h1.top.2⟩⟩
  · rcases h1.que with ⟨A, cap, hQ, hA⟩ | hn
    · obtain ⟨cur, hc, r⟩ := hQ.row
      exact .inl ⟨A, cap, hQ, ⟨hA.1, hc.lt⟩, hA.2⟩
    · exact .inr hn
  · have := h1.mem i hi
    refine ⟨⟨this.1, ?_⟩, this.2⟩
    rcases h1.que with ⟨A, cap, hQ, hA⟩ | ⟨h0, _⟩
    · exact (hQ.nd i hi).lt
    · omega
/-- One more. -/
def updF (F : Nat → Sl × Int) (x : Nat) (y : Sl × Int) : Nat → Sl × Int := fun b => if b = x then y else F b
theorem updF_x (F : Nat → Sl × Int) (x : Nat) (y : Sl × Int) : updF F x y x = y := if_pos rfl
theorem updF_o (F : Nat → Sl × Int) (x : Nat) (y : Sl × Int) {b : Nat} (h : b ≠ x) : updF F x y b = F b := if_neg h
theorem Qub.congr {w : World} {T n : Nat} {q : Nat → Nat} {F G : Nat → Sl × Int} {B : Nat → Prop} (h : Qub w T n q F B) (e : ∀ i, i < n → G (q i) = F (q i)) : Qub w T n q G B := by
  refine ⟨?_, h.mem, h.top⟩
  rcases h.que with ⟨A, cap, hQ, hA⟩ | hn
  · exact .inl ⟨A, cap, ⟨hQ.var, hQ.row, hQ.few, fun i hi => by rw [e i hi]; exact hQ.nd i hi, hQ.inj, hQ.one, hQ.two⟩, hA⟩
  · exact .inr hn
theorem Ord.congr {n : Nat} {q : Nat → Nat} {F G : Nat → Sl × Int} (h : Ord (dueR F) 0 n q) (e : ∀ i, i < n → G (q i) = F (q i)) : Ord (dueR G) 0 n q := fun k h0 hk hl => by
  have := par_lt h0
  have z := h k h0 hk hl
  simp only [dueR] at z ⊢
  rw [e k hk, e (par k) (by omega)]; exact z

theorem al_old (v : World) (o : Obj) {k : Nat} (hk : k < v.heap.size) : (v.alloc o).heap[k]? = v.heap[k]? := ((Below.refl _ v).alloc (Nat.le_refl _) o).block k hk
theorem putO_other {V : World} {M k : Nat} {o : Obj} (h : k ≠ M) : (V.putObj M o).heap[k]? = V.heap[k]? := World.putObj_heap_other h
/-- The new one joins. -/
theorem put_join {w v2 : World} {T M : Nat} {B : Nat → Prop} {m c : Int} {F : Nat → Sl × Int} {bs : List Nat} {s : Sl} {D : Int} (hU : TabM v2 T M (fun k => B k ∧ k < w.heap.size) m c F (offB F s.key bs))
    (hK : Tch (fun k => B k ∧ k < w.heap.size) w v2) (hs : Oks s) (hf : (offB F s.key bs).length < 1000000) :
    ∃ o : Obj, (∀ w1 : World, w1.heap[M]? = v2.heap[M]? → (Instr.mapUpdate Tmap (.map (some M)) (.string s.key) (ptr v2.heap.size)).run Tryz.prog w1 = .ok () (w1.putObj M o)) ∧
      ∀ V, Drew (v2.alloc (.cells (kcs (s, D) 0) Tsl)) V → Calls Tryz.prog 154 #[.pointer (some ⟨T, 3, none⟩), ptr v2.heap.size] (V.putObj M o) fun e w' => e = .returned (.tuple #[]) ∧ Tch B w w' ∧
        TabM w' T M (Nx B w) m c (updF F v2.heap.size (s, D)) (v2.heap.size :: offB F s.key bs) := by
  have habs : ¬ Has F (offB F s.key bs) s.key := fun ⟨b, hb, e⟩ => (off_mem.1 hb).2 e
  obtain ⟨o, hmu, hmp⟩ := hU.map.put (k := s.key) (by have := hs.key; omega) habs v2.heap.size (by omega)
  refine ⟨o, hmu, fun V hV => ?_⟩
  generalize hbs : offB F s.key bs = cs at *
  have hkey : ∀ b ∈ cs, (F b).1.key ≠ s.key := fun b hb e => habs ⟨b, hb, e⟩
  obtain ⟨q, hq, ho, hm⟩ := hU.que
  obtain ⟨v, hv⟩ := hU.top
  have wv := hK.size
  have hlt : ∀ b ∈ cs, b < v2.heap.size := fun b hb => by
    obtain ⟨i, hi, e⟩ := (hm b).2 hb
    rw [← e]
    have := (hq.mem i hi).1.2
    omega
  have hne : ∀ b ∈ cs, b ≠ v2.heap.size := fun b hb => by have := hlt b hb; omega
  obtain ⟨n, rfl⟩ := hV
  have hold : ∀ k, k < v2.heap.size → ((v2.alloc (.cells (kcs (s, D) 0) Tsl)).drewN n).heap[k]? = v2.heap[k]? := fun k hk => al_old v2 _ hk
  have hnew : ((v2.alloc (.cells (kcs (s, D) 0) Tsl)).drewN n).heap[v2.heap.size]? = some (.cells (kcs (s, D) 0) Tsl) := World.alloc_heap_new v2 _
  have hsz : ((v2.alloc (.cells (kcs (s, D) 0) Tsl)).drewN n).heap.size = v2.heap.size + 1 := by show (v2.alloc _).heap.size = _; simp
  have hos : Tch (fun _ => False) v2 ((v2.alloc (.cells (kcs (s, D) 0) Tsl)).drewN n) := ⟨rfl, rfl, rfl, by rw [hsz]; omega, fun k hk _ => hold k hk⟩
  generalize (v2.alloc (.cells (kcs (s, D) 0) Tsl)).drewN n = V at *
  have hMl := hU.map.lt
  have tm := hU.tm
  -- the queue in the new world
  have q1 : Qub V T cs.length q F (fun k => Nx B w k ∧ k ≠ M) := (hq.keep (fun k _ hl => hold k hl)).mono (fun k hk => ⟨.inl hk.1.1, hk.2⟩)
  have q2 : Qub (V.putObj M o) T cs.length q F (fun k => Nx B w k ∧ k ≠ M) := q1.keep (fun k hk hl => putO_other hk.2)
  have q3 := q2.congr (G := updF F v2.heap.size (s, D)) (fun i hi => updF_o _ _ _ (hne _ ((hm _).1 ⟨i, hi, rfl⟩)))
  have o3 := ho.congr (G := updF F v2.heap.size (s, D)) (fun i hi => updF_o _ _ _ (hne _ ((hm _).1 ⟨i, hi, rfl⟩)))
  have bT : Blk (V.putObj M o) T #[.int .i64 m, .int .u64 c, .map (some M), v] TTab := (putO_other tm).trans ((hold T hv.lt).trans hv)
  have hx : Fresh (V.putObj M o) T cs.length q (updF F v2.heap.size (s, D)) v2.heap.size 0 := by
    refine ⟨?_, fun hin => hne _ ((hm _).1 hin) rfl, by have := hv.lt; omega⟩
    rw [updF_x]
    exact (putO_other (by omega)).trans hnew
  have hTn : ∀ cs', ¬ Blk (V.putObj M o) T cs' Tps := fun cs' hc => by
    have nt : ¬ (Tps = TTab) := by decide
    have h1 : (V.putObj M o).heap[T]? = some (.cells _ TTab) := bT
    have h2 : (V.putObj M o).heap[T]? = some (.cells cs' Tps) := hc
    rw [h1] at h2
    injection h2 with h2
    injection h2 with _ e2
    exact nt e2.symm
  have mp4 := hmp V (updF F v2.heap.size (s, D)) (hold M hMl) (fun b hb => by rw [updF_o _ _ _ (hne b hb)]) (by rw [updF_x])
  have psz : (V.putObj M o).heap.size = v2.heap.size + 1 := by simp [hsz]
  refine (qjoin_any T cs.length v2.heap.size q _ 0 _ _ q3 o3 (bT.fz 3) hx hTn ⟨.inr wv, by omega⟩ (by omega)).mono ?_
  rintro e w5 ⟨rfl, ⟨q', r1, r2, r3⟩, hg, ht⟩
  refine ⟨rfl, ?_, ?_⟩
  · have a1 : Tch B w V := (hK.mono (fun k _ hk => hk.1)).trans (hos.mono (fun k _ hk => hk.elim))
    have a2 : Tch B w (V.putObj M o) := a1.trans (Tch.put V M o hU.inB.1)
    exact a2.next (hg.mono (fun k _ hk => hk.1))
  · obtain ⟨v', hv'⟩ := ht _ _ bT
    refine ⟨⟨v', hv'⟩, mp4.kept (hg.block M (by rw [psz]; omega) (fun x => x.2 rfl)), .inl hU.inB.1, ⟨q', ?_, r2, fun x => ?_⟩, ?_, ?_, ?_⟩
    · refine r1.mono (fun k hk => ?_)
      rcases hk with hk | hk
      · exact hk
      · exact ⟨.inr (by rw [psz] at hk; omega), by rw [psz] at hk; omega⟩
    · have := r3 x
      rw [List.length_cons, this, hm, List.mem_cons]
      exact Or.comm
    · refine List.pairwise_cons.2 ⟨fun b hb => ?_, ?_⟩
      · rw [updF_x, updF_o _ _ _ (hne b hb)]; exact fun e => hkey b hb e.symm
      · refine List.Pairwise.imp_of_mem ?_ hU.ap
        intro a b ha hb hab
        rw [updF_o _ _ _ (hne a ha), updF_o _ _ _ (hne b hb)]; exact hab
    · rw [List.length_cons]; omega
    · intro b hb
      rcases List.mem_cons.1 hb with rfl | hb
      · rw [updF_x]; exact hs.key
      · rw [updF_o _ _ _ (hne b hb)]; exact hU.keys b hb
/-- What is kept behind it. -/
def PutP (T M : Nat) (B : Nat → Prop) (m c : Int) (F : Nat → Sl × Int) (bs : List Nat) (s : Sl) (w : World) (e : Ending) (w' : World) : Prop :=
  e = .returned (.tuple #[]) ∧ Tch B w w' ∧ (if dueS c s = 0 then TabM w' T M (Nx B w) m c F (offB F s.key bs) else ∃ x, w.heap.size ≤ x ∧ TabM w' T M (Nx B w) m c (updF F x (s, dueS c s)) (x :: offB F s.key bs))

theorem put_any (T M : Nat) (B : Nat → Prop) (m c : Int) (F : Nat → Sl × Int) (bs : List Nat) (s : Sl) (w : World) (h : TabM w T M B m c F bs) (hs : Oks s) (hc : U c) (hf : (offB F s.key bs).length < 1000000) :
    Calls Tryz.prog 104 #[ptr T, s.v] w (PutP T M B m c F bs s w) := by
  have HL := Lib.hid (fun W (g : TabM W T M (fun k => B k ∧ k < w.heap.size) m c F bs) => lose_any T M _ m c F bs s.key W g (by have := hs.key; omega))
  have H0 := Lib.hid (h.low)
  have CC := Lib.hid (fun W => cap_any s.r.p s.r.e s.r.b s.r.k W (by have := hs.r.p; omega) hs.r.e hs.r.b)
  have CU := Lib.hid (fun W => kuntil_any s.k s.a s.b c (capS s) W hs.a hs.b hc (caI_U _ _ _ _ hs.r.e hs.r.b))
  have HS := Lib.hid hs
  have HF := Lib.hid hf
  have wsz := h.cells.2.2.2.2.1
  clear h hs hf
  have HA := Lib.hid (H0.out.below ((Below.refl _ w).alloc (Nat.le_refl _) (.cells s.cs 92)))
  have b0 := Blk.new w s.cs 92
  go_enter Tryz.func104, Tryz.ntmps104
  go_wp2_with (go_at_call 82; refine (HL.out _ HA.out).mono ?_; rintro e w1 ⟨rfl, hT1, g1⟩; refine stopHere ?_)
  unfold Stop
  have b1 := g1.blk b0 (fun x => Nat.lt_irrefl _ x.2)
  have G1 : Tch (fun k => B k ∧ k < w.heap.size) w w1 := (Tch.of ((Below.refl _ w).alloc (Nat.le_refl _) _)).trans g1
  have HT1 := Lib.hid hT1
  have HB1 := Lib.hid b1
  obtain ⟨t0, t1, t2, tf, tl, tn⟩ := hT1.cells
  have x0 := b1.cell 0
  have x1 := b1.cell 1
  have x2 := b1.cell 2
  have x3 := b1.cell 3
  have x4 := b1.cell 4
  have x5 := b1.cell 5
  have x6 := b1.cell 6
  have x7 := b1.cell 7
  simp at x0 x1 x2 x3 x4 x5 x6 x7
  clear HL HA b0 hT1 g1 b1 tf tn
  have kr := Below.refl w1.heap.size w1
  go_wp2_with fail
  go_region_held3 (fun w' => Below w1.heap.size w1 w' ∧ w'.cell? ⟨T, 1, none⟩ = some (.int .u64 c) ∧ w'.cell? ⟨w.heap.size, 1, none⟩ = some (.string s.r.p) ∧ w'.cell? ⟨w.heap.size, 2, none⟩ = some (.int .u64 s.r.e) ∧ w'.cell? ⟨w.heap.size, 3, none⟩ = some (.int .u64 s.r.b) ∧ w'.cell? ⟨w.heap.size, 4, none⟩ = some (.int .u8 s.r.k) ∧ w'.cell? ⟨w.heap.size, 5, none⟩ = some (.int .u8 s.k) ∧ w'.cell? ⟨w.heap.size, 6, none⟩ = some (.int .u64 s.a) ∧ w'.cell? ⟨w.heap.size, 7, none⟩ = some (.int .u64 s.b))
    (first | with_reducible exact ⟨kr, celln kr t1, celln kr x1, celln kr x2, celln kr x3, celln kr x4, celln kr x5, celln kr x6, celln kr x7⟩ | with_reducible exact ⟨kr.drew, celln kr.drew t1, celln kr.drew x1, celln kr.drew x2, celln kr.drew x3, celln kr.drew x4, celln kr.drew x5, celln kr.drew x6, celln kr.drew x7⟩)
    (first
      | (go_at_call 68; ((with_reducible refine (CC.out _).mono ?_); rintro r v1 ⟨rfl, ⟨_, g⟩⟩; (first | with_reducible (replace kr := kbq kr g) | with_reducible (replace kr := kbq kr.drew g))))
      | (go_at_call 67; ((with_reducible refine (CU.out _).mono ?_); rintro r v2 ⟨rfl, ⟨_, g⟩⟩; (first | with_reducible (replace kr := kbq kr g) | with_reducible (replace kr := kbq kr.drew g)))))
  rename_i hH
  clear hH CC CU
  have hD : kuI c (kfI s.k s.a s.b c (capS s)) = dueS c s := rfl
  have U1 : TabM v2 T M (fun k => B k ∧ k < w.heap.size) m c F (offB F s.key bs) := HT1.out.below kr
  have K1 : Tch (fun k => B k ∧ k < w.heap.size) w v2 := G1.trans (Tch.of kr)
  have hwv : w.heap.size ≤ v2.heap.size := K1.size
  rw [hD]
  have HU := Lib.hid U1
  have HK := Lib.hid K1
  have y0 := celln kr x0
  have y1 := celln kr x1
  have y2 := celln kr x2
  have y3 := celln kr x3
  have y4 := celln kr x4
  have y5 := celln kr x5
  have y6 := celln kr x6
  have y7 := celln kr x7
  have u2 := celln kr t2
  have tlv : T < v2.heap.size := Nat.lt_of_lt_of_le tl kr.size
  clear hD U1 K1 x0 x1 x2 x3 x4 x5 x6 x7 t0 t1 t2 tl kr G1 HB1 HT1
  by_cases h0 : dueS c s = 0
  · have e1 : (dueS c s == 0) = true := by simpa using h0
    have HZ := Lib.hid h0
    generalize hDD : dueS c s = D at *
    clear h0
    go_wp2
    refine bodyPost_ret (results_none rfl _ _ _) rfl ?_
    refine ⟨rfl, HK.out.mono (fun k _ hk => hk.1), ?_⟩
    rw [hDD, if_pos HZ.out]
    exact HU.out.mono (fun k hk => .inl hk.1)
  · have e1 : (dueS c s == 0) = false := by simpa using h0
    have HZ := Lib.hid h0
    generalize hDD : dueS c s = D at *
    clear h0
    have HX : Hid (∃ o : Obj, (∀ w1 : World, w1.heap[M]? = v2.heap[M]? → (Instr.mapUpdate Tmap (.map (some M)) (.string s.key) (ptr v2.heap.size)).run Tryz.prog w1 = .ok () (w1.putObj M o)) ∧
      ∀ V, Drew (v2.alloc (.cells (kcs (s, D) 0) Tsl)) V → Calls Tryz.prog 154 #[.pointer (some ⟨T, 3, none⟩), ptr v2.heap.size] (V.putObj M o) fun e w' => e = .returned (.tuple #[]) ∧ Tch B w w' ∧
        TabM w' T M (Nx B w) m c (updF F v2.heap.size (s, D)) (v2.heap.size :: offB F s.key bs)) := Lib.hid (put_join HU.out HK.out HS.out (by have := HF.out; omega))
    obtain ⟨o, hmu, hJ⟩ := HX.out
    have HJ : Hid (∀ V, Drew (v2.alloc (.cells #[.string s.key, .string s.r.p, .int .u64 s.r.e, .int .u64 s.r.b, .int .u8 s.r.k, .int .u8 s.k, .int .u64 s.a, .int .u64 s.b, .int .u64 D, .int .i64 0] Tsl)) V → _) := Lib.hid hJ
    have m0 : (Instr.mapUpdate Tmap (.map (some M)) (.string s.key) (ptr v2.heap.size)).run Tryz.prog (v2.alloc (.cells #[.string s.key, .string s.r.p, .int .u64 s.r.e, .int .u64 s.r.b, .int .u8 s.r.k, .int .u8 s.k, .int .u64 s.a, .int .u64 s.b, .int .u64 D, .int .i64 0] Tsl)) = .ok () ((v2.alloc (.cells #[.string s.key, .string s.r.p, .int .u64 s.r.e, .int .u64 s.r.b, .int .u8 s.r.k, .int .u8 s.k, .int .u64 s.a, .int .u64 s.b, .int .u64 D, .int .i64 0] Tsl)).putObj M o) := hmu _ (al_old v2 _ HU.out.map.lt)
    have m1 : (Instr.mapUpdate Tmap (.map (some M)) (.string s.key) (ptr v2.heap.size)).run Tryz.prog (v2.alloc (.cells #[.string s.key, .string s.r.p, .int .u64 s.r.e, .int .u64 s.r.b, .int .u8 s.r.k, .int .u8 s.k, .int .u64 s.a, .int .u64 s.b, .int .u64 D, .int .i64 0] Tsl)).drew = .ok () ((v2.alloc (.cells #[.string s.key, .string s.r.p, .int .u64 s.r.e, .int .u64 s.r.b, .int .u8 s.r.k, .int .u8 s.k, .int .u64 s.a, .int .u64 s.b, .int .u64 D, .int .i64 0] Tsl)).drew.putObj M o) := hmu _ (al_old v2 _ HU.out.map.lt)
    have m2 : (Instr.mapUpdate Tmap (.map (some M)) (.string s.key) (ptr v2.heap.size)).run Tryz.prog (v2.alloc (.cells #[.string s.key, .string s.r.p, .int .u64 s.r.e, .int .u64 s.r.b, .int .u8 s.r.k, .int .u8 s.k, .int .u64 s.a, .int .u64 s.b, .int .u64 D, .int .i64 0] Tsl)).drew.drew = .ok () ((v2.alloc (.cells #[.string s.key, .string s.r.p, .int .u64 s.r.e, .int .u64 s.r.b, .int .u8 s.r.k, .int .u8 s.k, .int .u64 s.a, .int .u64 s.b, .int .u64 D, .int .i64 0] Tsl)).drew.drew.putObj M o) := hmu _ (al_old v2 _ HU.out.map.lt)
    have z0 := acell (o := (.cells #[.string s.key, .string s.r.p, .int .u64 s.r.e, .int .u64 s.r.b, .int .u8 s.r.k, .int .u8 s.k, .int .u64 s.a, .int .u64 s.b, .int .u64 D, .int .i64 0] Tsl)) y0
    have z2 := acell (o := (.cells #[.string s.key, .string s.r.p, .int .u64 s.r.e, .int .u64 s.r.b, .int .u8 s.r.k, .int .u8 s.k, .int .u64 s.a, .int .u64 s.b, .int .u64 D, .int .i64 0] Tsl)) u2
    have zt : T < (v2.alloc (.cells #[.string s.key, .string s.r.p, .int .u64 s.r.e, .int .u64 s.r.b, .int .u8 s.r.k, .int .u8 s.k, .int .u64 s.a, .int .u64 s.b, .int .u64 D, .int .i64 0] Tsl)).heap.size := by simp; omega
    clear hJ hmu HX
    go_wp2_with fail
    generalize v2.alloc (.cells #[.string s.key, .string s.r.p, .int .u64 s.r.e, .int .u64 s.r.b, .int .u8 s.r.k, .int .u8 s.k, .int .u64 s.a, .int .u64 s.b, .int .u64 D, .int .i64 0] Tsl) = V3 at *
    clear y0 y1 y2 y3 y4 y5 y6 y7 u2
    go_region
    go_wp2_with (go_at_call 154; refine (HJ.out _ (by first | exact Drew.refl _ | exact ⟨1, rfl⟩ | exact ⟨2, rfl⟩)).mono ?_; rintro e w5 ⟨rfl, hT5, hR5⟩)
    go_end0
    refine ⟨rfl, hT5, ?_⟩
    rw [hDD, if_neg HZ.out]
    exact ⟨_, hwv, hR5⟩
end Go.Proofs.YtbejkcdaefkibaaGreat.Wd
namespace Go.Proofs.YtbejkcdaefkibaaGreat.Wd
open Go Go.RowKit Go.Shelf Go.Deep
set_option linter.unusedVariables false
set_option maxRecDepth 100000

/-- A table that holds these, each with when it is due. -/
def TabL (w : World) (T : Nat) (B : Nat → Prop) (m c : Int) (L : List (Sl × Int)) : Prop := ∃ M F bs, TabM w T M B m c F bs ∧ bs.map F = L
/-- Without a key. -/
def offL (k : ByteArray) (L : List (Sl × Int)) : List (Sl × Int) := L.filter (fun x => decide (x.1.key ≠ k))
/-- With one in the place of who has its key. -/
def putL (c : Int) (s : Sl) (L : List (Sl × Int)) : List (Sl × Int) := if dueS c s = 0 then offL s.key L else (s, dueS c s) :: offL s.key L
def ApL (L : List (Sl × Int)) : Prop := L.Pairwise (fun x y => x.1.key ≠ y.1.key)
theorem map_off (F : Nat → Sl × Int) (bs : List Nat) (k : ByteArray) : (offB F k bs).map F = offL k (bs.map F) := by
  unfold offB offL
  rw [List.filter_map]; rfl
theorem TabL.ap {w : World} {T : Nat} {B : Nat → Prop} {m c : Int} {L : List (Sl × Int)} (h : TabL w T B m c L) : ApL L := by
  obtain ⟨M, F, bs, h1, rfl⟩ := h
  exact List.pairwise_map.2 h1.ap
theorem TabL.few {w : World} {T : Nat} {B : Nat → Prop} {m c : Int} {L : List (Sl × Int)} (h : TabL w T B m c L) : L.length ≤ 1000000 := by
  obtain ⟨M, F, bs, h1, rfl⟩ := h
  rw [List.length_map]; exact h1.few
theorem TabL.mono {w : World} {T : Nat} {B C : Nat → Prop} {m c : Int} {L : List (Sl × Int)} (h : TabL w T B m c L) (hs : ∀ k, B k → C k) : TabL w T C m c L := by
  obtain ⟨M, F, bs, h1, e⟩ := h
  exact ⟨M, F, bs, h1.mono hs, e⟩
theorem TabL.low {w : World} {T : Nat} {B : Nat → Prop} {m c : Int} {L : List (Sl × Int)} (h : TabL w T B m c L) : TabL w T (fun k => B k ∧ k < w.heap.size) m c L := by
  obtain ⟨M, F, bs, h1, e⟩ := h
  exact ⟨M, F, bs, h1.low, e⟩
theorem TabL.keep {w w' : World} {T : Nat} {B : Nat → Prop} {m c : Int} {L : List (Sl × Int)} (h : TabL w T B m c L) (hk : ∀ k, B k → k < w.heap.size → w'.heap[k]? = w.heap[k]?) : TabL w' T B m c L := by
  obtain ⟨M, F, bs, h1, e⟩ := h
  exact ⟨M, F, bs, h1.keep hk, e⟩
theorem TabL.below {w w' : World} {T : Nat} {B : Nat → Prop} {m c : Int} {L : List (Sl × Int)} (h : TabL w T B m c L) (g : Below w.heap.size w w') : TabL w' T B m c L := h.keep (fun k _ hl => g.block k hl)
theorem TabL.cells {w : World} {T : Nat} {B : Nat → Prop} {m c : Int} {L : List (Sl × Int)} (h : TabL w T B m c L) :
    w.cell? ⟨T, 0, none⟩ = some (.int .i64 m) ∧ w.cell? ⟨T, 1, none⟩ = some (.int .u64 c) ∧ w.frozen? ⟨T, 1, none⟩ = false ∧ T < w.heap.size := by
  obtain ⟨M, F, bs, h1, e⟩ := h
  obtain ⟨a, b, _, d, e, _⟩ := h1.cells
  exact ⟨a, b, d 1, e⟩
theorem lose_L (T : Nat) (B : Nat → Prop) (m c : Int) (L : List (Sl × Int)) (k : ByteArray) (w : World) (h : TabL w T B m c L) (hs : k.size ≤ 9223372036854775807) :
    Calls Tryz.prog 82 #[ptr T, .string k] w fun e w' => e = .returned (.tuple #[]) ∧ TabL w' T B m c (offL k L) ∧ Tch B w w' := by
  obtain ⟨M, F, bs, h1, rfl⟩ := h
  refine (lose_any T M B m c F bs k w h1 hs).mono ?_
  rintro e w' ⟨rfl, h2, h3⟩
  exact ⟨rfl, ⟨M, F, _, h2, map_off _ _ _⟩, h3⟩
theorem put_L (T : Nat) (B : Nat → Prop) (m c : Int) (L : List (Sl × Int)) (s : Sl) (w : World) (h : TabL w T B m c L) (hs : Oks s) (hc : U c) (hf : (offL s.key L).length < 1000000) :
    Calls Tryz.prog 104 #[ptr T, s.v] w fun e w' => e = .returned (.tuple #[]) ∧ TabL w' T (Nx B w) m c (putL c s L) ∧ Tch B w w' := by
  obtain ⟨M, F, bs, h1, rfl⟩ := h
  refine (put_any T M B m c F bs s w h1 hs hc (by rw [← map_off, List.length_map] at hf; exact hf)).mono ?_
  rintro e w' ⟨rfl, h2, h3⟩
  refine ⟨rfl, ?_, h2⟩
  unfold putL
  by_cases z : dueS c s = 0
  · rw [if_pos z] at h3 ⊢
    exact ⟨M, F, _, h3, map_off _ _ _⟩
  · rw [if_neg z] at h3 ⊢
    obtain ⟨x, hx, h4⟩ := h3
    refine ⟨M, _, _, h4, ?_⟩
    rw [List.map_cons, updF_x, ← map_off]
    congr 1
    apply List.map_congr_left
    intro b hb
    refine updF_o _ _ _ ?_
    obtain ⟨q, hq, _, hm⟩ := h1.que
    obtain ⟨i, hi, e⟩ := (hm b).2 (off_mem.1 hb).1
    have : b < w.heap.size := by
      rcases hq.que with ⟨A, cap, hQ, hA⟩ | ⟨h0, _⟩
      · rw [← e]; exact (hQ.nd i hi).lt
      · omega
    omega
/-- Who is due first stands in front. -/
theorem TabL.first {w : World} {T : Nat} {B : Nat → Prop} {m c : Int} {L : List (Sl × Int)} (h : TabL w T B m c L) :
    (L = [] ∧ ∃ a cap, w.cell? ⟨T, 3, none⟩ = some (.slice a 0 cap)) ∨
    ∃ A n cap b s d, w.cell? ⟨T, 3, none⟩ = some (.slice (some ⟨A, 0, none⟩) (n + 1) cap) ∧ w.cell? ⟨A, 0, none⟩ = some (ptr b) ∧ Blk w b (kcs (s, d) 0) Tsl ∧ (s, d) ∈ L ∧ ∀ y ∈ L, d ≤ y.2 := by
  obtain ⟨M, F, bs, h1, rfl⟩ := h
  obtain ⟨q, hq, ho, hm⟩ := h1.que
  cases hn : bs.length with
  | zero =>
    obtain rfl : bs = [] := List.length_eq_zero_iff.1 hn
    rw [hn] at hq
    left
    refine ⟨rfl, ?_⟩
    rcases hq.que with ⟨A, cap, hQ, hA⟩ | ⟨_, hc⟩
    · exact ⟨_, _, hQ.var⟩
    · exact ⟨_, _, hc⟩
  | succ n =>
    rw [hn] at hq ho hm
    right
    rcases hq.que with ⟨A, cap, hQ, hA⟩ | ⟨h0, _⟩
    · refine ⟨A, n, cap, q 0, (F (q 0)).1, (F (q 0)).2, hQ.var, (hQ.at (by omega)).1, hQ.nd 0 (by omega), ?_, ?_⟩
      · exact List.mem_map.2 ⟨q 0, (hm _).1 ⟨0, by omega, rfl⟩, rfl⟩
      · intro y hy
        obtain ⟨b, hb, rfl⟩ := List.mem_map.1 hy
        obtain ⟨i, hi, e⟩ := (hm b).2 hb
        have := ho.top (dueR_tr F) (dueR_rf F) i hi
        rw [e] at this; exact this
    · omega
theorem offL_mem {k : ByteArray} {L : List (Sl × Int)} {x : Sl × Int} : x ∈ offL k L ↔ x ∈ L ∧ x.1.key ≠ k := by unfold offL; simp [List.mem_filter]
theorem offL_no {k : ByteArray} {L : List (Sl × Int)} (h : ∀ x ∈ L, x.1.key ≠ k) : offL k L = L := List.filter_eq_self.2 (fun x hx => by simpa using h x hx)
/-- One, and all others. -/
theorem offL_perm {x : Sl × Int} : ∀ {L : List (Sl × Int)}, ApL L → x ∈ L → L.Perm (x :: offL x.1.key L)
  | [], _, h => nomatch h
  | y :: ys, ha, h => by
    obtain ⟨h1, h2⟩ := List.pairwise_cons.1 ha
    rcases List.mem_cons.1 h with e | hx
    · subst e
      have : offL x.1.key (x :: ys) = ys := by
        unfold offL
        rw [List.filter_cons_of_neg (by simp)]
        exact offL_no (fun z hz => (h1 z hz).symm)
      rw [this]
    · have hne : y.1.key ≠ x.1.key := h1 x hx
      have : offL x.1.key (y :: ys) = y :: offL x.1.key ys := by
        unfold offL
        rw [List.filter_cons_of_pos (by simpa using hne)]
      rw [this]
      exact ((offL_perm h2 hx).cons y).trans (List.Perm.swap _ _ _)
theorem ApL.perm {L L' : List (Sl × Int)} (h : ApL L) (p : L.Perm L') : ApL L' := (p.pairwise_iff (fun {_ _} hne => Ne.symm hne)).1 h
end Go.Proofs.YtbejkcdaefkibaaGreat.Wd
namespace Go.Proofs.YtbejkcdaefkibaaGreat.Wd
open Go Go.RowKit Go.Shelf Go.Deep
set_option linter.unusedVariables false
set_option maxRecDepth 100000

abbrev Tas : TypeId := 92
abbrev Tass : TypeId := 44
def flatS : List Sl → List Value
  | [] => []
  | s :: xs => s.cs.toList ++ flatS xs
theorem flatS_append (a b : List Sl) : flatS (a ++ b) = flatS a ++ flatS b := by
  induction a with
  | nil => rfl
  | cons x xs ih => rw [List.cons_append, flatS, flatS, ih, List.append_assoc]
theorem flatS_len (a : List Sl) : (flatS a).length = a.length * 8 := by
  induction a with
  | nil => rfl
  | cons x xs ih => rw [flatS, List.length_append, ih, List.length_cons]; simp; omega
abbrev sl0 : Sl := ⟨⟨#[]⟩, ⟨⟨#[]⟩, 0, 0, 0⟩, 0, 0, 0⟩
abbrev atS (xs : List Sl) (k : Nat) : Sl := xs.getD k sl0
theorem flatS_at : ∀ (xs : List Sl) (k : Nat), k < xs.length → ∀ j, j < 8 → (flatS xs)[k * 8 + j]? = (atS xs k).cs[j]?
  | [], _, h, _, _ => absurd h (Nat.not_lt_zero _)
  | x :: xs, 0, _, j, hj => by
    rw [flatS, List.getElem?_append_left (by simp; omega)]; simp
  | x :: xs, k + 1, h, j, hj => by
    rw [flatS, List.getElem?_append_right (by simp; omega)]
    have := flatS_at xs k (by simpa using h) j hj
    rw [show (k + 1) * 8 + j - x.cs.toList.length = k * 8 + j by simp; omega, this]
    simp
theorem flatS_one (xs : List Sl) : ∀ u ∈ flatS xs, u.oneCell' = true := by
  induction xs with
  | nil => intro u hu; cases hu
  | cons x xs ih =>
    intro u hu
    rw [flatS, List.mem_append] at hu
    rcases hu with hu | hu
    · simp at hu
      rcases hu with rfl | rfl | rfl | rfl | rfl | rfl | rfl | rfl <;> rfl
    · exact ih u hu
/-- A row of slots that a call owns. -/
def OwS (w : World) (base : Nat) (v : Value) (xs : List Sl) : Prop := w.ownsRow base Tas 8 v xs.length (flatS xs)
theorem OwS.nil (w : World) (base : Nat) : OwS w base (.slice none 0 0) [] := World.ownsRow_nil _ _ _ _
theorem zeroAs : (Tryz.prog.info? Tas).map (fun i => (i.zero, i.size, i.bytes)) = some (some (.agg #[.string ⟨#[]⟩, .string ⟨#[]⟩, .int .u64 0, .int .u64 0, .int .u8 0, .int .u8 0, .int .u64 0, .int .u64 0]), 8, 80) := by kernel_rfl
theorem own_tch {S : Nat → Prop} {w w' : World} {base : Nat} {e : TypeId} {size n : Nat} {v : Value} {xs : List Value} (h : w.ownsRow base e size v n xs) (g : Tch S w w') (hS : ∀ k, base ≤ k → k < w.heap.size → ¬ S k) : w'.ownsRow base e size v n xs := by
  refine ⟨h.1, ?_⟩
  rcases h.2 with hn | ⟨b, cap, cur, rfl, hb, hgg, rest⟩
  · exact .inl hn
  · exact .inr ⟨b, cap, cur, rfl, hb, (g.block b (heap_lt hgg) (hS b hb (heap_lt hgg))).trans hgg, rest⟩
/-- A slot lies in eight cells. -/
def S8 (w : World) (b o : Nat) (s : Sl) : Prop := ∀ j, j < 8 → w.cell? ⟨b, o + j, none⟩ = s.cs[j]?
theorem S8.eight {w : World} {b o : Nat} {s : Sl} (h : S8 w b o s) : w.cell? ⟨b, o, none⟩ = some (.string s.key) ∧ w.cell? ⟨b, o + 1, none⟩ = some (.string s.r.p) ∧ w.cell? ⟨b, o + 2, none⟩ = some (.int .u64 s.r.e) ∧ w.cell? ⟨b, o + 3, none⟩ = some (.int .u64 s.r.b) ∧ w.cell? ⟨b, o + 4, none⟩ = some (.int .u8 s.r.k) ∧ w.cell? ⟨b, o + 5, none⟩ = some (.int .u8 s.k) ∧ w.cell? ⟨b, o + 6, none⟩ = some (.int .u64 s.a) ∧ w.cell? ⟨b, o + 7, none⟩ = some (.int .u64 s.b) :=
  ⟨h 0 (by omega), h 1 (by omega), h 2 (by omega), h 3 (by omega), h 4 (by omega), h 5 (by omega), h 6 (by omega), h 7 (by omega)⟩
/-- What such a row's form is, and where each lies. -/
theorem OwS.form {w : World} {base : Nat} {v : Value} {xs : List Sl} (h : OwS w base v xs) : ∃ A cap, v = .slice A xs.length cap ∧ xs.length ≤ cap ∧ cap ≤ maxLen ∧ (0 < xs.length → ∃ b, A = some ⟨b, 0, none⟩ ∧ base ≤ b ∧ b < w.heap.size ∧ ∀ k, k < xs.length → S8 w b (k * 8) (atS xs k)) := by
  rcases h.2 with ⟨rfl, h0⟩ | ⟨g, cap, cur, rfl, hb, hgg, h1, h2, h3, h4⟩
  · refine ⟨none, 0, by rw [h0], by omega, by unfold maxLen; omega, fun hp => by omega⟩
  · refine ⟨_, cap, rfl, h1, h2, fun _ => ⟨g, rfl, hb, heap_lt hgg, fun k hk j hj => ?_⟩⟩
    rw [← flatS_at xs k hk j hj, ← h4, List.getElem?_take, if_pos (by omega)]
    simp [World.cell?, hgg]
/-- One more. -/
theorem wpList_app_s (w : World) {ops : Array Oper} {rest : List Oper} {o : Oper} {a : Act} {Q : Exit → Act → World → Prop} (hgd : o.guard = none) (s x : Operand)
    (ho : o.op = .call { callee := .builtin .append, args := #[s, x], argTypes := #[Tass, Tass] })
    (base : Nat) (v : Value) (acc : List Sl) (hs : a.eval s = v) (hown : OwS w base v acc) (b off c : Nat) (y : Sl) (hx : a.eval x = .slice (some ⟨b, off, none⟩) 1 c)
    (hR : S8 w b off y) (hsz : acc.length + 1 ≤ 1099511627776) (hbase : base ≤ w.heap.size)
    (h : ∀ g cap w', OwS w' base (.slice (some ⟨g, 0, none⟩) (acc.length + 1) cap) (acc ++ [y]) → Below base w w' → w.grownBy w' v.ownBlock → (v.ownBlock = some g ∨ g = w.heap.size) → wpList Tryz.prog ops Q rest (a.put o.dst (.slice (some ⟨g, 0, none⟩) (acc.length + 1) cap)) w') : wpList Tryz.prog ops Q (o :: rest) a w := by
  obtain ⟨i0, hi, hy0, hy1, hy2⟩ := info_parts zeroAs
  refine wpList_append_lies w hgd s x Tass ho base Tas i0 _ 8 80 Tryz.underlying44 hi hy0 hy1 hy2 rfl (by decide) v acc.length (flatS acc) hs hown ⟨b, off, none⟩ 1 c (flatS [y]) hx (by rw [flatS_len]; rfl) ?_ (flatS_one _) (by decide) (by unfold maxLen; omega) (by omega) hbase w.heap.size rfl ?_
  · intro j u hu
    have hj : j < 8 := by
      by_cases z : j < 8
      · exact z
      · rw [List.getElem?_eq_none (by rw [flatS_len]; simp; omega)] at hu; cases hu
    have := flatS_at [y] 0 (by simp) j hj
    simp only [Nat.zero_mul, Nat.zero_add] at this
    rw [this] at hu
    have z := hR j hj
    have e : ((⟨b, off, none⟩ : Addr).add j) = ⟨b, off + j, none⟩ := by
      unfold Addr.add
      split
      · rename_i hj0; subst hj0; rfl
      · rfl
    rw [e, z]; simpa [atS] using hu
  · intro g cap w' own grow hg hgs
    refine h g cap w' ?_ ((Below.refl base w).grown grow hbase (fun k hk => (World.ownsRow.lt hown k hk).1)) grow hg
    unfold OwS
    rw [List.length_append, flatS_append]
    exact own
end Go.Proofs.YtbejkcdaefkibaaGreat.Wd
namespace Go.Proofs.YtbejkcdaefkibaaGreat.Wd
open Go Go.RowKit Go.Shelf Go.Deep
set_option linter.unusedVariables false
set_option maxRecDepth 100000

/-- Those who are kept anew. -/
def upd2 (c : Int) (R : List (Sl × Int)) : List (Sl × Int) := R.filterMap (fun x => if dueS c x.1 = 0 then none else some (x.1, dueS c x.1))
def lenV : Value → Nat
  | .slice _ n _ => n
  | _ => 0
theorem fst_perm_app {L Lr Rd : List (Sl × Int)} {x : Sl × Int} (ha : ApL Lr) (hp : L.Perm (Lr ++ Rd)) (hx : x ∈ Lr) : L.Perm (offL x.1.key Lr ++ (Rd ++ [x])) := by
  refine hp.trans (((offL_perm ha hx).append_right Rd).trans ?_)
  rw [List.cons_append, ← List.append_assoc]
  exact (List.perm_append_singleton _ _).symm

theorem Tch.bel {S : Nat → Prop} {a b c : World} (h : Tch S a b) (g : Below a.heap.size b c) : Tch S a c :=
  ⟨g.os.trans h.os, g.tape.trans h.tape, g.output.trans h.output, Nat.le_trans h.size g.size, fun k hk hn => (g.block k hk).trans (h.block k hk hn)⟩
def SweepP (T : Nat) (B : Nat → Prop) (m c : Int) (L : List (Sl × Int)) (w : World) (e : Ending) (w' : World) : Prop :=
  e = .returned (.tuple #[]) ∧ Tch B w w' ∧ ∃ Lr Rd L', L.Perm (Lr ++ Rd) ∧ (∀ x ∈ Rd, x.2 ≤ c) ∧ (∀ x ∈ Lr, c < x.2) ∧ TabL w' T (Nx B w) m c L' ∧ L'.Perm (Lr ++ upd2 c Rd)

set_option maxHeartbeats 1000000 in
theorem sweep_any (T : Nat) (B : Nat → Prop) (m c : Int) (L : List (Sl × Int)) (w : World) (h : TabL w T B m c L) (hs : ∀ x ∈ L, Oks x.1) (hc : U c) :
    Calls Tryz.prog 80 #[ptr T] w (SweepP T B m c L w) := by
  have HA := Lib.hid h.ap
  have HF := Lib.hid h.few
  have HS := Lib.hid hs
  have H0 := Lib.hid h.low
  have tl0 := h.cells.2.2.2
  clear h hs
  go_enter Tryz.func80, Tryz.ntmps80
  go_wp2
  go_loopw [2] (fun v wr => ∃ Lr Rd, Hid (TabL wr T (fun k => B k ∧ k < w.heap.size) m c Lr) ∧ Hid (L.Perm (Lr ++ Rd)) ∧ Hid (∀ x ∈ Rd, x.2 ≤ c) ∧ Hid (OwS wr w.heap.size v (Rd.map Prod.fst)) ∧ Tch (fun k => B k ∧ k < w.heap.size) w wr) (fun v _ => L.length - lenV v)
  case atStart => exact ⟨L, [], H0, Lib.hid (by rw [List.append_nil]), Lib.hid (fun x hx => nomatch hx), Lib.hid (OwS.nil _ _), Tch.refl _ _⟩
  case round =>
    obtain ⟨Lr, Rd, hT, hp, hr, ho, hg⟩ := hrel
    obtain ⟨A0, cap0, hv0, hcap, hcap2, hv⟩ := ho.out.form
    rw [List.length_map] at hv0 hcap hv
    subst hv0
    have hvv := Lib.hid hv
    have hlen : Hid (L.length = Lr.length + Rd.length) := Lib.hid (by rw [hp.out.length_eq, List.length_append])
    obtain ⟨t0, t1, tf, tl⟩ := hT.out.cells
    clear H0 hv t0 tf
    go_upto_region 1 with fail
    go_cut [27] from 6 to 27 (fun cv wx => ∃ t : Bool, cv = .bool t ∧ Hid (t = true ↔ ∃ y ∈ Lr, y.2 ≤ c) ∧ Drew wr wx)
    case first =>
      rcases hT.out.first with ⟨e0, a, cap, hc3⟩ | ⟨A, n, cap, b, s, d, hc3, ha, hb, hin, hmin⟩
      · go_wp2
        go_quiet (fail)
        go_wp2
        go_meet
        case rel => exact ⟨false, rfl, Lib.hid (by rw [e0]; simp), Drew.of _ _⟩
      · have hd := hb.cell 8
        simp only [kcs] at hd
        have hd' : wr.cell? ⟨b, 8, none⟩ = some (.int .u64 d) := hd
        have n0 : (0 : Int) < (n : Int) + 1 := by omega
        have HI := Lib.hid hin
        have HM := Lib.hid hmin
        clear hd hin hmin hb
        rcases (show d ≤ c ∨ ¬ d ≤ c by omega) with hdc | hdc
        · have hq := decide_eq_true hdc
          have HD := Lib.hid hdc
          clear hdc
          go_wp2
          go_quiet (fail)
          go_wp2
          go_meet
          case rel => exact ⟨true, rfl, Lib.hid (by simp only [true_iff]; exact ⟨_, HI.out, HD.out⟩), Drew.of _ _⟩
        · have hq := decide_eq_false hdc
          have HD := Lib.hid hdc
          clear hdc
          go_wp2
          go_quiet (fail)
          go_wp2
          go_meet
          case rel => exact ⟨false, rfl, Lib.hid (by simp only [Bool.false_eq_true, false_iff]; rintro ⟨y, hy, h⟩; have := HM.out y hy; have := HD.out; omega), Drew.of _ _⟩
    case rest =>
    obtain ⟨t, rfl, ht, hdr⟩ := hcut
    cases t
    · have hend : Hid (∀ x ∈ Lr, c < x.2) := Lib.hid (fun x hx => by
        by_cases z : c < x.2
        · exact z
        · exact absurd (ht.out.2 ⟨x, hx, by omega⟩) (by decide))
      have HT0 := Lib.hid (hT.out.keep (w' := wc) (fun k _ hl => by obtain ⟨n, rfl⟩ := hdr; rfl))
      have HG := Lib.hid (hg.trans hdr.tch)
      have HV : Hid (0 < Rd.length → ∃ b, A0 = some ⟨b, 0, none⟩ ∧ w.heap.size ≤ b ∧ b < wc.heap.size ∧ ∀ k, k < Rd.length → S8 wc b (k * 8) (atS (Rd.map Prod.fst) k)) := Lib.hid (fun x => by
        obtain ⟨n, rfl⟩ := hdr
        exact hvv.out x)
      have hrd : Rd.length ≤ 1000000 := by have := HF.out; have := hlen.out; omega
      have hwc : w.heap.size ≤ wc.heap.size := HG.out.size
      clear ho hdr hT hg t1 tl hvv ht
      go_wp2_with fail
      go_loopw [47] (fun i wr => ∃ (k : Nat) (Lk : List (Sl × Int)), i = .int .i64 (k : Int) ∧ k ≤ Rd.length ∧ Hid (TabL wr T (Nx (fun k => B k ∧ k < w.heap.size) wc) m c Lk) ∧ Hid (Lk.Perm (Lr ++ upd2 c (Rd.take k))) ∧ Tch (Nx (fun k => B k ∧ k < w.heap.size) wc) wc wr) (fun i _ => Rd.length - (intOf i).toNat)
      case atStart => exact ⟨0, Lr, rfl, Nat.zero_le _, Lib.hid (HT0.out.mono (fun k hk => .inl hk)), Lib.hid (by simp [upd2]), Tch.refl _ _⟩
      case round =>
        clear HT0
        obtain ⟨k, Lk, rfl, hk, hTk, hpk, hgk⟩ := hrel
        by_cases hkn : k < Rd.length
        · obtain ⟨b, rfl, hb1, hb2, hb3⟩ := HV.out (by omega)
          have hbn : ¬ Nx (fun k => B k ∧ k < w.heap.size) wc b := fun x => by
            rcases x with x | x
            · have := x.2; omega
            · omega
          have h8 : S8 wr b (k * 8) (atS (Rd.map Prod.fst) k) := fun j hj => (World.cell?_of_block (hgk.block b hb2 hbn)).trans (hb3 k hkn j hj)
          have hin : Rd[k] ∈ L := hp.out.mem_iff.2 (List.mem_append_right _ (List.getElem_mem hkn))
          have hat : atS (Rd.map Prod.fst) k = Rd[k].1 := by simp [atS, List.getD, hkn]
          rw [hat] at h8
          obtain ⟨z0, z1, z2, z3, z4, z5, z6, z7⟩ := h8.eight
          have hks := Lib.hid (HS.out _ hin)
          have hapk : ApL (Lr ++ Rd) := HA.out.perm hp.out
          have hfresh : ∀ x ∈ Lk, x.1.key ≠ Rd[k].1.key := by
            intro x hx
            rcases List.mem_append.1 (hpk.out.mem_iff.1 hx) with hx | hx
            · exact (List.pairwise_append.1 hapk).2.2 x hx _ (List.getElem_mem hkn)
            · obtain ⟨y, hy, e⟩ := List.mem_filterMap.1 hx
              have e1 : x.1 = y.1 := by
                by_cases q : dueS c y.1 = 0
                · rw [if_pos q] at e; cases e
                · rw [if_neg q] at e; injection e with e; rw [← e]
              rw [e1]
              obtain ⟨i, hi, ei⟩ := List.getElem_of_mem hy
              have hi' : i < k := by simp at hi; omega
              have hpw := (List.pairwise_append.1 hapk).2.1
              have := (List.pairwise_iff_getElem.1 hpw) i k (by omega) hkn hi'
              rw [← ei]; simpa using this
          have hoff := offL_no hfresh
          have hlk : Lk.length < 1000000 := by
            have e1 := hpk.out.length_eq
            have e2 : (upd2 c (Rd.take k)).length ≤ k := Nat.le_trans (List.length_filterMap_le _ _) (by simp; omega)
            have := HF.out
            have := hlen.out
            rw [List.length_append] at e1
            omega
          have hstep : Hid ((putL c Rd[k].1 Lk).Perm (Lr ++ upd2 c (Rd.take (k + 1)))) := Lib.hid (by
            unfold putL
            rw [hoff]
            have e1 : upd2 c (Rd.take (k + 1)) = upd2 c (Rd.take k) ++ (if dueS c Rd[k].1 = 0 then [] else [(Rd[k].1, dueS c Rd[k].1)]) := by
              rw [List.take_succ_eq_append_getElem hkn]
              unfold upd2
              rw [List.filterMap_append]
              congr 1
              by_cases q : dueS c Rd[k].1 = 0 <;> simp [q]
            rw [e1]
            by_cases q : dueS c Rd[k].1 = 0
            · rw [if_pos q, if_pos q, List.append_nil]; exact hpk.out
            · rw [if_neg q, if_neg q, ← List.append_assoc]
              exact (hpk.out.cons _).trans (List.perm_append_singleton _ _).symm)
          have HC := Lib.hid (fun W (g : TabL W T (Nx (fun k => B k ∧ k < w.heap.size) wc) m c Lk) => put_L T _ m c Lk Rd[k].1 W g hks.out hc (by rw [hoff]; exact hlk))
          have HN := Lib.hid (hTk.out.below ((Below.refl _ wr).alloc (Nat.le_refl _) (.cells Rd[k].1.cs Tas)))
          have bx := Blk.new wr Rd[k].1.cs Tas
          have y0 := bx.cell 0
          have y1 := bx.cell 1
          have y2 := bx.cell 2
          have y3 := bx.cell 3
          have y4 := bx.cell 4
          have y5 := bx.cell 5
          have y6 := bx.cell 6
          have y7 := bx.cell 7
          simp at y0 y1 y2 y3 y4 y5 y6 y7
          have hwr : wc.heap.size ≤ wr.heap.size := hgk.size
          have kn1 : (k : Int) < (Rd.length : Int) := by omega
          have kn0 : (0 : Int) ≤ (k : Int) := by omega
          clear hin hat h8 hks hapk hfresh hoff hlk hb3 hTk hpk bx
          generalize Rd[k].1 = s at *
          go_wp2_with (go_at_call 104; refine (HC.out _ HN.out).mono ?_; rintro e w1 ⟨rfl, hT1, g1⟩)
          go_roundw
          case rel => exact ⟨k + 1, putL c s Lk, by go_num, hkn, Lib.hid (hT1.mono (fun x hx => by
            rcases hx with hx | hx
            · exact hx
            · exact .inr (by simp at hx; omega))), hstep, hgk.trans ((Tch.of ((Below.refl _ wr).alloc (Nat.le_refl _) _)).trans g1)⟩
          case measure => simp [intOf]; omega
        · obtain rfl : k = Rd.length := by omega
          have HK := Lib.hid hgk
          clear hgk
          go_wp2
          go_end0
          have hgw : Tch (fun k => B k ∧ k < w.heap.size) w wr := HG.out.next (HK.out.mono (fun x _ hx => by
            rcases hx with hx | hx
            · exact .inl hx
            · exact .inr (by omega)))
          refine ⟨rfl, hgw.mono (fun k _ hk => hk.1), Lr, Rd, Lk, hp.out, hr.out, hend.out, hTk.out.mono (fun x hx => ?_), by have := hpk.out; rwa [List.take_length] at this⟩
          rcases hx with hx | hx
          · exact .inl hx.1
          · exact .inr (by omega)
    · have hTc := Lib.hid (hT.out.keep (w' := wc) (fun k _ hl => by obtain ⟨n, rfl⟩ := hdr; rfl))
      rcases hTc.out.first with ⟨e0, _⟩ | ⟨A, n, cap, b, s, d, hc3, ha, hb, hin, hmin⟩
      · obtain ⟨y, hy, _⟩ := ht.out.1 rfl
        rw [e0] at hy; cases hy
      · have hdc : Hid (d ≤ c) := Lib.hid (by
          obtain ⟨y, hy, h⟩ := ht.out.1 rfl
          have := hmin y hy
          omega)
        have HI := Lib.hid hin
        have k0 := hb.cell 0
        have k1 := hb.cell 1
        have k2 := hb.cell 2
        have k3 := hb.cell 3
        have k4 := hb.cell 4
        have k5 := hb.cell 5
        have k6 := hb.cell 6
        have k7 := hb.cell 7
        simp [kcs] at k0 k1 k2 k3 k4 k5 k6 k7
        have hk : s.key.size ≤ 9223372036854775807 := by
          have := (HS.out (s, d) (hp.out.mem_iff.2 (List.mem_append_left _ hin))).key
          simp only at this; omega
        have HO := Lib.hid (own_tch (S := fun _ => False) ho.out hdr.tch (fun _ _ _ x => x))
        have tlc : T < wc.heap.size := Nat.lt_of_lt_of_le tl0 (hg.trans hdr.tch).size
        have HG := Lib.hid (hg.trans hdr.tch)
        have n0 : (0 : Int) < (n : Int) + 1 := by omega
        have HL := Lib.hid (fun W (g : TabL W T (fun k => B k ∧ k < w.heap.size) m c Lr) => lose_L T _ m c Lr s.key W g hk)
        have HN := Lib.hid (hTc.out.below ((Below.refl _ wc).alloc (Nat.le_refl _) (.cells s.cs Tas)))
        have hwc : w.heap.size ≤ wc.heap.size := HG.out.size
        have bx := Blk.new wc s.cs Tas
        have HP := Lib.hid (fst_perm_app hTc.out.ap hp.out HI.out)
        have HO2 := Lib.hid (own_tch (S := fun _ => False) HO.out (Tch.of ((Below.refl _ wc).alloc (Nat.le_refl _) (.cells s.cs Tas))) (fun _ _ _ x => x))
        clear hin hmin hb ho hdr hT hg t1 tl hvv ht hTc
        go_wp2_with (go_at_call 82; refine (HL.out _ HN.out).mono ?_; rintro e w1 ⟨rfl, hT1, g1⟩; refine stopHere ?_)
        unfold Stop
        have b1 := g1.blk bx (fun x => by have := x.2; omega)
        have G1 : Tch (fun k => B k ∧ k < w.heap.size) wc w1 := (Tch.of ((Below.refl _ wc).alloc (Nat.le_refl _) _)).trans g1
        have O1 := Lib.hid (own_tch HO2.out g1 (fun k h1 h2 x => by have := x.2; omega))
        have x0 := b1.cell 0
        have x1 := b1.cell 1
        have x2 := b1.cell 2
        have x3 := b1.cell 3
        have x4 := b1.cell 4
        have x5 := b1.cell 5
        have x6 := b1.cell 6
        have x7 := b1.cell 7
        simp at x0 x1 x2 x3 x4 x5 x6 x7
        have HT1 := Lib.hid hT1
        have hw1 : w.heap.size ≤ w1.heap.size := Nat.le_trans hwc G1.size
        have HLen : Hid (Rd.length + 1 ≤ L.length) := Lib.hid (by
          have := hlen.out
          have : 0 < Lr.length := List.length_pos_of_mem HI.out
          omega)
        have hrd : Rd.length ≤ 1000000 := by have := HF.out; have := hlen.out; omega
        clear k0 k1 k2 k3 k4 k5 k6 k7 hc3 ha bx HL HN HO HO2 b1 g1 hT1 tlc n0
        have hml : (Rd.map Prod.fst).length = Rd.length := List.length_map _
        go_wp2_with (at_builtin; refine wpList_app_s _ rfl _ _ rfl w.heap.size _ (Rd.map Prod.fst) rfl ?o w1.heap.size 0 1 s rfl ?c1 ?c2 ?c3 ?_)
        case o => exact own_tch (S := fun _ => False) O1.out (Tch.of ((Below.refl _ w1).alloc (Nat.le_refl _) _)) (fun _ _ _ x => x)
        case c1 =>
          intro j hj
          have z := (Blk.new w1 s.cs Tas).cell j
          rw [Nat.zero_add]; exact z
        case c2 => rw [hml]; omega
        case c3 => simp; omega
        intro g cap w2 own bel grow hg2
        have T2 : Hid (TabL w2 T (fun k => B k ∧ k < w.heap.size) m c (offL s.key Lr)) := Lib.hid ((HT1.out.below ((Below.refl _ w1).alloc (Nat.le_refl _) _)).keep (fun k hk hl => bel.block k hk.2))
        have G2 : Tch (fun k => B k ∧ k < w.heap.size) w w2 := (HG.out.trans G1).bel ((((Below.refl w.heap.size w1).alloc hw1 _)).trans bel)
        have OW := Lib.hid own
        clear own bel grow hg2 HT1 O1
        go_wp2
        go_roundw
        case rel => exact ⟨offL s.key Lr, Rd ++ [(s, d)], T2, HP, Lib.hid (fun x hx => by
          rcases List.mem_append.1 hx with hx | hx
          · exact hr.out x hx
          · rw [List.mem_singleton.1 hx]; exact hdc.out), by rw [List.map_append]; exact OW, G2⟩
        case measure =>
          have := HLen.out
          simp [lenV]; omega
end Go.Proofs.YtbejkcdaefkibaaGreat.Wd
namespace Go.Proofs.YtbejkcdaefkibaaGreat.Wd
open Go Go.RowKit Go.Shelf Go.Deep
set_option linter.unusedVariables false
set_option maxRecDepth 100000

/-- No FILL goes down by more than one each nanosecond. -/
theorem kfI_slow (k a b cap c c' : Int) (hk : Is3 k) (ha : U a) (hb : U b) (hc : U c) (hc' : U c') (hcap : U cap) (h : c ≤ c') : kfI k a b c cap - (c' - c) ≤ kfI k a b c' cap := by
  unfold U at *
  rcases hk with rfl | rfl | rfl
  · simp only [kfI, sbI]; (repeat' split) <;> omega
  · simp [kfI, biI, tkI, sbI]; (repeat' split) <;> omega
  · simp [kfI, fiI, sbI]; (repeat' split) <;> omega
/-- It never goes up. -/
theorem kfI_down (k a b cap c c' : Int) (hk : Is3 k) (ha : U a) (hb : U b) (hc : U c) (hc' : U c') (hcap : U cap) (h : c ≤ c') : kfI k a b c' cap ≤ kfI k a b c cap := by
  unfold U at *
  rcases hk with rfl | rfl | rfl
  · simp only [kfI, sbI]; (repeat' split) <;> omega
  · simp [kfI, biI, tkI, sbI]; (repeat' split) <;> omega
  · simp [kfI, fiI, sbI]; (repeat' split) <;> omega

/-- A slot is active. -/
def actB (c : Int) (s : Sl) : Bool := decide (0 < flS c s)
/-- Ahead of when it is due it is active. -/
def DueOk (c : Int) (x : Sl × Int) : Prop := 0 < flS c x.1 ∧ ∀ c', c ≤ c' → U c' → c' < x.2 → 0 < flS c' x.1
/-- A slot as a table keeps it. -/
structure Okt (c : Int) (s : Sl) : Prop where
  oks : Oks s
  key : rtB (lb s.key) = true
  rule : ruE s.r.p s.r.e s.r.b s.r.k = 0
  kind : Is3 s.k
  pos : 0 < flS c s
/-- What may be in a table. -/
structure Wf (m c : Int) (S : List Sl) : Prop where
  m1 : 1 ≤ m
  m2 : m ≤ 1000000
  cu : U c
  len : (S.length : Int) ≤ m
  ok : ∀ s ∈ S, Okt c s
  ap : S.Pairwise (fun x y => x.key ≠ y.key)
theorem Wf.perm {m c : Int} {S S' : List Sl} (h : Wf m c S) (p : S.Perm S') : Wf m c S' :=
  ⟨h.m1, h.m2, h.cu, by rw [← p.length_eq]; exact h.len, fun s hs => h.ok s (p.mem_iff.2 hs), (p.pairwise_iff (fun {_ _} hne => Ne.symm hne)).1 h.ap⟩
theorem capS_U {s : Sl} (h : Oks s) : U (capS s) := caI_U _ _ _ _ h.r.e h.r.b
theorem flS_U {c : Int} {s : Sl} (h : Oks s) (hc : U c) : U (flS c s) := kfI_U _ _ _ _ _ h.a h.b hc (capS_U h)
theorem flS_slow {c c' : Int} {s : Sl} (h : Oks s) (hk : Is3 s.k) (hc : U c) (hc' : U c') (hl : c ≤ c') : flS c s - (c' - c) ≤ flS c' s := kfI_slow _ _ _ _ _ _ hk h.a h.b hc hc' (capS_U h) hl
theorem flS_down {c c' : Int} {s : Sl} (h : Oks s) (hk : Is3 s.k) (hc : U c) (hc' : U c') (hl : c ≤ c') : flS c' s ≤ flS c s := kfI_down _ _ _ _ _ _ hk h.a h.b hc hc' (capS_U h) hl
theorem dueS_zero {c : Int} {s : Sl} (h : Oks s) (hc : U c) : dueS c s = 0 ↔ flS c s = 0 := by
  have := flS_U h hc
  unfold dueS kuI sat U at *
  (repeat' split) <;> omega
theorem dueS_ok {c : Int} {s : Sl} (h : Oks s) (hk : Is3 s.k) (hc : U c) (hp : 0 < flS c s) : DueOk c (s, dueS c s) := by
  refine ⟨hp, fun c' hl hc' hd => ?_⟩
  have := flS_slow h hk hc hc' hl
  have e : dueS c s = sat (c + flS c s) := by unfold dueS kuI; rw [if_neg (by omega)]
  rw [e] at hd
  have : sat (c + flS c s) ≤ c + flS c s := by unfold sat; split <;> omega
  have hd' : c' < sat (c + flS c s) := hd
  show 0 < flS c' s
  omega
theorem Okt.later {c c' : Int} {s : Sl} (h : Okt c s) (hp : 0 < flS c' s) : Okt c' s := ⟨h.oks, h.key, h.rule, h.kind, hp⟩

/-- A table in memory: as many as may be, its clock, who is active. -/
def Tbl (w : World) (T : Nat) (B : Nat → Prop) (m c : Int) (S : List Sl) : Prop := ∃ L, TabL w T B m c L ∧ (L.map Prod.fst).Perm S ∧ (∀ x ∈ L, DueOk c x) ∧ Wf m c S
theorem Tbl.wf {w : World} {T : Nat} {B : Nat → Prop} {m c : Int} {S : List Sl} (h : Tbl w T B m c S) : Wf m c S := by obtain ⟨L, _, _, _, h⟩ := h; exact h
theorem Tbl.perm {w : World} {T : Nat} {B : Nat → Prop} {m c : Int} {S S' : List Sl} (h : Tbl w T B m c S) (p : S.Perm S') : Tbl w T B m c S' := by
  obtain ⟨L, h1, h2, h3, h4⟩ := h
  exact ⟨L, h1, h2.trans p, h3, h4.perm p⟩
theorem Tbl.mono {w : World} {T : Nat} {B C : Nat → Prop} {m c : Int} {S : List Sl} (h : Tbl w T B m c S) (hs : ∀ k, B k → C k) : Tbl w T C m c S := by
  obtain ⟨L, h1, r⟩ := h
  exact ⟨L, h1.mono hs, r⟩
theorem Tbl.low {w : World} {T : Nat} {B : Nat → Prop} {m c : Int} {S : List Sl} (h : Tbl w T B m c S) : Tbl w T (fun k => B k ∧ k < w.heap.size) m c S := by
  obtain ⟨L, h1, r⟩ := h
  exact ⟨L, h1.low, r⟩
theorem Tbl.keep {w w' : World} {T : Nat} {B : Nat → Prop} {m c : Int} {S : List Sl} (h : Tbl w T B m c S) (hk : ∀ k, B k → k < w.heap.size → w'.heap[k]? = w.heap[k]?) : Tbl w' T B m c S := by
  obtain ⟨L, h1, r⟩ := h
  exact ⟨L, h1.keep hk, r⟩
theorem Tbl.below {w w' : World} {T : Nat} {B : Nat → Prop} {m c : Int} {S : List Sl} (h : Tbl w T B m c S) (g : Below w.heap.size w w') : Tbl w' T B m c S := h.keep (fun k _ hl => g.block k hl)
theorem Tbl.cells {w : World} {T : Nat} {B : Nat → Prop} {m c : Int} {S : List Sl} (h : Tbl w T B m c S) :
    w.cell? ⟨T, 0, none⟩ = some (.int .i64 m) ∧ w.cell? ⟨T, 1, none⟩ = some (.int .u64 c) ∧ w.frozen? ⟨T, 1, none⟩ = false ∧ T < w.heap.size := by
  obtain ⟨L, h1, r⟩ := h
  exact h1.cells
/-- Its clock is set: that is its block's alone. -/
theorem TabL.clock {w : World} {T : Nat} {B : Nat → Prop} {m c : Int} {L : List (Sl × Int)} (h : TabL w T B m c L) (c' : Int) :
    TabL (w.setCell ⟨T, 1, none⟩ (.int .u64 c')) T B m c' L ∧ Tch B w (w.setCell ⟨T, 1, none⟩ (.int .u64 c')) := by
  obtain ⟨M, F, bs, h1, e⟩ := h
  obtain ⟨v, hb⟩ := h1.top
  obtain ⟨q, hq, ho, hm⟩ := h1.que
  have tm := h1.tm
  have bT := hb.set 1 (.int .u64 c')
  refine ⟨⟨M, F, bs, ⟨⟨v, bT⟩, h1.map.kept (Below.heap_setCell _ _ _ _ (Ne.symm tm)), h1.inB, ⟨q, ?_, ho, hm⟩, h1.ap, h1.few, h1.keys⟩, e⟩, Tch.set w T 1 _ hq.top.1⟩
  refine ⟨?_, hq.mem, hq.top⟩
  rcases hq.que with ⟨A, cap, hQ, hA⟩ | ⟨h0, hn⟩
  · obtain ⟨cur, hc, r⟩ := hQ.row
    exact .inl ⟨A, cap, ⟨(cs_other _ _ _ _ _ _ (.inr (by omega))).trans hQ.var, ⟨cur, hc.other _ _ hQ.one, r⟩, hQ.few, fun i hi => (hQ.nd i hi).other _ _ (hQ.two i hi).2, hQ.inj, hQ.one, hQ.two⟩, hA⟩
  · exact .inr ⟨h0, (cs_other _ _ _ _ _ _ (.inr (by omega))).trans hn⟩
/-- What is kept anew are those who are active still. -/
theorem upd2_map {c : Int} : ∀ R : List (Sl × Int), (∀ x ∈ R, Oks x.1) → U c → (upd2 c R).map Prod.fst = (R.map Prod.fst).filter (actB c)
  | [], _, _ => rfl
  | x :: R, h, hc => by
    have ih := upd2_map R (fun y hy => h y (List.mem_cons_of_mem _ hy)) hc
    have hx := h x (List.mem_cons_self)
    have hz := dueS_zero hx hc
    have hU := flS_U hx hc
    unfold upd2 at ih ⊢
    rw [List.map_cons, List.filterMap_cons]
    by_cases z : dueS c x.1 = 0
    · rw [if_pos z, List.filter_cons_of_neg (by simp [actB, hz.1 z])]; exact ih
    · rw [if_neg z, List.filter_cons_of_pos (by
        have := fun e => z (hz.2 e)
        unfold U at hU
        simp only [actB, decide_eq_true_eq]; omega), List.map_cons, ih]
theorem swept {m c c' : Int} {S : List Sl} {L Lr Rd L' : List (Sl × Int)} (hp : (L.map Prod.fst).Perm S) (hd : ∀ x ∈ L, DueOk c x) (hw : Wf m c S) (hl : c ≤ c') (hc' : U c')
    (h1 : L.Perm (Lr ++ Rd)) (h2 : ∀ x ∈ Rd, x.2 ≤ c') (h3 : ∀ x ∈ Lr, c' < x.2) (h4 : L'.Perm (Lr ++ upd2 c' Rd)) :
    (L'.map Prod.fst).Perm (S.filter (actB c')) ∧ (∀ x ∈ L', DueOk c' x) ∧ Wf m c' (S.filter (actB c')) := by
  have okL : ∀ x ∈ L, Okt c x.1 := fun x hx => hw.ok _ (hp.mem_iff.1 (List.mem_map.2 ⟨x, hx, rfl⟩))
  have inR : ∀ x ∈ Rd, x ∈ L := fun x hx => h1.mem_iff.2 (List.mem_append_right _ hx)
  have inL : ∀ x ∈ Lr, x ∈ L := fun x hx => h1.mem_iff.2 (List.mem_append_left _ hx)
  have eR := upd2_map Rd (fun x hx => (okL x (inR x hx)).oks) hc'
  have eL : (Lr.map Prod.fst).filter (actB c') = Lr.map Prod.fst := by
    refine List.filter_eq_self.2 (fun s hs => ?_)
    obtain ⟨x, hx, rfl⟩ := List.mem_map.1 hs
    simp only [actB, decide_eq_true_eq]
    exact (hd x (inL x hx)).2 c' hl hc' (h3 x hx)
  have p1 : (L'.map Prod.fst).Perm (S.filter (actB c')) := by
    refine (h4.map Prod.fst).trans ?_
    rw [List.map_append, eR, ← eL, ← List.filter_append, ← List.map_append]
    exact (((h1.map Prod.fst).symm).trans hp).filter _
  have ok : ∀ s ∈ S.filter (actB c'), Okt c' s := fun s hs => by
    obtain ⟨a, b⟩ := List.mem_filter.1 hs
    exact (hw.ok s a).later (by simpa [actB] using b)
  refine ⟨p1, fun x hx => ?_, hw.m1, hw.m2, hc', ?_, ok, hw.ap.sublist List.filter_sublist⟩
  · rcases List.mem_append.1 (h4.mem_iff.1 hx) with hx | hx
    · exact ⟨(hd x (inL x hx)).2 c' hl hc' (h3 x hx), fun q hq hU hlt => (hd x (inL x hx)).2 q (by omega) hU hlt⟩
    · obtain ⟨y, hy, e⟩ := List.mem_filterMap.1 hx
      by_cases q : dueS c' y.1 = 0
      · rw [if_pos q] at e; cases e
      · rw [if_neg q] at e; injection e with e; subst e
        have o := okL y (inR y hy)
        refine dueS_ok o.oks o.kind hc' ?_
        have hU := flS_U o.oks hc'
        have hz : flS c' y.1 ≠ 0 := fun e => q ((dueS_zero o.oks hc').2 e)
        unfold U at hU
        omega
  · have : (S.filter (actB c')).length ≤ S.length := List.length_filter_le _ _
    have := hw.len
    omega
theorem Wf.app {m c : Int} {S : List Sl} (h : Wf m c S) : ApL (S.map (fun s => (s, (0 : Int)))) := List.pairwise_map.2 h.ap
end Go.Proofs.YtbejkcdaefkibaaGreat.Wd
namespace Go.Proofs.YtbejkcdaefkibaaGreat.Wd
open Go Go.RowKit Go.Shelf Go.Deep
set_option linter.unusedVariables false
set_option maxRecDepth 100000

/-- As many as may be. -/
def mostI (n : Int) : Int := min (max n 1) 1000000
theorem mostI_in (n : Int) : 1 ≤ mostI n ∧ mostI n ≤ 1000000 := by unfold mostI; omega
theorem Wf.none {m : Int} (h1 : 1 ≤ m) (h2 : m ≤ 1000000) : Wf m 0 [] := ⟨h1, h2, U_zero, by simp; omega, (fun s hs => nomatch hs), List.Pairwise.nil⟩
theorem TabL.none {w w' : World} {m : Int} (hk : w'.heap[w.heap.size]? = some (.map #[] 0)) (hT : Blk w' (w.heap.size + 1) #[.int .i64 m, .int .u64 0, .map (some w.heap.size), .slice none 0 0] TTab) :
    TabL w' (w.heap.size + 1) (fun k => w.heap.size ≤ k ∧ k < w'.heap.size) m 0 [] := by
  have hl := hT.lt
  refine ⟨w.heap.size, fun _ => (sl0, 0), [], ⟨⟨_, hT⟩, ?_, ⟨Nat.le_refl _, by omega⟩, ⟨fun _ => 0, ⟨.inr ⟨rfl, hT.cell 3⟩, fun i hi => absurd hi (Nat.not_lt_zero _), ⟨⟨by omega, by omega⟩, by omega⟩⟩, fun k _ hk => absurd hk (Nat.not_lt_zero _), fun x => ⟨fun ⟨k, hk, _⟩ => absurd hk (Nat.not_lt_zero _), fun h => nomatch h⟩⟩, List.Pairwise.nil, by simp, fun b hb => nomatch hb⟩, rfl⟩
  obtain ⟨e, c, hb, r⟩ := World.ownsMap_made (H := Unit) w Tryz.prog Tstr ptrR
  have e1 : (w.alloc (.map #[] 0)).heap[w.heap.size]? = some (.map #[] 0) := World.alloc_heap_new w _
  rw [e1] at hb
  injection hb with hb
  injection hb with hb1 hb2
  subst hb1; subst hb2
  exact ⟨[], ⟨_, _, hk, r⟩, List.Perm.refl _⟩

theorem new_any (n : Int) (w : World) :
    Calls Tryz.prog 23 #[.int .i64 n] w fun e w' => e = .returned (ptr (w.heap.size + 1)) ∧ Below w.heap.size w w' ∧ Tbl w' (w.heap.size + 1) (fun k => w.heap.size ≤ k ∧ k < w'.heap.size) (mostI n) 0 [] ∧ w.heap.size + 2 ≤ w'.heap.size := by
  have hm := mostI_in n
  have hmm := @run_makeMap Tryz.prog
  have hs : (w.alloc (.map #[] 0)).heap.size = w.heap.size + 1 := by simp
  have kb : Below w.heap.size w (w.alloc (.map #[] 0)) := (Below.refl _ w).alloc (Nat.le_refl _) _
  have hn : (w.alloc (.map #[] 0)).heap[w.heap.size]? = some (.map #[] 0) := World.alloc_heap_new w _
  go_enter Tryz.func23, Tryz.ntmps23
  go_wp2
  go_ret
  generalize w.alloc (.map #[] 0) = W at *
  have k2 : Below w.heap.size w (W.alloc (.cells #[.int .i64 (mostI n), .int .u64 0, .map (some w.heap.size), .slice none 0 0] TTab)) := kb.alloc (by omega) _
  refine ⟨rfl, k2, ⟨[], TabL.none ?_ ?_, List.Perm.refl _, (fun x hx => nomatch hx), Wf.none hm.1 hm.2⟩, by simp; omega⟩
  · exact (al_old W _ (by omega)).trans hn
  · have := Blk.new W #[.int .i64 (mostI n), .int .u64 0, .map (some w.heap.size), .slice none 0 0] TTab
    rw [hs] at this
    exact this

theorem ornew_yes (T : Nat) (w : World) : Calls Tryz.prog 64 #[ptr T] w fun e w' => e = .returned (ptr T) ∧ w = w' := by
  go_enter Tryz.func64, Tryz.ntmps64
  go_wp2
  go_ret
  exact ⟨rfl, rfl⟩
theorem ornew_no (w : World) : Calls Tryz.prog 64 #[.pointer none] w fun e w' => e = .returned (ptr (w.heap.size + 1)) ∧ Below w.heap.size w w' ∧ Tbl w' (w.heap.size + 1) (fun k => w.heap.size ≤ k ∧ k < w'.heap.size) 1 0 [] ∧ w.heap.size + 2 ≤ w'.heap.size := by
  have C := Lib.hid (new_any 1 w)
  go_enter Tryz.func64, Tryz.ntmps64
  go_wp2_with (go_at_call 23; refine C.out.mono ?_; rintro e w1 ⟨rfl, hb, ht, hs⟩)
  go_ret
  exact ⟨rfl, hb, ht, hs⟩

theorem clock_yes (T : Nat) (c : Int) (w : World) (h : w.cell? ⟨T, 1, none⟩ = some (.int .u64 c)) : Calls Tryz.prog 29 #[ptr T] w fun e w' => e = .returned (.int .u64 c) ∧ w = w' := by
  have C := Lib.hid (ornew_yes T)
  go_enter Tryz.func29, Tryz.ntmps29
  go_wp2_with (go_at_call 64; refine (C.out _).mono ?_; rintro e w1 ⟨rfl, rfl⟩)
  go_ret
  exact ⟨rfl, rfl⟩

/-- What is wrong with a key and its rule. -/
def wkE (k : ByteArray) (r : Rl) : Int := if rtB (lb k) = true then ruE r.p r.e r.b r.k else 12
theorem wrongkey_any (k : ByteArray) (r : Rl) (w : World) (hk : k.size ≤ 9223372036854775807) (hr : Okr r) :
    Calls Tryz.prog 81 #[.string k, r.v] w fun e w' => e = .returned (.int .u16 (wkE k r)) ∧ Below w.heap.size w w' := by
  have C := Lib.hid (fun W => kright_any k W hk)
  have C2 := Lib.hid (fun W => right_any r.p r.e r.b r.k W (by have := hr.p; omega) hr.e hr.b)
  unfold wkE
  have k0 := (Below.refl _ w).alloc (Nat.le_refl _) (.cells #[.string r.p, .int .u64 r.e, .int .u64 r.b, .int .u8 r.k] 79)
  cases hb : rtB (lb k)
  · rw [hb] at C
    go_enter Tryz.func81, Tryz.ntmps81
    go_wp2_with (go_at_call 112; refine (C.out _).mono ?_; rintro e w1 ⟨rfl, rfl⟩)
    go_ret
    exact ⟨rfl, k0⟩
  · rw [hb] at C
    go_enter Tryz.func81, Tryz.ntmps81
    go_wp2_with (first
      | (go_at_call 112; refine (C.out _).mono ?_; rintro e w1 ⟨rfl, rfl⟩)
      | (go_at_call 106; refine (C2.out _).mono ?_; rintro e w1 ⟨rfl, _, g⟩))
    go_ret
    exact ⟨rfl, kbq k0 g⟩

theorem Blk.eight {w : World} {b : Nat} {s : Sl} {t : TypeId} (h : Blk w b s.cs t) : w.cell? ⟨b, 0, none⟩ = some (.string s.key) ∧ w.cell? ⟨b, 1, none⟩ = some (.string s.r.p) ∧ w.cell? ⟨b, 2, none⟩ = some (.int .u64 s.r.e) ∧ w.cell? ⟨b, 3, none⟩ = some (.int .u64 s.r.b) ∧ w.cell? ⟨b, 4, none⟩ = some (.int .u8 s.r.k) ∧ w.cell? ⟨b, 5, none⟩ = some (.int .u8 s.k) ∧ w.cell? ⟨b, 6, none⟩ = some (.int .u64 s.a) ∧ w.cell? ⟨b, 7, none⟩ = some (.int .u64 s.b) :=
  ⟨h.cell 0, h.cell 1, h.cell 2, h.cell 3, h.cell 4, h.cell 5, h.cell 6, h.cell 7⟩
set_option maxHeartbeats 1000000 in
theorem own_any (s : Sl) (w : World) (hk : s.key.size ≤ 281474976710656) (hp : s.r.p.size ≤ 281474976710656) :
    Calls Tryz.prog 79 #[s.v] w fun e w' => e = .returned s.v ∧ Below w.heap.size w w' := by
  have C1 := Lib.hid (fun W => clone_any s.key W hk)
  have C2 := Lib.hid (fun W => clone_any s.r.p W hp)
  go_enter Tryz.func79, Tryz.ntmps79
  go_wp2_with (go_at_call 69; refine (C1.out _).mono ?_; rintro e w1 ⟨rfl, g1⟩; refine stopHere ?_)
  unfold Stop
  have b0 := Lib.hid ((((Blk.new w s.cs Tas).alloc _).below g1))
  have r0 := Lib.hid ((Blk.new (w.alloc (.cells s.cs Tas)) #[.string ⟨#[]⟩, .string ⟨#[]⟩, .int .u64 0, .int .u64 0, .int .u8 0, .int .u8 0, .int .u64 0, .int .u64 0] Tas).below g1)
  have h1 := g1.size
  have hs0 : ((w.alloc (.cells s.cs Tas)).alloc (.cells #[.string ⟨#[]⟩, .string ⟨#[]⟩, .int .u64 0, .int .u64 0, .int .u8 0, .int .u8 0, .int .u64 0, .int .u64 0] Tas)).heap.size = w.heap.size + 2 := by simp
  rw [hs0] at h1
  have k1 := Lib.hid (kbq (((Below.refl _ w).alloc (Nat.le_refl _) (.cells s.cs Tas)).alloc (by simp) (.cells #[.string ⟨#[]⟩, .string ⟨#[]⟩, .int .u64 0, .int .u64 0, .int .u8 0, .int .u8 0, .int .u64 0, .int .u64 0] Tas)) g1)
  rw [show (w.alloc (.cells s.cs Tas)).heap.size = w.heap.size + 1 by simp] at r0
  obtain ⟨x0, x1, x2, x3, x4, x5, x6, x7⟩ := b0.out.eight
  have f0 := b0.out.fz 0
  clear g1 C1
  go_wp2_with (go_at_call 69; refine (C2.out _).mono ?_; rintro e w2 ⟨rfl, g2⟩; refine stopHere ?_)
  unfold Stop
  have b2 := Lib.hid ((b0.out.set 0 (.string s.key)).below g2)
  have r2 := Lib.hid ((r0.out.other 0 (.string s.key) (show w.heap.size + 1 ≠ w.heap.size by omega)).below g2)
  have k2 := Lib.hid (kbq (k1.out.setCell (p := ⟨w.heap.size, 0, none⟩) (Nat.le_refl _) (.string s.key)) g2)
  clear x0 x1 x2 x3 x4 x5 x6 x7 f0 g2 b0 r0 k1
  obtain ⟨x0, x1, x2, x3, x4, x5, x6, x7⟩ := (show Blk w2 w.heap.size s.cs Tas from b2.out).eight
  have f1 := b2.out.fz 1
  have y0 := r2.out.cell 0
  have y1 := r2.out.cell 1
  have y2 := r2.out.cell 2
  have y3 := r2.out.cell 3
  have y4 := r2.out.cell 4
  have y5 := r2.out.cell 5
  have y6 := r2.out.cell 6
  have y7 := r2.out.cell 7
  have e0 := r2.out.fz 0
  have e1 := r2.out.fz 1
  have e2 := r2.out.fz 2
  have e3 := r2.out.fz 3
  have e4 := r2.out.fz 4
  have e5 := r2.out.fz 5
  have e6 := r2.out.fz 6
  have e7 := r2.out.fz 7
  simp at y0 y1 y2 y3 y4 y5 y6 y7
  go_wp2
  have z := ((((((((r2.out.other (c := w.heap.size) 1 (.string s.r.p) (by omega)).set 0 (.string s.key)).set 1 (.string s.r.p)).set 2 (.int .u64 s.r.e)).set 3 (.int .u64 s.r.b)).set 4 (.int .u8 s.r.k)).set 5 (.int .u8 s.k)).set 6 (.int .u64 s.a)).set 7 (.int .u64 s.b)
  have kZ := ((((((((k2.out.setCell (p := ⟨w.heap.size, 1, none⟩) (Nat.le_refl _) (.string s.r.p)).setCell (p := ⟨w.heap.size + 1, 0, none⟩) (Nat.le_succ _) (.string s.key)).setCell (p := ⟨w.heap.size + 1, 1, none⟩) (Nat.le_succ _) (.string s.r.p)).setCell (p := ⟨w.heap.size + 1, 2, none⟩) (Nat.le_succ _) (.int .u64 s.r.e)).setCell (p := ⟨w.heap.size + 1, 3, none⟩) (Nat.le_succ _) (.int .u64 s.r.b)).setCell (p := ⟨w.heap.size + 1, 4, none⟩) (Nat.le_succ _) (.int .u8 s.r.k)).setCell (p := ⟨w.heap.size + 1, 5, none⟩) (Nat.le_succ _) (.int .u8 s.k)).setCell (p := ⟨w.heap.size + 1, 6, none⟩) (Nat.le_succ _) (.int .u64 s.a)).setCell (p := ⟨w.heap.size + 1, 7, none⟩) (Nat.le_succ _) (.int .u64 s.b)
  obtain ⟨q0, q1, q2, q3, q4, q5, q6, q7⟩ := (show Blk _ (w.heap.size + 1) s.cs Tas from z).eight
  generalize ((((((((w2.setCell ⟨w.heap.size, 1, none⟩ (.string s.r.p)).setCell ⟨w.heap.size + 1, 0, none⟩ (.string s.key)).setCell ⟨w.heap.size + 1, 1, none⟩ (.string s.r.p)).setCell ⟨w.heap.size + 1, 2, none⟩ (.int .u64 s.r.e)).setCell ⟨w.heap.size + 1, 3, none⟩ (.int .u64 s.r.b)).setCell ⟨w.heap.size + 1, 4, none⟩ (.int .u8 s.r.k)).setCell ⟨w.heap.size + 1, 5, none⟩ (.int .u8 s.k)).setCell ⟨w.heap.size + 1, 6, none⟩ (.int .u64 s.a)).setCell ⟨w.heap.size + 1, 7, none⟩ (.int .u64 s.b) = W at *
  refine bodyPost_ret (v := s.v) ?_ rfl ⟨rfl, kZ⟩
  simp [results, Tryz.results79, go_sem, q0, q1, q2, q3, q4, q5, q6, q7]
end Go.Proofs.YtbejkcdaefkibaaGreat.Wd
namespace Go.Proofs.YtbejkcdaefkibaaGreat.Wd
open Go Go.RowKit Go.Shelf Go.Deep
set_option linter.unusedVariables false
set_option maxRecDepth 100000

theorem act_all {m c : Int} {S : List Sl} (h : Wf m c S) : S.filter (actB c) = S := List.filter_eq_self.2 (fun s hs => by simpa [actB] using (h.ok s hs).pos)
theorem tick_any (T : Nat) (B : Nat → Prop) (m c x : Int) (S : List Sl) (w : World) (h : Tbl w T B m c S) (hx : U x) :
    Calls Tryz.prog 43 #[ptr T, .int .u64 x] w fun e w' => e = .returned (.int .u64 (max c x)) ∧ Tch B w w' ∧ Tbl w' T (Nx B w) m (max c x) (S.filter (actB (max c x))) := by
  obtain ⟨c0, c1, cf, ct⟩ := h.cells
  by_cases hxc : c < x
  · have hq : decide (c < x) = true := decide_eq_true hxc
    rw [show max c x = x by omega]
    obtain ⟨L, h1, h2, h3, h4⟩ := h
    obtain ⟨k1, k2⟩ := h1.clock x
    have C := Lib.hid (sweep_any T B m x L _ k1 (fun y hy => (h4.ok _ (h2.mem_iff.1 (List.mem_map.2 ⟨y, hy, rfl⟩))).oks) hx)
    have HK := Lib.hid k2
    have H := Lib.hid (show (L.map Prod.fst).Perm S ∧ (∀ y ∈ L, DueOk c y) ∧ Wf m c S ∧ c ≤ x from ⟨h2, h3, h4, by omega⟩)
    have hsz : (w.setCell ⟨T, 1, none⟩ (.int .u64 x)).heap.size = w.heap.size := by simp
    clear h1 h2 h3 h4 k1 k2 hxc
    go_enter Tryz.func43, Tryz.ntmps43
    go_wp2_with (go_at_call 80; refine C.out.mono ?_; rintro e w1 ⟨rfl, g1, Lr, Rd, L', p1, p2, p3, p4, p5⟩; have u1 := p4.cells.2.1; have HP := Lib.hid (And.intro g1 (And.intro p1 (And.intro p2 (And.intro p3 (And.intro p4 p5))))); clear g1 p1 p2 p3 p4 p5 c1 c0)
    go_ret
    obtain ⟨g1, p1, p2, p3, p4, p5⟩ := HP.out
    obtain ⟨q1, q2, q3⟩ := swept H.out.1 H.out.2.1 H.out.2.2.1 H.out.2.2.2 hx p1 p2 p3 p5
    refine ⟨rfl, HK.out.trans g1, L', p4.mono (fun k hk => ?_), q1, q2, q3⟩
    rcases hk with hk | hk
    · exact .inl hk
    · exact .inr (by rw [hsz] at hk; exact hk)
  · have hq : decide (c < x) = false := decide_eq_false hxc
    have hm : max c x = c := by omega
    rw [hm, act_all h.wf]
    have H := Lib.hid h
    clear h hxc hm
    go_enter Tryz.func43, Tryz.ntmps43
    go_wp2
    go_ret
    exact ⟨rfl, Tch.refl _ _, H.out.mono (fun k hk => .inl hk)⟩
theorem tick_none (x : Int) (w : World) : Calls Tryz.prog 43 #[.pointer none, .int .u64 x] w fun e w' => e = .returned (.int .u64 0) ∧ w = w' := by
  go_enter Tryz.func43, Tryz.ntmps43
  go_wp2
  go_ret
  exact ⟨rfl, rfl⟩
end Go.Proofs.YtbejkcdaefkibaaGreat.Wd
namespace Go.Proofs.YtbejkcdaefkibaaGreat.Wd
open Go Go.RowKit Go.Shelf Go.Deep
set_option linter.unusedVariables false
set_option maxRecDepth 100000

/-- Who has a key. -/
def getS (S : List Sl) (k : ByteArray) : Option Sl := S.find? (fun s => decide (s.key = k))
/-- All others. -/
def offS (k : ByteArray) (S : List Sl) : List Sl := S.filter (fun s => decide (s.key ≠ k))
theorem getS_some {S : List Sl} {k : ByteArray} {s : Sl} (h : getS S k = some s) : s ∈ S ∧ s.key = k := ⟨List.mem_of_find?_eq_some h, by have := List.find?_some h; simpa using this⟩
theorem getS_none {S : List Sl} {k : ByteArray} : getS S k = none ↔ ∀ s ∈ S, s.key ≠ k := by
  unfold getS; rw [List.find?_eq_none]; simp
theorem pw_one {S : List Sl} (h : S.Pairwise (fun x y => x.key ≠ y.key)) {b c : Sl} (hb : b ∈ S) (hc : c ∈ S) (e : b.key = c.key) : b = c := by
  induction S with
  | nil => cases hb
  | cons x xs ih =>
    obtain ⟨h1, h2⟩ := List.pairwise_cons.1 h
    rcases List.mem_cons.1 hb with eb | hb'
    · rcases List.mem_cons.1 hc with ec | hc'
      · exact eb.trans ec.symm
      · exact absurd (eb ▸ e) (h1 c hc')
    · rcases List.mem_cons.1 hc with ec | hc'
      · exact absurd (ec ▸ e).symm (h1 b hb')
      · exact ih h2 hb' hc'
theorem getS_of {S : List Sl} {k : ByteArray} {s : Sl} (h : S.Pairwise (fun x y => x.key ≠ y.key)) (hs : s ∈ S) (hk : s.key = k) : getS S k = some s := by
  cases e : getS S k with
  | none => exact absurd hk (getS_none.1 e s hs)
  | some t =>
    obtain ⟨h1, h2⟩ := getS_some e
    rw [pw_one h h1 hs (h2.trans hk.symm)]
/-- Who is looked up in a table. -/
theorem Tbl.look {w : World} {T : Nat} {B : Nat → Prop} {m c : Int} {S : List Sl} (h : Tbl w T B m c S) (k : ByteArray) (hk : k.size ≤ 9223372036854775807) :
    ∃ M, M < w.heap.size ∧ w.cell? ⟨T, 2, none⟩ = some (.map (some M)) ∧ (∀ w1 : World, w1.heap[M]? = w.heap[M]? → ∀ ty, (Builtin.len_ #[Tmap] ty #[.map (some M)]).run Tryz.prog w1 = .ok (.int .i64 S.length) w1) ∧
      ((getS S k = none ∧ ∀ w1 : World, w1.heap[M]? = w.heap[M]? → (Instr.lookup Tmap (.map (some M)) (.string k) true).run Tryz.prog w1 = .ok (.tuple #[.pointer none, .bool false]) w1) ∨
       ∃ s b d i, getS S k = some s ∧ (∀ w1 : World, w1.heap[M]? = w.heap[M]? → (Instr.lookup Tmap (.map (some M)) (.string k) true).run Tryz.prog w1 = .ok (.tuple #[ptr b, .bool true]) w1) ∧ Blk w b (kcs (s, d) i) Tsl) := by
  obtain ⟨L, ⟨M, F, bs, h1, hL⟩, hp, hd, hw⟩ := h
  subst hL
  rw [List.map_map] at hp
  have hlen : S.length = bs.length := by rw [← hp.length_eq, List.length_map]
  refine ⟨M, h1.map.lt, h1.cells.2.2.1, fun w1 e ty => by rw [hlen]; exact (h1.map.kept e).len ty, ?_⟩
  by_cases hh : Has F bs k
  · right
    obtain ⟨b, hb, e⟩ := hh
    obtain ⟨q, hq, ho, hm⟩ := h1.que
    obtain ⟨i, hi, eb⟩ := (hm b).2 hb
    have hin : (F b).1 ∈ S := hp.mem_iff.1 (List.mem_map.2 ⟨b, hb, rfl⟩)
    refine ⟨(F b).1, b, (F b).2, i, getS_of hw.ap hin e, fun w1 e1 => (h1.map.kept e1).look_yes h1.ap hk hb e, ?_⟩
    rcases hq.que with ⟨A, cap, hQ, hA⟩ | ⟨h0, _⟩
    · have := hQ.nd i hi; rw [eb] at this; exact this
    · omega
  · left
    refine ⟨getS_none.2 (fun s hs e => hh ?_), fun w1 e1 => (h1.map.kept e1).look_no hk hh⟩
    obtain ⟨b, hb, eb⟩ := List.mem_map.1 (hp.mem_iff.2 hs)
    exact ⟨b, hb, by rw [← e, ← eb]; rfl⟩
theorem kcs_cells {w : World} {b : Nat} {s : Sl} {d i : Int} (h : Blk w b (kcs (s, d) i) Tsl) : w.cell? ⟨b, 0, none⟩ = some (.string s.key) ∧ w.cell? ⟨b, 1, none⟩ = some (.string s.r.p) ∧ w.cell? ⟨b, 2, none⟩ = some (.int .u64 s.r.e) ∧ w.cell? ⟨b, 3, none⟩ = some (.int .u64 s.r.b) ∧ w.cell? ⟨b, 4, none⟩ = some (.int .u8 s.r.k) ∧ w.cell? ⟨b, 5, none⟩ = some (.int .u8 s.k) ∧ w.cell? ⟨b, 6, none⟩ = some (.int .u64 s.a) ∧ w.cell? ⟨b, 7, none⟩ = some (.int .u64 s.b) :=
  ⟨h.cell 0, h.cell 1, h.cell 2, h.cell 3, h.cell 4, h.cell 5, h.cell 6, h.cell 7⟩

/-- A state, as data. -/
structure St where
  k : Int
  a : Int
  b : Int
abbrev St.v (s : St) : Value := sta s.k s.a s.b
/-- How full a key may be by a rule. -/
abbrev capR (r : Rl) : Int := caI r.p r.e r.b r.k
theorem capR_U {r : Rl} (h : Okr r) : U (capR r) := caI_U _ _ _ _ h.e h.b
/-- What is kept of a key, or an empty state. -/
def stOf (c : Int) (r : Rl) : Option Sl → St
  | some s => ⟨s.k, s.a, s.b⟩
  | none => ⟨koK r.k, koA r.k c (capR r) 0, koB r.k c⟩
theorem tb {Q : Nat → Prop} {W a b : World} (kr : Tch Q W a) (g : Below a.heap.size a b) : Tch Q W b := kr.bel (g.mono kr.size)
theorem td {Q : Nat → Prop} {W a : World} (kr : Tch Q W a) : Tch Q W a.drew := kr.trans (Drew.tch ⟨1, rfl⟩)
theorem ta {Q : Nat → Prop} {W a : World} {o : Obj} (kr : Tch Q W a) : Tch Q W (a.alloc o) := tb kr ((Below.refl _ a).alloc (Nat.le_refl _) o)
theorem tset {Q : Nat → Prop} {W a : World} {X i : Nat} {v : Value} (kr : Tch Q W a) (h : Q X ∨ W.heap.size ≤ X) : Tch Q W (a.setCell ⟨X, i, none⟩ v) := kr.next (Tch.set a X i v h)
theorem Blk.dr {w : World} {b : Nat} {cs : Array Value} {t : TypeId} (h : Blk w b cs t) : Blk w.drew b cs t := h
theorem ts3 {Q : Nat → Prop} {W w : World} {X : Nat} {p0 p1 p2 : Value} (kr : Tch Q W w) (h : Q X ∨ W.heap.size ≤ X) : Tch Q W (((w.setCell ⟨X, 0, none⟩ p0).setCell ⟨X, 1, none⟩ p1).setCell ⟨X, 2, none⟩ p2) := (tset (tset (tset kr h) h) h)
theorem sc3 {w : World} {X b i : Nat} {v p0 p1 p2 : Value} (h : w.cell? ⟨b, i, none⟩ = some v) (hb : b ≠ X) : (((w.setCell ⟨X, 0, none⟩ p0).setCell ⟨X, 1, none⟩ p1).setCell ⟨X, 2, none⟩ p2).cell? ⟨b, i, none⟩ = some v := ((cs_other _ _ _ _ _ _ (.inl hb)).trans ((cs_other _ _ _ _ _ _ (.inl hb)).trans ((cs_other _ _ _ _ _ _ (.inl hb)).trans h)))
theorem blk3 {w : World} {b : Nat} {p0 p1 p2 : Value} {t : TypeId} (h : Blk w b #[p0, p1, p2] t) : w.cell? ⟨b, 0, none⟩ = some p0 ∧ w.cell? ⟨b, 1, none⟩ = some p1 ∧ w.cell? ⟨b, 2, none⟩ = some p2 ∧ w.frozen? ⟨b, 0, none⟩ = false ∧ w.frozen? ⟨b, 1, none⟩ = false ∧ w.frozen? ⟨b, 2, none⟩ = false := ⟨h.cell 0, h.cell 1, h.cell 2, h.fz 0, h.fz 1, h.fz 2⟩
theorem bset3 {w : World} {X : Nat} {p0 p1 p2 c0 c1 c2 : Value} {t : TypeId} (h : Blk w X #[c0, c1, c2] t) : Blk (((w.setCell ⟨X, 0, none⟩ p0).setCell ⟨X, 1, none⟩ p1).setCell ⟨X, 2, none⟩ p2) X #[p0, p1, p2] t := by
  have z := (((h.set 0 p0).set 1 p1).set 2 p2)
  simp only [List.setIfInBounds_toArray, List.set_cons_zero, List.set_cons_succ] at z
  exact z
theorem ts4 {Q : Nat → Prop} {W w : World} {X : Nat} {p0 p1 p2 p3 : Value} (kr : Tch Q W w) (h : Q X ∨ W.heap.size ≤ X) : Tch Q W ((((w.setCell ⟨X, 0, none⟩ p0).setCell ⟨X, 1, none⟩ p1).setCell ⟨X, 2, none⟩ p2).setCell ⟨X, 3, none⟩ p3) := (tset (tset (tset (tset kr h) h) h) h)
theorem sc4 {w : World} {X b i : Nat} {v p0 p1 p2 p3 : Value} (h : w.cell? ⟨b, i, none⟩ = some v) (hb : b ≠ X) : ((((w.setCell ⟨X, 0, none⟩ p0).setCell ⟨X, 1, none⟩ p1).setCell ⟨X, 2, none⟩ p2).setCell ⟨X, 3, none⟩ p3).cell? ⟨b, i, none⟩ = some v := ((cs_other _ _ _ _ _ _ (.inl hb)).trans ((cs_other _ _ _ _ _ _ (.inl hb)).trans ((cs_other _ _ _ _ _ _ (.inl hb)).trans ((cs_other _ _ _ _ _ _ (.inl hb)).trans h))))
theorem blk4 {w : World} {b : Nat} {p0 p1 p2 p3 : Value} {t : TypeId} (h : Blk w b #[p0, p1, p2, p3] t) : w.cell? ⟨b, 0, none⟩ = some p0 ∧ w.cell? ⟨b, 1, none⟩ = some p1 ∧ w.cell? ⟨b, 2, none⟩ = some p2 ∧ w.cell? ⟨b, 3, none⟩ = some p3 ∧ w.frozen? ⟨b, 0, none⟩ = false ∧ w.frozen? ⟨b, 1, none⟩ = false ∧ w.frozen? ⟨b, 2, none⟩ = false ∧ w.frozen? ⟨b, 3, none⟩ = false := ⟨h.cell 0, h.cell 1, h.cell 2, h.cell 3, h.fz 0, h.fz 1, h.fz 2, h.fz 3⟩
theorem bset4 {w : World} {X : Nat} {p0 p1 p2 p3 c0 c1 c2 c3 : Value} {t : TypeId} (h : Blk w X #[c0, c1, c2, c3] t) : Blk ((((w.setCell ⟨X, 0, none⟩ p0).setCell ⟨X, 1, none⟩ p1).setCell ⟨X, 2, none⟩ p2).setCell ⟨X, 3, none⟩ p3) X #[p0, p1, p2, p3] t := by
  have z := ((((h.set 0 p0).set 1 p1).set 2 p2).set 3 p3)
  simp only [List.setIfInBounds_toArray, List.set_cons_zero, List.set_cons_succ] at z
  exact z
theorem ts10 {Q : Nat → Prop} {W w : World} {X : Nat} {p0 p1 p2 p3 p4 p5 p6 p7 p8 p9 : Value} (kr : Tch Q W w) (h : Q X ∨ W.heap.size ≤ X) : Tch Q W ((((((((((w.setCell ⟨X, 0, none⟩ p0).setCell ⟨X, 1, none⟩ p1).setCell ⟨X, 2, none⟩ p2).setCell ⟨X, 3, none⟩ p3).setCell ⟨X, 4, none⟩ p4).setCell ⟨X, 5, none⟩ p5).setCell ⟨X, 6, none⟩ p6).setCell ⟨X, 7, none⟩ p7).setCell ⟨X, 8, none⟩ p8).setCell ⟨X, 9, none⟩ p9) := (tset (tset (tset (tset (tset (tset (tset (tset (tset (tset kr h) h) h) h) h) h) h) h) h) h)
theorem sc10 {w : World} {X b i : Nat} {v p0 p1 p2 p3 p4 p5 p6 p7 p8 p9 : Value} (h : w.cell? ⟨b, i, none⟩ = some v) (hb : b ≠ X) : ((((((((((w.setCell ⟨X, 0, none⟩ p0).setCell ⟨X, 1, none⟩ p1).setCell ⟨X, 2, none⟩ p2).setCell ⟨X, 3, none⟩ p3).setCell ⟨X, 4, none⟩ p4).setCell ⟨X, 5, none⟩ p5).setCell ⟨X, 6, none⟩ p6).setCell ⟨X, 7, none⟩ p7).setCell ⟨X, 8, none⟩ p8).setCell ⟨X, 9, none⟩ p9).cell? ⟨b, i, none⟩ = some v := ((cs_other _ _ _ _ _ _ (.inl hb)).trans ((cs_other _ _ _ _ _ _ (.inl hb)).trans ((cs_other _ _ _ _ _ _ (.inl hb)).trans ((cs_other _ _ _ _ _ _ (.inl hb)).trans ((cs_other _ _ _ _ _ _ (.inl hb)).trans ((cs_other _ _ _ _ _ _ (.inl hb)).trans ((cs_other _ _ _ _ _ _ (.inl hb)).trans ((cs_other _ _ _ _ _ _ (.inl hb)).trans ((cs_other _ _ _ _ _ _ (.inl hb)).trans ((cs_other _ _ _ _ _ _ (.inl hb)).trans h))))))))))
theorem blk10 {w : World} {b : Nat} {p0 p1 p2 p3 p4 p5 p6 p7 p8 p9 : Value} {t : TypeId} (h : Blk w b #[p0, p1, p2, p3, p4, p5, p6, p7, p8, p9] t) : w.cell? ⟨b, 0, none⟩ = some p0 ∧ w.cell? ⟨b, 1, none⟩ = some p1 ∧ w.cell? ⟨b, 2, none⟩ = some p2 ∧ w.cell? ⟨b, 3, none⟩ = some p3 ∧ w.cell? ⟨b, 4, none⟩ = some p4 ∧ w.cell? ⟨b, 5, none⟩ = some p5 ∧ w.cell? ⟨b, 6, none⟩ = some p6 ∧ w.cell? ⟨b, 7, none⟩ = some p7 ∧ w.cell? ⟨b, 8, none⟩ = some p8 ∧ w.cell? ⟨b, 9, none⟩ = some p9 ∧ w.frozen? ⟨b, 0, none⟩ = false ∧ w.frozen? ⟨b, 1, none⟩ = false ∧ w.frozen? ⟨b, 2, none⟩ = false ∧ w.frozen? ⟨b, 3, none⟩ = false ∧ w.frozen? ⟨b, 4, none⟩ = false ∧ w.frozen? ⟨b, 5, none⟩ = false ∧ w.frozen? ⟨b, 6, none⟩ = false ∧ w.frozen? ⟨b, 7, none⟩ = false ∧ w.frozen? ⟨b, 8, none⟩ = false ∧ w.frozen? ⟨b, 9, none⟩ = false := ⟨h.cell 0, h.cell 1, h.cell 2, h.cell 3, h.cell 4, h.cell 5, h.cell 6, h.cell 7, h.cell 8, h.cell 9, h.fz 0, h.fz 1, h.fz 2, h.fz 3, h.fz 4, h.fz 5, h.fz 6, h.fz 7, h.fz 8, h.fz 9⟩
theorem bset10 {w : World} {X : Nat} {p0 p1 p2 p3 p4 p5 p6 p7 p8 p9 c0 c1 c2 c3 c4 c5 c6 c7 c8 c9 : Value} {t : TypeId} (h : Blk w X #[c0, c1, c2, c3, c4, c5, c6, c7, c8, c9] t) : Blk ((((((((((w.setCell ⟨X, 0, none⟩ p0).setCell ⟨X, 1, none⟩ p1).setCell ⟨X, 2, none⟩ p2).setCell ⟨X, 3, none⟩ p3).setCell ⟨X, 4, none⟩ p4).setCell ⟨X, 5, none⟩ p5).setCell ⟨X, 6, none⟩ p6).setCell ⟨X, 7, none⟩ p7).setCell ⟨X, 8, none⟩ p8).setCell ⟨X, 9, none⟩ p9) X #[p0, p1, p2, p3, p4, p5, p6, p7, p8, p9] t := by
  have z := ((((((((((h.set 0 p0).set 1 p1).set 2 p2).set 3 p3).set 4 p4).set 5 p5).set 6 p6).set 7 p7).set 8 p8).set 9 p9)
  simp only [List.setIfInBounds_toArray, List.set_cons_zero, List.set_cons_succ] at z
  exact z
theorem cell2 {w : World} {o o2 : Obj} {b i : Nat} {v : Value} (h : w.cell? ⟨b, i, none⟩ = some v) : ((w.alloc o).alloc o2).cell? ⟨b, i, none⟩ = some v := acell (acell h)
theorem heap2 {w : World} {o o2 : Obj} {M : Nat} (h : M < w.heap.size) : ((w.alloc o).alloc o2).heap[M]? = w.heap[M]? := (al_old _ _ (by simp; omega)).trans (al_old _ _ h)
theorem Tch.belowF {a b c : World} (h : Below a.heap.size a b) (g : Tch (fun _ => False) b c) : Below a.heap.size a c :=
  h.trans ⟨g.os, g.tape, g.output, g.size, fun k hk => by
    by_cases z : k < b.heap.size
    · exact g.block k z (fun x => x)
    · have := h.size; omega⟩
set_option maxHeartbeats 1000000 in
theorem state_any (T : Nat) (B : Nat → Prop) (m c : Int) (S : List Sl) (k : ByteArray) (r : Rl) (w : World) (h : Tbl w T B m c S) (hk : k.size ≤ 9223372036854775807) (hr : Okr r) :
    Calls Tryz.prog 136 #[ptr T, .string k, r.v] w fun e w' => e = .returned (stOf c r (getS S k)).v ∧ Below w.heap.size w w' := by
  obtain ⟨c0, c1, cf, ct⟩ := h.cells
  obtain ⟨M, Ml, hM, _, hL⟩ := h.look k hk
  have hcu := h.wf.cu
  have CC := Lib.hid (fun W => cap_any r.p r.e r.b r.k W (by have := hr.p; omega) hr.e hr.b)
  have CO := Lib.hid (fun W => kof_any r.k c (capR r) 0 W hcu (capR_U hr) U_zero)
  have b0 := Lib.hid (((Blk.new w #[.string r.p, .int .u64 r.e, .int .u64 r.b, .int .u8 r.k] 79).alloc (.cells #[.int .u8 0, .int .u64 0, .int .u64 0] 90)))
  have a0 := Lib.hid (Blk.new (w.alloc (.cells #[.string r.p, .int .u64 r.e, .int .u64 r.b, .int .u8 r.k] 79)) #[.int .u8 0, .int .u64 0, .int .u64 0] 90)
  have k0 := Lib.hid (((Below.refl _ w).alloc (Nat.le_refl _) (.cells #[.string r.p, .int .u64 r.e, .int .u64 r.b, .int .u8 r.k] 79)).alloc (by simp) (.cells #[.int .u8 0, .int .u64 0, .int .u64 0] 90))
  have s0 : ((w.alloc (.cells #[.string r.p, .int .u64 r.e, .int .u64 r.b, .int .u8 r.k] 79)).alloc (.cells #[.int .u8 0, .int .u64 0, .int .u64 0] 90)).heap.size = w.heap.size + 2 := by simp
  rw [show (w.alloc (.cells #[.string r.p, .int .u64 r.e, .int .u64 r.b, .int .u8 r.k] 79)).heap.size = w.heap.size + 1 by simp] at a0
  replace hM := cell2 (o := (.cells #[.string r.p, .int .u64 r.e, .int .u64 r.b, .int .u8 r.k] 79)) (o2 := (.cells #[.int .u8 0, .int .u64 0, .int .u64 0] 90)) hM
  replace c1 := cell2 (o := (.cells #[.string r.p, .int .u64 r.e, .int .u64 r.b, .int .u8 r.k] 79)) (o2 := (.cells #[.int .u8 0, .int .u64 0, .int .u64 0] 90)) c1
  rcases hL with ⟨e0, hL⟩ | ⟨s, b, d, i, e0, hL, hb⟩
  · rw [e0]
    replace hL := hL _ (heap2 (o := (.cells #[.string r.p, .int .u64 r.e, .int .u64 r.b, .int .u8 r.k] 79)) (o2 := (.cells #[.int .u8 0, .int .u64 0, .int .u64 0] 90)) Ml)
    clear h hcu
    go_enter Tryz.func136, Tryz.ntmps136
    go_wp2_with fail
    generalize ((w.alloc (.cells #[.string r.p, .int .u64 r.e, .int .u64 r.b, .int .u8 r.k] 79)).alloc (.cells #[.int .u8 0, .int .u64 0, .int .u64 0] 90)) = W at *
    obtain ⟨x0, x1, x2, x3⟩ := (show W.cell? ⟨w.heap.size, 0, none⟩ = some (.string r.p) ∧ W.cell? ⟨w.heap.size, 1, none⟩ = some (.int .u64 r.e) ∧ W.cell? ⟨w.heap.size, 2, none⟩ = some (.int .u64 r.b) ∧ W.cell? ⟨w.heap.size, 3, none⟩ = some (.int .u8 r.k) from ⟨b0.out.cell 0, b0.out.cell 1, b0.out.cell 2, b0.out.cell 3⟩)
    have tl : T < W.heap.size := by omega
    have rl : w.heap.size < W.heap.size := by omega
    clear s0
    have kr := Tch.refl (fun _ => False) W
    go_cut [9] from 26 to 38 (fun v wx => ∃ Y, v = .pointer (some ⟨Y, 0, none⟩) ∧ W.heap.size ≤ Y ∧ Blk wx Y #[.int .u8 (koK r.k), .int .u64 (koA r.k c (capR r) 0), .int .u64 (koB r.k c)] 90 ∧ Tch (fun _ => False) W wx)
    case first =>
      go_region_held3 (fun w' => Tch (fun _ => False) W w' ∧ w'.cell? ⟨T, 1, none⟩ = some (.int .u64 c) ∧ w'.cell? ⟨w.heap.size, 0, none⟩ = some (.string r.p) ∧ w'.cell? ⟨w.heap.size, 1, none⟩ = some (.int .u64 r.e) ∧ w'.cell? ⟨w.heap.size, 2, none⟩ = some (.int .u64 r.b) ∧ w'.cell? ⟨w.heap.size, 3, none⟩ = some (.int .u8 r.k))
        (first | with_reducible exact ⟨kr, c1, x0, x1, x2, x3⟩ | with_reducible exact ⟨(td kr), dcell c1, dcell x0, dcell x1, dcell x2, dcell x3⟩ | with_reducible exact ⟨(ta kr), acell c1, acell x0, acell x1, acell x2, acell x3⟩ | with_reducible exact ⟨(td (ta kr)), dcell (acell c1), dcell (acell x0), dcell (acell x1), dcell (acell x2), dcell (acell x3)⟩ | with_reducible exact ⟨(ts3 kr (.inr hz)), sc3 c1 (Nat.ne_of_lt (Nat.lt_of_lt_of_le tl hz)), sc3 x0 (Nat.ne_of_lt (Nat.lt_of_lt_of_le rl hz)), sc3 x1 (Nat.ne_of_lt (Nat.lt_of_lt_of_le rl hz)), sc3 x2 (Nat.ne_of_lt (Nat.lt_of_lt_of_le rl hz)), sc3 x3 (Nat.ne_of_lt (Nat.lt_of_lt_of_le rl hz))⟩ | with_reducible exact ⟨(td (ts3 kr (.inr hz))), dcell (sc3 c1 (Nat.ne_of_lt (Nat.lt_of_lt_of_le tl hz))), dcell (sc3 x0 (Nat.ne_of_lt (Nat.lt_of_lt_of_le rl hz))), dcell (sc3 x1 (Nat.ne_of_lt (Nat.lt_of_lt_of_le rl hz))), dcell (sc3 x2 (Nat.ne_of_lt (Nat.lt_of_lt_of_le rl hz))), dcell (sc3 x3 (Nat.ne_of_lt (Nat.lt_of_lt_of_le rl hz)))⟩ | with_reducible exact ⟨(ts3 kr (.inr (Nat.le_refl _))), sc3 c1 (Nat.ne_of_lt tl), sc3 x0 (Nat.ne_of_lt rl), sc3 x1 (Nat.ne_of_lt rl), sc3 x2 (Nat.ne_of_lt rl), sc3 x3 (Nat.ne_of_lt rl)⟩ | with_reducible exact ⟨(td (ts3 kr (.inr (Nat.le_refl _)))), dcell (sc3 c1 (Nat.ne_of_lt tl)), dcell (sc3 x0 (Nat.ne_of_lt rl)), dcell (sc3 x1 (Nat.ne_of_lt rl)), dcell (sc3 x2 (Nat.ne_of_lt rl)), dcell (sc3 x3 (Nat.ne_of_lt rl))⟩)
        (first
          | (go_at_call 68; ((with_reducible refine (CC.out _).mono ?_); rintro r w' ⟨rfl, _, g⟩; (first | with_reducible (replace kr := tb kr g; replace c1 := celln g c1; replace x0 := celln g x0; replace x1 := celln g x1; replace x2 := celln g x2; replace x3 := celln g x3; try (replace zb := zb.below g; (try clear z0 z1 z2 zf0 zf1 zf2); obtain ⟨z0, z1, z2, zf0, zf1, zf2⟩ := blk3 zb)) | with_reducible (replace kr := tb (td kr) g; replace c1 := celln g (dcell c1); replace x0 := celln g (dcell x0); replace x1 := celln g (dcell x1); replace x2 := celln g (dcell x2); replace x3 := celln g (dcell x3); try (replace zb := (zb.dr).below g; (try clear z0 z1 z2 zf0 zf1 zf2); obtain ⟨z0, z1, z2, zf0, zf1, zf2⟩ := blk3 zb)) | with_reducible (have zb := (Blk.new _ _ _).below g; obtain ⟨z0, z1, z2, zf0, zf1, zf2⟩ := blk3 zb; have hz := kr.size; replace kr := tb (ta kr) g; replace c1 := celln g (acell c1); replace x0 := celln g (acell x0); replace x1 := celln g (acell x1); replace x2 := celln g (acell x2); replace x3 := celln g (acell x3)) | with_reducible (have zb := ((Blk.new _ _ _).dr).below g; obtain ⟨z0, z1, z2, zf0, zf1, zf2⟩ := blk3 zb; have hz := kr.size; replace kr := tb (td (ta kr)) g; replace c1 := celln g (dcell (acell c1)); replace x0 := celln g (dcell (acell x0)); replace x1 := celln g (dcell (acell x1)); replace x2 := celln g (dcell (acell x2)); replace x3 := celln g (dcell (acell x3))))))
          | (go_at_call 150; ((with_reducible refine (CO.out _).mono ?_); rintro r w' ⟨rfl, _, g⟩; (first | with_reducible (replace kr := tb kr g; replace c1 := celln g c1; replace x0 := celln g x0; replace x1 := celln g x1; replace x2 := celln g x2; replace x3 := celln g x3; try (replace zb := zb.below g; (try clear z0 z1 z2 zf0 zf1 zf2); obtain ⟨z0, z1, z2, zf0, zf1, zf2⟩ := blk3 zb)) | with_reducible (replace kr := tb (td kr) g; replace c1 := celln g (dcell c1); replace x0 := celln g (dcell x0); replace x1 := celln g (dcell x1); replace x2 := celln g (dcell x2); replace x3 := celln g (dcell x3); try (replace zb := (zb.dr).below g; (try clear z0 z1 z2 zf0 zf1 zf2); obtain ⟨z0, z1, z2, zf0, zf1, zf2⟩ := blk3 zb)) | with_reducible (have zb := (Blk.new _ _ _).below g; obtain ⟨z0, z1, z2, zf0, zf1, zf2⟩ := blk3 zb; have hz := kr.size; replace kr := tb (ta kr) g; replace c1 := celln g (acell c1); replace x0 := celln g (acell x0); replace x1 := celln g (acell x1); replace x2 := celln g (acell x2); replace x3 := celln g (acell x3)) | with_reducible (have zb := ((Blk.new _ _ _).dr).below g; obtain ⟨z0, z1, z2, zf0, zf1, zf2⟩ := blk3 zb; have hz := kr.size; replace kr := tb (td (ta kr)) g; replace c1 := celln g (dcell (acell c1)); replace x0 := celln g (dcell (acell x0)); replace x1 := celln g (dcell (acell x1)); replace x2 := celln g (dcell (acell x2)); replace x3 := celln g (dcell (acell x3)))))))
      all_goals
        first
        | (have hB := bset3 (p0 := .int .u8 (koK r.k)) (p1 := .int .u64 (koA r.k c (capR r) 0)) (p2 := .int .u64 (koB r.k c)) zb
           have hY := (show W.heap.size ≤ _ by first | exact hz | exact Nat.le_refl _)
           have hk9 := ts3 (p0 := .int .u8 (koK r.k)) (p1 := .int .u64 (koA r.k c (capR r) 0)) (p2 := .int .u64 (koB r.k c)) kr (.inr hY)
           generalize ((World.setCell _ _ (.int .u8 (koK r.k))).setCell _ (.int .u64 (koA r.k c (capR r) 0))).setCell _ (.int .u64 (koB r.k c)) = W9 at *
           go_wp2
           go_meet
           case rel => exact ⟨_, rfl, hY, hB, hk9⟩)
        | (have hB := Blk.new w' #[.int .u8 (koK r.k), .int .u64 (koA r.k c (capR r) 0), .int .u64 (koB r.k c)] 90
           have hY := kr.size
           have hk9 := ta (o := .cells #[.int .u8 (koK r.k), .int .u64 (koA r.k c (capR r) 0), .int .u64 (koB r.k c)] 90) kr
           generalize w'.alloc (.cells #[.int .u8 (koK r.k), .int .u64 (koA r.k c (capR r) 0), .int .u64 (koB r.k c)] 90) = W9 at *
           go_wp2
           go_meet
           case rel => exact ⟨_, rfl, hY, hB, hk9⟩)
    case rest =>
    obtain ⟨Y, rfl, hY, hB, hk9⟩ := hcut
    have a9 := Lib.hid (hk9.blk a0.out (fun x => x))
    have k9 := Lib.hid (Tch.belowF k0.out hk9)
    obtain ⟨z0, z1, z2, _⟩ := blk3 hB
    obtain ⟨y0, y1, y2, yf0, yf1, yf2⟩ := blk3 a9.out
    clear hB hk9 x0 x1 x2 x3 c1 hL hM kr a0 b0
    go_wp2_with fail
    have b9 := bset3 (p0 := .int .u8 (koK r.k)) (p1 := .int .u64 (koA r.k c (capR r) 0)) (p2 := .int .u64 (koB r.k c)) a9.out
    have kz := ((k9.out.setCell (p := ⟨w.heap.size + 1, 0, none⟩) (Nat.le_succ _) (.int .u8 (koK r.k))).setCell (p := ⟨w.heap.size + 1, 1, none⟩) (Nat.le_succ _) (.int .u64 (koA r.k c (capR r) 0))).setCell (p := ⟨w.heap.size + 1, 2, none⟩) (Nat.le_succ _) (.int .u64 (koB r.k c))
    obtain ⟨q0, q1, q2, _⟩ := blk3 b9
    refine bodyPost_ret (v := (stOf c r none).v) ?_ rfl ⟨rfl, kz⟩
    simp [results, Tryz.results136, go_sem, q0, q1, q2, stOf]
  · rw [e0]
    replace hL := hL _ (heap2 (o := (.cells #[.string r.p, .int .u64 r.e, .int .u64 r.b, .int .u8 r.k] 79)) (o2 := (.cells #[.int .u8 0, .int .u64 0, .int .u64 0] 90)) Ml)
    obtain ⟨x0, x1, x2, x3, x4, x5, x6, x7⟩ := kcs_cells hb
    replace x5 := cell2 (o := (.cells #[.string r.p, .int .u64 r.e, .int .u64 r.b, .int .u8 r.k] 79)) (o2 := (.cells #[.int .u8 0, .int .u64 0, .int .u64 0] 90)) x5
    replace x6 := cell2 (o := (.cells #[.string r.p, .int .u64 r.e, .int .u64 r.b, .int .u8 r.k] 79)) (o2 := (.cells #[.int .u8 0, .int .u64 0, .int .u64 0] 90)) x6
    replace x7 := cell2 (o := (.cells #[.string r.p, .int .u64 r.e, .int .u64 r.b, .int .u8 r.k] 79)) (o2 := (.cells #[.int .u8 0, .int .u64 0, .int .u64 0] 90)) x7
    have kz := ((Below.refl _ w).alloc (Nat.le_refl _) (.cells #[.string r.p, .int .u64 r.e, .int .u64 r.b, .int .u8 r.k] 79)).alloc (by simp) (.cells #[.int .u8 s.k, .int .u64 s.a, .int .u64 s.b] 90)
    have bz := Blk.new (w.alloc (.cells #[.string r.p, .int .u64 r.e, .int .u64 r.b, .int .u8 r.k] 79)) #[.int .u8 s.k, .int .u64 s.a, .int .u64 s.b] 90
    rw [show (w.alloc (.cells #[.string r.p, .int .u64 r.e, .int .u64 r.b, .int .u8 r.k] 79)).heap.size = w.heap.size + 1 by simp] at bz
    obtain ⟨q0, q1, q2, _⟩ := blk3 bz
    clear hb x0 x1 x2 x3 x4 CC CO c1 h hcu
    go_enter Tryz.func136, Tryz.ntmps136
    go_wp2_with fail
    refine bodyPost_ret (v := (stOf c r (some s)).v) ?_ rfl ⟨rfl, kz⟩
    simp [results, Tryz.results136, go_sem, q0, q1, q2, stOf]
end Go.Proofs.YtbejkcdaefkibaaGreat.Wd
namespace Go.Proofs.YtbejkcdaefkibaaGreat.Wd
open Go Go.RowKit Go.Shelf Go.Deep
set_option linter.unusedVariables false
set_option maxRecDepth 100000

/-- Who is there behind it: one in the place of who has its key, if it is not empty. -/
def putS (c : Int) (s : Sl) (S : List Sl) : List Sl := if flS c s = 0 then offS s.key S else s :: offS s.key S
theorem offS_map (k : ByteArray) (L : List (Sl × Int)) : (offL k L).map Prod.fst = offS k (L.map Prod.fst) := by
  unfold offL offS
  rw [List.filter_map]; rfl
theorem offS_mem {k : ByteArray} {S : List Sl} {s : Sl} : s ∈ offS k S ↔ s ∈ S ∧ s.key ≠ k := by unfold offS; simp [List.mem_filter]
theorem offS_no {k : ByteArray} {S : List Sl} (h : ∀ s ∈ S, s.key ≠ k) : offS k S = S := List.filter_eq_self.2 (fun s hs => by simpa using h s hs)
theorem offS_le (k : ByteArray) (S : List Sl) : (offS k S).length ≤ S.length := List.length_filter_le _ _
theorem offS_lt {k : ByteArray} : ∀ {S : List Sl} {s : Sl}, s ∈ S → s.key = k → (offS k S).length < S.length
  | [], _, h, _ => nomatch h
  | x :: xs, s, h, e => by
    by_cases z : x.key = k
    · have : offS k (x :: xs) = offS k xs := by unfold offS; rw [List.filter_cons_of_neg (by simp [z])]
      rw [this]
      have := offS_le k xs
      simp; omega
    · have hs : s ∈ xs := by
        rcases List.mem_cons.1 h with rfl | h
        · exact absurd e z
        · exact h
      have : offS k (x :: xs) = x :: offS k xs := by unfold offS; rw [List.filter_cons_of_pos (by simp [z])]
      rw [this]
      have := offS_lt hs e
      simp; omega
theorem offS_pw {k : ByteArray} {S : List Sl} (h : S.Pairwise (fun x y => x.key ≠ y.key)) : (offS k S).Pairwise (fun x y => x.key ≠ y.key) := h.sublist List.filter_sublist
theorem Wf.off {m c : Int} {S : List Sl} (h : Wf m c S) (k : ByteArray) : Wf m c (offS k S) :=
  ⟨h.m1, h.m2, h.cu, by have := offS_le k S; have := h.len; omega, fun s hs => h.ok s (offS_mem.1 hs).1, offS_pw h.ap⟩
theorem Wf.put {m c : Int} {S : List Sl} (h : Wf m c S) {s : Sl} (hs : Oks s) (hk : rtB (lb s.key) = true) (hr : ruE s.r.p s.r.e s.r.b s.r.k = 0) (h3 : Is3 s.k) (hl : ((offS s.key S).length : Int) < m) : Wf m c (putS c s S) := by
  unfold putS
  by_cases z : flS c s = 0
  · rw [if_pos z]; exact h.off _
  · rw [if_neg z]
    have hU := flS_U hs h.cu
    have ho := h.off s.key
    refine ⟨h.m1, h.m2, h.cu, by simp; omega, fun t ht => ?_, List.pairwise_cons.2 ⟨fun t ht e => (offS_mem.1 ht).2 e.symm, ho.ap⟩⟩
    rcases List.mem_cons.1 ht with rfl | ht
    · exact ⟨hs, hk, hr, h3, by unfold U at hU; omega⟩
    · exact ho.ok t ht
/-- A key is lost. -/
theorem lose_tab (T : Nat) (B : Nat → Prop) (m c : Int) (S : List Sl) (k : ByteArray) (w : World) (h : Tbl w T B m c S) (hs : k.size ≤ 9223372036854775807) :
    Calls Tryz.prog 82 #[ptr T, .string k] w fun e w' => e = .returned (.tuple #[]) ∧ Tbl w' T B m c (offS k S) ∧ Tch B w w' := by
  obtain ⟨L, h1, h2, h3, h4⟩ := h
  refine (lose_L T B m c L k w h1 hs).mono ?_
  rintro e w' ⟨rfl, g1, g2⟩
  exact ⟨rfl, ⟨_, g1, by rw [offS_map]; exact h2.filter _, fun x hx => h3 x (offL_mem.1 hx).1, h4.off k⟩, g2⟩
/-- One is put in. -/
theorem put_tab (T : Nat) (B : Nat → Prop) (m c : Int) (S : List Sl) (s : Sl) (w : World) (h : Tbl w T B m c S) (hs : Oks s) (hk : rtB (lb s.key) = true) (hr : ruE s.r.p s.r.e s.r.b s.r.k = 0) (h3 : Is3 s.k) (hl : ((offS s.key S).length : Int) < m) :
    Calls Tryz.prog 104 #[ptr T, s.v] w fun e w' => e = .returned (.tuple #[]) ∧ Tch B w w' ∧ Tbl w' T (Nx B w) m c (putS c s S) := by
  have hw := h.wf
  obtain ⟨L, h1, h2, h4, h5⟩ := h
  have hp : (offL s.key L).map Prod.fst |>.Perm (offS s.key S) := by rw [offS_map]; exact h2.filter _
  have hle : (offL s.key L).length = (offS s.key S).length := by rw [← hp.length_eq, List.length_map]
  refine (put_L T B m c L s w h1 hs hw.cu (by have := hw.m2; omega)).mono ?_
  rintro e w' ⟨rfl, g1, g2⟩
  refine ⟨rfl, g2, putL c s L, g1, ?_, ?_, hw.put hs hk hr h3 hl⟩
  · unfold putL putS
    have hz := dueS_zero hs hw.cu
    by_cases z : dueS c s = 0
    · rw [if_pos z, if_pos (hz.1 z)]; exact hp
    · rw [if_neg z, if_neg (fun e => z (hz.2 e)), List.map_cons]; exact hp.cons s
  · intro x hx
    unfold putL at hx
    have hz := dueS_zero hs hw.cu
    have hU := flS_U hs hw.cu
    by_cases z : dueS c s = 0
    · rw [if_pos z] at hx; exact h4 x (offL_mem.1 hx).1
    · rw [if_neg z] at hx
      rcases List.mem_cons.1 hx with rfl | hx
      · have hne : flS c s ≠ 0 := fun e => z (hz.2 e)
        unfold U at hU
        exact dueS_ok hs h3 hw.cu (by omega)
      · exact h4 x (offL_mem.1 hx).1

/-- Whether it comes in, and what is kept then. -/
abbrev wI (r : Rl) (n : Int) : Int := sat (n * r.e)
def stIn (c : Int) (r : Rl) (s : St) (n : Int) : Bool := kdB s.k s.a s.b c (capR r) (wI r n)
def stNx (c : Int) (r : Rl) (s : St) (n : Int) : St := ⟨kdK s.k s.a s.b c (capR r) (wI r n), kdA s.k s.a s.b c (capR r) (wI r n), kdT s.k s.a s.b c (capR r) (wI r n)⟩
/-- A state that may be. -/
structure OkSt (s : St) : Prop where
  k : Is3 s.k
  a : U s.a
  b : U s.b
theorem kd_ok (k a b now cap v : Int) (hk : Is3 k) (ha : U a) (hb : U b) (hn : U now) (hc : U cap) (hv : U v) : kdK k a b now cap v = k ∧ U (kdA k a b now cap v) ∧ U (kdT k a b now cap v) := by
  cases h : kdB k a b now cap v with
  | false => obtain ⟨h1, h2, h3⟩ := kd_no a b now cap v h; rw [h1, h2, h3]; exact ⟨rfl, ha, hb⟩
  | true =>
    obtain ⟨h1, h2, h3⟩ := kd_yes hk a b now cap v h
    rw [h1, h2, h3]
    refine ⟨rfl, ?_, by split; exact U_zero; exact hn⟩
    rcases hk with rfl | rfl | rfl
    · simp only [if_true]
      refine sat_U _ ?_
      have := thI_U a now ha hn
      unfold U at *; omega
    · have h' : bdB a b now cap v = true := h
      unfold bdB at h'
      simp only [decide_eq_true_eq] at h'
      have := tkI_U a b now cap ha hb hn hc
      simp only [show ¬ (2 : Int) = 1 by omega, if_false, if_true]
      unfold U at *; omega
    · have h' : deB a b now cap v = true := h
      unfold deB ftB at h'
      simp only [decide_eq_true_eq] at h'
      have := fiI_U a b now ha hb hn
      simp only [show ¬ (3 : Int) = 1 by omega, show ¬ (3 : Int) = 2 by omega, if_false]
      unfold U at *; omega
theorem wI_U {r : Rl} {n : Int} (hr : Okr r) (hn : U n) : U (wI r n) := sat_U _ (Int.mul_nonneg hn.1 hr.e.1)
theorem OkSt.next {c n : Int} {r : Rl} {s : St} (h : OkSt s) (hc : U c) (hr : Okr r) (hn : U n) : OkSt (stNx c r s n) ∧ (stNx c r s n).k = s.k := by
  obtain ⟨h1, h2, h3⟩ := kd_ok s.k s.a s.b c (capR r) (wI r n) h.k h.a h.b hc (capR_U hr) (wI_U hr hn)
  exact ⟨⟨by show Is3 (kdK _ _ _ _ _ _); rw [h1]; exact h.k, h2, h3⟩, h1⟩
theorem rule_is3 {r : Rl} (h : ruE r.p r.e r.b r.k = 0) : Is3 r.k := by
  rw [ru_is] at h
  repeat' split at h
  all_goals first | cases h | skip
  rename_i hk
  have := isK_yes r.k (by simpa using hk)
  exact this
theorem stOf_ok {m c : Int} {S : List Sl} {k : ByteArray} {r : Rl} (h : Wf m c S) (hr : Okr r) (h0 : ruE r.p r.e r.b r.k = 0) : OkSt (stOf c r (getS S k)) := by
  cases e : getS S k with
  | none => exact ⟨by show Is3 (koK r.k); rw [koK_is (rule_is3 h0)]; exact rule_is3 h0, koA_U _ _ _ _ h.cu (capR_U hr) U_zero, koB_U _ _ h.cu⟩
  | some s =>
    have := h.ok s (getS_some e).1
    exact ⟨this.kind, this.oks.a, this.oks.b⟩
end Go.Proofs.YtbejkcdaefkibaaGreat.Wd
namespace Go.Proofs.YtbejkcdaefkibaaGreat.Wd
open Go Go.RowKit Go.Shelf Go.Deep
set_option linter.unusedVariables false
set_option maxRecDepth 100000

/-- An answer, as data. -/
structure An where
  code : Int
  err : Int
  lim : Int
  left : Int
  reset : Int
  after : Int
  nanos : Int
  retry : Bool
abbrev An.cs (a : An) : Array Value := #[.int .u8 a.code, .int .u16 a.err, .int .u64 a.lim, .int .u64 a.left, .int .u64 a.reset, .int .u64 a.after, .int .u64 a.nanos, .bool a.retry, .int .i64 0, .slice none 0 0]
abbrev An.v (a : An) : Value := .agg a.cs
abbrev flT (c : Int) (r : Rl) (s : St) : Int := kfI s.k s.a s.b c (capR r)
/-- In seconds, rounded up. -/
abbrev secI (x : Int) : Int := clI x 1000000000
/-- What is told. -/
def decA (c : Int) (r : Rl) (s : St) (n : Int) : An :=
  ⟨if stIn c r s n = true then 1 else 2, 0, r.b, dvI (sbI (capR r) (flT c r (stNx c r s n))) r.e, secI (flT c r (stNx c r s n)), secI (kwI (flT c r s) (capR r) (wI r n)), kwI (flT c r s) (capR r) (wI r n), kwB (flT c r s) (capR r) (wI r n)⟩
theorem kwI_U (f cap v : Int) (hf : U f) (hc : U cap) (hv : U v) : U (kwI f cap v) := by
  unfold kwI
  split
  · rename_i h
    unfold kwB at h
    simp only [decide_eq_true_eq] at h
    unfold U at *; omega
  · exact U_zero
theorem secs_any (a : Int) (w : World) (ha : U a) :
    Calls Tryz.prog 140 #[.int .u64 a] w fun e w' => e = .returned (.int .u64 (secI a)) ∧ Below w.heap.size w w' := by
  have C := Lib.hid (fun W => num_ceil a 1000000000 W ha (by unfold U; omega))
  go_enter Tryz.func140, Tryz.ntmps140
  go_wp2_with (go_at_call 179; refine (C.out _).mono ?_; rintro e w1 ⟨rfl, g⟩)
  go_ret
  obtain ⟨n, rfl⟩ := g
  exact ⟨rfl, (Drew.kept ⟨n, rfl⟩).2⟩

/-- A slot of a key, a rule and a state. -/
abbrev slOf (k : ByteArray) (r : Rl) (s : St) : Sl := ⟨k, r, s.k, s.a, s.b⟩
def decS (c : Int) (S : List Sl) (k : ByteArray) (r : Rl) (s : St) (n : Int) : List Sl := if stIn c r s n = true then putS c (slOf k r (stNx c r s n)) S else S

set_option maxHeartbeats 2000000 in
theorem decide_tab (T : Nat) (B : Nat → Prop) (m c : Int) (S : List Sl) (k : ByteArray) (r : Rl) (n : Int) (s : St) (w : World) (h : Tbl w T B m c S) (hk : k.size ≤ 281474976710656) (hr : Okr r) (hn : U n) (h0 : wkE k r = 0) (es : stOf c r (getS S k) = s) (hl : getS S k = none → (S.length : Int) < m) :
    Calls Tryz.prog 83 #[ptr T, .string k, r.v, .int .u64 n] w fun e w' => e = .returned (decA c r s n).v ∧ Tch B w w' ∧ Tbl w' T (Nx B w) m c (decS c S k r s n) := by
  obtain ⟨hkr, hru⟩ : rtB (lb k) = true ∧ ruE r.p r.e r.b r.k = 0 := by
    unfold wkE at h0
    cases e : rtB (lb k) with
    | true => rw [e, if_pos rfl] at h0; exact ⟨rfl, h0⟩
    | false => rw [e, if_neg (by decide)] at h0; cases h0
  have so : OkSt s := by rw [← es]; exact stOf_ok h.wf hr hru
  have sa := so.a
  have sb := so.b
  have nx := (so.next h.wf.cu hr hn).1
  have nx := Lib.hid nx
  have HW := Lib.hid h.wf
  have nl : Hid (((offS k S).length : Int) < m) := Lib.hid (by
    cases e : getS S k with
    | none => have := offS_le k S; have := hl e; omega
    | some t => have := offS_lt (getS_some e).1 (getS_some e).2; have := h.wf.len; omega)
  obtain ⟨c0, c1, cf, ct⟩ := h.cells
  have hcu := h.wf.cu
  have hcap := capR_U hr
  have hwU : U (wI r n) := sat_U _ (Int.mul_nonneg hn.1 hr.e.1)
  have CC := Lib.hid (fun W => cap_any r.p r.e r.b r.k W (by have := hr.p; omega) hr.e hr.b)
  have CM := Lib.hid (fun W => num_mul n r.e W hn hr.e)
  have CS := Lib.hid (fun W (g : Tbl W T (fun k => B k ∧ k < w.heap.size) m c S) => state_any T _ m c S k r W g (by omega) hr)
  rw [es] at CS
  have CW := Lib.hid (fun W => kwait_any s.k s.a s.b c (capR r) (wI r n) W sa sb hcu hcap hwU)
  have CD := Lib.hid (fun W => kdecide_any s.k s.a s.b c (capR r) (wI r n) W sa sb hcu hcap hwU)
  have b0 := Lib.hid (((Blk.new w #[.string r.p, .int .u64 r.e, .int .u64 r.b, .int .u8 r.k] 79).alloc (.cells #[.int .u8 0, .int .u16 0, .int .u64 0, .int .u64 0, .int .u64 0, .int .u64 0, .int .u64 0, .bool false, .int .i64 0, .slice none 0 0] 57)))
  have a0 := Lib.hid (Blk.new (w.alloc (.cells #[.string r.p, .int .u64 r.e, .int .u64 r.b, .int .u8 r.k] 79)) #[.int .u8 0, .int .u16 0, .int .u64 0, .int .u64 0, .int .u64 0, .int .u64 0, .int .u64 0, .bool false, .int .i64 0, .slice none 0 0] 57)
  have k0 := Lib.hid (((Below.refl _ w).alloc (Nat.le_refl _) (.cells #[.string r.p, .int .u64 r.e, .int .u64 r.b, .int .u8 r.k] 79)).alloc (by simp) (.cells #[.int .u8 0, .int .u16 0, .int .u64 0, .int .u64 0, .int .u64 0, .int .u64 0, .int .u64 0, .bool false, .int .i64 0, .slice none 0 0] 57))
  have s0 : ((w.alloc (.cells #[.string r.p, .int .u64 r.e, .int .u64 r.b, .int .u8 r.k] 79)).alloc (.cells #[.int .u8 0, .int .u16 0, .int .u64 0, .int .u64 0, .int .u64 0, .int .u64 0, .int .u64 0, .bool false, .int .i64 0, .slice none 0 0] 57)).heap.size = w.heap.size + 2 := by simp
  rw [show (w.alloc (.cells #[.string r.p, .int .u64 r.e, .int .u64 r.b, .int .u8 r.k] 79)).heap.size = w.heap.size + 1 by simp] at a0
  have HL := Lib.hid h.low
  have H0 := Lib.hid (HL.out.below k0.out)
  clear h
  go_enter Tryz.func83, Tryz.ntmps83
  go_wp2_with fail
  generalize ((w.alloc (.cells #[.string r.p, .int .u64 r.e, .int .u64 r.b, .int .u8 r.k] 79)).alloc (.cells #[.int .u8 0, .int .u16 0, .int .u64 0, .int .u64 0, .int .u64 0, .int .u64 0, .int .u64 0, .bool false, .int .i64 0, .slice none 0 0] 57)) = W at *
  obtain ⟨x0, x1, x2, x3⟩ := (show W.cell? ⟨w.heap.size, 0, none⟩ = some (.string r.p) ∧ W.cell? ⟨w.heap.size, 1, none⟩ = some (.int .u64 r.e) ∧ W.cell? ⟨w.heap.size, 2, none⟩ = some (.int .u64 r.b) ∧ W.cell? ⟨w.heap.size, 3, none⟩ = some (.int .u8 r.k) from ⟨b0.out.cell 0, b0.out.cell 1, b0.out.cell 2, b0.out.cell 3⟩)
  have tl : T < W.heap.size := by omega
  have rl : w.heap.size < W.heap.size := by omega
  have hs0 := Lib.hid s0
  clear s0
  have kr := Tch.refl (fun _ => False) W
  go_region_held3 (fun w' => Tch (fun _ => False) W w' ∧ w'.cell? ⟨w.heap.size, 0, none⟩ = some (.string r.p) ∧ w'.cell? ⟨w.heap.size, 1, none⟩ = some (.int .u64 r.e) ∧ w'.cell? ⟨w.heap.size, 2, none⟩ = some (.int .u64 r.b) ∧ w'.cell? ⟨w.heap.size, 3, none⟩ = some (.int .u8 r.k))
    (first | with_reducible exact ⟨kr, x0, x1, x2, x3⟩ | with_reducible exact ⟨(td kr), dcell x0, dcell x1, dcell x2, dcell x3⟩)
    (first
      | (go_at_call 68; ((with_reducible refine (CC.out _).mono ?_); rintro r w' ⟨rfl, _, g⟩; (first | with_reducible (replace kr := tb kr g; replace x0 := celln g x0; replace x1 := celln g x1; replace x2 := celln g x2; replace x3 := celln g x3) | with_reducible (replace kr := tb (td kr) g; replace x0 := celln g (dcell x0); replace x1 := celln g (dcell x1); replace x2 := celln g (dcell x2); replace x3 := celln g (dcell x3)))))
      | (go_at_call 135; ((with_reducible refine (CM.out _).mono ?_); rintro r W1 ⟨rfl, _, g⟩; (first | with_reducible (replace kr := tb kr g; replace x0 := celln g x0; replace x1 := celln g x1; replace x2 := celln g x2; replace x3 := celln g x3) | with_reducible (replace kr := tb (td kr) g; replace x0 := celln g (dcell x0); replace x1 := celln g (dcell x1); replace x2 := celln g (dcell x2); replace x3 := celln g (dcell x3))))))
  rename_i hH
  clear hH
  have k1 := Lib.hid (Tch.belowF k0.out kr)
  have H1 := Lib.hid (H0.out.keep (w' := W1) (fun k _ hl => kr.block k hl (fun x => x)))
  have b1 := Lib.hid (kr.blk b0.out (fun x => x))
  have a1 := Lib.hid (kr.blk a0.out (fun x => x))
  clear CC CM b0 a0 k0 H0
  go_wp2_with (go_at_call 136; refine (CS.out _ H1.out).mono ?_; rintro e W2 ⟨rfl, g⟩; refine stopHere ?_)
  unfold Stop
  have H2 := Lib.hid (H1.out.below g)
  have hz2 := Lib.hid (show w.heap.size + 2 ≤ W2.heap.size by have := hs0.out; have := kr.size; have := g.size; omega)
  have k2 := Lib.hid (kbq k1.out g)
  have b2 := Lib.hid (b1.out.below g)
  have a2 := Lib.hid (a1.out.below g)
  clear kr g H1 k1 b1 a1 CS x0 x1 x2 x3
  go_wp2_with fail
  have s3 := Lib.hid (Blk.new W2 #[.int .u8 s.k, .int .u64 s.a, .int .u64 s.b] 90)
  have k3 := Lib.hid (k2.out.alloc k2.out.size (.cells #[.int .u8 s.k, .int .u64 s.a, .int .u64 s.b] 90))
  have H3 := Lib.hid (H2.out.below ((Below.refl _ W2).alloc (Nat.le_refl _) (.cells #[.int .u8 s.k, .int .u64 s.a, .int .u64 s.b] 90)))
  have b3 := Lib.hid (b2.out.alloc (.cells #[.int .u8 s.k, .int .u64 s.a, .int .u64 s.b] 90))
  have a3 := Lib.hid (a2.out.alloc (.cells #[.int .u8 s.k, .int .u64 s.a, .int .u64 s.b] 90))
  generalize W2.alloc (.cells #[.int .u8 s.k, .int .u64 s.a, .int .u64 s.b] 90) = W3 at *
  obtain ⟨u0, u1, u2, _⟩ := blk3 s3.out
  have c1 := H3.out.cells.2.1
  have tl := H3.out.cells.2.2.2
  have zl := s3.out.lt
  clear H2 k2 b2 a2
  have kr := Tch.refl (fun _ => False) W3
  go_region_held3 (fun w' => Tch (fun _ => False) W3 w' ∧ w'.cell? ⟨T, 1, none⟩ = some (.int .u64 c) ∧ w'.cell? ⟨W2.heap.size, 0, none⟩ = some (.int .u8 s.k) ∧ w'.cell? ⟨W2.heap.size, 1, none⟩ = some (.int .u64 s.a) ∧ w'.cell? ⟨W2.heap.size, 2, none⟩ = some (.int .u64 s.b))
    (first | with_reducible exact ⟨kr, c1, u0, u1, u2⟩ | with_reducible exact ⟨(td kr), dcell c1, dcell u0, dcell u1, dcell u2⟩)
    (first
      | (go_at_call 137; ((with_reducible refine (CW.out _).mono ?_); rintro r W4 ⟨rfl, _, g⟩; (first | with_reducible (replace kr := tb kr g; replace c1 := celln g c1; replace u0 := celln g u0; replace u1 := celln g u1; replace u2 := celln g u2) | with_reducible (replace kr := tb (td kr) g; replace c1 := celln g (dcell c1); replace u0 := celln g (dcell u0); replace u1 := celln g (dcell u1); replace u2 := celln g (dcell u2))))))
  rename_i hH
  clear hH
  have k4 := Lib.hid (Tch.belowF k3.out kr)
  have H4 := Lib.hid (H3.out.keep (w' := W4) (fun k _ hl => kr.block k hl (fun x => x)))
  have b4 := Lib.hid (kr.blk b3.out (fun x => x))
  have a4 := Lib.hid (kr.blk a3.out (fun x => x))
  have zb := kr.blk s3.out (fun x => x)
  obtain ⟨z0, z1, z2, zf0, zf1, zf2⟩ := blk3 zb
  have ZB := Lib.hid zb
  have tl := H4.out.cells.2.2.2
  have zl := zb.lt
  clear kr k3 H3 b3 a3 CW u0 u1 u2 s3
  have kr := Tch.refl (fun k => k = W2.heap.size) W4
  go_wp2_with fail
  go_cut [14] from 37 to 48 (fun v wx => (∃ t, v = .bool t ∧ Hid (stIn c r s n = t)) ∧ Blk wx W2.heap.size #[.int .u8 (stNx c r s n).k, .int .u64 (stNx c r s n).a, .int .u64 (stNx c r s n).b] 90 ∧ Tch (fun k => k = W2.heap.size) W4 wx)
  case first =>
    go_region_with (first
        | (go_at_call 138; ((with_reducible refine (CD.out _).mono ?_); rintro r W5 ⟨rfl, _, g⟩; (first | with_reducible (replace kr := tb kr g; replace c1 := celln g c1; try (replace zb := zb.below g; (try clear z0 z1 z2 zf0 zf1 zf2); obtain ⟨z0, z1, z2, zf0, zf1, zf2⟩ := blk3 zb)) | with_reducible (replace kr := tb (td kr) g; replace c1 := celln g (dcell c1); try (replace zb := (zb.dr).below g; (try clear z0 z1 z2 zf0 zf1 zf2); obtain ⟨z0, z1, z2, zf0, zf1, zf2⟩ := blk3 zb))))))
    all_goals
      have hB := bset3 (p0 := .int .u8 (stNx c r s n).k) (p1 := .int .u64 (stNx c r s n).a) (p2 := .int .u64 (stNx c r s n).b) zb
      have hk9 := ts3 (p0 := .int .u8 (stNx c r s n).k) (p1 := .int .u64 (stNx c r s n).a) (p2 := .int .u64 (stNx c r s n).b) kr (.inl rfl)
      have e1 : kdK s.k s.a s.b c (capR r) (wI r n) = (stNx c r s n).k := rfl
      have e2 : kdA s.k s.a s.b c (capR r) (wI r n) = (stNx c r s n).a := rfl
      have e3 : kdT s.k s.a s.b c (capR r) (wI r n) = (stNx c r s n).b := rfl
      rw [e1, e2, e3]
      clear e1 e2 e3
      generalize ((World.setCell _ _ (.int .u8 (stNx c r s n).k)).setCell _ (.int .u64 (stNx c r s n).a)).setCell _ (.int .u64 (stNx c r s n).b) = W9 at *
      go_wp2
      go_meet
      case rel => exact ⟨⟨_, rfl, Lib.hid rfl⟩, hB, hk9⟩
  case rest =>
  obtain ⟨⟨t, rfl, ht⟩, zb5, hk5⟩ := hcut
  have H5 := Lib.hid (H4.out.keep (w' := wc) (fun k hk hl => hk5.block k hl (fun e => by have := hk.2; have := hz2.out; omega)))
  have b5 := Lib.hid (hk5.blk b4.out (fun e => by have := hz2.out; omega))
  have a5 := Lib.hid (hk5.blk a4.out (fun e => by have := hz2.out; omega))
  have s5 := Lib.hid zb5
  have k5 := Lib.hid (show Tch (fun k => B k ∧ k < w.heap.size) w wc from (Tch.of k4.out).next (hk5.mono (fun k _ e => .inr (by have := hz2.out; omega))))
  clear H4 b4 a4 zb5 hk5 k4 CD ZB zb z0 z1 z2 zf0 zf1 zf2 tl zl kr
  have HO : Hid (∀ W, Calls Tryz.prog 79 #[.agg #[.string k, .string r.p, .int .u64 r.e, .int .u64 r.b, .int .u8 r.k, .int .u8 (stNx c r s n).k, .int .u64 (stNx c r s n).a, .int .u64 (stNx c r s n).b]] W fun e w' => e = .returned (.agg #[.string k, .string r.p, .int .u64 r.e, .int .u64 r.b, .int .u8 r.k, .int .u8 (stNx c r s n).k, .int .u64 (stNx c r s n).a, .int .u64 (stNx c r s n).b]) ∧ Below W.heap.size W w') := Lib.hid (fun W => own_any (slOf k r (stNx c r s n)) W hk hr.p)
  have HP : Hid (∀ W, Tbl W T (fun k => B k ∧ k < w.heap.size) m c S → Calls Tryz.prog 104 #[ptr T, .agg #[.string k, .string r.p, .int .u64 r.e, .int .u64 r.b, .int .u8 r.k, .int .u8 (stNx c r s n).k, .int .u64 (stNx c r s n).a, .int .u64 (stNx c r s n).b]] W fun e w' => e = .returned (.tuple #[]) ∧ Tch (fun k => B k ∧ k < w.heap.size) W w' ∧ Tbl w' T (Nx (fun k => B k ∧ k < w.heap.size) W) m c (putS c (slOf k r (stNx c r s n)) S)) := Lib.hid (fun W g => put_tab T _ m c S (slOf k r (stNx c r s n)) W g ⟨hk, hr, by rcases nx.out.k with e | e | e <;> (show 0 ≤ (stNx c r s n).k ∧ (stNx c r s n).k ≤ 255; rw [e]; omega), nx.out.a, nx.out.b⟩ hkr hru nx.out.k nl.out)
  go_upto_if 48 with fail
  go_cut [15] from 49 to 55 (fun v wx => (∃ q, v = .int .u8 q ∧ Hid (q = (decA c r s n).code)) ∧ Hid (Tbl wx T (fun k => (B k ∧ k < w.heap.size) ∨ w.heap.size + 2 ≤ k) m c (decS c S k r s n)) ∧ Hid (Tch (fun k => B k ∧ k < w.heap.size) w wx) ∧ Hid (Blk wx w.heap.size #[.string r.p, .int .u64 r.e, .int .u64 r.b, .int .u8 r.k] 79) ∧ Hid (Blk wx (w.heap.size + 1) #[.int .u8 0, .int .u16 0, .int .u64 0, .int .u64 0, .int .u64 0, .int .u64 0, .int .u64 0, .bool false, .int .i64 0, .slice none 0 0] 57) ∧ Hid (Blk wx W2.heap.size #[.int .u8 (stNx c r s n).k, .int .u64 (stNx c r s n).a, .int .u64 (stNx c r s n).b] 90))
  case first =>
    cases t
    · go_wp2_with fail
      go_meet
      case rel => exact ⟨⟨_, rfl, Lib.hid (by unfold decA; rw [ht.out]; rfl)⟩, Lib.hid (by unfold decS; rw [ht.out]; exact H5.out.mono (fun k hk => .inl hk)), k5, b5, a5, s5⟩
    · obtain ⟨x0, x1, x2, x3, _⟩ := blk4 b5.out
      obtain ⟨u0, u1, u2, _⟩ := blk3 s5.out
      go_wp2_with (go_at_call 79; with_reducible refine (HO.out _).mono ?_; rintro e W6 ⟨rfl, g⟩; have H6 := Lib.hid (H5.out.below g); have b6 := Lib.hid (b5.out.below g); have a6 := Lib.hid (a5.out.below g); have s6 := Lib.hid (s5.out.below g); have k6 := Lib.hid (k5.out.bel (g.mono k5.out.size)); clear g H5 b5 a5 s5 k5 x0 x1 x2 x3 u0 u1 u2; refine stopHere ?_)
      unfold Stop
      go_wp2_with (go_at_call 104; with_reducible refine (HP.out _ H6.out).mono ?_; rintro e W7 ⟨rfl, g, hT7⟩)
      go_meet
      case rel =>
        have hz := hz2.out
        exact ⟨⟨_, rfl, Lib.hid (by unfold decA; rw [ht.out]; rfl)⟩, Lib.hid (by
          unfold decS; rw [ht.out, if_pos rfl]
          exact hT7.mono (fun k hk => by
            rcases hk with hk | hk
            · exact .inl hk
            · exact .inr (by have := s6.out.lt; have : W6.heap.size ≤ k := hk; omega))), Lib.hid (k6.out.trans g), Lib.hid (g.blk b6.out (fun x => by have := x.2; omega)), Lib.hid (g.blk a6.out (fun x => by have := x.2; omega)), Lib.hid (g.blk s6.out (fun x => by have := x.2; omega))⟩
  case rest =>
  obtain ⟨⟨q, rfl, hq⟩, H7, k7, b7, a7, s7⟩ := hcut
  clear HO HP b5 a5 s5 k5 H5

  obtain ⟨x0, x1, x2, x3, _⟩ := blk4 b7.out
  obtain ⟨u0, u1, u2, _⟩ := blk3 s7.out
  have c1 := H7.out.cells.2.1
  have tn : T ≠ w.heap.size + 1 := by omega
  have wn : w.heap.size ≠ w.heap.size + 1 := by omega
  have zn : W2.heap.size ≠ w.heap.size + 1 := by have := hz2.out; omega
  have fU : U (flT c r (stNx c r s n)) := kfI_U _ _ _ _ _ nx.out.a nx.out.b hcu hcap
  have f0 : U (flT c r s) := kfI_U _ _ _ _ _ sa sb hcu hcap
  have CL := Lib.hid (fun W => kleft_any (stNx c r s n).k (stNx c r s n).a (stNx c r s n).b c (capR r) r.e W nx.out.a nx.out.b hcu hcap hr.e)
  have CF := Lib.hid (fun W => kfill_any (stNx c r s n).k (stNx c r s n).a (stNx c r s n).b c (capR r) W nx.out.a nx.out.b hcu hcap)
  have CS1 := Lib.hid (fun W => secs_any (flT c r (stNx c r s n)) W fU)
  have CS2 := Lib.hid (fun W => secs_any (kwI (flT c r s) (capR r) (wI r n)) W (kwI_U _ _ _ f0 hcap hwU))
  have zb := a7.out
  obtain ⟨z0, z1, z2, z3, z4, z5, z6, z7, z8, z9, zf0, zf1, zf2, zf3, zf4, zf5, zf6, zf7, zf8, zf9⟩ := blk10 zb
  have kr := Tch.refl (fun k => k = w.heap.size + 1) wc
  clear hl hkr hru so fU f0 x0 x3
  have HZ2 := hz2
  clear hz2
  go_wp2_with fail
  go_region_held3 (fun w' => Tch (fun k => k = w.heap.size + 1) wc w' ∧ w'.cell? ⟨T, 1, none⟩ = some (.int .u64 c) ∧ w'.cell? ⟨w.heap.size, 1, none⟩ = some (.int .u64 r.e) ∧ w'.cell? ⟨w.heap.size, 2, none⟩ = some (.int .u64 r.b) ∧ w'.cell? ⟨W2.heap.size, 0, none⟩ = some (.int .u8 (stNx c r s n).k) ∧ w'.cell? ⟨W2.heap.size, 1, none⟩ = some (.int .u64 (stNx c r s n).a) ∧ w'.cell? ⟨W2.heap.size, 2, none⟩ = some (.int .u64 (stNx c r s n).b))
    (first | with_reducible exact ⟨kr, c1, x1, x2, u0, u1, u2⟩ | with_reducible exact ⟨(td kr), dcell c1, dcell x1, dcell x2, dcell u0, dcell u1, dcell u2⟩ | with_reducible exact ⟨(ts10 kr (.inl rfl)), sc10 c1 tn, sc10 x1 wn, sc10 x2 wn, sc10 u0 zn, sc10 u1 zn, sc10 u2 zn⟩ | with_reducible exact ⟨(td (ts10 kr (.inl rfl))), dcell (sc10 c1 tn), dcell (sc10 x1 wn), dcell (sc10 x2 wn), dcell (sc10 u0 zn), dcell (sc10 u1 zn), dcell (sc10 u2 zn)⟩)
    (first
      | (go_at_call 139; ((with_reducible refine (CL.out _).mono ?_); rintro r w' ⟨rfl, _, g⟩; (first | with_reducible (replace kr := tb kr g; replace c1 := celln g c1; replace x1 := celln g x1; replace x2 := celln g x2; replace u0 := celln g u0; replace u1 := celln g u1; replace u2 := celln g u2; try (replace zb := zb.below g; (try clear z0 z1 z2 z3 z4 z5 z6 z7 z8 z9 zf0 zf1 zf2 zf3 zf4 zf5 zf6 zf7 zf8 zf9); obtain ⟨z0, z1, z2, z3, z4, z5, z6, z7, z8, z9, zf0, zf1, zf2, zf3, zf4, zf5, zf6, zf7, zf8, zf9⟩ := blk10 zb)) | with_reducible (replace kr := tb (td kr) g; replace c1 := celln g (dcell c1); replace x1 := celln g (dcell x1); replace x2 := celln g (dcell x2); replace u0 := celln g (dcell u0); replace u1 := celln g (dcell u1); replace u2 := celln g (dcell u2); try (replace zb := (zb.dr).below g; (try clear z0 z1 z2 z3 z4 z5 z6 z7 z8 z9 zf0 zf1 zf2 zf3 zf4 zf5 zf6 zf7 zf8 zf9); obtain ⟨z0, z1, z2, z3, z4, z5, z6, z7, z8, z9, zf0, zf1, zf2, zf3, zf4, zf5, zf6, zf7, zf8, zf9⟩ := blk10 zb)))))
      | (go_at_call 116; ((with_reducible refine (CF.out _).mono ?_); rintro r w' ⟨rfl, _, g⟩; (first | with_reducible (replace kr := tb kr g; replace c1 := celln g c1; replace x1 := celln g x1; replace x2 := celln g x2; replace u0 := celln g u0; replace u1 := celln g u1; replace u2 := celln g u2; try (replace zb := zb.below g; (try clear z0 z1 z2 z3 z4 z5 z6 z7 z8 z9 zf0 zf1 zf2 zf3 zf4 zf5 zf6 zf7 zf8 zf9); obtain ⟨z0, z1, z2, z3, z4, z5, z6, z7, z8, z9, zf0, zf1, zf2, zf3, zf4, zf5, zf6, zf7, zf8, zf9⟩ := blk10 zb)) | with_reducible (replace kr := tb (td kr) g; replace c1 := celln g (dcell c1); replace x1 := celln g (dcell x1); replace x2 := celln g (dcell x2); replace u0 := celln g (dcell u0); replace u1 := celln g (dcell u1); replace u2 := celln g (dcell u2); try (replace zb := (zb.dr).below g; (try clear z0 z1 z2 z3 z4 z5 z6 z7 z8 z9 zf0 zf1 zf2 zf3 zf4 zf5 zf6 zf7 zf8 zf9); obtain ⟨z0, z1, z2, z3, z4, z5, z6, z7, z8, z9, zf0, zf1, zf2, zf3, zf4, zf5, zf6, zf7, zf8, zf9⟩ := blk10 zb)))))
      | (go_at_call 140; ((with_reducible refine (CS1.out _).mono ?_); rintro r w' ⟨rfl, g⟩; (first | with_reducible (replace kr := tb kr g; replace c1 := celln g c1; replace x1 := celln g x1; replace x2 := celln g x2; replace u0 := celln g u0; replace u1 := celln g u1; replace u2 := celln g u2; try (replace zb := zb.below g; (try clear z0 z1 z2 z3 z4 z5 z6 z7 z8 z9 zf0 zf1 zf2 zf3 zf4 zf5 zf6 zf7 zf8 zf9); obtain ⟨z0, z1, z2, z3, z4, z5, z6, z7, z8, z9, zf0, zf1, zf2, zf3, zf4, zf5, zf6, zf7, zf8, zf9⟩ := blk10 zb)) | with_reducible (replace kr := tb (td kr) g; replace c1 := celln g (dcell c1); replace x1 := celln g (dcell x1); replace x2 := celln g (dcell x2); replace u0 := celln g (dcell u0); replace u1 := celln g (dcell u1); replace u2 := celln g (dcell u2); try (replace zb := (zb.dr).below g; (try clear z0 z1 z2 z3 z4 z5 z6 z7 z8 z9 zf0 zf1 zf2 zf3 zf4 zf5 zf6 zf7 zf8 zf9); obtain ⟨z0, z1, z2, z3, z4, z5, z6, z7, z8, z9, zf0, zf1, zf2, zf3, zf4, zf5, zf6, zf7, zf8, zf9⟩ := blk10 zb)))))
      | (go_at_call 140; ((with_reducible refine (CS2.out _).mono ?_); rintro r W9 ⟨rfl, g⟩; (first | with_reducible (replace kr := tb kr g; replace c1 := celln g c1; replace x1 := celln g x1; replace x2 := celln g x2; replace u0 := celln g u0; replace u1 := celln g u1; replace u2 := celln g u2; try (replace zb := zb.below g; (try clear z0 z1 z2 z3 z4 z5 z6 z7 z8 z9 zf0 zf1 zf2 zf3 zf4 zf5 zf6 zf7 zf8 zf9); obtain ⟨z0, z1, z2, z3, z4, z5, z6, z7, z8, z9, zf0, zf1, zf2, zf3, zf4, zf5, zf6, zf7, zf8, zf9⟩ := blk10 zb)) | with_reducible (replace kr := tb (td kr) g; replace c1 := celln g (dcell c1); replace x1 := celln g (dcell x1); replace x2 := celln g (dcell x2); replace u0 := celln g (dcell u0); replace u1 := celln g (dcell u1); replace u2 := celln g (dcell u2); try (replace zb := (zb.dr).below g; (try clear z0 z1 z2 z3 z4 z5 z6 z7 z8 z9 zf0 zf1 zf2 zf3 zf4 zf5 zf6 zf7 zf8 zf9); obtain ⟨z0, z1, z2, z3, z4, z5, z6, z7, z8, z9, zf0, zf1, zf2, zf3, zf4, zf5, zf6, zf7, zf8, zf9⟩ := blk10 zb))))))
  all_goals
    rename_i hH
    clear hH
    have hB := bset10 (p0 := .int .u8 q) (p1 := .int .u16 0) (p2 := .int .u64 r.b) (p3 := .int .u64 (dvI (sbI (capR r) (kfI (stNx c r s n).k (stNx c r s n).a (stNx c r s n).b c (capR r))) r.e)) (p4 := .int .u64 (secI (flT c r (stNx c r s n)))) (p5 := .int .u64 (secI (kwI (flT c r s) (capR r) (wI r n)))) (p6 := .int .u64 (kwI (kfI s.k s.a s.b c (capR r)) (capR r) (wI r n))) (p7 := .bool (kwB (kfI s.k s.a s.b c (capR r)) (capR r) (wI r n))) (p8 := .int .i64 0) (p9 := .slice none 0 0) zb
    have hk9 := ts10 (p0 := .int .u8 q) (p1 := .int .u16 0) (p2 := .int .u64 r.b) (p3 := .int .u64 (dvI (sbI (capR r) (kfI (stNx c r s n).k (stNx c r s n).a (stNx c r s n).b c (capR r))) r.e)) (p4 := .int .u64 (secI (flT c r (stNx c r s n)))) (p5 := .int .u64 (secI (kwI (flT c r s) (capR r) (wI r n)))) (p6 := .int .u64 (kwI (kfI s.k s.a s.b c (capR r)) (capR r) (wI r n))) (p7 := .bool (kwB (kfI s.k s.a s.b c (capR r)) (capR r) (wI r n))) (p8 := .int .i64 0) (p9 := .slice none 0 0) kr (.inl rfl)
    have HB := Lib.hid hB
    clear z0 z1 z2 z3 z4 z5 z6 z7 z8 z9 zf0 zf1 zf2 zf3 zf4 zf5 zf6 zf7 zf8 zf9 zb
    go_wp2
    generalize World.setCell _ ⟨w.heap.size + 1, 9, none⟩ _ = V at *
    obtain ⟨q0, q1, q2, q3, q4, q5, q6, q7, q8, q9, _⟩ := blk10 HB.out
    refine bodyPost_ret (v := .agg #[.int .u8 q, .int .u16 0, .int .u64 r.b, .int .u64 (dvI (sbI (capR r) (kfI (stNx c r s n).k (stNx c r s n).a (stNx c r s n).b c (capR r))) r.e), .int .u64 (secI (flT c r (stNx c r s n))), .int .u64 (secI (kwI (flT c r s) (capR r) (wI r n))), .int .u64 (kwI (kfI s.k s.a s.b c (capR r)) (capR r) (wI r n)), .bool (kwB (kfI s.k s.a s.b c (capR r)) (capR r) (wI r n)), .int .i64 0, .slice none 0 0]) ?_ rfl ⟨?_, ?_, ?_⟩
    · simp [results, Tryz.results83, go_sem, q0, q1, q2, q3, q4, q5, q6, q7, q8, q9]
    · rw [hq.out]; rfl
    · exact (k7.out.next (hk9.mono (fun k _ e => .inr (by omega)))).mono (fun k _ hk => hk.1)
    · refine (H7.out.keep (fun k hk hl => hk9.block k hl (fun e => ?_))).mono (fun k hk => hk.elim (fun x => .inl x.1) (fun x => .inr (by omega)))
      rcases hk with hk | hk
      · have := hk.2; omega
      · omega
end Go.Proofs.YtbejkcdaefkibaaGreat.Wd
namespace Go.Proofs.YtbejkcdaefkibaaGreat.Wd
open Go Go.RowKit Go.Shelf Go.Deep
set_option linter.unusedVariables false
set_option maxRecDepth 100000

/-- Who is there once one by another rule is gone. -/
def dropS (S : List Sl) (k : ByteArray) (r : Rl) : List Sl := match getS S k with
  | some s => if s.r.e = r.e ∧ s.r.b = r.b then S else offS k S
  | none => S
/-- Is there no place for a key? -/
def fullB (m : Int) (S : List Sl) (k : ByteArray) : Bool := (getS S k).isNone && decide (m ≤ (S.length : Int))
/-- What a charge is told, and who is there behind it. -/
def chA (m c : Int) (S : List Sl) (k : ByteArray) (r : Rl) (n : Int) : An :=
  if wkE k r = 0 then (if fullB m (dropS S k r) k = true then ⟨3, 0, r.b, 0, 0, 0, 0, false⟩ else decA c r (stOf c r (getS (dropS S k r) k)) n) else ⟨5, wkE k r, 0, 0, 0, 0, 0, false⟩
def chN (m c : Int) (S : List Sl) (k : ByteArray) (r : Rl) (n : Int) : List Sl :=
  if wkE k r = 0 then (if fullB m (dropS S k r) k = true then dropS S k r else decS c (dropS S k r) k r (stOf c r (getS (dropS S k r) k)) n) else S
theorem getS_off (k : ByteArray) (S : List Sl) : getS (offS k S) k = none := getS_none.2 (fun s hs => (offS_mem.1 hs).2)

set_option maxHeartbeats 1000000 in
theorem charge_bad (T : Nat) (B : Nat → Prop) (m c : Int) (S : List Sl) (k : ByteArray) (r : Rl) (n : Int) (w : World) (h : Tbl w T B m c S) (hk : k.size ≤ 281474976710656) (hr : Okr r) (hn : U n) (h0 : wkE k r ≠ 0) :
    Calls Tryz.prog 44 #[ptr T, .string k, r.v, .int .u64 n] w fun e w' => e = .returned (chA m c S k r n).v ∧ Tch B w w' ∧ Tbl w' T (Nx B w) m c (chN m c S k r n) := by
  obtain ⟨c0, c1, cf, ct⟩ := h.cells
  have b0 := Lib.hid (((Blk.new w #[.string r.p, .int .u64 r.e, .int .u64 r.b, .int .u8 r.k] 79).alloc (.cells #[.int .u8 0, .int .u16 0, .int .u64 0, .int .u64 0, .int .u64 0, .int .u64 0, .int .u64 0, .bool false, .int .i64 0, .slice none 0 0] 57)))
  have a0 := Lib.hid (Blk.new (w.alloc (.cells #[.string r.p, .int .u64 r.e, .int .u64 r.b, .int .u8 r.k] 79)) #[.int .u8 0, .int .u16 0, .int .u64 0, .int .u64 0, .int .u64 0, .int .u64 0, .int .u64 0, .bool false, .int .i64 0, .slice none 0 0] 57)
  have k0 := Lib.hid (((Below.refl _ w).alloc (Nat.le_refl _) (.cells #[.string r.p, .int .u64 r.e, .int .u64 r.b, .int .u8 r.k] 79)).alloc (by simp) (.cells #[.int .u8 0, .int .u16 0, .int .u64 0, .int .u64 0, .int .u64 0, .int .u64 0, .int .u64 0, .bool false, .int .i64 0, .slice none 0 0] 57))
  have s0 := Lib.hid (show ((w.alloc (.cells #[.string r.p, .int .u64 r.e, .int .u64 r.b, .int .u8 r.k] 79)).alloc (.cells #[.int .u8 0, .int .u16 0, .int .u64 0, .int .u64 0, .int .u64 0, .int .u64 0, .int .u64 0, .bool false, .int .i64 0, .slice none 0 0] 57)).heap.size = w.heap.size + 2 by simp)
  rw [show (w.alloc (.cells #[.string r.p, .int .u64 r.e, .int .u64 r.b, .int .u8 r.k] 79)).heap.size = w.heap.size + 1 by simp] at a0
  have HL := Lib.hid h.low
  have H0 := Lib.hid (HL.out.below k0.out)
  have CN := Lib.hid (ornew_yes T)
  have CW := Lib.hid (fun W => wrongkey_any k r W (by omega) hr)
  clear h c0 c1 cf
  have e0 : (wkE k r != 0) = true := by simpa using h0
  have HE := Lib.hid h0
  have HA := Lib.hid (show chA m c S k r n = ⟨5, wkE k r, 0, 0, 0, 0, 0, false⟩ by unfold chA; rw [if_neg h0])
  have HN := Lib.hid (show chN m c S k r n = S by unfold chN; rw [if_neg h0])
  clear h0
  generalize wkE k r = E at *
  go_enter Tryz.func44, Tryz.ntmps44
  go_wp2_with fail
  generalize ((w.alloc (.cells #[.string r.p, .int .u64 r.e, .int .u64 r.b, .int .u8 r.k] 79)).alloc (.cells #[.int .u8 0, .int .u16 0, .int .u64 0, .int .u64 0, .int .u64 0, .int .u64 0, .int .u64 0, .bool false, .int .i64 0, .slice none 0 0] 57)) = W at *
  obtain ⟨x0, x1, x2, x3, _⟩ := blk4 b0.out
  go_wp2_with (first
    | (go_at_call 64; with_reducible refine (CN.out _).mono ?_; rintro e w1 ⟨rfl, rfl⟩)
    | (go_at_call 81; with_reducible refine (CW.out _).mono ?_; rintro e W1 ⟨rfl, g⟩; refine stopHere ?_))
  unfold Stop
  have hz : Hid (w.heap.size + 2 ≤ W1.heap.size) := Lib.hid (by have := s0.out; have := g.size; omega)
  have b1 := Lib.hid (b0.out.below g)
  have zb := a0.out.below g
  have H1 := Lib.hid (H0.out.below g)
  have k1 := Lib.hid (show Tch (fun k => B k ∧ k < w.heap.size) w W1 from Tch.of (kbq k0.out g))
  clear g CN CW b0 a0 H0 k0 s0 x0 x1 x2 x3
  obtain ⟨z0, z1, z2, z3, z4, z5, z6, z7, z8, z9, zf0, zf1, zf2, zf3, zf4, zf5, zf6, zf7, zf8, zf9⟩ := blk10 zb
  obtain ⟨x0, x1, x2, x3, _⟩ := blk4 b1.out
  have H2 := Lib.hid (show Tbl W1 T (fun k => (B k ∧ k < w.heap.size) ∨ w.heap.size + 2 ≤ k) m c S from H1.out.mono (fun k hk => .inl hk))
  go_wp2
  have hB := bset10 (p0 := .int .u8 5) (p1 := .int .u16 E) (p2 := .int .u64 0) (p3 := .int .u64 0) (p4 := .int .u64 0) (p5 := .int .u64 0) (p6 := .int .u64 0) (p7 := .bool false) (p8 := .int .i64 0) (p9 := .slice none 0 0) zb
  have hk9 := ts10 (p0 := .int .u8 5) (p1 := .int .u16 E) (p2 := .int .u64 0) (p3 := .int .u64 0) (p4 := .int .u64 0) (p5 := .int .u64 0) (p6 := .int .u64 0) (p7 := .bool false) (p8 := .int .i64 0) (p9 := .slice none 0 0) (Tch.refl (fun k => k = w.heap.size + 1) W1) (.inl rfl)
  have HB := Lib.hid hB
  have HK9 := Lib.hid hk9
  clear z0 z1 z2 z3 z4 z5 z6 z7 z8 z9 zf0 zf1 zf2 zf3 zf4 zf5 zf6 zf7 zf8 zf9 zb hB hk9
  have V9 := HB.out
  revert HB HK9 V9
  generalize World.setCell _ ⟨w.heap.size + 1, 9, none⟩ _ = V
  intro HB HK9 V9
  obtain ⟨q0, q1, q2, q3, q4, q5, q6, q7, q8, q9, _⟩ := blk10 HB.out
  refine bodyPost_ret (v := An.v (An.mk 5 E 0 0 0 0 0 false)) ?_ rfl ⟨?_, ?_, ?_⟩
  · simp [results, Tryz.results44, go_sem, q0, q1, q2, q3, q4, q5, q6, q7, q8, q9]
  · rw [HA.out]
  · exact (k1.out.next (HK9.out.mono (fun k _ e => .inr (by omega)))).mono (fun k _ hk => hk.1)
  · rw [HN.out]
    refine (H2.out.keep (fun k hk hl => HK9.out.block k hl (fun e => ?_))).mono (fun k hk => hk.elim (fun x => .inl x.1) (fun x => .inr (by omega)))
    rcases hk with hk | hk
    · have := hk.2; omega
    · omega

set_option maxHeartbeats 4000000 in
theorem charge_none (T : Nat) (B : Nat → Prop) (m c : Int) (S : List Sl) (k : ByteArray) (r : Rl) (n : Int) (w : World) (h : Tbl w T B m c S) (hk : k.size ≤ 281474976710656) (hr : Okr r) (hn : U n) (h0 : wkE k r = 0) (hg : getS S k = none) :
    Calls Tryz.prog 44 #[ptr T, .string k, r.v, .int .u64 n] w fun e w' => e = .returned (chA m c S k r n).v ∧ Tch B w w' ∧ Tbl w' T (Nx B w) m c (chN m c S k r n) := by
  obtain ⟨S1, hS1⟩ : ∃ S1, S1 = S := ⟨S, rfl⟩
  have hd : dropS S k r = S1 := by unfold dropS; rw [hg, hS1]
  have hg1 : getS S1 k = none := by rw [hS1]; exact hg
  have HA0 := Lib.hid (show chA m c S k r n = if fullB m S1 k = true then ⟨3, 0, r.b, 0, 0, 0, 0, false⟩ else decA c r (stOf c r (getS S1 k)) n by unfold chA; rw [if_pos h0, hd])
  have HN0 := Lib.hid (show chN m c S k r n = if fullB m S1 k = true then S1 else decS c S1 k r (stOf c r (getS S1 k)) n by unfold chN; rw [if_pos h0, hd])
  obtain ⟨c0, c1, cf, ct⟩ := h.cells
  have b0 := Lib.hid (((Blk.new w #[.string r.p, .int .u64 r.e, .int .u64 r.b, .int .u8 r.k] 79).alloc (.cells #[.int .u8 0, .int .u16 0, .int .u64 0, .int .u64 0, .int .u64 0, .int .u64 0, .int .u64 0, .bool false, .int .i64 0, .slice none 0 0] 57)))
  have a0 := Lib.hid (Blk.new (w.alloc (.cells #[.string r.p, .int .u64 r.e, .int .u64 r.b, .int .u8 r.k] 79)) #[.int .u8 0, .int .u16 0, .int .u64 0, .int .u64 0, .int .u64 0, .int .u64 0, .int .u64 0, .bool false, .int .i64 0, .slice none 0 0] 57)
  have k0 := Lib.hid (((Below.refl _ w).alloc (Nat.le_refl _) (.cells #[.string r.p, .int .u64 r.e, .int .u64 r.b, .int .u8 r.k] 79)).alloc (by simp) (.cells #[.int .u8 0, .int .u16 0, .int .u64 0, .int .u64 0, .int .u64 0, .int .u64 0, .int .u64 0, .bool false, .int .i64 0, .slice none 0 0] 57))
  have s0 := Lib.hid (show ((w.alloc (.cells #[.string r.p, .int .u64 r.e, .int .u64 r.b, .int .u8 r.k] 79)).alloc (.cells #[.int .u8 0, .int .u16 0, .int .u64 0, .int .u64 0, .int .u64 0, .int .u64 0, .int .u64 0, .bool false, .int .i64 0, .slice none 0 0] 57)).heap.size = w.heap.size + 2 by simp)
  rw [show (w.alloc (.cells #[.string r.p, .int .u64 r.e, .int .u64 r.b, .int .u8 r.k] 79)).heap.size = w.heap.size + 1 by simp] at a0
  have HL := Lib.hid h.low
  have H0 := Lib.hid (HL.out.below k0.out)
  have CN := Lib.hid (ornew_yes T)
  have CW := Lib.hid (fun W => wrongkey_any k r W (by omega) hr)
  rw [h0] at CW
  clear h c0 c1 cf
  go_enter Tryz.func44, Tryz.ntmps44
  go_wp2_with fail
  generalize ((w.alloc (.cells #[.string r.p, .int .u64 r.e, .int .u64 r.b, .int .u8 r.k] 79)).alloc (.cells #[.int .u8 0, .int .u16 0, .int .u64 0, .int .u64 0, .int .u64 0, .int .u64 0, .int .u64 0, .bool false, .int .i64 0, .slice none 0 0] 57)) = W at *
  obtain ⟨x0, x1, x2, x3, _⟩ := blk4 b0.out
  go_wp2_with (first
    | (go_at_call 64; with_reducible refine (CN.out _).mono ?_; rintro e w1 ⟨rfl, rfl⟩)
    | (go_at_call 81; with_reducible refine (CW.out _).mono ?_; rintro e W1 ⟨rfl, g⟩; refine stopHere ?_))
  unfold Stop
  have hz : Hid (w.heap.size + 2 ≤ W1.heap.size) := Lib.hid (by have := s0.out; have := g.size; omega)
  have b1 := Lib.hid (b0.out.below g)
  have zb := a0.out.below g
  have H1 := Lib.hid (H0.out.below g)
  have k1 := Lib.hid (show Tch (fun k => B k ∧ k < w.heap.size) w W1 from Tch.of (kbq k0.out g))
  clear g CN CW b0 a0 H0 k0 s0 x0 x1 x2 x3
  obtain ⟨z0, z1, z2, z3, z4, z5, z6, z7, z8, z9, zf0, zf1, zf2, zf3, zf4, zf5, zf6, zf7, zf8, zf9⟩ := blk10 zb
  obtain ⟨x0, x1, x2, x3, _⟩ := blk4 b1.out
  obtain ⟨M, Ml, hM, hLen, hL⟩ := H1.out.look k (by omega)
  have hl0 : ∀ j, (Instr.lookup Tmap (.map (some M)) (.string k) true).run Tryz.prog (W1.drewN j) = .ok (.tuple #[.pointer none, .bool false]) (W1.drewN j) := fun j => by
    rcases hL with ⟨_, hL⟩ | ⟨s, b, d, i, e, _⟩
    · exact hL (W1.drewN j) rfl
    · rw [hg] at e; cases e
  have hl1 : (Instr.lookup Tmap (.map (some M)) (.string k) true).run Tryz.prog W1 = .ok (.tuple #[.pointer none, .bool false]) W1 := hl0 0
  have hl9 : ∀ (j : Nat) (ty : TypeId), (Builtin.len_ #[Tmap] ty #[.map (some M)]).run Tryz.prog (W1.drewN j) = .ok (.int .i64 S1.length) (W1.drewN j) := fun j ty => by rw [hS1]; exact hLen (W1.drewN j) rfl ty
  have c0 := H1.out.cells.1
  have ZB := Lib.hid zb
  have BB := b1
  have HT := Lib.hid (show Tbl W1 T (fun k => B k ∧ k < w.heap.size) m c S1 by rw [hS1]; exact H1.out)
  have KT := k1
  clear hL hLen zb b1 k1 H1 hd hS1
  by_cases hf : m ≤ (S1.length : Int)
  · have hq := decide_eq_true hf
    have HA := Lib.hid (show chA m c S k r n = ⟨3, 0, r.b, 0, 0, 0, 0, false⟩ by rw [HA0.out, if_pos (by unfold fullB; rw [hg1]; simpa using hf)])
    have HN := Lib.hid (show chN m c S k r n = S1 by rw [HN0.out, if_pos (by unfold fullB; rw [hg1]; simpa using hf)])
    clear HA0 HN0 hf
    go_wp2_with fail
    go_quiet (fail)
    go_wp2_with fail
    go_quiet (fail)
    generalize hV : World.drewN (World.drewN W1 _) _ = V at *
    have zb : Blk V (w.heap.size + 1) #[.int .u8 0, .int .u16 0, .int .u64 0, .int .u64 0, .int .u64 0, .int .u64 0, .int .u64 0, .bool false, .int .i64 0, .slice none 0 0] 57 := by rw [← hV]; exact ZB.out
    have b2 : Blk V w.heap.size #[.string r.p, .int .u64 r.e, .int .u64 r.b, .int .u8 r.k] 79 := by rw [← hV]; exact BB.out
    have H2 := Lib.hid (show Tbl V T (fun k => B k ∧ k < w.heap.size) m c S1 by rw [← hV]; exact HT.out.keep (fun k _ hl => rfl))
    have k2 := Lib.hid (show Tch (fun k => B k ∧ k < w.heap.size) w V by rw [← hV]; exact KT.out.trans (show Tch _ _ _ from ⟨rfl, rfl, rfl, Nat.le_refl _, fun _ _ _ => rfl⟩))
    clear hV
    obtain ⟨z0, z1, z2, z3, z4, z5, z6, z7, z8, z9, zf0, zf1, zf2, zf3, zf4, zf5, zf6, zf7, zf8, zf9⟩ := blk10 zb
    obtain ⟨x0, x1, x2, x3, _⟩ := blk4 b2
    have H3 := Lib.hid (show Tbl V T (fun k => (B k ∧ k < w.heap.size) ∨ w.heap.size + 2 ≤ k) m c S1 from H2.out.mono (fun k hk => .inl hk))
    go_wp2
    have hB := bset10 (p0 := .int .u8 3) (p1 := .int .u16 0) (p2 := .int .u64 r.b) (p3 := .int .u64 0) (p4 := .int .u64 0) (p5 := .int .u64 0) (p6 := .int .u64 0) (p7 := .bool false) (p8 := .int .i64 0) (p9 := .slice none 0 0) zb
    have hk9 := ts10 (p0 := .int .u8 3) (p1 := .int .u16 0) (p2 := .int .u64 r.b) (p3 := .int .u64 0) (p4 := .int .u64 0) (p5 := .int .u64 0) (p6 := .int .u64 0) (p7 := .bool false) (p8 := .int .i64 0) (p9 := .slice none 0 0) (Tch.refl (fun k => k = w.heap.size + 1) V) (.inl rfl)
    have HB := Lib.hid hB
    have HK9 := Lib.hid hk9
    clear z0 z1 z2 z3 z4 z5 z6 z7 z8 z9 zf0 zf1 zf2 zf3 zf4 zf5 zf6 zf7 zf8 zf9 zb hB hk9
    have V9 := HB.out
    revert HB HK9 V9
    generalize World.setCell _ ⟨w.heap.size + 1, 9, none⟩ _ = V
    intro HB HK9 V9
    obtain ⟨q0, q1, q2, q3, q4, q5, q6, q7, q8, q9, _⟩ := blk10 HB.out
    refine bodyPost_ret (v := An.v (An.mk 3 0 r.b 0 0 0 0 false)) ?_ rfl ⟨?_, ?_, ?_⟩
    · simp [results, Tryz.results44, go_sem, q0, q1, q2, q3, q4, q5, q6, q7, q8, q9]
    · rw [HA.out]
    · exact (k2.out.next (HK9.out.mono (fun k _ e => .inr (by omega)))).mono (fun k _ hk => hk.1)
    · rw [HN.out]
      refine (H3.out.keep (fun k hk hl => HK9.out.block k hl (fun e => ?_))).mono (fun k hk => hk.elim (fun x => .inl x.1) (fun x => .inr (by omega)))
      rcases hk with hk | hk
      · have := hk.2; omega
      · omega
  · have hq := decide_eq_false hf
    obtain ⟨st, hst⟩ : ∃ st, stOf c r (getS S1 k) = st := ⟨_, rfl⟩
    have HA := Lib.hid (show chA m c S k r n = decA c r st n by rw [HA0.out, if_neg (by unfold fullB; rw [hg1]; simpa using hf), hst])
    have HN := Lib.hid (show chN m c S k r n = decS c S1 k r st n by rw [HN0.out, if_neg (by unfold fullB; rw [hg1]; simpa using hf), hst])
    have HST := Lib.hid hst
    have HLT := Lib.hid (show getS S1 k = none → (S1.length : Int) < m from fun _ => by omega)
    clear HA0 HN0 hf hst
    go_wp2_with fail
    go_quiet (fail)
    go_wp2_with fail
    go_quiet (fail)
    generalize hV : World.drewN (World.drewN W1 _) _ = V at *
    have zb : Blk V (w.heap.size + 1) #[.int .u8 0, .int .u16 0, .int .u64 0, .int .u64 0, .int .u64 0, .int .u64 0, .int .u64 0, .bool false, .int .i64 0, .slice none 0 0] 57 := by rw [← hV]; exact ZB.out
    have b2 : Blk V w.heap.size #[.string r.p, .int .u64 r.e, .int .u64 r.b, .int .u8 r.k] 79 := by rw [← hV]; exact BB.out
    have H2 := Lib.hid (show Tbl V T (fun k => B k ∧ k < w.heap.size) m c S1 by rw [← hV]; exact HT.out.keep (fun k _ hl => rfl))
    have k2 := Lib.hid (show Tch (fun k => B k ∧ k < w.heap.size) w V by rw [← hV]; exact KT.out.trans (show Tch _ _ _ from ⟨rfl, rfl, rfl, Nat.le_refl _, fun _ _ _ => rfl⟩))
    clear hV
    obtain ⟨z0, z1, z2, z3, z4, z5, z6, z7, z8, z9, zf0, zf1, zf2, zf3, zf4, zf5, zf6, zf7, zf8, zf9⟩ := blk10 zb
    obtain ⟨x0, x1, x2, x3, _⟩ := blk4 b2
    have CD := Lib.hid (decide_tab T _ m c S1 k r n st V H2.out hk hr hn h0 HST.out HLT.out)
    clear x0 x1 x2 x3 z0 z1 z2 z3 z4 z5 z6 z7 z8 z9 zf0 zf1 zf2 zf3 zf4 zf5 zf6 zf7 zf8 zf9 HLT HST
    obtain ⟨x0, x1, x2, x3, _⟩ := blk4 b2
    have ZB2 := Lib.hid zb
    have hz3 := Lib.hid (show w.heap.size + 2 ≤ V.heap.size by have := zb.lt; omega)
    clear zb b2
    go_wp2_with fail
    go_at_call 83
    with_reducible refine CD.out.mono ?_
    rintro e V3 ⟨rfl, g, hT3⟩
    have zb := g.blk ZB2.out (fun x => by have := x.2; omega)
    have H3 := Lib.hid (hT3.mono (C := fun k => (B k ∧ k < w.heap.size) ∨ w.heap.size + 2 ≤ k) (fun k hk => hk.elim .inl (fun x => .inr (by have := hz3.out; omega))))
    have k3 := Lib.hid (k2.out.trans g)
    obtain ⟨z0, z1, z2, z3, z4, z5, z6, z7, z8, z9, zf0, zf1, zf2, zf3, zf4, zf5, zf6, zf7, zf8, zf9⟩ := blk10 zb
    clear g hT3 x0 x1 x2 x3
    go_wp2
    have hB := bset10 (p0 := .int .u8 (decA c r st n).code) (p1 := .int .u16 (decA c r st n).err) (p2 := .int .u64 (decA c r st n).lim) (p3 := .int .u64 (decA c r st n).left) (p4 := .int .u64 (decA c r st n).reset) (p5 := .int .u64 (decA c r st n).after) (p6 := .int .u64 (decA c r st n).nanos) (p7 := .bool (decA c r st n).retry) (p8 := .int .i64 0) (p9 := .slice none 0 0) zb
    have hk9 := ts10 (p0 := .int .u8 (decA c r st n).code) (p1 := .int .u16 (decA c r st n).err) (p2 := .int .u64 (decA c r st n).lim) (p3 := .int .u64 (decA c r st n).left) (p4 := .int .u64 (decA c r st n).reset) (p5 := .int .u64 (decA c r st n).after) (p6 := .int .u64 (decA c r st n).nanos) (p7 := .bool (decA c r st n).retry) (p8 := .int .i64 0) (p9 := .slice none 0 0) (Tch.refl (fun k => k = w.heap.size + 1) V3) (.inl rfl)
    have HB := Lib.hid hB
    have HK9 := Lib.hid hk9
    clear z0 z1 z2 z3 z4 z5 z6 z7 z8 z9 zf0 zf1 zf2 zf3 zf4 zf5 zf6 zf7 zf8 zf9 zb hB hk9
    have V9 := HB.out
    revert HB HK9 V9
    generalize World.setCell _ ⟨w.heap.size + 1, 9, none⟩ _ = V
    intro HB HK9 V9
    obtain ⟨q0, q1, q2, q3, q4, q5, q6, q7, q8, q9, _⟩ := blk10 HB.out
    refine bodyPost_ret (v := An.v (decA c r st n)) ?_ rfl ⟨?_, ?_, ?_⟩
    · simp [results, Tryz.results44, go_sem, q0, q1, q2, q3, q4, q5, q6, q7, q8, q9]
    · rw [HA.out]
    · exact (k3.out.next (HK9.out.mono (fun k _ e => .inr (by omega)))).mono (fun k _ hk => hk.1)
    · rw [HN.out]
      refine (H3.out.keep (fun k hk hl => HK9.out.block k hl (fun e => ?_))).mono (fun k hk => hk.elim (fun x => .inl x.1) (fun x => .inr (by omega)))
      rcases hk with hk | hk
      · have := hk.2; omega
      · omega
set_option maxHeartbeats 4000000 in
theorem charge_same (T : Nat) (B : Nat → Prop) (m c : Int) (S : List Sl) (k : ByteArray) (r : Rl) (n : Int) (w : World) (h : Tbl w T B m c S) (hk : k.size ≤ 281474976710656) (hr : Okr r) (hn : U n) (h0 : wkE k r = 0) (s : Sl) (hg : getS S k = some s) (he : s.r.e = r.e) (hbb : s.r.b = r.b) :
    Calls Tryz.prog 44 #[ptr T, .string k, r.v, .int .u64 n] w fun e w' => e = .returned (chA m c S k r n).v ∧ Tch B w w' ∧ Tbl w' T (Nx B w) m c (chN m c S k r n) := by
  obtain ⟨S1, hS1⟩ : ∃ S1, S1 = S := ⟨S, rfl⟩
  have hd : dropS S k r = S1 := by unfold dropS; rw [hg, hS1]; simp [he, hbb]
  have hg1 : getS S1 k = some s := by rw [hS1]; exact hg
  obtain ⟨st, hst⟩ : ∃ st, stOf c r (getS S1 k) = st := ⟨_, rfl⟩
  have hff : ¬ fullB m S1 k = true := by unfold fullB; rw [hg1]; simp
  have HA := Lib.hid (show chA m c S k r n = decA c r st n by unfold chA; rw [if_pos h0, hd, if_neg hff, hst])
  have HN := Lib.hid (show chN m c S k r n = decS c S1 k r st n by unfold chN; rw [if_pos h0, hd, if_neg hff, hst])
  have HST := Lib.hid hst
  have HLT := Lib.hid (show getS S1 k = none → (S1.length : Int) < m from fun e => by rw [hg1] at e; cases e)
  obtain ⟨c0, c1, cf, ct⟩ := h.cells
  have b0 := Lib.hid (((Blk.new w #[.string r.p, .int .u64 r.e, .int .u64 r.b, .int .u8 r.k] 79).alloc (.cells #[.int .u8 0, .int .u16 0, .int .u64 0, .int .u64 0, .int .u64 0, .int .u64 0, .int .u64 0, .bool false, .int .i64 0, .slice none 0 0] 57)))
  have a0 := Lib.hid (Blk.new (w.alloc (.cells #[.string r.p, .int .u64 r.e, .int .u64 r.b, .int .u8 r.k] 79)) #[.int .u8 0, .int .u16 0, .int .u64 0, .int .u64 0, .int .u64 0, .int .u64 0, .int .u64 0, .bool false, .int .i64 0, .slice none 0 0] 57)
  have k0 := Lib.hid (((Below.refl _ w).alloc (Nat.le_refl _) (.cells #[.string r.p, .int .u64 r.e, .int .u64 r.b, .int .u8 r.k] 79)).alloc (by simp) (.cells #[.int .u8 0, .int .u16 0, .int .u64 0, .int .u64 0, .int .u64 0, .int .u64 0, .int .u64 0, .bool false, .int .i64 0, .slice none 0 0] 57))
  have s0 := Lib.hid (show ((w.alloc (.cells #[.string r.p, .int .u64 r.e, .int .u64 r.b, .int .u8 r.k] 79)).alloc (.cells #[.int .u8 0, .int .u16 0, .int .u64 0, .int .u64 0, .int .u64 0, .int .u64 0, .int .u64 0, .bool false, .int .i64 0, .slice none 0 0] 57)).heap.size = w.heap.size + 2 by simp)
  rw [show (w.alloc (.cells #[.string r.p, .int .u64 r.e, .int .u64 r.b, .int .u8 r.k] 79)).heap.size = w.heap.size + 1 by simp] at a0
  have HL := Lib.hid h.low
  have H0 := Lib.hid (HL.out.below k0.out)
  have CN := Lib.hid (ornew_yes T)
  have CW := Lib.hid (fun W => wrongkey_any k r W (by omega) hr)
  rw [h0] at CW
  clear h c0 c1 cf
  go_enter Tryz.func44, Tryz.ntmps44
  go_wp2_with fail
  generalize ((w.alloc (.cells #[.string r.p, .int .u64 r.e, .int .u64 r.b, .int .u8 r.k] 79)).alloc (.cells #[.int .u8 0, .int .u16 0, .int .u64 0, .int .u64 0, .int .u64 0, .int .u64 0, .int .u64 0, .bool false, .int .i64 0, .slice none 0 0] 57)) = W at *
  obtain ⟨x0, x1, x2, x3, _⟩ := blk4 b0.out
  go_wp2_with (first
    | (go_at_call 64; with_reducible refine (CN.out _).mono ?_; rintro e w1 ⟨rfl, rfl⟩)
    | (go_at_call 81; with_reducible refine (CW.out _).mono ?_; rintro e W1 ⟨rfl, g⟩; refine stopHere ?_))
  unfold Stop
  have hz : Hid (w.heap.size + 2 ≤ W1.heap.size) := Lib.hid (by have := s0.out; have := g.size; omega)
  have b1 := Lib.hid (b0.out.below g)
  have zb := a0.out.below g
  have H1 := Lib.hid (H0.out.below g)
  have k1 := Lib.hid (show Tch (fun k => B k ∧ k < w.heap.size) w W1 from Tch.of (kbq k0.out g))
  clear g CN CW b0 a0 H0 k0 s0 x0 x1 x2 x3
  obtain ⟨z0, z1, z2, z3, z4, z5, z6, z7, z8, z9, zf0, zf1, zf2, zf3, zf4, zf5, zf6, zf7, zf8, zf9⟩ := blk10 zb
  obtain ⟨x0, x1, x2, x3, _⟩ := blk4 b1.out
  obtain ⟨M, Ml, hM, hLen, hL⟩ := H1.out.look k (by omega)
  obtain ⟨b, d, i, hl, hb⟩ : ∃ b d i, (∀ j, (Instr.lookup Tmap (.map (some M)) (.string k) true).run Tryz.prog (W1.drewN j) = .ok (.tuple #[ptr b, .bool true]) (W1.drewN j)) ∧ Blk W1 b (kcs (s, d) i) Tsl := by
    rcases hL with ⟨e, _⟩ | ⟨s', b, d, i, e, hL, hb⟩
    · rw [hg] at e; cases e
    · rw [hg] at e; injection e with e; subst e
      exact ⟨b, d, i, fun j => hL (W1.drewN j) rfl, hb⟩
  have hl1 : (Instr.lookup Tmap (.map (some M)) (.string k) true).run Tryz.prog W1 = .ok (.tuple #[ptr b, .bool true]) W1 := hl 0
  obtain ⟨_, _, y2, y3, _⟩ := kcs_cells hb
  clear hL hLen hb
  rw [he] at y2
  rw [hbb] at y3
  have ZB := Lib.hid zb
  have BB := b1
  have HT := Lib.hid (show Tbl W1 T (fun k => B k ∧ k < w.heap.size) m c S1 by rw [hS1]; exact H1.out)
  have KT := k1
  clear zb b1 k1 H1 hd hS1 hst hff he hbb
  go_wp2_with fail
  go_quiet (fail)
  go_wp2_with fail
  go_quiet (fail)
  generalize hV : World.drewN (World.drewN W1 _) _ = V at *
  have zb : Blk V (w.heap.size + 1) #[.int .u8 0, .int .u16 0, .int .u64 0, .int .u64 0, .int .u64 0, .int .u64 0, .int .u64 0, .bool false, .int .i64 0, .slice none 0 0] 57 := by rw [← hV]; exact ZB.out
  have b2 : Blk V w.heap.size #[.string r.p, .int .u64 r.e, .int .u64 r.b, .int .u8 r.k] 79 := by rw [← hV]; exact BB.out
  have H2 := Lib.hid (show Tbl V T (fun k => B k ∧ k < w.heap.size) m c S1 by rw [← hV]; exact HT.out.keep (fun k _ hl => rfl))
  have k2 := Lib.hid (show Tch (fun k => B k ∧ k < w.heap.size) w V by rw [← hV]; exact KT.out.trans (show Tch _ _ _ from ⟨rfl, rfl, rfl, Nat.le_refl _, fun _ _ _ => rfl⟩))
  clear hV
  obtain ⟨z0, z1, z2, z3, z4, z5, z6, z7, z8, z9, zf0, zf1, zf2, zf3, zf4, zf5, zf6, zf7, zf8, zf9⟩ := blk10 zb
  obtain ⟨x0, x1, x2, x3, _⟩ := blk4 b2
  have CD := Lib.hid (decide_tab T _ m c S1 k r n st V H2.out hk hr hn h0 HST.out HLT.out)
  clear x0 x1 x2 x3 z0 z1 z2 z3 z4 z5 z6 z7 z8 z9 zf0 zf1 zf2 zf3 zf4 zf5 zf6 zf7 zf8 zf9 HLT HST
  obtain ⟨x0, x1, x2, x3, _⟩ := blk4 b2
  have ZB2 := Lib.hid zb
  have hz3 := Lib.hid (show w.heap.size + 2 ≤ V.heap.size by have := zb.lt; omega)
  clear zb b2
  go_wp2_with fail
  go_at_call 83
  with_reducible refine CD.out.mono ?_
  rintro e V3 ⟨rfl, g, hT3⟩
  have zb := g.blk ZB2.out (fun x => by have := x.2; omega)
  have H3 := Lib.hid (hT3.mono (C := fun k => (B k ∧ k < w.heap.size) ∨ w.heap.size + 2 ≤ k) (fun k hk => hk.elim .inl (fun x => .inr (by have := hz3.out; omega))))
  have k3 := Lib.hid (k2.out.trans g)
  obtain ⟨z0, z1, z2, z3, z4, z5, z6, z7, z8, z9, zf0, zf1, zf2, zf3, zf4, zf5, zf6, zf7, zf8, zf9⟩ := blk10 zb
  clear g hT3 x0 x1 x2 x3
  go_wp2
  have hB := bset10 (p0 := .int .u8 (decA c r st n).code) (p1 := .int .u16 (decA c r st n).err) (p2 := .int .u64 (decA c r st n).lim) (p3 := .int .u64 (decA c r st n).left) (p4 := .int .u64 (decA c r st n).reset) (p5 := .int .u64 (decA c r st n).after) (p6 := .int .u64 (decA c r st n).nanos) (p7 := .bool (decA c r st n).retry) (p8 := .int .i64 0) (p9 := .slice none 0 0) zb
  have hk9 := ts10 (p0 := .int .u8 (decA c r st n).code) (p1 := .int .u16 (decA c r st n).err) (p2 := .int .u64 (decA c r st n).lim) (p3 := .int .u64 (decA c r st n).left) (p4 := .int .u64 (decA c r st n).reset) (p5 := .int .u64 (decA c r st n).after) (p6 := .int .u64 (decA c r st n).nanos) (p7 := .bool (decA c r st n).retry) (p8 := .int .i64 0) (p9 := .slice none 0 0) (Tch.refl (fun k => k = w.heap.size + 1) V3) (.inl rfl)
  have HB := Lib.hid hB
  have HK9 := Lib.hid hk9
  clear z0 z1 z2 z3 z4 z5 z6 z7 z8 z9 zf0 zf1 zf2 zf3 zf4 zf5 zf6 zf7 zf8 zf9 zb hB hk9
  have V9 := HB.out
  revert HB HK9 V9
  generalize World.setCell _ ⟨w.heap.size + 1, 9, none⟩ _ = V
  intro HB HK9 V9
  obtain ⟨q0, q1, q2, q3, q4, q5, q6, q7, q8, q9, _⟩ := blk10 HB.out
  refine bodyPost_ret (v := An.v (decA c r st n)) ?_ rfl ⟨?_, ?_, ?_⟩
  · simp [results, Tryz.results44, go_sem, q0, q1, q2, q3, q4, q5, q6, q7, q8, q9]
  · rw [HA.out]
  · exact (k3.out.next (HK9.out.mono (fun k _ e => .inr (by omega)))).mono (fun k _ hk => hk.1)
  · rw [HN.out]
    refine (H3.out.keep (fun k hk hl => HK9.out.block k hl (fun e => ?_))).mono (fun k hk => hk.elim (fun x => .inl x.1) (fun x => .inr (by omega)))
    rcases hk with hk | hk
    · have := hk.2; omega
    · omega
end Go.Proofs.YtbejkcdaefkibaaGreat.Wd
namespace Go.Proofs.YtbejkcdaefkibaaGreat.Wd
open Go Go.RowKit Go.Shelf Go.Deep
set_option linter.unusedVariables false
set_option maxRecDepth 100000

set_option maxHeartbeats 4000000 in
theorem charge_other (T : Nat) (B : Nat → Prop) (m c : Int) (S : List Sl) (k : ByteArray) (r : Rl) (n : Int) (w : World) (h : Tbl w T B m c S) (hk : k.size ≤ 281474976710656) (hr : Okr r) (hn : U n) (h0 : wkE k r = 0) (s : Sl) (hg : getS S k = some s) (he : ¬ (s.r.e = r.e ∧ s.r.b = r.b)) :
    Calls Tryz.prog 44 #[ptr T, .string k, r.v, .int .u64 n] w fun e w' => e = .returned (chA m c S k r n).v ∧ Tch B w w' ∧ Tbl w' T (Nx B w) m c (chN m c S k r n) := by
  obtain ⟨S1, hS1⟩ : ∃ S1, S1 = offS k S := ⟨_, rfl⟩
  have hd : dropS S k r = S1 := by unfold dropS; rw [hg, hS1]; simp [he]
  have hg1 : getS S1 k = none := by rw [hS1]; exact getS_off k S
  obtain ⟨st, hst⟩ : ∃ st, stOf c r (getS S1 k) = st := ⟨_, rfl⟩
  have hff : ¬ fullB m S1 k = true := by
    unfold fullB; rw [hg1]
    have := offS_lt (getS_some hg).1 (getS_some hg).2
    have := h.wf.len
    rw [← hS1] at *
    simp; omega
  have HA := Lib.hid (show chA m c S k r n = decA c r st n by unfold chA; rw [if_pos h0, hd, if_neg hff, hst])
  have HN := Lib.hid (show chN m c S k r n = decS c S1 k r st n by unfold chN; rw [if_pos h0, hd, if_neg hff, hst])
  have HST := Lib.hid hst
  have hlt : (S1.length : Int) < m := by
    have := offS_lt (getS_some hg).1 (getS_some hg).2
    have := h.wf.len
    rw [← hS1] at *
    omega
  have HLT := Lib.hid (show getS S1 k = none → (S1.length : Int) < m from fun e => hlt)
  have hq := decide_eq_false (show ¬ m ≤ (S1.length : Int) by omega)
  obtain ⟨c0, c1, cf, ct⟩ := h.cells
  have b0 := Lib.hid (((Blk.new w #[.string r.p, .int .u64 r.e, .int .u64 r.b, .int .u8 r.k] 79).alloc (.cells #[.int .u8 0, .int .u16 0, .int .u64 0, .int .u64 0, .int .u64 0, .int .u64 0, .int .u64 0, .bool false, .int .i64 0, .slice none 0 0] 57)))
  have a0 := Lib.hid (Blk.new (w.alloc (.cells #[.string r.p, .int .u64 r.e, .int .u64 r.b, .int .u8 r.k] 79)) #[.int .u8 0, .int .u16 0, .int .u64 0, .int .u64 0, .int .u64 0, .int .u64 0, .int .u64 0, .bool false, .int .i64 0, .slice none 0 0] 57)
  have k0 := Lib.hid (((Below.refl _ w).alloc (Nat.le_refl _) (.cells #[.string r.p, .int .u64 r.e, .int .u64 r.b, .int .u8 r.k] 79)).alloc (by simp) (.cells #[.int .u8 0, .int .u16 0, .int .u64 0, .int .u64 0, .int .u64 0, .int .u64 0, .int .u64 0, .bool false, .int .i64 0, .slice none 0 0] 57))
  have s0 := Lib.hid (show ((w.alloc (.cells #[.string r.p, .int .u64 r.e, .int .u64 r.b, .int .u8 r.k] 79)).alloc (.cells #[.int .u8 0, .int .u16 0, .int .u64 0, .int .u64 0, .int .u64 0, .int .u64 0, .int .u64 0, .bool false, .int .i64 0, .slice none 0 0] 57)).heap.size = w.heap.size + 2 by simp)
  rw [show (w.alloc (.cells #[.string r.p, .int .u64 r.e, .int .u64 r.b, .int .u8 r.k] 79)).heap.size = w.heap.size + 1 by simp] at a0
  have HL := Lib.hid h.low
  have H0 := Lib.hid (HL.out.below k0.out)
  have CN := Lib.hid (ornew_yes T)
  have CW := Lib.hid (fun W => wrongkey_any k r W (by omega) hr)
  rw [h0] at CW
  clear h c0 c1 cf
  go_enter Tryz.func44, Tryz.ntmps44
  go_wp2_with fail
  generalize ((w.alloc (.cells #[.string r.p, .int .u64 r.e, .int .u64 r.b, .int .u8 r.k] 79)).alloc (.cells #[.int .u8 0, .int .u16 0, .int .u64 0, .int .u64 0, .int .u64 0, .int .u64 0, .int .u64 0, .bool false, .int .i64 0, .slice none 0 0] 57)) = W at *
  obtain ⟨x0, x1, x2, x3, _⟩ := blk4 b0.out
  go_wp2_with (first
    | (go_at_call 64; with_reducible refine (CN.out _).mono ?_; rintro e w1 ⟨rfl, rfl⟩)
    | (go_at_call 81; with_reducible refine (CW.out _).mono ?_; rintro e W1 ⟨rfl, g⟩; refine stopHere ?_))
  unfold Stop
  have hz : Hid (w.heap.size + 2 ≤ W1.heap.size) := Lib.hid (by have := s0.out; have := g.size; omega)
  have b1 := Lib.hid (b0.out.below g)
  have zb := a0.out.below g
  have H1 := Lib.hid (H0.out.below g)
  have k1 := Lib.hid (show Tch (fun k => B k ∧ k < w.heap.size) w W1 from Tch.of (kbq k0.out g))
  clear g CN CW b0 a0 H0 k0 s0 x0 x1 x2 x3
  obtain ⟨z0, z1, z2, z3, z4, z5, z6, z7, z8, z9, zf0, zf1, zf2, zf3, zf4, zf5, zf6, zf7, zf8, zf9⟩ := blk10 zb
  obtain ⟨x0, x1, x2, x3, _⟩ := blk4 b1.out
  obtain ⟨M, Ml, hM, hLen, hL⟩ := H1.out.look k (by omega)
  obtain ⟨b, d, i, hl, hb⟩ : ∃ b d i, (∀ j, (Instr.lookup Tmap (.map (some M)) (.string k) true).run Tryz.prog (W1.drewN j) = .ok (.tuple #[ptr b, .bool true]) (W1.drewN j)) ∧ Blk W1 b (kcs (s, d) i) Tsl := by
    rcases hL with ⟨e, _⟩ | ⟨s', b, d, i, e, hL, hb⟩
    · rw [hg] at e; cases e
    · rw [hg] at e; injection e with e; subst e
      exact ⟨b, d, i, fun j => hL (W1.drewN j) rfl, hb⟩
  have hl1 : (Instr.lookup Tmap (.map (some M)) (.string k) true).run Tryz.prog W1 = .ok (.tuple #[ptr b, .bool true]) W1 := hl 0
  obtain ⟨_, _, y2, y3, _⟩ := kcs_cells hb
  clear hL hLen hb
  have ZB := Lib.hid zb
  have BB := b1
  have KT := k1
  have HGN := Lib.hid hg1
  have HS1 := Lib.hid hS1
  have CLo := Lib.hid (fun W (g : Tbl W T (fun k => B k ∧ k < w.heap.size) m c S) => lose_tab T _ m c S k W g (by omega))
  clear zb b1 k1 hd hst hff hg1 hS1 hlt
  have eb : ((s.r.e != r.e) || (s.r.b != r.b)) = true := by
    by_cases z : s.r.e = r.e
    · have : s.r.b ≠ r.b := fun x => he ⟨z, x⟩
      simp [z, this]
    · simp [z]
  have HE := Lib.hid he
  clear he
  cases e1 : (s.r.e != r.e)
  · rw [e1] at eb
    have e2 : (s.r.b != r.b) = true := by simpa using eb
    clear eb
    go_wp2_with fail
    go_quiet (fail)
    have HL1 := Lib.hid (show Tbl (World.drewN W1 nq) T (fun k => B k ∧ k < w.heap.size) m c S from H1.out.keep (fun k _ hl => rfl))
    go_wp2_with fail
    go_at_call 82
    with_reducible refine (CLo.out _ HL1.out).mono ?_
    rintro e V1 ⟨rfl, hT1, g1⟩
    rw [← HS1.out] at hT1
    obtain ⟨M2, Ml2, hM2, hLen2, hL2⟩ := hT1.look k (by omega)
    have hl2 : (Instr.lookup Tmap (.map (some M2)) (.string k) true).run Tryz.prog V1 = .ok (.tuple #[.pointer none, .bool false]) V1 := by
      rcases hL2 with ⟨_, hL⟩ | ⟨s, b, d, i, e, _⟩
      · exact hL V1 rfl
      · rw [HGN.out] at e; cases e
    have hl9 : ∀ (j : Nat) (ty : TypeId), (Builtin.len_ #[Tmap] ty #[.map (some M2)]).run Tryz.prog (V1.drewN j) = .ok (.int .i64 S1.length) (V1.drewN j) := fun j ty => hLen2 (V1.drewN j) rfl ty
    have hl10 : ∀ (ty : TypeId), (Builtin.len_ #[Tmap] ty #[.map (some M2)]).run Tryz.prog V1 = .ok (.int .i64 S1.length) V1 := fun ty => hLen2 V1 rfl ty
    have c0 := hT1.cells.1
    have ZB1 : Blk (World.drewN W1 nq) (w.heap.size + 1) #[.int .u8 0, .int .u16 0, .int .u64 0, .int .u64 0, .int .u64 0, .int .u64 0, .int .u64 0, .bool false, .int .i64 0, .slice none 0 0] 57 := ZB.out
    have ZB := Lib.hid (g1.blk ZB1 (fun x => by have := x.2; omega))
    have BB1 : Blk (World.drewN W1 nq) w.heap.size #[.string r.p, .int .u64 r.e, .int .u64 r.b, .int .u8 r.k] 79 := BB.out
    have BB := Lib.hid (g1.blk BB1 (fun x => by have := x.2; omega))
    have KT := Lib.hid ((KT.out.trans (show Tch (fun k => B k ∧ k < w.heap.size) W1 (World.drewN W1 nq) from ⟨rfl, rfl, rfl, Nat.le_refl _, fun _ _ _ => rfl⟩)).trans g1)
    have HT := Lib.hid hT1
    clear ZB1 BB1 hL2 hLen2 hT1 g1 HL1 H1 x0 x1 x2 x3 hM Ml hl hl1 y2 y3 CLo
    go_wp2_with fail
    go_quiet (fail)
    generalize hV : World.drewN V1 _ = V at *
    have zb : Blk V (w.heap.size + 1) #[.int .u8 0, .int .u16 0, .int .u64 0, .int .u64 0, .int .u64 0, .int .u64 0, .int .u64 0, .bool false, .int .i64 0, .slice none 0 0] 57 := by rw [← hV]; exact ZB.out
    have b2 : Blk V w.heap.size #[.string r.p, .int .u64 r.e, .int .u64 r.b, .int .u8 r.k] 79 := by rw [← hV]; exact BB.out
    have H2 := Lib.hid (show Tbl V T (fun k => B k ∧ k < w.heap.size) m c S1 by rw [← hV]; exact HT.out.keep (fun k _ hl => rfl))
    have k2 := Lib.hid (show Tch (fun k => B k ∧ k < w.heap.size) w V by rw [← hV]; exact KT.out.trans (show Tch _ _ _ from ⟨rfl, rfl, rfl, Nat.le_refl _, fun _ _ _ => rfl⟩))
    clear hV
    obtain ⟨z0, z1, z2, z3, z4, z5, z6, z7, z8, z9, zf0, zf1, zf2, zf3, zf4, zf5, zf6, zf7, zf8, zf9⟩ := blk10 zb
    obtain ⟨x0, x1, x2, x3, _⟩ := blk4 b2
    have CD := Lib.hid (decide_tab T _ m c S1 k r n st V H2.out hk hr hn h0 HST.out HLT.out)
    clear x0 x1 x2 x3 z0 z1 z2 z3 z4 z5 z6 z7 z8 z9 zf0 zf1 zf2 zf3 zf4 zf5 zf6 zf7 zf8 zf9 HLT HST
    obtain ⟨x0, x1, x2, x3, _⟩ := blk4 b2
    have ZB2 := Lib.hid zb
    have hz3 := Lib.hid (show w.heap.size + 2 ≤ V.heap.size by have := zb.lt; omega)
    clear zb b2
    go_wp2_with fail
    go_at_call 83
    with_reducible refine CD.out.mono ?_
    rintro e V3 ⟨rfl, g, hT3⟩
    have zb := g.blk ZB2.out (fun x => by have := x.2; omega)
    have H3 := Lib.hid (hT3.mono (C := fun k => (B k ∧ k < w.heap.size) ∨ w.heap.size + 2 ≤ k) (fun k hk => hk.elim .inl (fun x => .inr (by have := hz3.out; omega))))
    have k3 := Lib.hid (k2.out.trans g)
    obtain ⟨z0, z1, z2, z3, z4, z5, z6, z7, z8, z9, zf0, zf1, zf2, zf3, zf4, zf5, zf6, zf7, zf8, zf9⟩ := blk10 zb
    clear g hT3 x0 x1 x2 x3
    go_wp2
    have hB := bset10 (p0 := .int .u8 (decA c r st n).code) (p1 := .int .u16 (decA c r st n).err) (p2 := .int .u64 (decA c r st n).lim) (p3 := .int .u64 (decA c r st n).left) (p4 := .int .u64 (decA c r st n).reset) (p5 := .int .u64 (decA c r st n).after) (p6 := .int .u64 (decA c r st n).nanos) (p7 := .bool (decA c r st n).retry) (p8 := .int .i64 0) (p9 := .slice none 0 0) zb
    have hk9 := ts10 (p0 := .int .u8 (decA c r st n).code) (p1 := .int .u16 (decA c r st n).err) (p2 := .int .u64 (decA c r st n).lim) (p3 := .int .u64 (decA c r st n).left) (p4 := .int .u64 (decA c r st n).reset) (p5 := .int .u64 (decA c r st n).after) (p6 := .int .u64 (decA c r st n).nanos) (p7 := .bool (decA c r st n).retry) (p8 := .int .i64 0) (p9 := .slice none 0 0) (Tch.refl (fun k => k = w.heap.size + 1) V3) (.inl rfl)
    have HB := Lib.hid hB
    have HK9 := Lib.hid hk9
    clear z0 z1 z2 z3 z4 z5 z6 z7 z8 z9 zf0 zf1 zf2 zf3 zf4 zf5 zf6 zf7 zf8 zf9 zb hB hk9
    have V9 := HB.out
    revert HB HK9 V9
    generalize World.setCell _ ⟨w.heap.size + 1, 9, none⟩ _ = V
    intro HB HK9 V9
    obtain ⟨q0, q1, q2, q3, q4, q5, q6, q7, q8, q9, _⟩ := blk10 HB.out
    refine bodyPost_ret (v := An.v (decA c r st n)) ?_ rfl ⟨?_, ?_, ?_⟩
    · simp [results, Tryz.results44, go_sem, q0, q1, q2, q3, q4, q5, q6, q7, q8, q9]
    · rw [HA.out]
    · exact (k3.out.next (HK9.out.mono (fun k _ e => .inr (by omega)))).mono (fun k _ hk => hk.1)
    · rw [HN.out]
      refine (H3.out.keep (fun k hk hl => HK9.out.block k hl (fun e => ?_))).mono (fun k hk => hk.elim (fun x => .inl x.1) (fun x => .inr (by omega)))
      rcases hk with hk | hk
      · have := hk.2; omega
      · omega
  · clear eb
    go_wp2_with fail
    go_quiet (fail)
    have HL1 := Lib.hid (show Tbl (World.drewN W1 nq) T (fun k => B k ∧ k < w.heap.size) m c S from H1.out.keep (fun k _ hl => rfl))
    go_wp2_with fail
    go_at_call 82
    with_reducible refine (CLo.out _ HL1.out).mono ?_
    rintro e V1 ⟨rfl, hT1, g1⟩
    rw [← HS1.out] at hT1
    obtain ⟨M2, Ml2, hM2, hLen2, hL2⟩ := hT1.look k (by omega)
    have hl2 : (Instr.lookup Tmap (.map (some M2)) (.string k) true).run Tryz.prog V1 = .ok (.tuple #[.pointer none, .bool false]) V1 := by
      rcases hL2 with ⟨_, hL⟩ | ⟨s, b, d, i, e, _⟩
      · exact hL V1 rfl
      · rw [HGN.out] at e; cases e
    have hl9 : ∀ (j : Nat) (ty : TypeId), (Builtin.len_ #[Tmap] ty #[.map (some M2)]).run Tryz.prog (V1.drewN j) = .ok (.int .i64 S1.length) (V1.drewN j) := fun j ty => hLen2 (V1.drewN j) rfl ty
    have hl10 : ∀ (ty : TypeId), (Builtin.len_ #[Tmap] ty #[.map (some M2)]).run Tryz.prog V1 = .ok (.int .i64 S1.length) V1 := fun ty => hLen2 V1 rfl ty
    have c0 := hT1.cells.1
    have ZB1 : Blk (World.drewN W1 nq) (w.heap.size + 1) #[.int .u8 0, .int .u16 0, .int .u64 0, .int .u64 0, .int .u64 0, .int .u64 0, .int .u64 0, .bool false, .int .i64 0, .slice none 0 0] 57 := ZB.out
    have ZB := Lib.hid (g1.blk ZB1 (fun x => by have := x.2; omega))
    have BB1 : Blk (World.drewN W1 nq) w.heap.size #[.string r.p, .int .u64 r.e, .int .u64 r.b, .int .u8 r.k] 79 := BB.out
    have BB := Lib.hid (g1.blk BB1 (fun x => by have := x.2; omega))
    have KT := Lib.hid ((KT.out.trans (show Tch (fun k => B k ∧ k < w.heap.size) W1 (World.drewN W1 nq) from ⟨rfl, rfl, rfl, Nat.le_refl _, fun _ _ _ => rfl⟩)).trans g1)
    have HT := Lib.hid hT1
    clear ZB1 BB1 hL2 hLen2 hT1 g1 HL1 H1 x0 x1 x2 x3 hM Ml hl hl1 y2 y3 CLo
    go_wp2_with fail
    go_quiet (fail)
    generalize hV : World.drewN V1 _ = V at *
    have zb : Blk V (w.heap.size + 1) #[.int .u8 0, .int .u16 0, .int .u64 0, .int .u64 0, .int .u64 0, .int .u64 0, .int .u64 0, .bool false, .int .i64 0, .slice none 0 0] 57 := by rw [← hV]; exact ZB.out
    have b2 : Blk V w.heap.size #[.string r.p, .int .u64 r.e, .int .u64 r.b, .int .u8 r.k] 79 := by rw [← hV]; exact BB.out
    have H2 := Lib.hid (show Tbl V T (fun k => B k ∧ k < w.heap.size) m c S1 by rw [← hV]; exact HT.out.keep (fun k _ hl => rfl))
    have k2 := Lib.hid (show Tch (fun k => B k ∧ k < w.heap.size) w V by rw [← hV]; exact KT.out.trans (show Tch _ _ _ from ⟨rfl, rfl, rfl, Nat.le_refl _, fun _ _ _ => rfl⟩))
    clear hV
    obtain ⟨z0, z1, z2, z3, z4, z5, z6, z7, z8, z9, zf0, zf1, zf2, zf3, zf4, zf5, zf6, zf7, zf8, zf9⟩ := blk10 zb
    obtain ⟨x0, x1, x2, x3, _⟩ := blk4 b2
    have CD := Lib.hid (decide_tab T _ m c S1 k r n st V H2.out hk hr hn h0 HST.out HLT.out)
    clear x0 x1 x2 x3 z0 z1 z2 z3 z4 z5 z6 z7 z8 z9 zf0 zf1 zf2 zf3 zf4 zf5 zf6 zf7 zf8 zf9 HLT HST
    obtain ⟨x0, x1, x2, x3, _⟩ := blk4 b2
    have ZB2 := Lib.hid zb
    have hz3 := Lib.hid (show w.heap.size + 2 ≤ V.heap.size by have := zb.lt; omega)
    clear zb b2
    go_wp2_with fail
    go_at_call 83
    with_reducible refine CD.out.mono ?_
    rintro e V3 ⟨rfl, g, hT3⟩
    have zb := g.blk ZB2.out (fun x => by have := x.2; omega)
    have H3 := Lib.hid (hT3.mono (C := fun k => (B k ∧ k < w.heap.size) ∨ w.heap.size + 2 ≤ k) (fun k hk => hk.elim .inl (fun x => .inr (by have := hz3.out; omega))))
    have k3 := Lib.hid (k2.out.trans g)
    obtain ⟨z0, z1, z2, z3, z4, z5, z6, z7, z8, z9, zf0, zf1, zf2, zf3, zf4, zf5, zf6, zf7, zf8, zf9⟩ := blk10 zb
    clear g hT3 x0 x1 x2 x3
    go_wp2
    have hB := bset10 (p0 := .int .u8 (decA c r st n).code) (p1 := .int .u16 (decA c r st n).err) (p2 := .int .u64 (decA c r st n).lim) (p3 := .int .u64 (decA c r st n).left) (p4 := .int .u64 (decA c r st n).reset) (p5 := .int .u64 (decA c r st n).after) (p6 := .int .u64 (decA c r st n).nanos) (p7 := .bool (decA c r st n).retry) (p8 := .int .i64 0) (p9 := .slice none 0 0) zb
    have hk9 := ts10 (p0 := .int .u8 (decA c r st n).code) (p1 := .int .u16 (decA c r st n).err) (p2 := .int .u64 (decA c r st n).lim) (p3 := .int .u64 (decA c r st n).left) (p4 := .int .u64 (decA c r st n).reset) (p5 := .int .u64 (decA c r st n).after) (p6 := .int .u64 (decA c r st n).nanos) (p7 := .bool (decA c r st n).retry) (p8 := .int .i64 0) (p9 := .slice none 0 0) (Tch.refl (fun k => k = w.heap.size + 1) V3) (.inl rfl)
    have HB := Lib.hid hB
    have HK9 := Lib.hid hk9
    clear z0 z1 z2 z3 z4 z5 z6 z7 z8 z9 zf0 zf1 zf2 zf3 zf4 zf5 zf6 zf7 zf8 zf9 zb hB hk9
    have V9 := HB.out
    revert HB HK9 V9
    generalize World.setCell _ ⟨w.heap.size + 1, 9, none⟩ _ = V
    intro HB HK9 V9
    obtain ⟨q0, q1, q2, q3, q4, q5, q6, q7, q8, q9, _⟩ := blk10 HB.out
    refine bodyPost_ret (v := An.v (decA c r st n)) ?_ rfl ⟨?_, ?_, ?_⟩
    · simp [results, Tryz.results44, go_sem, q0, q1, q2, q3, q4, q5, q6, q7, q8, q9]
    · rw [HA.out]
    · exact (k3.out.next (HK9.out.mono (fun k _ e => .inr (by omega)))).mono (fun k _ hk => hk.1)
    · rw [HN.out]
      refine (H3.out.keep (fun k hk hl => HK9.out.block k hl (fun e => ?_))).mono (fun k hk => hk.elim (fun x => .inl x.1) (fun x => .inr (by omega)))
      rcases hk with hk | hk
      · have := hk.2; omega
      · omega
theorem charge_tab (T : Nat) (B : Nat → Prop) (m c : Int) (S : List Sl) (k : ByteArray) (r : Rl) (n : Int) (w : World) (h : Tbl w T B m c S) (hk : k.size ≤ 281474976710656) (hr : Okr r) (hn : U n) :
    Calls Tryz.prog 44 #[ptr T, .string k, r.v, .int .u64 n] w fun e w' => e = .returned (chA m c S k r n).v ∧ Tch B w w' ∧ Tbl w' T (Nx B w) m c (chN m c S k r n) := by
  by_cases h0 : wkE k r = 0
  · cases hg : getS S k with
    | none => exact charge_none T B m c S k r n w h hk hr hn h0 hg
    | some s =>
      by_cases he : s.r.e = r.e ∧ s.r.b = r.b
      · exact charge_same T B m c S k r n w h hk hr hn h0 s hg he.1 he.2
      · exact charge_other T B m c S k r n w h hk hr hn h0 s hg he
  · exact charge_bad T B m c S k r n w h hk hr hn h0
end Go.Proofs.YtbejkcdaefkibaaGreat.Wd
namespace Go.Proofs.YtbejkcdaefkibaaGreat.Wd
open Go Go.RowKit Go.Shelf Go.Deep
set_option linter.unusedVariables false
set_option maxRecDepth 100000

/-- A row of bytes that are known. -/
def Txt (w : World) (A : Option Addr) (n : Nat) (bs : List UInt8) : Prop :=
  bs.length = n ∧ (0 < n → ∃ b off, A = some ⟨b, off, none⟩ ∧ b < w.heap.size ∧ ∀ k, k < n → w.cell? ⟨b, off + k, none⟩ = some (.int .u8 ((bs.getD k 0).toNat : Int)))
theorem Txt.below {w w' : World} {A : Option Addr} {n : Nat} {bs : List UInt8} (h : Txt w A n bs) (k : Below w.heap.size w w') : Txt w' A n bs :=
  ⟨h.1, fun hn => by
    obtain ⟨b, off, e, hb, hc⟩ := h.2 hn
    exact ⟨b, off, e, Nat.lt_of_lt_of_le hb k.size, fun j hj => (k.cell (p := ⟨b, off + j, none⟩) hb).trans (hc j hj)⟩⟩
/-- Which text a byte of choices is. -/
def pk : Nat → List UInt8
  | 0 => [97]
  | 1 => [98]
  | 2 => [97, 47]
  | 3 => [98, 47]
  | 4 => [99]
  | 5 => [122]
  | 6 => [126]
  | _ => [33]
def keyL (kb : List UInt8) (k : Nat) : List UInt8 := (kb.take k).flatMap (fun c => pk (c.toNat % 8))
def keyB (kb : List UInt8) (k : Nat) : ByteArray := ⟨(keyL kb k).toArray⟩
/-- A key of choices. -/
def keyT (kb : List UInt8) : ByteArray := if (keyB kb 6).size = 0 then ⟨#[107]⟩ else keyB kb 6
theorem keyL_step {kb : List UInt8} {k : Nat} (h : k < kb.length) : keyL kb (k + 1) = keyL kb k ++ pk ((kb.getD k 0).toNat % 8) := by
  unfold keyL
  rw [List.take_add_one, List.flatMap_append]
  simp [List.getD, h]
theorem keyB_step {kb : List UInt8} {k j : Nat} (h : k < kb.length) (e : (kb.getD k 0).toNat % 8 = j) : keyB kb k ++ ⟨(pk j).toArray⟩ = keyB kb (k + 1) := by
  unfold keyB
  rw [keyL_step h, e]
  exact ByteArray.mk_append_mk _ _
theorem keyB_all {kb : List UInt8} {k : Nat} (h : kb.length ≤ k) : keyB kb k = keyB kb kb.length := by
  unfold keyB keyL
  rw [List.take_of_length_le h, List.take_length]
theorem pk_len (v : Nat) : 1 ≤ (pk v).length ∧ (pk v).length ≤ 2 := by unfold pk; split <;> simp
theorem pk_vis (v : Nat) : (pk v).all (fun c => visB (c.toNat : Int)) = true := by unfold pk; split <;> decide
theorem keyL_len : ∀ (kb : List UInt8), kb.length ≤ (keyL kb kb.length).length ∧ (keyL kb kb.length).length ≤ 2 * kb.length := by
  intro kb
  unfold keyL
  rw [List.take_length]
  induction kb with
  | nil => exact ⟨Nat.le_refl _, Nat.le_refl _⟩
  | cons x xs ih =>
    have := pk_len (x.toNat % 8)
    simp only [List.flatMap_cons, List.length_append, List.length_cons]
    omega
theorem keyL_take (kb : List UInt8) (k : Nat) : keyL kb k = keyL (kb.take k) (kb.take k).length := by
  unfold keyL; rw [List.take_length]
theorem keyB_size (kb : List UInt8) (k : Nat) : min k kb.length ≤ (keyB kb k).size ∧ (keyB kb k).size ≤ 2 * k := by
  have h := keyL_len (kb.take k)
  rw [← keyL_take, List.length_take] at h
  have : (keyB kb k).size = (keyL kb k).length := by simp [keyB, ByteArray.size]
  omega
theorem keyL_vis (kb : List UInt8) (k : Nat) : (keyL kb k).all (fun c => visB (c.toNat : Int)) = true := by
  unfold keyL
  rw [List.all_eq_true]
  intro c hc
  obtain ⟨x, _, hx⟩ := List.mem_flatMap.1 hc
  exact List.all_eq_true.1 (pk_vis _) c hx
/-- It is a key, of twelve bytes at most. -/
theorem keyT_ok (kb : List UInt8) : 1 ≤ (keyT kb).size ∧ (keyT kb).size ≤ 12 ∧ (lb (keyT kb)).all (fun c => visB (c.toNat : Int)) = true := by
  unfold keyT
  split
  · exact ⟨by decide, by decide, by decide⟩
  · have := keyB_size kb 6
    refine ⟨by omega, by omega, ?_⟩
    show ((keyL kb 6).toArray.toList).all _ = true
    exact keyL_vis kb 6
theorem lb_len (s : ByteArray) : (lb s).length = s.size := Array.length_toList
theorem rtB_of {s : ByteArray} (h1 : 1 ≤ s.size) (h2 : s.size ≤ 128) (h3 : (lb s).all (fun c => visB (c.toNat : Int)) = true) : rtB (lb s) = true := by
  unfold rtB; rw [lb_len, h3]; simp; omega
theorem toList_ne (t : ByteArray) (h : 0 < t.size) : t.toList.isEmpty = false := by
  rw [ByteArray.toList_eq, List.isEmpty_eq_false_iff]
  intro e
  have := congrArg List.length e
  rw [list_size] at this
  have : t.size = 0 := this
  omega
theorem toList_none (t : ByteArray) (h : t.size = 0) : t.toList.isEmpty = true := by
  rw [ByteArray.toList_eq, List.isEmpty_iff]
  exact List.eq_nil_of_length_eq_zero (by rw [list_size]; exact h)

set_option maxHeartbeats 1000000 in
theorem key_any (A : Option Addr) (n cap : Nat) (kb : List UInt8) (w : World) (h : Txt w A n kb) (hn : n ≤ 9223372036854775807) :
    Calls Tryz.prog 45 #[.slice A n cap] w fun e w' => e = .returned (.string (keyT kb)) ∧ Below w.heap.size w w' := by
  have H := Lib.hid h
  have hlen : Hid (kb.length = n) := Lib.hid h.1
  clear h
  go_enter Tryz.func45, Tryz.ntmps45
  go_wp2
  go_loopw [3, 4] (fun s i wr => ∃ (k : Nat) (t : ByteArray), i = .int .i64 (k : Int) ∧ s = .string t ∧ (k ≤ 6 ∧ k ≤ n) ∧ t.size ≤ 12 ∧ Hid (t = keyB kb k) ∧ Below w.heap.size w wr) (fun _ i _ => 6 - (intOf i).toNat)
  case atStart => exact ⟨0, ⟨#[]⟩, rfl, rfl, by omega, by decide, Lib.hid rfl, Below.refl _ _⟩
  case round =>
    obtain ⟨k, t, rfl, rfl, ⟨hk, hkn⟩, k2, V, hB⟩ := hrel
    by_cases c1 : k < n
    · by_cases c2 : k < 6
      · obtain ⟨b, off, rfl, hb0, hcc⟩ := (H.out.below hB).2 (by omega)
        have hc := hcc k c1
        have hb := lt_of_cell hc
        clear hcc
        have c3 : (k : Int) < 6 := by omega
        have hl : Hid (k < kb.length) := Lib.hid (by have := hlen.out; omega)
        have SZ : Hid (∀ j, (kb.getD k 0).toNat % 8 = j → t ++ ⟨(pk j).toArray⟩ = keyB kb (k + 1) ∧ (t ++ (⟨(pk j).toArray⟩ : ByteArray)).size ≤ 12) := Lib.hid (fun j e => by
          have e1 := keyB_step hl.out e
          rw [← V.out] at e1
          refine ⟨e1, ?_⟩
          rw [e1]
          have := keyB_size kb (k + 1)
          omega)
        have hvm : ((kb.getD k 0).toNat : Int) % 8 = 0 ∨ ((kb.getD k 0).toNat : Int) % 8 = 1 ∨ ((kb.getD k 0).toNat : Int) % 8 = 2 ∨ ((kb.getD k 0).toNat : Int) % 8 = 3 ∨ ((kb.getD k 0).toNat : Int) % 8 = 4 ∨ ((kb.getD k 0).toNat : Int) % 8 = 5 ∨ ((kb.getD k 0).toNat : Int) % 8 = 6 ∨ ((kb.getD k 0).toNat : Int) % 8 = 7 := by omega
        have hu : ((kb.getD k 0).toNat : Int) ≤ 255 := by have := (kb.getD k 0).toNat_lt; omega
        generalize hv : (kb.getD k 0).toNat = v at *
        rcases hvm with hm | hm | hm | hm | hm | hm | hm | hm
        · have S := Lib.hid (SZ.out 0 (by omega))
          clear SZ hu hb0
          go_wp2
          go_roundw
          case rel => exact ⟨k + 1, _, by go_num, rfl, by omega, S.out.2, Lib.hid S.out.1, hB.alloc hB.size _⟩
          case measure => simp [intOf]; omega
        · have S := Lib.hid (SZ.out 1 (by omega))
          clear SZ hu hb0
          go_wp2
          go_roundw
          case rel => exact ⟨k + 1, _, by go_num, rfl, by omega, S.out.2, Lib.hid S.out.1, hB.alloc hB.size _⟩
          case measure => simp [intOf]; omega
        · have S := Lib.hid (SZ.out 2 (by omega))
          clear SZ hu hb0
          go_wp2
          go_roundw
          case rel => exact ⟨k + 1, _, by go_num, rfl, by omega, S.out.2, Lib.hid S.out.1, hB.alloc hB.size _⟩
          case measure => simp [intOf]; omega
        · have S := Lib.hid (SZ.out 3 (by omega))
          clear SZ hu hb0
          go_wp2
          go_roundw
          case rel => exact ⟨k + 1, _, by go_num, rfl, by omega, S.out.2, Lib.hid S.out.1, hB.alloc hB.size _⟩
          case measure => simp [intOf]; omega
        · have S := Lib.hid (SZ.out 4 (by omega))
          clear SZ hu hb0
          go_wp2
          go_roundw
          case rel => exact ⟨k + 1, _, by go_num, rfl, by omega, S.out.2, Lib.hid S.out.1, hB.alloc hB.size _⟩
          case measure => simp [intOf]; omega
        · have S := Lib.hid (SZ.out 5 (by omega))
          clear SZ hu hb0
          go_wp2
          go_roundw
          case rel => exact ⟨k + 1, _, by go_num, rfl, by omega, S.out.2, Lib.hid S.out.1, hB.alloc hB.size _⟩
          case measure => simp [intOf]; omega
        · have S := Lib.hid (SZ.out 6 (by omega))
          clear SZ hu hb0
          go_wp2
          go_roundw
          case rel => exact ⟨k + 1, _, by go_num, rfl, by omega, S.out.2, Lib.hid S.out.1, hB.alloc hB.size _⟩
          case measure => simp [intOf]; omega
        · have S := Lib.hid (SZ.out 7 (by omega))
          clear SZ hu hb0
          go_wp2
          go_roundw
          case rel => exact ⟨k + 1, _, by go_num, rfl, by omega, S.out.2, Lib.hid S.out.1, hB.alloc hB.size _⟩
          case measure => simp [intOf]; omega
      · obtain rfl : k = 6 := by omega
        have c3 : decide (((6 : Nat) : Int) < 6) = false := rfl
        have hz : t.toList.isEmpty = false := toList_ne t (by rw [V.out]; have := keyB_size kb 6; have := hlen.out; omega)
        have F : Hid (keyT kb = t) := Lib.hid (by unfold keyT; rw [if_neg (by have := keyB_size kb 6; have := hlen.out; omega), V.out])
        clear c2 k2 hk
        go_wp2
        go_ret
        exact ⟨by rw [F.out]; rfl, hB⟩
    · obtain rfl : k = n := by omega
      have e6 : Hid (keyB kb 6 = t) := Lib.hid (by rw [V.out, keyB_all (by have := hlen.out; omega), hlen.out])
      by_cases c4 : t.size = 0
      · have hz : t.toList.isEmpty = true := toList_none t c4
        have F : Hid (keyT kb = ⟨#[107]⟩) := Lib.hid (by unfold keyT; rw [e6.out, if_pos c4])
        clear c4
        go_wp2
        go_ret
        exact ⟨by rw [F.out]; rfl, hB⟩
      · have hz : t.toList.isEmpty = false := toList_ne t (by omega)
        have F : Hid (keyT kb = t) := Lib.hid (by unfold keyT; rw [e6.out, if_neg c4])
        clear c4 k2 hk
        go_wp2
        go_ret
        exact ⟨by rw [F.out]; rfl, hB⟩
end Go.Proofs.YtbejkcdaefkibaaGreat.Wd
namespace Go.Proofs.YtbejkcdaefkibaaGreat.Wd
open Go Go.RowKit Go.Shelf Go.Deep
set_option linter.unusedVariables false
set_option maxRecDepth 100000

/-- A deed, as data. -/
structure Dd where
  kind : Int
  wait : Int
  big : Int
  kb : List UInt8
  rule : Int
  n : Int
  dest : Int
structure Dd.Ok (d : Dd) : Prop where
  kind : 0 ≤ d.kind ∧ d.kind ≤ 255
  wait : 0 ≤ d.wait ∧ d.wait ≤ 4294967295
  big : 0 ≤ d.big ∧ d.big ≤ 255
  rule : 0 ≤ d.rule ∧ d.rule ≤ 255
  n : 0 ≤ d.n ∧ d.n ≤ 65535
  dest : 0 ≤ d.dest ∧ d.dest ≤ 255
abbrev dd0 : Dd := ⟨0, 0, 0, [], 0, 0, 0⟩
/-- A deed in seven cells. -/
structure D7 (w : World) (b o : Nat) (d : Dd) (ka : Option Addr) (kn kc : Nat) : Prop where
  c0 : w.cell? ⟨b, o, none⟩ = some (.int .u8 d.kind)
  c1 : w.cell? ⟨b, o + 1, none⟩ = some (.int .u32 d.wait)
  c2 : w.cell? ⟨b, o + 2, none⟩ = some (.int .u8 d.big)
  c3 : w.cell? ⟨b, o + 3, none⟩ = some (.slice ka kn kc)
  c4 : w.cell? ⟨b, o + 4, none⟩ = some (.int .u8 d.rule)
  c5 : w.cell? ⟨b, o + 5, none⟩ = some (.int .u16 d.n)
  c6 : w.cell? ⟨b, o + 6, none⟩ = some (.int .u8 d.dest)
  txt : Txt w ka kn d.kb
  few : kn ≤ 9223372036854775807
theorem D7.below {w w' : World} {b o : Nat} {d : Dd} {ka : Option Addr} {kn kc : Nat} (h : D7 w b o d ka kn kc) (g : Below w.heap.size w w') : D7 w' b o d ka kn kc :=
  ⟨celln g h.c0, celln g h.c1, celln g h.c2, celln g h.c3, celln g h.c4, celln g h.c5, celln g h.c6, h.txt.below g, h.few⟩
/-- A row of deeds. -/
def Dds (w : World) (A : Option Addr) (n : Nat) (ds : List Dd) : Prop :=
  ds.length = n ∧ n ≤ 9223372036854775807 ∧ (∀ d ∈ ds, d.Ok) ∧ ∀ i, i < n → ∃ b off ka kn kc, A = some ⟨b, off, none⟩ ∧ D7 w b (off + i * 7) (ds.getD i dd0) ka kn kc
theorem Dds.below {w w' : World} {A : Option Addr} {n : Nat} {ds : List Dd} (h : Dds w A n ds) (g : Below w.heap.size w w') : Dds w' A n ds :=
  ⟨h.1, h.2.1, h.2.2.1, fun i hi => by
    obtain ⟨b, off, ka, kn, kc, e, hd⟩ := h.2.2.2 i hi
    exact ⟨b, off, ka, kn, kc, e, hd.below g⟩⟩
theorem Dds.ok {w : World} {A : Option Addr} {n : Nat} {ds : List Dd} (h : Dds w A n ds) {i : Nat} (hi : i < n) : (ds.getD i dd0).Ok := by
  have hl : i < ds.length := by rw [h.1]; exact hi
  have : ds.getD i dd0 = ds[i] := by simp [List.getD, hl]
  rw [this]; exact h.2.2.1 _ (List.getElem_mem hl)

theorem heavy_any (A : Option Addr) (n cap : Nat) (ds : List Dd) (w : World) (h : Dds w A n ds) :
    Calls Tryz.prog 18 #[.slice A n cap] w fun e w' => ∃ v : Int, e = .returned (.int .i64 v) ∧ Below w.heap.size w w' := by
  have H := Lib.hid h
  have hn := h.2.1
  clear h
  go_enter Tryz.func18, Tryz.ntmps18
  go_wp2
  go_loopw [3, 4] (fun s i wr => ∃ (k : Nat) (v : Int), i = .int .i64 (k : Int) ∧ s = .int .i64 v ∧ k ≤ n ∧ Below w.heap.size w wr) (fun _ i _ => n - (intOf i).toNat)
  case atStart => exact ⟨0, 0, rfl, rfl, Nat.zero_le _, Below.refl _ _⟩
  case round =>
    obtain ⟨k, v, rfl, rfl, hk, hB⟩ := hrel
    by_cases c1 : k < n
    · obtain ⟨b, off, ka, kn, kc, rfl, hd⟩ := (H.out.below hB).2.2.2 k c1
      have c3 := hd.c3
      have kk : (k : Int) < (n : Int) := by omega
      have k0 : (0 : Int) ≤ (k : Int) := by omega
      clear hd
      by_cases c2 : v ≤ 1000
      · have hq := decide_eq_true c2
        go_wp2
        go_roundw
        case rel => exact ⟨k + 1, _, by go_num, rfl, by omega, hB⟩
        case measure => simp [intOf]; omega
      · have hq := decide_eq_false c2
        go_wp2
        go_ret
        exact ⟨⟨_, rfl⟩, hB⟩
    · go_wp2
      go_ret
      exact ⟨_, rfl, hB⟩

/-- Which of a few rules. -/
def ruleP (k : Int) : ByteArray × Int × Int :=
  if k % 6 = 0 then (⟨#[]⟩, 10, 3) else if k % 6 = 1 then (⟨#[]⟩, 1000, 2) else if k % 6 = 2 then (⟨#[97]⟩, 10, 3) else if k % 6 = 3 then (⟨#[]⟩, 3000000000, 4) else if k % 6 = 4 then (⟨#[]⟩, 2147483648, 2147483648) else (⟨#[]⟩, 1, 1)
/-- A rule of choices. -/
def ruleK (k : Int) : Rl := ⟨(ruleP k).1, (ruleP k).2.1, if 250 ≤ k then 0 else (ruleP k).2.2, 1 + k / 6 % 3⟩
set_option maxHeartbeats 16000000 in
theorem rule_any (k : Int) (w : World) (hk : 0 ≤ k ∧ k ≤ 255) :
    Calls Tryz.prog 47 #[.int .u8 k] w fun e w' => e = .returned (ruleK k).v ∧ Below w.heap.size w w' := by
  have h6 : k % 6 = 0 ∨ k % 6 = 1 ∨ k % 6 = 2 ∨ k % 6 = 3 ∨ k % 6 = 4 ∨ k % 6 = 5 := by omega
  have hw : 1 + k / 6 % 3 ≤ 255 := by omega
  rcases h6 with h | h | h | h | h | h
  all_goals
    by_cases c : 250 ≤ k
    · have hq := decide_eq_true c
      have HK : Hid (ruleK k = ⟨(ruleP k).1, (ruleP k).2.1, 0, 1 + k / 6 % 3⟩) := Lib.hid (by unfold ruleK; rw [if_pos c])
      have HP : Hid (∃ P, ruleP k = P) := Lib.hid ⟨_, rfl⟩
      have HH := Lib.hid h
      clear c
      go_enter Tryz.func47, Tryz.ntmps47
      go_wp2
      generalize hV : World.alloc _ _ = V
      have kb : Below w.heap.size w V := by rw [← hV]; exact ((((Below.refl _ w).alloc (Nat.le_refl _) _).alloc (by simp) _).alloc (by simp; omega) _)
      have bz : ∃ a b c d, Blk V w.heap.size #[a, b, c, d] 79 ∧ Value.agg #[a, b, c, d] = .agg #[.string (ruleP k).1, .int .u64 (ruleP k).2.1, .int .u64 0, .int .u8 (1 + k / 6 % 3)] :=
        ⟨_, _, _, _, by rw [← hV]; exact ((Blk.new _ _ _).alloc _).alloc _, by have h := HH.out; unfold ruleP; simp [h]⟩
      obtain ⟨a, b, c, d, bz, ez⟩ := bz
      obtain ⟨q0, q1, q2, q3, _⟩ := blk4 bz
      clear hV
      refine bodyPost_ret (v := .agg #[a, b, c, d]) ?_ rfl ⟨by rw [ez, HK.out], kb⟩
      simp [results, Tryz.results47, go_sem, q0, q1, q2, q3]
    · have hq := decide_eq_false c
      have HK : Hid (ruleK k = ⟨(ruleP k).1, (ruleP k).2.1, (ruleP k).2.2, 1 + k / 6 % 3⟩) := Lib.hid (by unfold ruleK; rw [if_neg c])
      have HP : Hid (∃ P, ruleP k = P) := Lib.hid ⟨_, rfl⟩
      have HH := Lib.hid h
      clear c
      go_enter Tryz.func47, Tryz.ntmps47
      go_wp2
      generalize hV : World.alloc _ _ = V
      have kb : Below w.heap.size w V := by rw [← hV]; exact ((((Below.refl _ w).alloc (Nat.le_refl _) _).alloc (by simp) _).alloc (by simp; omega) _)
      have bz : ∃ a b c d, Blk V w.heap.size #[a, b, c, d] 79 ∧ Value.agg #[a, b, c, d] = .agg #[.string (ruleP k).1, .int .u64 (ruleP k).2.1, .int .u64 (ruleP k).2.2, .int .u8 (1 + k / 6 % 3)] :=
        ⟨_, _, _, _, by rw [← hV]; exact ((Blk.new _ _ _).alloc _).alloc _, by have h := HH.out; unfold ruleP; simp [h]⟩
      obtain ⟨a, b, c, d, bz, ez⟩ := bz
      obtain ⟨q0, q1, q2, q3, _⟩ := blk4 bz
      clear hV
      refine bodyPost_ret (v := .agg #[a, b, c, d]) ?_ rfl ⟨by rw [ez, HK.out], kb⟩
      simp [results, Tryz.results47, go_sem, q0, q1, q2, q3]
end Go.Proofs.YtbejkcdaefkibaaGreat.Wd
namespace Go.Proofs.YtbejkcdaefkibaaGreat.Wd
open Go Go.RowKit Go.Shelf Go.Deep
set_option linter.unusedVariables false
set_option maxRecDepth 100000

set_option maxHeartbeats 2000000 in
theorem answers_same (a : An) (w : World) : Calls Tryz.prog 30 #[a.v, a.v] w fun e w' => e = .returned (.bool true) ∧ Below w.heap.size w w' := by
  have hcv : ∀ W : World, (convert 31 9 (.slice none 0 0)).run Tryz.prog W = .ok (.string ⟨#[]⟩) W := fun W => run_convert_bytes_nil W 31 5 Tryz.underlying31 Tryz.underlying5 0 0 _ Tryz.underlying9
  obtain ⟨x0, x1, x2, x3, x4, x5, x6, x7⟩ := a
  go_enter Tryz.func30, Tryz.ntmps30
  go_wp2
  go_ret
  exact ⟨rfl, ((Below.refl _ w).alloc (Nat.le_refl _) _).alloc (by simp) _⟩

abbrev rK : Rl := ⟨⟨#[]⟩, 10, 2, 1⟩
abbrev tA : ByteArray := ⟨#[97]⟩
abbrev tB : ByteArray := ⟨#[98]⟩
theorem kn1 : chA 1 0 [] tA rK 2 = ⟨1, 0, 2, 0, 1, 0, 0, false⟩ := by kernel_rfl
theorem kn2 : chN 1 0 [] tA rK 2 = [⟨tA, rK, 1, 20, 0⟩] := by kernel_rfl
theorem kn3 : chA 1 0 [⟨tA, rK, 1, 20, 0⟩] tB rK 1 = ⟨3, 0, 2, 0, 0, 0, 0, false⟩ := by kernel_rfl
theorem Tch.low {B : Nat → Prop} {a b : World} {n : Nat} (h : Tch B a b) (hB : ∀ k, B k → n ≤ k) (hn : n ≤ a.heap.size) : Below n a b :=
  ⟨h.os, h.tape, h.output, h.size, fun k hk => h.block k (by omega) (fun x => by have := hB k x; omega)⟩
theorem okr_K : Okr rK := ⟨by decide, by unfold U; decide, by unfold U; decide, by decide⟩
set_option maxHeartbeats 2000000 in
theorem known_any (w : World) : Calls Tryz.prog 31 #[] w fun e w' => e = .returned (.bool true) ∧ Below w.heap.size w w' := by
  go_enter Tryz.func31, Tryz.ntmps31
  go_wp2_with (go_at_call 23; refine (new_any 1 _).mono ?_; rintro e W1 ⟨rfl, kb, ht, hs⟩; refine stopHere ?_)
  unfold Stop
  have H1 := Lib.hid (show Tbl W1 (w.heap.size + 1) (fun k => w.heap.size ≤ k ∧ k < W1.heap.size) 1 0 [] from ht)
  have K1 := Lib.hid kb
  clear kb ht
  go_wp2_with fail
  have H2 := Lib.hid (H1.out.below ((Below.refl _ W1).alloc (Nat.le_refl _) (.cells #[.string ⟨#[]⟩, .int .u64 10, .int .u64 2, .int .u8 1] 79)))
  have K2 := Lib.hid (K1.out.alloc K1.out.size (.cells #[.string ⟨#[]⟩, .int .u64 10, .int .u64 2, .int .u8 1] 79))
  have B2 := Lib.hid (Blk.new W1 #[.string ⟨#[]⟩, .int .u64 10, .int .u64 2, .int .u8 1] 79)
  generalize W1.alloc (.cells #[.string ⟨#[]⟩, .int .u64 10, .int .u64 2, .int .u8 1] 79) = W2 at *
  have C1 := charge_tab _ _ 1 0 [] tA rK 2 W2 H2.out (by decide) okr_K (by unfold U; decide)
  rw [kn1, kn2] at C1
  have C1 := Lib.hid C1
  obtain ⟨x0, x1, x2, x3, _⟩ := blk4 B2.out
  clear hs
  go_wp2_with fail
  go_at_call 44
  with_reducible refine C1.out.mono ?_
  rintro e W3 ⟨rfl, g3, h3⟩
  have hlo : ∀ k, (w.heap.size ≤ k ∧ k < W1.heap.size) → w.heap.size ≤ k := fun k h => h.1
  have hw2 := K2.out.size
  have K3 := Lib.hid (K2.out.trans (g3.low (fun k h => h.1) hw2))
  have B3 := Lib.hid (g3.blk B2.out (fun x => by have := x.2; omega))
  have H3 := Lib.hid (h3.mono (C := fun k => w.heap.size ≤ k) (fun k hk => hk.elim (fun x => x.1) (fun x => Nat.le_trans hw2 x)))
  clear C1 H1 H2 K1 K2 B2 x0 x1 x2 x3 g3 h3 hlo hw2
  have H4 := Lib.hid (H3.out.low.below ((Below.refl _ W3).alloc (Nat.le_refl _) (.cells #[.int .u8 1, .int .u16 0, .int .u64 2, .int .u64 0, .int .u64 1, .int .u64 0, .int .u64 0, .bool false, .int .i64 0, .slice none 0 0] 57)))
  have B4 := Lib.hid (B3.out.alloc (.cells #[.int .u8 1, .int .u16 0, .int .u64 2, .int .u64 0, .int .u64 1, .int .u64 0, .int .u64 0, .bool false, .int .i64 0, .slice none 0 0] 57))
  have K4 := Lib.hid (K3.out.alloc K3.out.size (.cells #[.int .u8 1, .int .u16 0, .int .u64 2, .int .u64 0, .int .u64 1, .int .u64 0, .int .u64 0, .bool false, .int .i64 0, .slice none 0 0] 57))
  have N4 := Lib.hid (show Blk (W3.alloc (.cells #[.int .u8 1, .int .u16 0, .int .u64 2, .int .u64 0, .int .u64 1, .int .u64 0, .int .u64 0, .bool false, .int .i64 0, .slice none 0 0] 57)) W3.heap.size _ _ from Blk.new W3 _ _)
  have C1 := charge_tab _ _ 1 0 [⟨tA, rK, 1, 20, 0⟩] tB rK 1 (W3.alloc (.cells #[.int .u8 1, .int .u16 0, .int .u64 2, .int .u64 0, .int .u64 1, .int .u64 0, .int .u64 0, .bool false, .int .i64 0, .slice none 0 0] 57)) H4.out (by decide) okr_K (by unfold U; decide)
  rw [kn3] at C1
  have C1 := Lib.hid C1
  obtain ⟨x0, x1, x2, x3, _⟩ := blk4 B4.out
  have hs4 : (W3.alloc (.cells #[.int .u8 1, .int .u16 0, .int .u64 2, .int .u64 0, .int .u64 1, .int .u64 0, .int .u64 0, .bool false, .int .i64 0, .slice none 0 0] 57)).heap.size = W3.heap.size + 1 := by simp
  have HS4 := Lib.hid hs4
  have h31 : w.heap.size ≤ W3.heap.size := K3.out.size
  clear hs4
  go_wp2_with fail
  go_at_call 44
  with_reducible refine C1.out.mono ?_
  rintro e W5 ⟨rfl, g5, h5⟩
  have K5 := Lib.hid (K4.out.trans (g5.low (fun k h => h.1) K4.out.size))
  have N5 := Lib.hid (g5.blk N4.out (fun x => by have := x.2; omega))
  obtain ⟨n0, n1, n2, n3, n4, n5, n6, n7, n8, n9, _⟩ := blk10 (Blk.alloc N5.out (.cells #[.int .u8 3, .int .u16 0, .int .u64 2, .int .u64 0, .int .u64 0, .int .u64 0, .int .u64 0, .bool false, .int .i64 0, .slice none 0 0] 57))
  clear C1 H4 K4 N4 g5 h5 x0 x1 x2 x3 B4 B3 H3 K3
  go_wp2
  go_ret
  exact ⟨rfl, K5.out.alloc K5.out.size _⟩
end Go.Proofs.YtbejkcdaefkibaaGreat.Wd
namespace Go.Proofs.YtbejkcdaefkibaaGreat.Wd
open Go Go.RowKit Go.Shelf Go.Deep
set_option linter.unusedVariables false
set_option maxRecDepth 100000

theorem plain_addr {w : World} {ad : Addr} {v : Value} (h : w.cell? (ad.add 0) = some v) : ∃ b off, ad = ⟨b, off, none⟩ := by
  obtain ⟨b, off, spot⟩ := ad
  have hspot : spot = none := by simpa [Addr.add] using World.cell?_spot h
  subst hspot
  exact ⟨b, off, rfl⟩
theorem choose_lt {α : Type} [Inhabited α] {n : Nat} {p : Nat → α → Prop} (h : ∀ i, i < n → ∃ x, p i x) : ∃ q : Nat → α, ∀ i, i < n → p i (q i) :=
  ⟨fun i => if hi : i < n then (h i hi).choose else default, fun i hi => by
    have := (h i hi).choose_spec
    simp only [hi, dif_pos]; exact this⟩
theorem open_txt {H : Type} {enc : TypeId × Value → H} {w : World} {base : Nat} {sp : Nat → Bool} {held : Bool} {fuel : Nat} {a : Option Addr} {len cap : Nat} {x : DataW H × List MemPlace}
    (h : DataW.trod enc Tryz.prog w base sp held fuel 31 [.slice a len cap] = some x) : len ≤ 9223372036854775807 ∧ ∃ bs : List UInt8, Txt w a len bs := by
  rcases open_slice1 Tryz.underlying31 (by kernel_rfl) h with ⟨h0, _⟩ | ⟨ad, l, c, m, n, V, D, Pl, hcs, hb, hl, hm, hmm, _, hx⟩
  · simp at h0
    obtain ⟨rfl, rfl, rfl⟩ := h0
    exact ⟨by omega, [], rfl, fun h => by omega⟩
  · simp at hcs
    obtain ⟨rfl, rfl, rfl⟩ := hcs
    unfold maxLen at hm
    refine ⟨by omega, ?_⟩
    have hlm : len ≤ m := by rw [hmm]; split <;> omega
    have each : ∀ i, i < len → ∃ s : UInt8, w.cell? (ad.add i) = some (.int .u8 (s.toNat : Int)) := by
      intro i hi
      obtain ⟨h1, h2⟩ := hx i (by omega)
      obtain ⟨v, e, _, wf⟩ := DataW.trod_int Tryz.underlying5 h2
      simp at e
      rw [e] at h1
      have hv := bounds_u8 wf
      exact ⟨UInt8.ofNat v.toNat, by rw [h1]; congr 2; simp; omega⟩
    obtain ⟨q, hq⟩ := choose_lt each
    refine ⟨(List.range len).map q, by simp, fun h0 => ?_⟩
    obtain ⟨b, off, rfl⟩ := plain_addr (hq 0 h0)
    have hc := fun k (hk : k < len) => hq k hk
    simp only [Go.WideShapes.add_plain] at hc
    refine ⟨b, off, rfl, lt_of_cell (hc 0 h0), fun k hk => (hc k hk).trans ?_⟩
    simp [List.getD_eq_getElem?_getD, hk]

theorem cells_deed : ∃ f0 f1 f2 f3 f4 f5 f6 : Field, Tryz.prog.underlying 60 = some (.struct #[f0, f1, f2, f3, f4, f5, f6]) ∧ (f0.offset = 0 ∧ f1.offset = 1 ∧ f2.offset = 2 ∧ f3.offset = 3 ∧ f4.offset = 4 ∧ f5.offset = 5 ∧ f6.offset = 6) ∧ f0.type = 5 ∧ f1.type = 53 ∧ f2.type = 5 ∧ f3.type = 31 ∧ f4.type = 5 ∧ f5.type = 32 ∧ f6.type = 5 :=
  ⟨_, _, _, _, _, _, _, Tryz.underlying60, ⟨rfl, rfl, rfl, rfl, rfl, rfl, rfl⟩, rfl, rfl, rfl, rfl, rfl, rfl, rfl⟩
instance : Inhabited Dd := ⟨dd0⟩
set_option maxHeartbeats 1000000 in
theorem open_dds {H : Type} {enc : TypeId × Value → H} {w : World} {base : Nat} {sp : Nat → Bool} {held : Bool} {fuel : Nat} {a : Option Addr} {len cap : Nat} {x : DataW H × List MemPlace}
    (h : DataW.trod enc Tryz.prog w base sp held fuel 41 [.slice a len cap] = some x) : ∃ ds, Dds w a len ds := by
  obtain ⟨f0, f1, f2, f3, f4, f5, f6, hu, ⟨o0, o1, o2, o3, o4, o5, o6⟩, y0, y1, y2, y3, y4, y5, y6⟩ := cells_deed
  rcases open_slice Tryz.underlying41 h with ⟨h0, _⟩ | ⟨ad, l, c, m, n, D, Pl, hcs, hb, hl, hm, hmm, _, hx⟩
  · simp at h0
    obtain ⟨rfl, rfl, rfl⟩ := h0
    exact ⟨[], rfl, by omega, (fun d hd => nomatch hd), fun i hi => absurd hi (by omega)⟩
  · simp at hcs
    obtain ⟨rfl, rfl, rfl⟩ := hcs
    have ce : Tryz.prog.cellsOf 60 = 7 := by kernel_rfl
    have cS : Tryz.prog.cellsOf 31 = 1 := by kernel_rfl
    have c32 : Tryz.prog.cellsOf 53 = 1 := by kernel_rfl
    have c16 : Tryz.prog.cellsOf 32 = 1 := by kernel_rfl
    have c8 : Tryz.prog.cellsOf 5 = 1 := by kernel_rfl
    have hlm : len ≤ m := by rw [hmm]; split <;> omega
    have each : ∀ i, i < len → ∃ d : Dd, d.Ok ∧ ∃ b off ka kn kc, ad = ⟨b, off, none⟩ ∧ D7 w b (off + i * 7) d ka kn kc := by
      intro i hi
      have hsp : ∃ u, w.cell? ((ad.add (0 * 7)).add 0) = some u := by
        obtain ⟨cs0, h10, _⟩ := hx 0 (by omega)
        rw [ce] at h10
        obtain ⟨_, hlen0, hcell0⟩ := World.cells?_some h10
        match cs0, hlen0, hcell0 with
        | u0 :: _, _, hc => exact ⟨u0, by simpa using hc 0 (by simp)⟩
      obtain ⟨u0, hu0⟩ := hsp
      obtain ⟨b, off, rfl⟩ := plain_addr (ad := ad.add (0 * 7)) hu0 |>.elim (fun b h => h.elim (fun off e => (show ∃ b off, ad = ⟨b, off, none⟩ by
        obtain ⟨x, y, z⟩ := ad
        simp [Addr.add] at e
        exact ⟨x, y, by rw [e.2.2]⟩)))
      obtain ⟨cs', h1, h2⟩ := hx i (by omega)
      rw [ce] at h1
      obtain ⟨_, hlen, hcell⟩ := World.cells?_some h1
      obtain ⟨xs, k, hk, hxy, _, hxl, hf⟩ := DataW.trod_struct hu h2
      match xs, hxl, cs', hlen with
      | [x0, x1, x2, x3, x4, x5, x6], _, [v0, v1, v2, v3, v4, v5, v6], _ =>
        have g0 := hf 0 f0 rfl
        have g1 := hf 1 f1 rfl
        have g2 := hf 2 f2 rfl
        have g3 := hf 3 f3 rfl
        have g4 := hf 4 f4 rfl
        have g5 := hf 5 f5 rfl
        have g6 := hf 6 f6 rfl
        simp [o0, o1, o2, o3, o4, o5, o6, y0, y1, y2, y3, y4, y5, y6, cS, c32, c16, c8] at g0 g1 g2 g3 g4 g5 g6
        have hs : ∃ a' n' c', v3 = .slice a' n' c' := by
          rcases open_slice1 Tryz.underlying31 (by kernel_rfl) g3 with ⟨h0, _⟩ | ⟨ad, l, c, m, n, V', D', Pl', hcs, _⟩
          · simp at h0; exact ⟨_, _, _, h0⟩
          · simp at hcs; exact ⟨_, _, _, hcs⟩
        obtain ⟨a', n', c', rfl⟩ := hs
        obtain ⟨hn', bs, hb'⟩ := open_txt g3
        obtain ⟨i0, e0, _, w0⟩ := DataW.trod_int Tryz.underlying5 g0
        obtain ⟨i1, e1, _, w1⟩ := DataW.trod_int Tryz.underlying53 g1
        obtain ⟨i2, e2, _, w2⟩ := DataW.trod_int Tryz.underlying5 g2
        obtain ⟨i4, e4, _, w4⟩ := DataW.trod_int Tryz.underlying5 g4
        obtain ⟨i5, e5, _, w5⟩ := DataW.trod_int Tryz.underlying32 g5
        obtain ⟨i6, e6, _, w6⟩ := DataW.trod_int Tryz.underlying5 g6
        simp at e0 e1 e2 e4 e5 e6
        subst e0 e1 e2 e4 e5 e6
        have q0 := hcell 0 (by simp)
        have q1 := hcell 1 (by simp)
        have q2 := hcell 2 (by simp)
        have q3 := hcell 3 (by simp)
        have q4 := hcell 4 (by simp)
        have q5 := hcell 5 (by simp)
        have q6 := hcell 6 (by simp)
        simp [Go.WideShapes.add_plain] at q0 q1 q2 q3 q4 q5 q6
        exact ⟨⟨i0, i1, i2, bs, i4, i5, i6⟩, ⟨bounds_u8 w0, bounds_u32 w1, bounds_u8 w2, bounds_u8 w4, bounds_u16 w5, bounds_u8 w6⟩, b, off, a', n', c', rfl, ⟨q0, q1, q2, q3, q4, q5, q6, hb', hn'⟩⟩
    obtain ⟨q, hq⟩ := choose_lt each
    refine ⟨(List.range len).map q, by simp, by unfold maxLen at hm; omega, fun d hd => ?_, fun i hi => ?_⟩
    · obtain ⟨i, hi, rfl⟩ := List.mem_map.1 hd
      exact (hq i (List.mem_range.1 hi)).1
    · obtain ⟨_, b, off, ka, kn, kc, rfl, hd⟩ := hq i hi
      refine ⟨b, off, ka, kn, kc, rfl, ?_⟩
      have : ((List.range len).map q).getD i dd0 = q i := by simp [List.getD_eq_getElem?_getD, hi]
      rw [this]; exact hd
end Go.Proofs.YtbejkcdaefkibaaGreat.Wd
namespace Go.Proofs.YtbejkcdaefkibaaGreat.Wd
open Go Go.RowKit Go.Shelf Go.Deep
set_option linter.unusedVariables false
set_option maxRecDepth 100000

/-- A key and a rule that may be. -/
structure Good (k : ByteArray) (r : Rl) : Prop where
  key : rtB (lb k) = true
  rule : ruE r.p r.e r.b r.k = 0
  ok : Okr r
  size : k.size ≤ 128
theorem Good.wk {k : ByteArray} {r : Rl} (h : Good k r) : wkE k r = 0 := by unfold wkE; rw [if_pos h.key]; exact h.rule
theorem Good.cap {k : ByteArray} {r : Rl} (h : Good k r) : capR r = r.e * r.b ∧ 0 < r.e * r.b ∧ r.e * r.b ≤ 4611686018427387904 := by
  obtain ⟨h1, h2, h3⟩ := ru_fit r.p r.e r.b r.k h.ok.e h.ok.b h.rule
  refine ⟨?_, h2, h3⟩
  show caI r.p r.e r.b r.k = _
  unfold caI; rw [if_pos h.rule, h1]
theorem Good.pos {k : ByteArray} {r : Rl} (h : Good k r) : 1 ≤ r.e ∧ 1 ≤ r.b := by
  have := h.cap
  have he := h.ok.e
  have hb := h.ok.b
  unfold U at he hb
  constructor
  · by_cases z : r.e = 0
    · rw [z] at this; simp at this
    · omega
  · by_cases z : r.b = 0
    · rw [z] at this; simp at this
    · omega
/-- A state tells a FILL, now and later. -/
structure Say (c : Int) (r : Rl) (s : St) (f : Int) : Prop where
  st : OkSt s
  tells : Tells s.k s.a s.b (capR r) c f
  f0 : 0 ≤ f
  f1 : f ≤ capR r
theorem Say.fill {c : Int} {r : Rl} {s : St} {f : Int} (h : Say c r s f) (hc : U c) : flT c r s = f := h.tells.here hc h.f0
theorem Say.later {c c' : Int} {r : Rl} {s : St} {f : Int} (h : Say c r s f) (hl : c ≤ c') : Say c' r s (sbI f (c' - c)) :=
  ⟨h.st, h.tells.later hl, by unfold sbI; split <;> omega, by have := h.f0; have := h.f1; unfold sbI; split <;> omega⟩
theorem Say.none {c : Int} {r : Rl} (h3 : Is3 r.k) (hr : Okr r) (hc : U c) : Say c r (stOf c r none) 0 := by
  have hcap := capR_U hr
  have ek : koK r.k = r.k := koK_is h3
  refine ⟨⟨by show Is3 (koK r.k); rw [ek]; exact h3, koA_U _ _ _ _ hc hcap U_zero, koB_U _ _ hc⟩, ?_, by omega, hcap.1⟩
  show Tells (koK r.k) (koA r.k c (capR r) 0) (koB r.k c) (capR r) c 0
  rw [ek]
  exact tells_of h3 c (capR r) 0 hc.1 (Int.le_refl _) hcap.1 (by unfold U at hc; omega)
theorem Say.charge {c : Int} {r : Rl} {s : St} {f n : Int} (h : Say c r s f) (hr : Okr r) (hc : U c) (hs : c + capR r ≤ 18446744073709551615) (hn : U n) :
    stIn c r s n = ftB f (wI r n) (capR r) ∧ (stNx c r s n).k = s.k ∧ Say c r (stNx c r s n) (if ftB f (wI r n) (capR r) = true then f + wI r n else f) := by
  have hw := wI_U hr hn
  obtain ⟨a1, a2, a3, a4, a5⟩ := h.tells.decide h.st.k h.st.a h.st.b (capR_U hr) hc (wI r n) hw h.f0 hs
  refine ⟨a1, a2, ⟨⟨by show Is3 (kdK _ _ _ _ _ _); rw [a2]; exact h.st.k, a3, a4⟩, ?_, ?_, ?_⟩⟩
  · show Tells (kdK _ _ _ _ _ _) _ _ _ _ _
    rw [a2]; exact a5
  · have := h.f0; unfold U at hw; split <;> omega
  · split
    · rename_i z
      unfold ftB at z
      simpa using z
    · exact h.f1
/-- Who is there has this key and this rule, and its state tells a FILL. -/
def Solo (k : ByteArray) (r : Rl) (c : Int) (S : List Sl) : Prop := ∀ s ∈ S, s.key = k ∧ s.r = r ∧ ∃ f, Say c r ⟨s.k, s.a, s.b⟩ f
theorem Solo.nil (k : ByteArray) (r : Rl) (c : Int) : Solo k r c [] := fun s hs => nomatch hs
theorem Solo.len {k : ByteArray} {r : Rl} {c m c2 : Int} {S : List Sl} (h : Solo k r c S) (hw : Wf m c2 S) : S.length ≤ 1 := by
  match S, h, hw with
  | [], _, _ => simp
  | [_], _, _ => simp
  | x :: y :: l, h, hw =>
    have h1 := (h x (by simp)).1
    have h2 := (h y (by simp)).1
    have := (List.pairwise_cons.1 hw.ap).1 y (by simp)
    exact absurd (h1.trans h2.symm) this
theorem Solo.st {k : ByteArray} {r : Rl} {m c : Int} {S : List Sl} (h : Solo k r c S) (hw : Wf m c S) (hg : Good k r) : ∃ f, Say c r (stOf c r (getS S k)) f := by
  cases e : getS S k with
  | none => exact ⟨0, Say.none (rule_is3 hg.rule) hg.ok hw.cu⟩
  | some s => obtain ⟨_, _, f, hf⟩ := h s (getS_some e).1; exact ⟨f, hf⟩
theorem Solo.tick {k : ByteArray} {r : Rl} {c c' : Int} {S : List Sl} (h : Solo k r c S) (hl : c ≤ c') : Solo k r c' (S.filter (actB c')) := fun s hs => by
  obtain ⟨h1, h2, f, hf⟩ := h s (List.mem_filter.1 hs).1
  exact ⟨h1, h2, _, hf.later hl⟩
theorem Solo.drop {k : ByteArray} {r : Rl} {c : Int} {S : List Sl} (h : Solo k r c S) : dropS S k r = S := by
  unfold dropS
  cases e : getS S k with
  | none => rfl
  | some s =>
    have := (h s (getS_some e).1).2.1
    simp [this]
theorem Solo.full {k : ByteArray} {r : Rl} {m c : Int} {S : List Sl} (h : Solo k r c S) (hm : 1 ≤ m) : fullB m S k = false := by
  unfold fullB
  cases e : getS S k with
  | some s => rfl
  | none =>
    have : S = [] := by
      match S, h, e with
      | [], _, _ => rfl
      | x :: l, h, e => exact absurd (h x (by simp)).1 (getS_none.1 e x (by simp))
    subst this
    simp; omega
/-- A charge of it. -/
theorem Solo.charge {k : ByteArray} {r : Rl} {m c n : Int} {S : List Sl} (h : Solo k r c S) (hw : Wf m c S) (hg : Good k r) (hn : U n) (hs : c + capR r ≤ 18446744073709551615) :
    chA m c S k r n = decA c r (stOf c r (getS S k)) n ∧ chN m c S k r n = decS c S k r (stOf c r (getS S k)) n ∧ Solo k r c (chN m c S k r n) := by
  have e1 : chA m c S k r n = decA c r (stOf c r (getS S k)) n := by unfold chA; rw [if_pos hg.wk, h.drop, h.full hw.m1]; rfl
  have e2 : chN m c S k r n = decS c S k r (stOf c r (getS S k)) n := by unfold chN; rw [if_pos hg.wk, h.drop, h.full hw.m1]; rfl
  refine ⟨e1, e2, ?_⟩
  rw [e2]
  obtain ⟨f, hf⟩ := h.st hw hg
  obtain ⟨_, _, a3⟩ := hf.charge hg.ok hw.cu hs hn
  unfold decS putS
  split
  · split
    · exact fun s hs => h s (offS_mem.1 hs).1
    · intro s hs
      rcases List.mem_cons.1 hs with rfl | hs
      · exact ⟨rfl, rfl, _, a3⟩
      · exact h s (offS_mem.1 hs).1
  · exact h
theorem decA_code {c : Int} {r : Rl} {s : St} {n : Int} : (decA c r s n).code = if stIn c r s n = true then 1 else 2 := rfl
end Go.Proofs.YtbejkcdaefkibaaGreat.Wd
namespace Go.Proofs.YtbejkcdaefkibaaGreat.Wd
open Go Go.RowKit Go.Shelf Go.Deep
set_option linter.unusedVariables false
set_option maxRecDepth 100000

theorem fld0 (a b c d e f g : Int) (t : Bool) (W : World) : (Instr.field 57 (.agg #[.int .u8 a, .int .u16 b, .int .u64 c, .int .u64 d, .int .u64 e, .int .u64 f, .int .u64 g, .bool t, .int .i64 0, .slice none 0 0]) 0).run Tryz.prog W = .ok (.int .u8 a) W := by kernel_rfl
theorem ruleK_ok (k : Int) (hk : 0 ≤ k ∧ k < 250) : Okr (ruleK k) ∧ ruE (ruleK k).p (ruleK k).e (ruleK k).b (ruleK k).k = 0 ∧ (ruleK k).e ≤ 3000000000 := by
  have h6 : k % 6 = 0 ∨ k % 6 = 1 ∨ k % 6 = 2 ∨ k % 6 = 3 ∨ k % 6 = 4 ∨ k % 6 = 5 := by omega
  have h3 : k / 6 % 3 = 0 ∨ k / 6 % 3 = 1 ∨ k / 6 % 3 = 2 := by omega
  unfold ruleK
  rw [if_neg (by omega)]
  rcases h6 with h | h | h | h | h | h <;> rcases h3 with g | g | g <;> (unfold ruleP; simp only [h, g]; refine ⟨⟨by decide, by unfold U; decide, by unfold U; decide, by decide⟩, by rw [ru_is]; decide, by decide⟩)
theorem first_vis {s : ByteArray} (h : (lb s).all (fun c => visB (c.toNat : Int)) = true) (h1 : 1 ≤ s.size) : rtB (lb (s.extract 0 1)) = true ∧ (s.extract 0 1).size = 1 := by
  have hs : (s.extract 0 1).size = 1 := by rw [ByteArray.size_extract]; omega
  refine ⟨rtB_of (by omega) (by omega) ?_, hs⟩
  rw [List.all_eq_true] at h ⊢
  intro c hc
  refine h c ?_
  have : lb (s.extract 0 1) = (lb s).extract 0 1 := by simp [lb, ByteArray.data_extract]
  rw [this] at hc
  exact List.mem_of_mem_take (by simpa [List.extract] using hc)
theorem Solo.later {k : ByteArray} {r : Rl} {m c c' f : Int} {S : List Sl} (h : Solo k r c S) (hw : Wf m c S) (hg : Good k r) (hf : Say c r (stOf c r (getS S k)) f) (hl : c ≤ c') (hc' : U c') :
    Say c' r (stOf c' r (getS (S.filter (actB c')) k)) (sbI f (c' - c)) := by
  have hn := Say.none (rule_is3 hg.rule) hg.ok hc' (r := r)
  cases e : getS S k with
  | none =>
    rw [e] at hf
    have h0 : f = 0 := by
      have a := hf.fill hw.cu
      have b := (Say.none (rule_is3 hg.rule) hg.ok hw.cu (r := r)).fill hw.cu
      rw [a] at b; exact b
    have e2 : getS (S.filter (actB c')) k = none := getS_none.2 (fun s hs => getS_none.1 e s (List.mem_filter.1 hs).1)
    rw [e2, h0, show sbI 0 (c' - c) = 0 by unfold sbI; split <;> omega]
    exact hn
  | some s =>
    rw [e] at hf
    obtain ⟨h1, h2⟩ := getS_some e
    have hr := (h s h1).2.1
    have hff : flS c' s = sbI f (c' - c) := by
      have := hf.tells c' hl hc'
      show kfI s.k s.a s.b c' (caI s.r.p s.r.e s.r.b s.r.k) = _
      rw [hr]; exact this
    cases ha : actB c' s with
    | true =>
      have e2 : getS (S.filter (actB c')) k = some s := getS_of (hw.ap.sublist List.filter_sublist) (List.mem_filter.2 ⟨h1, ha⟩) h2
      rw [e2]; exact hf.later hl
    | false =>
      have e2 : getS (S.filter (actB c')) k = none := getS_none.2 (fun t ht e3 => by
        obtain ⟨t1, t2⟩ := List.mem_filter.1 ht
        have := pw_one hw.ap t1 h1 (e3.trans h2.symm)
        rw [this, ha] at t2; cases t2)
      have hz : sbI f (c' - c) = 0 := by
        have h4 : ¬ 0 < flS c' s := by simpa [actB] using ha
        rw [hff] at h4
        have := hf.f0
        unfold sbI at h4 ⊢
        split at h4 <;> (first | (rw [if_pos (by assumption)]) | (rw [if_neg (by assumption)]; omega))
      rw [e2, hz]; exact hn
theorem Solo.code {k : ByteArray} {r : Rl} {m c n f : Int} {S : List Sl} (h : Solo k r c S) (hw : Wf m c S) (hg : Good k r) (hn : U n) (hs : c + capR r ≤ 18446744073709551615) (hf : Say c r (stOf c r (getS S k)) f) :
    (chA m c S k r n).code = if ftB f (wI r n) (capR r) = true then 1 else 2 := by
  rw [(h.charge hw hg hn hs).1, decA_code, (hf.charge hg.ok hw.cu hs hn).1]
theorem cellT {B : Nat → Prop} {w w' : World} {b o : Nat} {v : Value} (g : Tch B w w') (h : w.cell? ⟨b, o, none⟩ = some v) (hb : ¬ B b) : w'.cell? ⟨b, o, none⟩ = some v :=
  (World.cell?_of_block (g.block b (cell_lt h) hb)).trans h
theorem Tbl.drew {w w' : World} {T : Nat} {B : Nat → Prop} {m c : Int} {S : List Sl} (h : Tbl w T B m c S) (g : Drew w w') : Tbl w' T B m c S := by
  obtain ⟨j, rfl⟩ := g
  exact h.keep (fun k _ hl => rfl)
theorem Drew.size {w w' : World} (g : Drew w w') : w'.heap.size = w.heap.size := by obtain ⟨j, rfl⟩ := g; rfl
theorem charge_at (B : Nat → Prop) (T : Nat) (m c : Int) (S : List Sl) (k : ByteArray) (r : Rl) (n : Int) (W V : World) (h : Tbl W T B m c S) (hB : ∀ k, W.heap.size ≤ k → B k) (hk : k.size ≤ 281474976710656) (hr : Okr r) (hn : U n) (hd : Drew W V) :
    Calls Tryz.prog 44 #[ptr T, .string k, .agg #[.string r.p, .int .u64 r.e, .int .u64 r.b, .int .u8 r.k], .int .u64 n] V fun e w' => e = .returned (chA m c S k r n).v ∧ Hid (Tbl w' T B m c (chN m c S k r n)) ∧ Tch B V w' := by
  refine (charge_tab T _ m c S k r n V (h.drew hd) hk hr hn).mono ?_
  rintro e w' ⟨rfl, g, hT⟩
  exact ⟨rfl, Lib.hid (hT.mono (fun k hk => hk.elim id (fun x => hB k (by rw [hd.size] at x; exact x)))), g⟩
theorem tick_at (B : Nat → Prop) (T : Nat) (m c x : Int) (S : List Sl) (W V : World) (h : Tbl W T B m c S) (hB : ∀ k, W.heap.size ≤ k → B k) (hx : U x) (hd : Drew W V) :
    Calls Tryz.prog 43 #[ptr T, .int .u64 x] V fun e w' => e = .returned (.int .u64 (max c x)) ∧ Hid (Tbl w' T B m (max c x) (S.filter (actB (max c x)))) ∧ Tch B V w' := by
  refine (tick_any T _ m c x S V (h.drew hd) hx).mono ?_
  rintro e w' ⟨rfl, g, hT⟩
  exact ⟨rfl, Lib.hid (hT.mono (fun k hk => hk.elim id (fun x => hB k (by rw [hd.size] at x; exact x)))), g⟩
theorem clock_at (B : Nat → Prop) (T : Nat) (m c : Int) (S : List Sl) (W V : World) (h : Tbl W T B m c S) (hd : Drew W V) :
    Calls Tryz.prog 29 #[ptr T] V fun e w' => e = .returned (.int .u64 c) ∧ V = w' := clock_yes T c V (h.drew hd).cells.2.1
theorem Tch.lo {B : Nat → Prop} {n : Nat} {a b : World} (h : Tch B a b) (hn : ∀ k, B k → n ≤ k) (hs : n ≤ a.heap.size) : Below n a b := ⟨h.os, h.tape, h.output, h.size, fun k hk => h.block k (by omega) (fun x => by have := hn k x; omega)⟩
theorem Drew.one (w : World) : Drew w w.drew := ⟨1, rfl⟩
theorem Below_tr {n : Nat} {a b c : World} (h : Below n a b) (g : Below n b c) : Below n a c := h.trans g
theorem Drew.lo {n : Nat} {a b : World} (h : Drew a b) (hs : n ≤ a.heap.size) : Below n a b := by
  obtain ⟨j, rfl⟩ := h
  exact ⟨rfl, rfl, rfl, Nat.le_refl _, fun _ _ => rfl⟩
end Go.Proofs.YtbejkcdaefkibaaGreat.Wd
namespace Go.Proofs.YtbejkcdaefkibaaGreat.Wd
open Go Go.RowKit Go.Shelf Go.Deep
set_option linter.unusedVariables false
set_option maxRecDepth 100000

/-- Two tables that share no block. -/
def Pr (w : World) (n0 T Y : Nat) (m1 c1 : Int) (S1 : List Sl) (m2 c2 : Int) (S2 : List Sl) : Prop :=
  n0 ≤ w.heap.size ∧ ∃ B1 B2 : Nat → Prop, Tbl w T B1 m1 c1 S1 ∧ Tbl w Y B2 m2 c2 S2 ∧ (∀ k, B1 k → ¬ B2 k) ∧ (∀ k, B1 k → n0 ≤ k ∧ k < w.heap.size) ∧ ∀ k, B2 k → n0 ≤ k ∧ k < w.heap.size
section
variable {w w' : World} {n0 T Y : Nat} {m1 c1 m2 c2 : Int} {S1 S2 : List Sl}
theorem Pr.swap (h : Pr w n0 T Y m1 c1 S1 m2 c2 S2) : Pr w n0 Y T m2 c2 S2 m1 c1 S1 := by
  obtain ⟨h0, B1, B2, h1, h2, h3, h4, h5⟩ := h
  exact ⟨h0, B2, B1, h2, h1, fun k a b => h3 k b a, h5, h4⟩
theorem Pr.below (h : Pr w n0 T Y m1 c1 S1 m2 c2 S2) (g : Below w.heap.size w w') : Pr w' n0 T Y m1 c1 S1 m2 c2 S2 := by
  obtain ⟨h0, B1, B2, h1, h2, h3, h4, h5⟩ := h
  exact ⟨Nat.le_trans h0 g.size, B1, B2, h1.below g, h2.below g, h3, fun k a => ⟨(h4 k a).1, Nat.lt_of_lt_of_le (h4 k a).2 g.size⟩, fun k a => ⟨(h5 k a).1, Nat.lt_of_lt_of_le (h5 k a).2 g.size⟩⟩
theorem Pr.dr (h : Pr w n0 T Y m1 c1 S1 m2 c2 S2) : Pr w.drew n0 T Y m1 c1 S1 m2 c2 S2 := h.below (Drew.lo (Drew.one w) (Nat.le_refl _))
theorem Pr.wf1 (h : Pr w n0 T Y m1 c1 S1 m2 c2 S2) : Wf m1 c1 S1 := by obtain ⟨_, B1, B2, h1, _⟩ := h; exact h1.wf
theorem Pr.wf2 (h : Pr w n0 T Y m1 c1 S1 m2 c2 S2) : Wf m2 c2 S2 := h.swap.wf1
theorem Pr.clock1 (h : Pr w n0 T Y m1 c1 S1 m2 c2 S2) : w.cell? ⟨T, 1, none⟩ = some (.int .u64 c1) := by obtain ⟨_, B1, B2, h1, _⟩ := h; exact h1.cells.2.1
theorem Pr.clock2 (h : Pr w n0 T Y m1 c1 S1 m2 c2 S2) : w.cell? ⟨Y, 1, none⟩ = some (.int .u64 c2) := h.swap.clock1
theorem pr_turn {B1 B2 : Nat → Prop} {m c : Int} {S : List Sl} (h0 : n0 ≤ w.heap.size) (h2 : Tbl w Y B2 m2 c2 S2) (h3 : ∀ k, B1 k → ¬ B2 k) (h4 : ∀ k, B1 k → n0 ≤ k ∧ k < w.heap.size) (h5 : ∀ k, B2 k → n0 ≤ k ∧ k < w.heap.size)
    (g : Tch B1 w w') (t : Tbl w' T (Nx B1 w) m c S) : Hid (Pr w' n0 T Y m c S m2 c2 S2) ∧ Tch (fun k => n0 ≤ k) w w' := by
  refine ⟨Lib.hid ⟨Nat.le_trans h0 g.size, fun k => Nx B1 w k ∧ k < w'.heap.size, B2, t.low, h2.keep (fun k hk hl => g.block k hl (fun x => h3 k x hk)), fun k a b => ?_, fun k a => ⟨?_, a.2⟩, fun k a => ⟨(h5 k a).1, Nat.lt_of_lt_of_le (h5 k a).2 g.size⟩⟩, g.mono (fun k _ hk => (h4 k hk).1)⟩
  · rcases a.1 with x | x
    · exact h3 k x b
    · have := (h5 k b).2; have : w.heap.size ≤ k := x; omega
  · rcases a.1 with x | x
    · exact (h4 k x).1
    · have : w.heap.size ≤ k := x; omega
theorem Pr.charge1 (h : Pr w n0 T Y m1 c1 S1 m2 c2 S2) (k : ByteArray) (r : Rl) (n : Int) (hk : k.size ≤ 281474976710656) (hr : Okr r) (hnn : U n) :
    Calls Tryz.prog 44 #[ptr T, .string k, .agg #[.string r.p, .int .u64 r.e, .int .u64 r.b, .int .u8 r.k], .int .u64 n] w fun e w' => e = .returned (chA m1 c1 S1 k r n).v ∧ Hid (Pr w' n0 T Y m1 c1 (chN m1 c1 S1 k r n) m2 c2 S2) ∧ Tch (fun k => n0 ≤ k) w w' := by
  obtain ⟨h0, B1, B2, h1, h2, h3, h4, h5⟩ := h
  refine (charge_tab T B1 m1 c1 S1 k r n w h1 hk hr hnn).mono ?_
  rintro e w' ⟨rfl, g, t⟩
  exact ⟨rfl, pr_turn h0 h2 h3 h4 h5 g t⟩
theorem Pr.charge2 (h : Pr w n0 T Y m1 c1 S1 m2 c2 S2) (k : ByteArray) (r : Rl) (n : Int) (hk : k.size ≤ 281474976710656) (hr : Okr r) (hnn : U n) :
    Calls Tryz.prog 44 #[ptr Y, .string k, .agg #[.string r.p, .int .u64 r.e, .int .u64 r.b, .int .u8 r.k], .int .u64 n] w fun e w' => e = .returned (chA m2 c2 S2 k r n).v ∧ Hid (Pr w' n0 T Y m1 c1 S1 m2 c2 (chN m2 c2 S2 k r n)) ∧ Tch (fun k => n0 ≤ k) w w' :=
  (h.swap.charge1 k r n hk hr hnn).mono (fun _ _ ⟨a, b, c⟩ => ⟨a, Lib.hid b.out.swap, c⟩)
theorem Pr.tick1 (h : Pr w n0 T Y m1 c1 S1 m2 c2 S2) (x : Int) (hx : U x) :
    Calls Tryz.prog 43 #[ptr T, .int .u64 x] w fun e w' => e = .returned (.int .u64 (max c1 x)) ∧ Hid (Pr w' n0 T Y m1 (max c1 x) (S1.filter (actB (max c1 x))) m2 c2 S2) ∧ Tch (fun k => n0 ≤ k) w w' := by
  obtain ⟨h0, B1, B2, h1, h2, h3, h4, h5⟩ := h
  refine (tick_any T B1 m1 c1 x S1 w h1 hx).mono ?_
  rintro e w' ⟨rfl, g, t⟩
  exact ⟨rfl, pr_turn h0 h2 h3 h4 h5 g t⟩
theorem Pr.tick2 (h : Pr w n0 T Y m1 c1 S1 m2 c2 S2) (x : Int) (hx : U x) :
    Calls Tryz.prog 43 #[ptr Y, .int .u64 x] w fun e w' => e = .returned (.int .u64 (max c2 x)) ∧ Hid (Pr w' n0 T Y m1 c1 S1 m2 (max c2 x) (S2.filter (actB (max c2 x)))) ∧ Tch (fun k => n0 ≤ k) w w' :=
  (h.swap.tick1 x hx).mono (fun _ _ ⟨a, b, c⟩ => ⟨a, Lib.hid b.out.swap, c⟩)
end
theorem ruleK_okr (k : Int) (hk : 0 ≤ k ∧ k ≤ 255) : Okr (ruleK k) := by
  have h6 : k % 6 = 0 ∨ k % 6 = 1 ∨ k % 6 = 2 ∨ k % 6 = 3 ∨ k % 6 = 4 ∨ k % 6 = 5 := by omega
  have h3 : k / 6 % 3 = 0 ∨ k / 6 % 3 = 1 ∨ k / 6 % 3 = 2 := by omega
  unfold ruleK
  by_cases c : 250 ≤ k
  · rw [if_pos c]
    rcases h6 with h | h | h | h | h | h <;> rcases h3 with g | g | g <;> (unfold ruleP; simp only [h, g]; exact ⟨by decide, by unfold U; decide, by unfold U; decide, by decide⟩)
  · rw [if_neg c]
    rcases h6 with h | h | h | h | h | h <;> rcases h3 with g | g | g <;> (unfold ruleP; simp only [h, g]; exact ⟨by decide, by unfold U; decide, by unfold U; decide, by decide⟩)

/-! ### What is left of another key -/
theorem getS_offne {S : List Sl} {k k' : ByteArray} (h : k' ≠ k) : getS (offS k S) k' = getS S k' := by
  unfold getS offS
  rw [List.find?_filter]
  congr 1
  funext s
  by_cases e : s.key = k'
  · simp [e, h]
  · simp [e]
theorem getS_cons {S : List Sl} {s : Sl} {k : ByteArray} : getS (s :: S) k = if s.key = k then some s else getS S k := by
  unfold getS
  rw [List.find?_cons]
  by_cases e : s.key = k <;> simp [e]
theorem getS_putne {c : Int} {S : List Sl} {s : Sl} {k' : ByteArray} (h : k' ≠ s.key) : getS (putS c s S) k' = getS S k' := by
  unfold putS
  split
  · exact getS_offne h
  · rw [getS_cons, if_neg (fun e => h e.symm), getS_offne h]
theorem getS_put {c : Int} {S : List Sl} {s : Sl} : getS (putS c s S) s.key = if flS c s = 0 then none else some s := by
  unfold putS
  split
  · exact getS_off _ _
  · rw [getS_cons, if_pos rfl]
theorem getS_dropne {S : List Sl} {k k' : ByteArray} {r : Rl} (h : k' ≠ k) : getS (dropS S k r) k' = getS S k' := by
  unfold dropS
  split
  · split
    · rfl
    · exact getS_offne h
  · rfl
theorem getS_chne {m c n : Int} {S : List Sl} {k k' : ByteArray} {r : Rl} (h : k' ≠ k) : getS (chN m c S k r n) k' = getS S k' := by
  unfold chN
  split
  · split
    · exact getS_dropne h
    · unfold decS
      split
      · rw [getS_putne h, getS_dropne h]
      · exact getS_dropne h
  · rfl
theorem putS_len (c : Int) (s : Sl) (S : List Sl) : (putS c s S).length ≤ S.length + 1 := by
  have := offS_le s.key S
  unfold putS; split <;> simp <;> omega
theorem dropS_len (S : List Sl) (k : ByteArray) (r : Rl) : (dropS S k r).length ≤ S.length := by
  unfold dropS
  split
  · split
    · exact Nat.le_refl _
    · exact offS_le _ _
  · exact Nat.le_refl _
theorem chN_len (m c n : Int) (S : List Sl) (k : ByteArray) (r : Rl) : (chN m c S k r n).length ≤ S.length + 1 := by
  have h1 := dropS_len S k r
  unfold chN
  split
  · split
    · omega
    · unfold decS
      split
      · have := putS_len c (slOf k r (stNx c r (stOf c r (getS (dropS S k r) k)) n)) (dropS S k r); omega
      · omega
  · omega
/-- What is told of a key, and kept of it, hangs on what is kept of it, where there is a place. -/
theorem dropS_get (S : List Sl) (k : ByteArray) (r : Rl) : getS (dropS S k r) k = match getS S k with | some s => if s.r.e = r.e ∧ s.r.b = r.b then some s else none | none => none := by
  unfold dropS
  cases e : getS S k with
  | none => simpa using e
  | some s =>
    by_cases z : s.r.e = r.e ∧ s.r.b = r.b
    · simp [z, e]
    · simp only [if_neg z]
      exact getS_off k S
theorem full_no {m : Int} {S : List Sl} (k : ByteArray) (r : Rl) (h : (S.length : Int) < m) : fullB m (dropS S k r) k = false := by
  have := dropS_len S k r
  unfold fullB
  rw [Bool.and_eq_false_iff]
  right
  simp; omega
theorem ch_same {m c n : Int} {S1 S2 : List Sl} {k : ByteArray} {r : Rl} (hg : getS S1 k = getS S2 k) (h1 : (S1.length : Int) < m) (h2 : (S2.length : Int) < m) :
    chA m c S1 k r n = chA m c S2 k r n ∧ getS (chN m c S1 k r n) k = getS (chN m c S2 k r n) k := by
  have e : getS (dropS S1 k r) k = getS (dropS S2 k r) k := by rw [dropS_get, dropS_get, hg]
  constructor
  · unfold chA
    rw [full_no k r h1, full_no k r h2, e]
  · unfold chN
    rw [full_no k r h1, full_no k r h2, e]
    by_cases z : wkE k r = 0
    · rw [if_pos z, if_pos z]
      (try rw [if_neg (by decide : ¬ (false = true)), if_neg (by decide : ¬ (false = true))])
      generalize stOf c r (getS (dropS S2 k r) k) = st
      show getS (if stIn c r st n = true then putS c (slOf k r (stNx c r st n)) (dropS S1 k r) else dropS S1 k r) k = getS (if stIn c r st n = true then putS c (slOf k r (stNx c r st n)) (dropS S2 k r) else dropS S2 k r) k
      by_cases q : stIn c r st n = true
      · rw [if_pos q, if_pos q]
        have a := getS_put (c := c) (S := dropS S1 k r) (s := slOf k r (stNx c r st n))
        have b := getS_put (c := c) (S := dropS S2 k r) (s := slOf k r (stNx c r st n))
        exact a.trans b.symm
      · rw [if_neg q, if_neg q]; exact e
    · rw [if_neg z, if_neg z]; exact hg
theorem getS_filter {S : List Sl} {p : Sl → Bool} {k : ByteArray} (h : S.Pairwise (fun x y => x.key ≠ y.key)) : getS (S.filter p) k = (getS S k).filter p := by
  cases e : getS S k with
  | none => exact getS_none.2 (fun s hs => getS_none.1 e s (List.mem_filter.1 hs).1)
  | some s =>
    obtain ⟨h1, h2⟩ := getS_some e
    cases ha : p s with
    | true =>
      rw [getS_of (h.sublist List.filter_sublist) (List.mem_filter.2 ⟨h1, ha⟩) h2]
      unfold Option.filter; simp only [ha, if_true]
    | false =>
      rw [show (some s).filter p = none by unfold Option.filter; simp [ha]]
      exact getS_none.2 (fun t ht e3 => by
        obtain ⟨t1, t2⟩ := List.mem_filter.1 ht
        have := pw_one h t1 h1 (e3.trans h2.symm)
        rw [this, ha] at t2; cases t2)
end Go.Proofs.YtbejkcdaefkibaaGreat.Wd
namespace Go.Proofs.YtbejkcdaefkibaaGreat.Wd
open Go Go.RowKit Go.Shelf Go.Deep
set_option linter.unusedVariables false
set_option maxRecDepth 100000
attribute [local go_sem] Oper.semAt_some
theorem kmigrate_any (k a b kto now cap : Int) (w : World) (ha : U a) (hb : U b) (hn : U now) (hc : U cap) :
    Calls Tryz.prog 174 #[sta k a b, .int .u8 kto, .int .u64 now, .int .u64 cap] w fun e w' => e = .returned (.tuple #[sta (kmK k kto) (kmA k a b kto now cap) (kmB k kto now), .int .u16 (kmE k kto)]) ∧ Kept w w' := by
  have r (w : World) := knright_any k w
  unfold kmK kmA kmB kmE
  cases h : isK k
  · rw [h] at r
    have R := Lib.hid r
    clear r
    simp only [Bool.false_eq_true, if_false]
    go_enter Tryz.func174, Tryz.ntmps174
    go_wp2_with (go_at_call 171; ((with_reducible refine (R.out _).mono ?_); rintro e w1 ⟨rfl, g1⟩; obtain ⟨hc1, hf1⟩ := g1.reads; have hz1 : w.heap.size < w1.heap.size ∧ w.heap.size + 1 < w1.heap.size := by (have := g1.size; simp at this; omega)))
    exact bodyPost_ret (v := .tuple #[sta 0 0 0, .int .u16 27]) (by simp [results, Tryz.results174, go_sem, hc1]) rfl
      ⟨rfl, ((((Kept.refl w).alloc _ _).alloc _ _).trans g1).set3 (Nat.le_succ _) _ _ _⟩
  · rw [h] at r
    have R := Lib.hid r
    clear r
    simp only [if_true]
    have hf := kfI_U k a b now cap ha hb hn hc
    have F := Lib.hid (fun w => kfill_any k a b now cap w ha hb hn hc)
    generalize kfI k a b now cap = f at *
    have O := Lib.hid (fun w => kof_any kto now cap f w hn hc hf)
    generalize koK kto = ok at *
    generalize koA kto now cap f = oa at *
    generalize koB kto now = ob at *
    generalize koE kto = oe at *
    go_enter Tryz.func174, Tryz.ntmps174
    go_wp2_with (first
      | (go_at_call 171; ((with_reducible refine (R.out _).mono ?_); rintro e w1 ⟨rfl, g1⟩; obtain ⟨hc1, hf1⟩ := g1.reads; have hz1 : w.heap.size < w1.heap.size ∧ w.heap.size + 1 < w1.heap.size := by (have := g1.size; simp at this; omega)))
      | (go_at_call 116; ((with_reducible refine (F.out _).mono ?_); rintro e w2 ⟨rfl, g2⟩; obtain ⟨hc2, hf2⟩ := g2.reads; have hz2 : w.heap.size + 1 < w2.heap.size := by (have := g2.size; omega)))
      | (go_at_call 150; ((with_reducible refine (O.out _).mono ?_); rintro e w3 ⟨rfl, g3⟩; obtain ⟨hc3, hf3⟩ := g3.reads; have hz3 : w.heap.size + 1 < w3.heap.size := by (have := g3.size; omega))))
    exact bodyPost_ret (v := .tuple #[sta ok oa ob, .int .u16 oe]) (by simp [results, Tryz.results174, go_sem, hc1, hc2, hc3, hz1, hz2]) rfl
      ⟨rfl, (((((Kept.refl w).alloc _ _).alloc _ _).trans g1).trans g2 |>.trans g3).set3 (Nat.le_succ _) _ _ _⟩
end Go.Proofs.YtbejkcdaefkibaaGreat.Wd
