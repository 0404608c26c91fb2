/- A table in memory, by the slots that are active; what a sweep leaves of them; no conditions but those that each names. -/
import Derived.Test.YtkfncanfgpmgaaaGreatTabS
namespace Go.Proofs.YtkfncanfgpmgaaaGreat.Wd
open Go Go.RowKit Go.Shelf Go.Deep
set_option linter.unusedVariables false
set_option maxRecDepth 100000

/-- No FILL goes down by more than one each nanosecond. -/
theorem kfI_slow (k a b cap c c' : Int) (hk : Is3 k) (ha : U a) (hb : U b) (hc : U c) (hc' : U c') (hcap : U cap) (h : c ≤ c') : kfI k a b c cap - (c' - c) ≤ kfI k a b c' cap := by
  unfold U at *
  rcases hk with rfl | rfl | rfl
  · simp only [kfI, sbI]; (repeat' split) <;> omega
  · simp [kfI, biI, tkI, sbI]; (repeat' split) <;> omega
  · simp [kfI, fiI, sbI]; (repeat' split) <;> omega
/-- It never goes up. -/
theorem kfI_down (k a b cap c c' : Int) (hk : Is3 k) (ha : U a) (hb : U b) (hc : U c) (hc' : U c') (hcap : U cap) (h : c ≤ c') : kfI k a b c' cap ≤ kfI k a b c cap := by
  unfold U at *
  rcases hk with rfl | rfl | rfl
  · simp only [kfI, sbI]; (repeat' split) <;> omega
  · simp [kfI, biI, tkI, sbI]; (repeat' split) <;> omega
  · simp [kfI, fiI, sbI]; (repeat' split) <;> omega

/-- A slot is active. -/
def actB (c : Int) (s : Sl) : Bool := decide (0 < flS c s)
/-- Ahead of when it is due it is active. -/
def DueOk (c : Int) (x : Sl × Int) : Prop := 0 < flS c x.1 ∧ ∀ c', c ≤ c' → U c' → c' < x.2 → 0 < flS c' x.1
/-- A slot as a table keeps it. -/
structure Okt (c : Int) (s : Sl) : Prop where
  oks : Oks s
  key : rtB (lb s.key) = true
  rule : ruE s.r.p s.r.e s.r.b s.r.k = 0
  kind : Is3 s.k
  pos : 0 < flS c s
/-- What may be in a table. -/
structure Wf (m c : Int) (S : List Sl) : Prop where
  m1 : 1 ≤ m
  m2 : m ≤ 1000000
  cu : U c
  len : (S.length : Int) ≤ m
  ok : ∀ s ∈ S, Okt c s
  ap : S.Pairwise (fun x y => x.key ≠ y.key)
theorem Wf.perm {m c : Int} {S S' : List Sl} (h : Wf m c S) (p : S.Perm S') : Wf m c S' :=
  ⟨h.m1, h.m2, h.cu, by rw [← p.length_eq]; exact h.len, fun s hs => h.ok s (p.mem_iff.2 hs), (p.pairwise_iff (fun {_ _} hne => Ne.symm hne)).1 h.ap⟩
theorem capS_U {s : Sl} (h : Oks s) : U (capS s) := caI_U _ _ _ _ h.r.e h.r.b
theorem flS_U {c : Int} {s : Sl} (h : Oks s) (hc : U c) : U (flS c s) := kfI_U _ _ _ _ _ h.a h.b hc (capS_U h)
theorem flS_slow {c c' : Int} {s : Sl} (h : Oks s) (hk : Is3 s.k) (hc : U c) (hc' : U c') (hl : c ≤ c') : flS c s - (c' - c) ≤ flS c' s := kfI_slow _ _ _ _ _ _ hk h.a h.b hc hc' (capS_U h) hl
theorem flS_down {c c' : Int} {s : Sl} (h : Oks s) (hk : Is3 s.k) (hc : U c) (hc' : U c') (hl : c ≤ c') : flS c' s ≤ flS c s := kfI_down _ _ _ _ _ _ hk h.a h.b hc hc' (capS_U h) hl
theorem dueS_zero {c : Int} {s : Sl} (h : Oks s) (hc : U c) : dueS c s = 0 ↔ flS c s = 0 := by
  have := flS_U h hc
  unfold dueS kuI sat U at *
  (repeat' split) <;> omega
theorem dueS_ok {c : Int} {s : Sl} (h : Oks s) (hk : Is3 s.k) (hc : U c) (hp : 0 < flS c s) : DueOk c (s, dueS c s) := by
  refine ⟨hp, fun c' hl hc' hd => ?_⟩
  have := flS_slow h hk hc hc' hl
  have e : dueS c s = sat (c + flS c s) := by unfold dueS kuI; rw [if_neg (by omega)]
  rw [e] at hd
  have : sat (c + flS c s) ≤ c + flS c s := by unfold sat; split <;> omega
  have hd' : c' < sat (c + flS c s) := hd
  show 0 < flS c' s
  omega
theorem Okt.later {c c' : Int} {s : Sl} (h : Okt c s) (hp : 0 < flS c' s) : Okt c' s := ⟨h.oks, h.key, h.rule, h.kind, hp⟩

/-- A table in memory: as many as may be, its clock, who is active. -/
def Tbl (w : World) (T : Nat) (B : Nat → Prop) (m c : Int) (S : List Sl) : Prop := ∃ L, TabL w T B m c L ∧ (L.map Prod.fst).Perm S ∧ (∀ x ∈ L, DueOk c x) ∧ Wf m c S
theorem Tbl.wf {w : World} {T : Nat} {B : Nat → Prop} {m c : Int} {S : List Sl} (h : Tbl w T B m c S) : Wf m c S := by obtain ⟨L, _, _, _, h⟩ := h; exact h
theorem Tbl.perm {w : World} {T : Nat} {B : Nat → Prop} {m c : Int} {S S' : List Sl} (h : Tbl w T B m c S) (p : S.Perm S') : Tbl w T B m c S' := by
  obtain ⟨L, h1, h2, h3, h4⟩ := h
  exact ⟨L, h1, h2.trans p, h3, h4.perm p⟩
theorem Tbl.mono {w : World} {T : Nat} {B C : Nat → Prop} {m c : Int} {S : List Sl} (h : Tbl w T B m c S) (hs : ∀ k, B k → C k) : Tbl w T C m c S := by
  obtain ⟨L, h1, r⟩ := h
  exact ⟨L, h1.mono hs, r⟩
theorem Tbl.low {w : World} {T : Nat} {B : Nat → Prop} {m c : Int} {S : List Sl} (h : Tbl w T B m c S) : Tbl w T (fun k => B k ∧ k < w.heap.size) m c S := by
  obtain ⟨L, h1, r⟩ := h
  exact ⟨L, h1.low, r⟩
theorem Tbl.keep {w w' : World} {T : Nat} {B : Nat → Prop} {m c : Int} {S : List Sl} (h : Tbl w T B m c S) (hk : ∀ k, B k → k < w.heap.size → w'.heap[k]? = w.heap[k]?) : Tbl w' T B m c S := by
  obtain ⟨L, h1, r⟩ := h
  exact ⟨L, h1.keep hk, r⟩
theorem Tbl.below {w w' : World} {T : Nat} {B : Nat → Prop} {m c : Int} {S : List Sl} (h : Tbl w T B m c S) (g : Below w.heap.size w w') : Tbl w' T B m c S := h.keep (fun k _ hl => g.block k hl)
theorem Tbl.cells {w : World} {T : Nat} {B : Nat → Prop} {m c : Int} {S : List Sl} (h : Tbl w T B m c S) :
    w.cell? ⟨T, 0, none⟩ = some (.int .i64 m) ∧ w.cell? ⟨T, 1, none⟩ = some (.int .u64 c) ∧ w.frozen? ⟨T, 1, none⟩ = false ∧ T < w.heap.size := by
  obtain ⟨L, h1, r⟩ := h
  exact h1.cells
/-- Its clock is set: that is its block's alone. -/
theorem TabL.clock {w : World} {T : Nat} {B : Nat → Prop} {m c : Int} {L : List (Sl × Int)} (h : TabL w T B m c L) (c' : Int) :
    TabL (w.setCell ⟨T, 1, none⟩ (.int .u64 c')) T B m c' L ∧ Tch B w (w.setCell ⟨T, 1, none⟩ (.int .u64 c')) := by
  obtain ⟨M, F, bs, h1, e⟩ := h
  obtain ⟨v, hb⟩ := h1.top
  obtain ⟨q, hq, ho, hm⟩ := h1.que
  have tm := h1.tm
  have bT := hb.set 1 (.int .u64 c')
  refine ⟨⟨M, F, bs, ⟨⟨v, bT⟩, h1.map.kept (Below.heap_setCell _ _ _ _ (Ne.symm tm)), h1.inB, ⟨q, ?_, ho, hm⟩, h1.ap, h1.few, h1.keys⟩, e⟩, Tch.set w T 1 _ hq.top.1⟩
  refine ⟨?_, hq.mem, hq.top⟩
  rcases hq.que with ⟨A, cap, hQ, hA⟩ | ⟨h0, hn⟩
  · obtain ⟨cur, hc, r⟩ := hQ.row
    exact .inl ⟨A, cap, ⟨(cs_other _ _ _ _ _ _ (.inr (by omega))).trans hQ.var, ⟨cur, hc.other _ _ hQ.one, r⟩, hQ.few, fun i hi => (hQ.nd i hi).other _ _ (hQ.two i hi).2, hQ.inj, hQ.one, hQ.two⟩, hA⟩
  · exact .inr ⟨h0, (cs_other _ _ _ _ _ _ (.inr (by omega))).trans hn⟩
/-- What is kept anew are those who are active still. -/
theorem upd2_map {c : Int} : ∀ R : List (Sl × Int), (∀ x ∈ R, Oks x.1) → U c → (upd2 c R).map Prod.fst = (R.map Prod.fst).filter (actB c)
  | [], _, _ => rfl
  | x :: R, h, hc => by
    have ih := upd2_map R (fun y hy => h y (List.mem_cons_of_mem _ hy)) hc
    have hx := h x (List.mem_cons_self)
    have hz := dueS_zero hx hc
    have hU := flS_U hx hc
    unfold upd2 at ih ⊢
    rw [List.map_cons, List.filterMap_cons]
    by_cases z : dueS c x.1 = 0
    · rw [if_pos z, List.filter_cons_of_neg (by simp [actB, hz.1 z])]; exact ih
    · rw [if_neg z, List.filter_cons_of_pos (by
        have := fun e => z (hz.2 e)
        unfold U at hU
        simp only [actB, decide_eq_true_eq]; omega), List.map_cons, ih]
theorem swept {m c c' : Int} {S : List Sl} {L Lr Rd L' : List (Sl × Int)} (hp : (L.map Prod.fst).Perm S) (hd : ∀ x ∈ L, DueOk c x) (hw : Wf m c S) (hl : c ≤ c') (hc' : U c')
    (h1 : L.Perm (Lr ++ Rd)) (h2 : ∀ x ∈ Rd, x.2 ≤ c') (h3 : ∀ x ∈ Lr, c' < x.2) (h4 : L'.Perm (Lr ++ upd2 c' Rd)) :
    (L'.map Prod.fst).Perm (S.filter (actB c')) ∧ (∀ x ∈ L', DueOk c' x) ∧ Wf m c' (S.filter (actB c')) := by
  have okL : ∀ x ∈ L, Okt c x.1 := fun x hx => hw.ok _ (hp.mem_iff.1 (List.mem_map.2 ⟨x, hx, rfl⟩))
  have inR : ∀ x ∈ Rd, x ∈ L := fun x hx => h1.mem_iff.2 (List.mem_append_right _ hx)
  have inL : ∀ x ∈ Lr, x ∈ L := fun x hx => h1.mem_iff.2 (List.mem_append_left _ hx)
  have eR := upd2_map Rd (fun x hx => (okL x (inR x hx)).oks) hc'
  have eL : (Lr.map Prod.fst).filter (actB c') = Lr.map Prod.fst := by
    refine List.filter_eq_self.2 (fun s hs => ?_)
    obtain ⟨x, hx, rfl⟩ := List.mem_map.1 hs
    simp only [actB, decide_eq_true_eq]
    exact (hd x (inL x hx)).2 c' hl hc' (h3 x hx)
  have p1 : (L'.map Prod.fst).Perm (S.filter (actB c')) := by
    refine (h4.map Prod.fst).trans ?_
    rw [List.map_append, eR, ← eL, ← List.filter_append, ← List.map_append]
    exact (((h1.map Prod.fst).symm).trans hp).filter _
  have ok : ∀ s ∈ S.filter (actB c'), Okt c' s := fun s hs => by
    obtain ⟨a, b⟩ := List.mem_filter.1 hs
    exact (hw.ok s a).later (by simpa [actB] using b)
  refine ⟨p1, fun x hx => ?_, hw.m1, hw.m2, hc', ?_, ok, hw.ap.sublist List.filter_sublist⟩
  · rcases List.mem_append.1 (h4.mem_iff.1 hx) with hx | hx
    · exact ⟨(hd x (inL x hx)).2 c' hl hc' (h3 x hx), fun q hq hU hlt => (hd x (inL x hx)).2 q (by omega) hU hlt⟩
    · obtain ⟨y, hy, e⟩ := List.mem_filterMap.1 hx
      by_cases q : dueS c' y.1 = 0
      · rw [if_pos q] at e; cases e
      · rw [if_neg q] at e; injection e with e; subst e
        have o := okL y (inR y hy)
        refine dueS_ok o.oks o.kind hc' ?_
        have hU := flS_U o.oks hc'
        have hz : flS c' y.1 ≠ 0 := fun e => q ((dueS_zero o.oks hc').2 e)
        unfold U at hU
        omega
  · have : (S.filter (actB c')).length ≤ S.length := List.length_filter_le _ _
    have := hw.len
    omega
theorem Wf.app {m c : Int} {S : List Sl} (h : Wf m c S) : ApL (S.map (fun s => (s, (0 : Int)))) := List.pairwise_map.2 h.ap
end Go.Proofs.YtkfncanfgpmgaaaGreat.Wd
