/- A table whose map is named; one is put in; how one goes over to another kernel: plain; no conditions but those that each names. -/
import Derived.Test.YtkfncanfgpmgaaaGreatTabF
import Derived.Test.YtkfncanfgpmgaaaGreatTabRb
namespace Go.Proofs.YtkfncanfgpmgaaaGreat.Wd
open Go Go.RowKit Go.Deep Go.Shelf
set_option linter.unusedVariables false
set_option maxRecDepth 100000

/-- A table whose map lies in block M. -/
def Tbm (w : World) (T M : Nat) (B : Nat → Prop) (m c : Int) (S : List Sl) : Prop := ∃ F bs, TabM w T M B m c F bs ∧ ((bs.map F).map Prod.fst).Perm S ∧ (∀ x ∈ bs.map F, DueOk c x) ∧ Wf m c S
theorem Tbl.tbm {w : World} {T : Nat} {B : Nat → Prop} {m c : Int} {S : List Sl} (h : Tbl w T B m c S) : ∃ M, Tbm w T M B m c S := by
  obtain ⟨L, ⟨M, F, bs, h1, rfl⟩, h2, h3, h4⟩ := h
  exact ⟨M, F, bs, h1, h2, h3, h4⟩
theorem Tbm.tbl {w : World} {T M : Nat} {B : Nat → Prop} {m c : Int} {S : List Sl} (h : Tbm w T M B m c S) : Tbl w T B m c S := by
  obtain ⟨F, bs, h1, h2, h3, h4⟩ := h
  exact ⟨_, ⟨M, F, bs, h1, rfl⟩, h2, h3, h4⟩
theorem Tbm.wf {w : World} {T M : Nat} {B : Nat → Prop} {m c : Int} {S : List Sl} (h : Tbm w T M B m c S) : Wf m c S := by obtain ⟨_, _, _, _, _, h⟩ := h; exact h
theorem Tbm.perm {w : World} {T M : Nat} {B : Nat → Prop} {m c : Int} {S S' : List Sl} (h : Tbm w T M B m c S) (p : S.Perm S') : Tbm w T M B m c S' := by
  obtain ⟨F, bs, h1, h2, h3, h4⟩ := h; exact ⟨F, bs, h1, h2.trans p, h3, h4.perm p⟩
theorem Tbm.mono {w : World} {T M : Nat} {B C : Nat → Prop} {m c : Int} {S : List Sl} (h : Tbm w T M B m c S) (hs : ∀ k, B k → C k) : Tbm w T M C m c S := by
  obtain ⟨F, bs, h1, h2⟩ := h; exact ⟨F, bs, h1.mono hs, h2⟩
theorem Tbm.keep {w w' : World} {T M : Nat} {B : Nat → Prop} {m c : Int} {S : List Sl} (h : Tbm w T M B m c S) (hk : ∀ k, B k → k < w.heap.size → w'.heap[k]? = w.heap[k]?) : Tbm w' T M B m c S := by
  obtain ⟨F, bs, h1, h2⟩ := h; exact ⟨F, bs, h1.keep hk, h2⟩
theorem Tbm.below {w w' : World} {T M : Nat} {B : Nat → Prop} {m c : Int} {S : List Sl} (h : Tbm w T M B m c S) (g : Below w.heap.size w w') : Tbm w' T M B m c S := h.keep (fun k _ hl => g.block k hl)
theorem Tbm.lt {w : World} {T M : Nat} {B : Nat → Prop} {m c : Int} {S : List Sl} (h : Tbm w T M B m c S) : M < w.heap.size := by
  obtain ⟨F, bs, h1, h2⟩ := h; exact h1.map.lt
/-- What is wanted of its map. -/
theorem Tbm.map {w : World} {T M : Nat} {B : Nat → Prop} {m c : Int} {S : List Sl} (h : Tbm w T M B m c S) :
    ∃ F bs, Mp w M F bs ∧ bs.length ≤ 1000000 ∧ (∀ b ∈ bs, (F b).1.key.size ≤ 9223372036854775807) ∧ (bs.map (fun b => (F b).1.key)).Perm (S.map (fun s => s.key)) ∧ w.cell? ⟨T, 2, none⟩ = some (.map (some M)) := by
  obtain ⟨F, bs, h1, h2, h3, h4⟩ := h
  obtain ⟨v, hb⟩ := h1.top
  have hp := h2.map (fun s => s.key)
  rw [List.map_map, List.map_map] at hp
  exact ⟨F, bs, h1.map, h1.few, fun b hb => by have := h1.keys b hb; omega, hp, hb.cell 2⟩
/-- The kinds of its cells. -/
def Its (w : World) (k : Nat) : Prop := ∃ cs t, w.heap[k]? = some (.cells cs t) ∧ (t = TTab ∨ t = Tsl ∨ t = Tps)
theorem Tbm.sure {w : World} {T M : Nat} {B : Nat → Prop} {m c : Int} {S : List Sl} (h : Tbm w T M B m c S) : Tbm w T M (fun k => B k ∧ (k = M ∨ Its w k)) m c S := by
  obtain ⟨F, bs, h, h2⟩ := h
  refine ⟨F, bs, ?_, h2⟩
  obtain ⟨v, hb⟩ := h.top
  obtain ⟨q, h1, h2, h3⟩ := h.que
  refine ⟨⟨v, hb⟩, h.map, ⟨h.inB, .inl rfl⟩, ⟨q, ?_, h2, h3⟩, h.ap, h.few, h.keys⟩
  refine ⟨?_, fun i hi => ?_, ⟨⟨h1.top.1, .inr ⟨_, _, hb, .inl rfl⟩⟩, h1.top.2⟩⟩
  · rcases h1.que with ⟨A, cap, hQ, hA⟩ | hn
    · obtain ⟨cur, hc, r⟩ := hQ.row
      exact .inl ⟨A, cap, hQ, ⟨hA.1, .inr ⟨_, _, hc, .inr (.inr rfl)⟩⟩, hA.2⟩
    · exact .inr hn
  · have := h1.mem i hi
    refine ⟨⟨this.1, ?_⟩, this.2⟩
    rcases h1.que with ⟨A, cap, hQ, hA⟩ | ⟨h0, _⟩
    · exact .inr ⟨_, _, hQ.nd i hi, .inr (.inl rfl)⟩
    · omega
/-- What is no cells, and no map, is none of it. -/
theorem Tbm.putO {w : World} {T M : Nat} {B : Nat → Prop} {m c : Int} {S : List Sl} (h : Tbm w T M B m c S) {l : Nat} {o : Obj} (o' : Obj) (hl : w.heap[l]? = some o) (hc : o.isCells = false) (hw : o.isWalk = false) : Tbm (w.putObj l o') T M B m c S := by
  have hM : l ≠ M := by
    rintro rfl
    obtain ⟨F, bs, h1, _⟩ := h
    obtain ⟨es, ⟨e, clock, hb, _⟩, _⟩ := h1.map
    rw [hl] at hb; cases hb; cases hw
  refine (h.sure.keep (fun k hk _ => putO_other (fun e => ?_))).mono (fun k hk => hk.1)
  subst e
  rcases hk.2 with rfl | ⟨cs, t, hb, _⟩
  · exact hM rfl
  · rw [hl] at hb; cases hb; cases hc
theorem put_tbm (T M : Nat) (B : Nat → Prop) (m c : Int) (S : List Sl) (s : Sl) (w : World) (h : Tbm w T M B m c S) (hs : Oks s) (hk : rtB (lb s.key) = true) (hr : ruE s.r.p s.r.e s.r.b s.r.k = 0) (h3 : Is3 s.k) (hl : ((offS s.key S).length : Int) < m) :
    Calls Tryz.prog 61 #[ptr T, s.v] w fun e w' => e = .returned (.tuple #[]) ∧ Tch B w w' ∧ Tbm w' T M (Nx B w) m c (putS c s S) := by
  have hw := h.wf
  obtain ⟨F, bs, h1, h2, h4, h5⟩ := h
  have hp : (offL s.key (bs.map F)).map Prod.fst |>.Perm (offS s.key S) := by rw [offS_map]; exact h2.filter _
  have hle : (offB F s.key bs).length = (offS s.key S).length := by rw [← hp.length_eq, List.length_map, ← map_off, List.length_map]
  refine (put_any T M B m c F bs s w h1 hs hw.cu (by have := hw.m2; omega)).mono ?_
  rintro e w' ⟨rfl, g2, g3⟩
  refine ⟨rfl, g2, ?_⟩
  have g1 : ∃ F' bs', TabM w' T M (Nx B w) m c F' bs' ∧ bs'.map F' = putL c s (bs.map F) := by
    unfold putL
    by_cases z : dueS c s = 0
    · rw [if_pos z] at g3 ⊢
      exact ⟨F, _, g3, map_off _ _ _⟩
    · rw [if_neg z] at g3 ⊢
      obtain ⟨x, hx, h4⟩ := g3
      refine ⟨_, _, h4, ?_⟩
      rw [List.map_cons, updF_x, ← map_off]
      congr 1
      apply List.map_congr_left
      intro b hb
      refine updF_o _ _ _ ?_
      obtain ⟨q, hq, _, hm⟩ := h1.que
      obtain ⟨i, hi, e⟩ := (hm b).2 (off_mem.1 hb).1
      have : b < w.heap.size := by
        rcases hq.que with ⟨A, cap, hQ, hA⟩ | ⟨h0, _⟩
        · rw [← e]; exact (hQ.nd i hi).lt
        · omega
      omega
  obtain ⟨F', bs', g4, g5⟩ := g1
  refine ⟨F', bs', g4, ?_, ?_, hw.put hs hk hr h3 hl⟩
  · rw [g5]
    unfold putL putS
    have hz := dueS_zero hs hw.cu
    by_cases z : dueS c s = 0
    · rw [if_pos z, if_pos (hz.1 z)]; exact hp
    · rw [if_neg z, if_neg (fun e => z (hz.2 e)), List.map_cons]; exact hp.cons s
  · rw [g5]
    intro x hx
    unfold putL at hx
    have hz := dueS_zero hs hw.cu
    have hU := flS_U hs hw.cu
    by_cases z : dueS c s = 0
    · rw [if_pos z] at hx; exact h4 x (offL_mem.1 hx).1
    · rw [if_neg z] at hx
      rcases List.mem_cons.1 hx with rfl | hx
      · have hne : flS c s ≠ 0 := fun e => z (hz.2 e)
        unfold U at hU
        exact dueS_ok hs h3 hw.cu (by omega)
      · exact h4 x (offL_mem.1 hx).1
/-! ### Over to another kernel -/
/-- A slot by another kernel. -/
def mvS (c k2 : Int) (s : Sl) : Sl := { s with k := kmK s.k k2, a := kmA s.k s.a s.b k2 c (capS s), b := kmB s.k k2 c }
theorem mvS_key (c k2 : Int) (s : Sl) : (mvS c k2 s).key = s.key ∧ (mvS c k2 s).r = s.r := ⟨rfl, rfl⟩
theorem mvS_oks {c k2 : Int} {s : Sl} (h : Oks s) (hc : U c) (h3 : Is3 s.k) (h2 : Is3 k2) : Oks (mvS c k2 s) ∧ (mvS c k2 s).k = k2 := by
  have e1 : (mvS c k2 s).k = k2 := kmK_is h3 h2
  refine ⟨⟨h.key, h.r, ?_, ?_, ?_⟩, e1⟩
  · rw [e1]; rcases h2 with rfl | rfl | rfl <;> omega
  · show U (kmA _ _ _ _ _ _); rw [kmA_is h3]; exact koA_U _ _ _ _ hc (capS_U h) (flS_U h hc)
  · show U (kmB _ _ _); rw [kmB_is h3]; exact koB_U _ _ hc
end Go.Proofs.YtkfncanfgpmgaaaGreat.Wd
