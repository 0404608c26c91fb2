/- A table in memory, and how one is lost; no conditions but those that each names. -/
import Derived.Test.YtkfncanfgpmgaaaGreatTabM
namespace Go.Proofs.YtkfncanfgpmgaaaGreat.Wd
open Go Go.RowKit Go.Shelf Go.Deep
set_option linter.unusedVariables false
set_option maxRecDepth 100000

abbrev TTab : TypeId := 84
/-- A table in block T, its map in block M: as many as may be, its clock, and the slots in some blocks. -/
structure TabM (w : World) (T M : Nat) (B : Nat → Prop) (m c : Int) (F : Nat → Sl × Int) (bs : List Nat) : Prop where
  top : ∃ v, Blk w T #[.int .i64 m, .int .u64 c, .map (some M), v] TTab
  map : Mp w M F bs
  inB : B M
  que : ∃ q, Qub w T bs.length q F (fun k => B k ∧ k ≠ M) ∧ Ord (dueR F) 0 bs.length q ∧ ∀ x, In bs.length q x ↔ x ∈ bs
  ap : Ap F bs
  few : bs.length ≤ 1000000
  keys : ∀ b ∈ bs, (F b).1.key.size ≤ 281474976710656

theorem off_no {F : Nat → Sl × Int} {bs : List Nat} {k : ByteArray} (h : ¬ Has F bs k) : offB F k bs = bs := by
  refine List.filter_eq_self.2 (fun b hb => ?_)
  simp only [decide_eq_true_eq]
  exact fun e => h ⟨b, hb, e⟩
theorem off_mem {F : Nat → Sl × Int} {bs : List Nat} {k : ByteArray} {x : Nat} : x ∈ offB F k bs ↔ x ∈ bs ∧ (F x).1.key ≠ k := by
  unfold offB; simp [List.mem_filter]
theorem off_len {F : Nat → Sl × Int} {k : ByteArray} {b : Nat} : ∀ {bs : List Nat}, Ap F bs → b ∈ bs → (F b).1.key = k → (offB F k bs).length + 1 = bs.length
  | [], _, h, _ => nomatch h
  | x :: xs, ha, h, e => by
    obtain ⟨h1, h2⟩ := List.pairwise_cons.1 ha
    by_cases z : (F x).1.key = k
    · have hn : ¬ Has F xs k := fun ⟨c, hc, ec⟩ => h1 c hc (z.trans ec.symm)
      have : offB F k (x :: xs) = xs := by
        unfold offB
        rw [List.filter_cons_of_neg (by simp [z])]
        exact off_no hn
      rw [this]; rfl
    · have hb : b ∈ xs := by
        rcases List.mem_cons.1 h with rfl | h
        · exact absurd e z
        · exact h
      have : offB F k (x :: xs) = x :: offB F k xs := by
        unfold offB
        rw [List.filter_cons_of_pos (by simp [z])]
      rw [this, List.length_cons, List.length_cons, off_len h2 hb e]
theorem off_ap {F : Nat → Sl × Int} {bs : List Nat} (h : Ap F bs) (k : ByteArray) : Ap F (offB F k bs) := h.sublist (List.filter_sublist)
theorem TabM.tm {w : World} {T M : Nat} {B : Nat → Prop} {m c : Int} {F : Nat → Sl × Int} {bs : List Nat} (h : TabM w T M B m c F bs) : T ≠ M := fun e => by
  obtain ⟨v, hb⟩ := h.top
  exact h.map.nocells (e ▸ hb)
theorem TabM.cells {w : World} {T M : Nat} {B : Nat → Prop} {m c : Int} {F : Nat → Sl × Int} {bs : List Nat} (h : TabM w T M B m c F bs) :
    w.cell? ⟨T, 0, none⟩ = some (.int .i64 m) ∧ w.cell? ⟨T, 1, none⟩ = some (.int .u64 c) ∧ w.cell? ⟨T, 2, none⟩ = some (.map (some M)) ∧ (∀ i, w.frozen? ⟨T, i, none⟩ = false) ∧ T < w.heap.size ∧ ∀ cs, ¬ Blk w T cs Tps := by
  obtain ⟨v, hb⟩ := h.top
  refine ⟨hb.cell 0, hb.cell 1, hb.cell 2, fun i => hb.fz i, hb.lt, fun cs hc => ?_⟩
  have nt : ¬ (Tps = TTab) := by decide
  have h1 : w.heap[T]? = some (.cells _ TTab) := hb
  have h2 : w.heap[T]? = some (.cells cs Tps) := hc
  rw [h1] at h2
  injection h2 with h2
  injection h2 with _ e2
  exact nt e2.symm
/-- What lies elsewhere may turn. -/
theorem Que.keep {w w' : World} {T A n cap : Nat} {q : Nat → Nat} {F : Nat → Sl × Int} (h : Que w T A n cap q F) (hT : w'.heap[T]? = w.heap[T]?) (hA : w'.heap[A]? = w.heap[A]?) (hq : ∀ i, i < n → w'.heap[q i]? = w.heap[q i]?) : Que w' T A n cap q F := by
  obtain ⟨cur, hb, r⟩ := h.row
  exact ⟨(World.cell?_of_block hT).trans h.var, ⟨cur, hA.trans hb, r⟩, h.few, fun i hi => (hq i hi).trans (h.nd i hi), h.inj, h.one, h.two⟩
theorem Qub.keep {w w' : World} {T n : Nat} {q : Nat → Nat} {F : Nat → Sl × Int} {B : Nat → Prop} (h : Qub w T n q F B) (hk : ∀ k, B k → k < w.heap.size → w'.heap[k]? = w.heap[k]?) : Qub w' T n q F B := by
  refine ⟨?_, h.mem, h.top⟩
  rcases h.que with ⟨A, cap, hQ, hA⟩ | ⟨h0, hv⟩
  · obtain ⟨cur, hb, r⟩ := hQ.row
    exact .inl ⟨A, cap, hQ.keep (hk T h.top (cell_lt hQ.var)) (hk A hA hb.lt) (fun i hi => hk _ (h.mem i hi) (hQ.nd i hi).lt), hA⟩
  · exact .inr ⟨h0, (World.cell?_of_block (hk T h.top (cell_lt hv))).trans hv⟩
theorem TabM.keep {w w' : World} {T M : Nat} {B : Nat → Prop} {m c : Int} {F : Nat → Sl × Int} {bs : List Nat} (h : TabM w T M B m c F bs) (hk : ∀ k, B k → k < w.heap.size → w'.heap[k]? = w.heap[k]?) : TabM w' T M B m c F bs := by
  obtain ⟨v, hb⟩ := h.top
  obtain ⟨q, h1, h2, h3⟩ := h.que
  exact ⟨⟨v, (hk T h1.top.1 hb.lt).trans hb⟩, h.map.kept (hk M h.inB h.map.lt), h.inB, ⟨q, h1.keep (fun k hB hl => hk k hB.1 hl), h2, h3⟩, h.ap, h.few, h.keys⟩
theorem TabM.below {w w' : World} {T M : Nat} {B : Nat → Prop} {m c : Int} {F : Nat → Sl × Int} {bs : List Nat} (h : TabM w T M B m c F bs) (g : Below w.heap.size w w') : TabM w' T M B m c F bs := h.keep (fun k _ hl => g.block k hl)
theorem TabM.mono {w : World} {T M : Nat} {B C : Nat → Prop} {m c : Int} {F : Nat → Sl × Int} {bs : List Nat} (h : TabM w T M B m c F bs) (hs : ∀ k, B k → C k) : TabM w T M C m c F bs := by
  obtain ⟨q, h1, h2, h3⟩ := h.que
  exact ⟨h.top, h.map, hs _ h.inB, ⟨q, h1.mono (fun k hk => ⟨hs k hk.1, hk.2⟩), h2, h3⟩, h.ap, h.few, h.keys⟩

theorem lose_any (T M : Nat) (B : Nat → Prop) (m c : Int) (F : Nat → Sl × Int) (bs : List Nat) (k : ByteArray) (w : World) (h : TabM w T M B m c F bs) (hs : k.size ≤ 9223372036854775807) :
    Calls Tryz.prog 42 #[ptr T, .string k] w fun e w' => e = .returned (.tuple #[]) ∧ TabM w' T M B m c F (offB F k bs) ∧ Tch B w w' := by
  obtain ⟨c0, c1, c2, cf, ct, cn⟩ := h.cells
  by_cases hp : Has F bs k
  · obtain ⟨b, hb, hk⟩ := hp
    obtain ⟨q, hq, ho, hm⟩ := h.que
    obtain ⟨i, hi, ei⟩ := (hm b).2 hb
    have hl := off_len h.ap hb hk
    have L := h.map.look_yes h.ap hs hb hk
    rw [← hl] at hq ho hi hm
    have C := Lib.hid (qleave_any T (offB F k bs).length i q F _ w hq ho (cf 3) hi)
    rw [ei] at C
    have H := Lib.hid h
    have HM := Lib.hid hm
    have HK := Lib.hid hk
    have HB := Lib.hid hb
    have ntm := Lib.hid h.tm
    have d0 : ∀ w1 : World, w1.heap[M]? = w.heap[M]? → ∃ w', (Builtin.delete_ #[Tmap, Tstr] 0 #[.map (some M), .string k]).run Tryz.prog w1 = .ok (.tuple #[]) w' ∧ Mp w' M F (offB F k bs) ∧ w1.grownBy w' (some M) ∧ w'.heap.size = w1.heap.size := fun w1 e => (h.map.kept e).drop hs _
    have HD := Lib.hid d0
    clear h hq ho hm d0 hb hk
    go_enter Tryz.func42, Tryz.ntmps42
    go_wp2_with (go_at_call 71; refine C.out.mono ?_; rintro e w1 ⟨rfl, hr, hg, ht⟩; refine stopHere ?_)
    unfold Stop
    have eM : w1.heap[M]? = w.heap[M]? := hg.block M H.out.map.lt (fun x => x.2 rfl)
    obtain ⟨w2, hrun, hmp, hgr, hsz⟩ := HD.out w1 eM
    obtain ⟨v, hv⟩ := H.out.top
    obtain ⟨v1, hv1⟩ := ht _ _ hv
    have k2 : w1.cell? ⟨T, 2, none⟩ = some (.map (some M)) := hv1.cell 2
    have HR := Lib.hid hr
    have HG := Lib.hid hg
    have HV := Lib.hid hv1
    have HP := Lib.hid hmp
    have HS := Lib.hid hgr
    clear C L c0 c1 c2 cf ct cn hr hg ht hv hv1 hmp hgr HD
    go_wp2
    go_end0
    obtain ⟨q', r1, r2, r3⟩ := HR.out
    have hg2 : ∀ k, k ≠ M → k < w1.heap.size → w2.heap[k]? = w1.heap[k]? := fun k hk hl => HS.out.block k hl (fun e => hk (by injection e))
    refine ⟨rfl, ⟨⟨v1, (hg2 T ntm.out HV.out.lt).trans HV.out⟩, HP.out, H.out.inB, ⟨q', r1.keep (fun k hk hl => hg2 k hk.2 hl), r2, fun x => ?_⟩, off_ap H.out.ap k, by have := H.out.few; omega, fun b hb => H.out.keys b (off_mem.1 hb).1⟩, ?_⟩
    · rw [r3, HM.out, off_mem]
      constructor
      · rintro ⟨x1, x2⟩
        exact ⟨x1, fun e => x2 (ap_one H.out.ap x1 HB.out (e.trans HK.out.symm))⟩
      · rintro ⟨x1, x2⟩
        exact ⟨x1, fun e => x2 (by rw [e]; exact HK.out)⟩
    · have g1 : Tch B w w1 := HG.out.mono (fun k _ hk => hk.1)
      exact g1.trans ⟨HS.out.os, HS.out.tape, HS.out.output, HS.out.size, fun k hl hn => hg2 k (fun e => hn (e ▸ H.out.inB)) hl⟩
  · have L := h.map.look_no hs hp
    have H := Lib.hid h
    have HP := Lib.hid hp
    clear h hp
    go_enter Tryz.func42, Tryz.ntmps42
    go_wp2
    refine bodyPost_ret (results_none rfl _ _ _) rfl ?_
    exact ⟨rfl, by rw [off_no HP.out]; exact H.out, Tch.refl _ _⟩
end Go.Proofs.YtkfncanfgpmgaaaGreat.Wd
