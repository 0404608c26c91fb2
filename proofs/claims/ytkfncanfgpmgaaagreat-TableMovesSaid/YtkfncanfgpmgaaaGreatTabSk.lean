/- Slots; no conditions but those that each names. -/
import Derived.Test.YtkfncanfgpmgaaaGreatTabSj
import Derived.Test.YtkfncanfgpmgaaaGreatTabO
import Derived.Stop.RegionWithIn
import Derived.Deep.AppendLies
namespace Go.Proofs.YtkfncanfgpmgaaaGreat.Wd
open Go Go.RowKit Go.Deep Go.Shelf
set_option linter.unusedVariables false
set_option maxRecDepth 100000
attribute [local go_sem] Oper.semAt_some
/-- The builtin append, by a name of our own. -/
def AP (ats : Array TypeId) (ty : TypeId) (args : Array Value) : Sem Value := Builtin.append_ ats ty args
theorem builtin_app (ats : Array TypeId) (ty : TypeId) (cs : Array Bool) (args : Array Value) : builtin .append ats ty cs args = (do pure (.value (← AP ats ty args))) := rfl
attribute [local go_sem ↓ 2000] builtin_app
abbrev ownV : Value := .func (Fn.func 40) #[] #[]
abbrev Tfs : TypeId := 89
/-- Blocks of other kinds may turn. -/
theorem kpt_far {T M : Nat} {m c : Int} {S0 : List Sl} {mv : Sl → Sl} {W W' : World} (hs : W.heap.size ≤ W'.heap.size)
    (hk : ∀ (k : Nat) (o : Obj), W.heap[k]? = some o → (∀ cs t, o = .cells cs t → t = TTab ∨ t = Tsl ∨ t = Tps ∨ t = Tstr ∨ t = Tstrs ∨ t = Ttp) → W'.heap[k]? = some o) : Kpt T M m c S0 mv W W' := by
  refine ⟨⟨hs, fun k cs t hb ht => hk k _ hb (fun cs' t' e => ?_)⟩, fun ⟨S1, hv, ht⟩ => ⟨S1, hv, (ht.sure.keep (fun k hB hl => ?_)).mono (fun _ _ => trivial)⟩⟩
  · cases e
    rcases ht with h | h | h
    · exact .inr (.inr (.inr (.inl h)))
    · exact .inr (.inr (.inr (.inr (.inl h))))
    · exact .inr (.inr (.inr (.inr (.inr h))))
  · obtain ⟨o, ho⟩ : ∃ o, W.heap[k]? = some o := ⟨_, Array.getElem?_eq_getElem hl⟩
    rw [ho]
    refine hk k o ho (fun cs t e => ?_)
    rcases hB.2 with rfl | ⟨cs', t', hb, h⟩
    · obtain ⟨F, bs, h1, _⟩ := ht
      obtain ⟨es, ⟨e', clock, hb, _⟩, _⟩ := h1.map
      rw [ho] at hb; cases hb; cases e
    · rw [ho] at hb; cases hb; cases e
      rcases h with h | h | h
      · exact .inl h
      · exact .inr (.inl h)
      · exact .inr (.inr (.inl h))
theorem kpt_app {T M : Nat} {m c : Int} {S0 : List Sl} {mv : Sl → Sl} {W w1 w3 : World} {n0 O : Nat} {v v' : Value} {e te : TypeId} {size k : Nat} {xs : List Value} (hv : Boxed W O te v) (hr : W.ownsRow n0 e size v k xs) (hb : Below W.heap.size W w1) (hg : w1.grownBy w3 v.ownBlock)
    (h1 : ¬ (te = TTab ∨ te = Tsl ∨ te = Tps ∨ te = Tstr ∨ te = Tstrs ∨ te = Ttp)) (h2 : ¬ (e = TTab ∨ e = Tsl ∨ e = Tps ∨ e = Tstr ∨ e = Tstrs ∨ e = Ttp)) : Kpt T M m c S0 mv W (w3.setCell ⟨O, 0, none⟩ v') := by
  refine kpt_far (by have := hb.size; have := hg.size; simp; omega) (fun j o ho ht => ?_)
  have hl := heap_lt ho
  have hO : j ≠ O := by
    rintro rfl
    have h3 : W.heap[j]? = some (.cells #[v] te) := hv
    rw [ho] at h3
    exact h1 (ht #[v] te (Option.some.inj h3))
  have hR : some j ≠ v.ownBlock := by
    rcases hr.2 with ⟨rfl, _⟩ | ⟨g, cap, cur, rfl, _, hgb, _⟩
    · intro e'; cases e'
    · intro e'
      obtain rfl : j = g := by simpa [Value.ownBlock] using e'
      rw [ho] at hgb
      exact h2 (ht cur e (Option.some.inj hgb))
  rw [Below.heap_setCell _ _ _ _ hO, hg.block j (by have := hb.size; omega) hR, hb.block j hl, ho]
/-- A slice that a call owns, in a variable: between two rounds. -/
def Gath (n0 O F0 : Nat) (te e tf : TypeId) (size : Nat) (fv : Value) (w : World) (xs : List Value) (k : Nat) (W : World) : Prop := (∃ v, Boxed W O te v ∧ W.ownsRow n0 e size v k xs) ∧ Boxed W F0 tf fv ∧ Below w.heap.size w W
theorem Gath.own {n0 O F0 : Nat} {te e tf : TypeId} {size : Nat} {fv : Value} {w : World} {xs : List Value} {k : Nat} {X Y : World} {row : Option Nat} (h : Gath n0 O F0 te e tf size fv w xs k X) (hg : X.grownBy Y row)
    (hr : ∀ r, row = some r → w.heap.size ≤ r ∧ ∃ o : Obj, X.heap[r]? = some o ∧ o.isCells = false) : Gath n0 O F0 te e tf size fv w xs k Y := by
  obtain ⟨⟨v, h1, h2⟩, h3, h4⟩ := h
  have hbx : ∀ {B : Nat} {t : TypeId} {u : Value}, Boxed X B t u → some B ≠ row := by
    intro B t u hb e'
    obtain ⟨_, o, ho, hc⟩ := hr B e'.symm
    rw [show X.heap[B]? = _ from hb] at ho; cases ho; cases hc
  refine ⟨⟨v, h1.kept hg (hbx h1), h2.kept hg ?_⟩, h3.kept hg (hbx h3), h4.grown hg h4.size (fun k e' => (hr k e').1)⟩
  rcases h2.2 with ⟨rfl, _⟩ | ⟨g, cap, cur, rfl, _, hgb, _⟩
  · exact .inl rfl
  · refine .inr (fun e' => ?_)
    obtain ⟨_, o, ho, hc⟩ := hr g (by simpa [Value.ownBlock] using e'.symm)
    rw [hgb] at ho; cases ho; cases hc
theorem gb_none {W w2 : World} (kb : Below W.heap.size W w2) : W.grownBy w2 none := ⟨kb.os, kb.tape, kb.output, kb.size, fun j hj _ => kb.block j hj⟩
theorem own_below {W w2 : World} {base k size : Nat} {e : TypeId} {v : Value} {xs : List Value} (h : W.ownsRow base e size v k xs) (kb : Below W.heap.size W w2) : w2.ownsRow base e size v k xs := h.kept (gb_none kb) (by
  rcases h.2 with ⟨rfl, _⟩ | ⟨g, cap, cur, rfl, _⟩
  · exact .inl rfl
  · exact .inr (by simp [Value.ownBlock]))
/-- Behind one more: all that is owed. -/
theorem app_end {T M : Nat} {m c : Int} {S0 : List Sl} {mv : Sl → Sl} {w W w2 w3 : World} {O F0 k k' size : Nat} {v v' fv : Value} {te e tf : TypeId} {xs ys : List Value} {tmp : Obj} (Bd : Nat)
    (hv : Boxed W O te v) (hte : te ≠ e) (hrow : W.ownsRow w.heap.size e size v k xs) (hF : Boxed W F0 tf fv) (hne : F0 ≠ O) (hF' : tf ≠ e) (hw : Below w.heap.size w W) (hO : w.heap.size ≤ O) (KB : Below W.heap.size W w2)
    (ho : w3.ownsRow w.heap.size e size v' k' ys) (hg : (w2.alloc tmp).grownBy w3 v.ownBlock)
    (h1 : ¬ (te = TTab ∨ te = Tsl ∨ te = Tps ∨ te = Tstr ∨ te = Tstrs ∨ te = Ttp)) (h2 : ¬ (e = TTab ∨ e = Tsl ∨ e = Tps ∨ e = Tstr ∨ e = Tstrs ∨ e = Ttp)) :
    KeepsFrom Bd W (w3.setCell ⟨O, 0, none⟩ v') ∧ Kpt T M m c S0 mv W (w3.setCell ⟨O, 0, none⟩ v') ∧ Gath w.heap.size O F0 te e tf size fv w ys k' (w3.setCell ⟨O, 0, none⟩ v') := by
  have hv2 : Boxed w2 O te v := hv.kept (gb_none KB) (by simp)
  have hr2 := own_below hrow KB
  have hF2 : Boxed w2 F0 tf fv := hF.kept (gb_none KB) (by simp)
  obtain ⟨_, a2, a3, a4, a5⟩ := hv2.appended hte hr2 (by have := hw.size; have := KB.size; omega) hO ho hg
  have k0 : KeepsOthers W w2 := ⟨KB.size, fun k o hk _ => (KB.block k (heap_lt hk)).trans hk⟩
  refine ⟨(k0.trans a4).from _, kpt_app hv hrow (KB.alloc KB.size _) hg h1 h2, ⟨_, a2, a3⟩, ((hF2.alloc tmp).kept hg (hF2.not_row hF' hr2)).other hne _, hw.trans ((KB.mono hw.size).trans a5)⟩
theorem app_slot {W w2 : World} {n0 k : Nat} {v : Value} {pre : List Sl} (x : Sl) (h : W.ownsRow n0 Tas 8 v k (flatS pre)) (hk : k = pre.length) (kb : Below W.heap.size W w2) (hs : k + 1 ≤ 1099511627776) (hb : n0 ≤ W.heap.size) :
    ∃ g cap w3, (AP #[Tass, Tass] Tass #[v, .slice (some ⟨w2.heap.size, 0, none⟩) 1 1]).run Tryz.prog (w2.alloc (.cells x.cs Tas)) = .ok (.slice (some ⟨g, 0, none⟩) (k + 1) cap) w3 ∧
      w3.ownsRow n0 Tas 8 (.slice (some ⟨g, 0, none⟩) (k + 1) cap) (k + 1) (flatS (pre ++ [x])) ∧ (w2.alloc (.cells x.cs Tas)).grownBy w3 v.ownBlock ∧ g < w3.heap.size := by
  obtain ⟨i0, hi, hy0, hy1, hy2⟩ := info_parts zeroAs
  have kb' : Below W.heap.size W (w2.alloc (.cells x.cs Tas)) := kb.alloc kb.size _
  have hr : (w2.alloc (.cells x.cs Tas)).ownsRow n0 Tas 8 v k (flatS pre) := h.kept (row := none) ⟨kb'.os, kb'.tape, kb'.output, kb'.size, fun j hj _ => kb'.block j hj⟩ (by
    rcases h.2 with ⟨rfl, _⟩ | ⟨g, cap, cur, rfl, _⟩
    · exact .inl rfl
    · exact .inr (by simp [Value.ownBlock]))
  obtain ⟨g, cap, w3, h1, h2, h3, _, h5⟩ := run_append_lies (P := Tryz.prog) (w2.alloc (.cells x.cs Tas)) Tass Tass n0 Tas i0 _ 8 80 Tryz.underlying28 hi hy0 hy1 hy2 rfl (by decide) v k (flatS pre) hr ⟨w2.heap.size, 0, none⟩ 1 1 (flatS [x]) (by rw [flatS_len]; rfl) (by
    intro j u hu
    have hj : j < 8 := by
      by_cases z : j < 8
      · exact z
      · rw [List.getElem?_eq_none (by rw [flatS_len]; simp; omega)] at hu; cases hu
    have e := flatS_at [x] 0 (by simp) j hj
    rw [Nat.zero_mul, Nat.zero_add, hu] at e
    rw [Addr.add_lit, Nat.zero_add, (Blk.new w2 x.cs Tas).cell j, e]; rfl) (flatS_one _) (by decide) (by unfold maxLen; omega) (by omega) (by simp; have := kb.size; omega) _ rfl
  refine ⟨g, cap, w3, h1, ?_, h3, h5⟩
  rw [flatS_append]; exact h2
/-- So many slots have come. -/
def InS (S : List Sl) (w : World) (pre : List {x : Sl // Vr S id x}) (W : World) : Prop := Gath w.heap.size (w.heap.size + 1) w.heap.size Tass Tas Tfs 8 ownV w (flatS (pre.map (fun x => x.1))) pre.length W
theorem InS.own {S : List Sl} {w : World} (Bd : Nat) (hB : w.heap.size ≤ Bd) : OwnFrom Bd (InS S w) := fun s X Y row hs hg hr => Gath.own hs hg (fun r e => ⟨Nat.le_trans hB (hr r e).1, (hr r e).2⟩)
set_option maxHeartbeats 4000000 in
theorem sall_in (n : Nat) (hn : 8 ≤ n) (T M : Nat) (B : Nat → Prop) (m c : Int) (S : List Sl) (w : World) (h : Tbm w T M B m c S) (hsort : SortC S.length) :
    CallsIn Fence.wide n Tryz.prog 38 #[ptr T, ownV] w fun e w' => ∃ v xs, e = .returned v ∧ OwS w' w.heap.size v xs ∧ (∀ x ∈ xs, x ∈ S) ∧ Allk S (xs.map (fun x => x.key)) ∧ Below w.heap.size w w' := by
  have h1 : 1 ≤ n := by omega
  refine callsIn_of_wp_marks Tryz.func38 rfl trivial ?_ rfl
  simp only [Tryz.ntmps38, List.size_toArray, List.length_cons, List.length_nil, Nat.reduceAdd, Nat.reduceSub, Array.replicate_succ, Array.replicate_zero, List.push_toArray, List.append_toArray, List.nil_append, List.cons_append]
  gi_wp2_with (refine ⟨trivial, ?_⟩; gi_at_call 47; refine (active_in Fence.wide (n - 1) trivial rfl T _).mono ?_; rintro e w1 ⟨rfl, rfl⟩)
  obtain ⟨W0, hW0⟩ : ∃ W0, ((w.alloc (.cells #[ownV] Tfs)).alloc (.cells #[.slice none 0 0] Tass)).alloc (.cells #[ptr T] Ttp) = W0 := ⟨_, rfl⟩
  have bF : Boxed W0 w.heap.size Tfs ownV := by rw [← hW0]; exact ((Boxed.new w _ _).alloc _).alloc _
  have bO : Boxed W0 (w.heap.size + 1) Tass (.slice none 0 0) := by rw [← hW0]; have := (Boxed.new (w.alloc (.cells #[ownV] Tfs)) Tass (.slice none 0 0)).alloc (.cells #[ptr T] Ttp); simpa using this
  have bT : Boxed W0 (w.heap.size + 1 + 1) Ttp (ptr T) := by rw [← hW0]; have := Boxed.new ((w.alloc (.cells #[ownV] Tfs)).alloc (.cells #[.slice none 0 0] Tass)) Ttp (ptr T); simpa using this
  have hB0 : Below w.heap.size w W0 := by rw [← hW0]; exact (((Below.refl _ w).alloc (Nat.le_refl _) _).alloc (by simp) _).alloc (by simp; omega) _
  have hsz : W0.heap.size = w.heap.size + 3 := by rw [← hW0]; simp
  have hT0 : Tbm W0 T M (fun _ => True) m c S := (h.below hB0).mono (fun _ _ => trivial)
  have hfew : S.length ≤ 1000000 := by have := h.wf.len; have := h.wf.m2; omega
  have hok : ∀ x ∈ S, x.key.size ≤ 281474976710656 ∧ x.r.p.size ≤ 281474976710656 := fun x hx => ⟨(h.wf.ok x hx).oks.key, (h.wf.ok x hx).oks.r.p⟩
  rw [hW0]
  clear hW0 h
  refine wpIn_rangeFunc_ownH rfl h1 (gf := 81) (lb := #[ptr (w.heap.size + 1 + 1)]) rfl trivial (enters_of Tryz.func81 (by kernel_rfl) rfl)
    (act1_stops (n - 1) (by omega) T M (w.heap.size + 1 + 1) m c S id W0 bT hT0 hsort) Kpt.trans (fun W l o o' _ x y z => Kpt.put W l o o' x y z) (Below.refl _ _) (fun _ => rfl)
    (InS S w) (fun _ _ _ => False) (InS.own _ (by omega)) (fun _ s A Bw row hs hg hr => hs) ⟨⟨_, bO, World.ownsRow_nil _ _ _ _⟩, bF, hB0⟩
    (fun x a' W => ∃ b, Blk W b x.1.cs Tas ∧ a' = { tmps := #[ptr T, ownV, undef, .pointer (some ⟨w.heap.size, 0, none⟩), .slice none 0 0, .pointer (some ⟨w.heap.size + 1, 0, none⟩), ptr b, ptr T, .func (.func 81) #[] #[ptr (w.heap.size + 1 + 1)], x.1.v, undef, undef, undef, undef, undef, undef, undef], defers := [] })
    ?hAx ?assign ?body ?done ?stop
  case hAx =>
    rintro x a' s X Y row ⟨b, hb, e⟩ hg hr
    refine ⟨b, (hg.block b hb.lt (fun e' => ?_)).trans hb, e⟩
    obtain ⟨_, o, ho, hc⟩ := hr b e'.symm
    rw [show X.heap[b]? = _ from hb] at ho; cases ho; cases hc
  case assign =>
    intro l pre x W K hI hK
    gi_wp2
    refine hK _ _ ((KeepsOthers.alloc W _).from _) (kpt_far (by simp) (fun k o ho _ => (al_old _ _ (heap_lt ho)).trans ho)) ((InS.own W0.heap.size (by omega)).alloc _ hI) ⟨W.heap.size, Blk.new _ _ _, rfl⟩
  case body =>
    rintro l pre x a' W hl ⟨r, hr⟩ hI ⟨b, hb, rfl⟩ hlen
    obtain ⟨⟨v, hv, hrow⟩, hF, hBW⟩ := id hI
    have xS : x.1 ∈ S := by obtain ⟨s, hs, _, e⟩ := x.2; rcases e with e | e <;> (rw [e]; exact hs)
    have CO := fun W' => CallsIn.inRound l (callsIn_wide (n := n - 1 - 1 - 1) |>.2 (own_any x.1 W' (hok _ xS).1 (hok _ xS).2))
    have cF := hF.cell
    have cO := hv.cell
    have fO := hv.frozen
    have x0 := hb.cell 0
    have x1 := hb.cell 1
    have x2 := hb.cell 2
    have x3 := hb.cell 3
    have x4 := hb.cell 4
    have x5 := hb.cell 5
    have x6 := hb.cell 6
    have x7 := hb.cell 7
    simp at x0 x1 x2 x3 x4 x5 x6 x7
    have h2 : 1 ≤ n - 1 - 1 := by omega
    have hws := hBW.size
    have hmix : Tryz.prog.follows .mixedOrders = true := by kernel_rfl
    have HI := Lib.hid hI
    have HV := Lib.hid hv
    have HR := Lib.hid hrow
    have HB := Lib.hid hb
    have HF := Lib.hid hF
    have HBW := Lib.hid hBW
    clear hI hv hrow hF hb hBW hB0 bF bO bT hT0 hsort
    gi_wp2
    gi_region_with (first
      | (refine ⟨trivial, ?_⟩; gi_at_call 40; refine (CO _).mono ?_; rintro e w2 ⟨rfl, kb⟩; replace cO := celln kb (dcell cO); replace cF := celln kb (dcell cF); have cO2 : ∀ o, (w2.alloc o).cell? ⟨w.heap.size + 1, 0, none⟩ = some v := fun o => acell cO; have KB := kbq (Below.refl _ W).drew kb)
      | (obtain ⟨g, cap, w3, hrun, ho3, hg3, hg4⟩ := app_slot x.1 HR.out (by rw [List.length_map]) KB (by omega) (by omega); have b3 := ((HV.out.kept (row := none) ⟨KB.os, KB.tape, KB.output, KB.size, fun j hj _ => KB.block j hj⟩ (by simp)).alloc (.cells x.1.cs Tas)).kept hg3 (HV.out.not_row (by decide) HR.out); have c3 := b3.cell; have f3 := b3.frozen; rw [hrun]))
    all_goals
      show KeepsFrom _ _ _ ∧ Kpt _ _ _ _ _ _ _ _ ∧ InS _ _ _ _
      have z := app_end (T := T) (M := M) (m := m) (c := c) (S0 := S) (mv := id) (w := w) W0.heap.size HV.out (by decide) HR.out HF.out (by omega) (by decide) HBW.out (by omega) KB ho3 hg3 (by decide) (by decide)
      refine ⟨z.1, z.2.1, ?_⟩
      have z2 := z.2.2
      unfold InS
      rw [List.map_append, List.length_append]
      exact z2
  case done =>
    rintro D xs W hD hS hI hK
    obtain ⟨⟨v, hv, hrow⟩, hF, hBW⟩ := id hI
    have cO := hv.cell
    have fO := hv.frozen
    have HI := Lib.hid hI
    have HV := Lib.hid hv
    have HR := Lib.hid hrow
    have HBW := Lib.hid hBW
    clear hI hv hrow hF hB0 bF bO bT hT0 hsort
    dsimp only
    gi_wp2
    refine ⟨by simp, .inl ⟨_, _, rfl, run_takeDeferred hK, ?_⟩⟩
    refine ⟨v, by simp [results, Tryz.f38, go_sem], v, xs.map (fun x => x.1), rfl, ?_, ?_, ?_, ?_⟩
    · have z := ownsRow_putObj HR.out (.deferred none) hK rfl
      unfold OwS
      rw [List.length_map]; exact z
    · intro y hy
      obtain ⟨x, _, rfl⟩ := List.mem_map.1 hy
      obtain ⟨s, hs, _, e⟩ := x.2
      rcases e with e | e <;> (rw [e]; exact hs)
    · rw [List.map_map]; exact hS
    · exact HBW.out.grown (grownBy_putObj' W D _) HBW.out.size (fun k e => by cases e; omega)
  case stop =>
    rintro D cc pre W hD _ hF
    exact hF.elim
end Go.Proofs.YtkfncanfgpmgaaaGreat.Wd
