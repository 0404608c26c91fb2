/- Move, MoveAll: one, or all, go over to another kernel; of a table that is there, or of none; no conditions but those that each names. -/
import Derived.Test.YtkfncanfgpmgaaaGreatTabSh
import Derived.Test.YtkfncanfgpmgaaaGreatTabEo
namespace Go.Proofs.YtkfncanfgpmgaaaGreat.Wd
open Go Go.RowKit Go.Deep Go.Shelf
set_option linter.unusedVariables false
set_option maxRecDepth 100000
attribute [local go_sem] Oper.semAt_some

/-- Once by a kernel, by it again. -/
theorem koA_again {k2 : Int} (h2 : Is3 k2) (c cap f : Int) (hc : U c) (hcap : U cap) (hf : U f) : koA k2 c cap (kfI k2 (koA k2 c cap f) (koB k2 c) c cap) = koA k2 c cap f := by
  unfold U at *
  rcases h2 with rfl | rfl | rfl
  · simp only [koA, koB, kfI, sat, sbI]; (repeat' split) <;> omega
  · simp [koA, koB, kfI, biI, tkI, sbI]; (repeat' split) <;> omega
  · simp [koA, koB, kfI, fiI, sbI]; omega
theorem mvS_again {c k2 : Int} {s : Sl} (h : Oks s) (hc : U c) (h3 : Is3 s.k) (h2 : Is3 k2) : mvS c k2 (mvS c k2 s) = mvS c k2 s := by
  have e0 := mvS_oks h hc h3 h2
  have ek := e0.2
  have e1 : kmK (mvS c k2 s).k k2 = (mvS c k2 s).k := by rw [ek, kmK_is h2 h2]
  have e3 : kmB (mvS c k2 s).k k2 c = (mvS c k2 s).b := by
    show _ = kmB s.k k2 c
    rw [ek, kmB_is h2, kmB_is h3]
  have e2 : kmA (mvS c k2 s).k (mvS c k2 s).a (mvS c k2 s).b k2 c (capS s) = (mvS c k2 s).a := by
    rw [ek]
    show kmA k2 (kmA s.k s.a s.b k2 c (capS s)) (kmB s.k k2 c) k2 c (capS s) = kmA s.k s.a s.b k2 c (capS s)
    rw [kmA_is h2, kmA_is h3, kmB_is h3]
    exact koA_again h2 c (capS s) _ hc (capS_U h) (flS_U h hc)
  show { mvS c k2 s with k := kmK (mvS c k2 s).k k2, a := kmA (mvS c k2 s).k (mvS c k2 s).a (mvS c k2 s).b k2 c (capS s), b := kmB (mvS c k2 s).k k2 c } = mvS c k2 s
  rw [e1, e2, e3]
open Classical in
/-- Who have come are by the other kernel. -/
noncomputable def mvd (c k2 : Int) (ks : List ByteArray) (s : Sl) : Sl := if s.key ∈ ks then mvS c k2 s else s
theorem mvd_key (c k2 : Int) (ks : List ByteArray) (s : Sl) : (mvd c k2 ks s).key = s.key ∧ (mvd c k2 ks s = s ∨ mvd c k2 ks s = mvS c k2 s) := by
  unfold mvd; split
  · exact ⟨rfl, .inr rfl⟩
  · exact ⟨rfl, .inl rfl⟩
theorem mvd_nil (c k2 : Int) (S : List Sl) : S.map (mvd c k2 []) = S := by
  have : mvd c k2 [] = id := by funext s; unfold mvd; simp
  rw [this, List.map_id]
theorem mvd_all {c k2 : Int} {S : List Sl} {ks : List ByteArray} (h : ∀ s ∈ S, s.key ∈ ks) : S.map (mvd c k2 ks) = S.map (mvS c k2) :=
  List.map_congr_left (fun s hs => by unfold mvd; rw [if_pos (h s hs)])
theorem offS_cons (k : ByteArray) (x : Sl) (S : List Sl) : offS k (x :: S) = if x.key = k then offS k S else x :: offS k S := by
  unfold offS
  by_cases e : x.key = k
  · rw [List.filter_cons_of_neg (by simp [e]), if_pos e]
  · rw [List.filter_cons_of_pos (by simp [e]), if_neg e]
theorem mvd_more {c k2 : Int} {s : Sl} (ks : List ByteArray) : ∀ {S : List Sl}, S.Pairwise (fun x y => x.key ≠ y.key) → s ∈ S → (mvS c k2 s :: offS s.key (S.map (mvd c k2 ks))).Perm (S.map (mvd c k2 (ks ++ [s.key])))
  | [], _, h => nomatch h
  | x :: S, hp, hs => by
    obtain ⟨h1, h2⟩ := List.pairwise_cons.1 hp
    have hfar : ∀ y ∈ S, y.key ≠ x.key := fun y hy e => h1 y hy e.symm
    rw [List.map_cons, List.map_cons, offS_cons, (mvd_key c k2 ks x).1]
    by_cases e : x.key = s.key
    · have ex : x = s := pw_one hp List.mem_cons_self hs e
      subst ex
      rw [if_pos rfl]
      have e1 : mvd c k2 (ks ++ [x.key]) x = mvS c k2 x := by unfold mvd; rw [if_pos (by simp)]
      rw [e1]
      refine List.Perm.cons _ ?_
      rw [offS_no (fun y hy => by
        obtain ⟨z, hz, rfl⟩ := List.mem_map.1 hy
        rw [(mvd_key c k2 ks z).1]; exact hfar z hz)]
      refine List.Perm.of_eq (List.map_congr_left (fun y hy => ?_))
      have hne := hfar y hy
      unfold mvd
      by_cases z : y.key ∈ ks
      · rw [if_pos z, if_pos (List.mem_append_left _ z)]
      · rw [if_neg z, if_neg (fun h => (List.mem_append.1 h).elim z (fun h => hne (List.mem_singleton.1 h)))]
    · rw [if_neg e]
      have hs' : s ∈ S := by
        rcases List.mem_cons.1 hs with rfl | h
        · exact absurd rfl e
        · exact h
      have e1 : mvd c k2 (ks ++ [s.key]) x = mvd c k2 ks x := by
        unfold mvd
        by_cases z : x.key ∈ ks
        · rw [if_pos z, if_pos (List.mem_append_left _ z)]
        · rw [if_neg z, if_neg (fun h => (List.mem_append.1 h).elim z (fun h => e (List.mem_singleton.1 h)))]
      rw [e1]
      exact (List.Perm.swap _ _ _).trans ((mvd_more ks h2 hs').cons _)
abbrev Tu8 : TypeId := 5
abbrev Tint : TypeId := 3
/-- Between two rounds: who has come is by the other kernel. -/
structure InM (T M R2 R3 R6 : Nat) (B : Nat → Prop) (m c k2 : Int) (S : List Sl) (w0 : World) (pre : List {x : Sl // Vr S (mvS c k2) x}) (W : World) : Prop where
  r2 : Boxed W R2 Ttp (ptr T)
  r3 : Boxed W R3 Tu8 (.int .u8 k2)
  r6 : Boxed W R6 Tint (.int .i64 (pre.length : Int))
  tch : Tch B w0 W
  tab : Tbm W T M (Nx B w0) m c (S.map (mvd c k2 (pre.map (fun x => x.1.key))))
theorem box_grown {X Y : World} {row : Option Nat} {b : Nat} {t : TypeId} {u : Value} (hb : Boxed X b t u) (hg : X.grownBy Y row) (hr : ∀ r, row = some r → ∃ o : Obj, X.heap[r]? = some o ∧ o.isCells = false) : Boxed Y b t u := hb.kept hg (fun e => by
  obtain ⟨o, ho, hc⟩ := hr b e.symm
  rw [show X.heap[b]? = _ from hb] at ho; cases ho; cases hc)
theorem Tbm.grown {X Y : World} {T M : Nat} {B : Nat → Prop} {m c : Int} {S : List Sl} (h : Tbm X T M B m c S) {row : Option Nat} (hg : X.grownBy Y row) (hr : ∀ r, row = some r → r ≠ M ∧ ∃ o : Obj, X.heap[r]? = some o ∧ o.isCells = false) : Tbm Y T M B m c S := by
  refine (h.sure.keep (fun k hk hl => hg.block k hl (fun e => ?_))).mono (fun _ hk => hk.1)
  obtain ⟨hm, o, ho, hc⟩ := hr k e.symm
  rcases hk.2 with e | ⟨cs, t', h1, h2⟩
  · exact hm e
  · rw [ho] at h1; cases h1; cases hc
theorem InM.own {T M R2 R3 R6 : Nat} {B : Nat → Prop} {m c k2 : Int} {S : List Sl} {w0 : World} (Bd : Nat) (hM : M < Bd) (h0 : w0.heap.size ≤ Bd) : OwnFrom Bd (InM T M R2 R3 R6 B m c k2 S w0) := fun s X Y row hs hg hr =>
  ⟨box_grown hs.r2 hg (fun r e => (hr r e).2), box_grown hs.r3 hg (fun r e => (hr r e).2), box_grown hs.r6 hg (fun r e => (hr r e).2),
    ⟨hg.os.trans hs.tch.os, hg.tape.trans hs.tch.tape, hg.output.trans hs.tch.output, Nat.le_trans hs.tch.size hg.size, fun k hk hn => (hg.block k (Nat.lt_of_lt_of_le hk hs.tch.size) (fun e => by have := (hr k e.symm).1; omega)).trans (hs.tch.block k hk hn)⟩,
    hs.tab.grown hg (fun r e => ⟨by have := (hr r e).1; omega, (hr r e).2⟩)⟩
/-- Which blocks one that goes over may write. -/
abbrev Tb1 (B : Nat → Prop) (w0 W : World) (M : Nat) : Nat → Prop := fun k => Nx B w0 k ∧ (k = M ∨ Its W k)
theorem not_its {W : World} {R : Nat} {cs : Array Value} {t : TypeId} (hb : Blk W R cs t) (ht : ¬ (t = TTab ∨ t = Tsl ∨ t = Tps)) : ¬ Its W R := by
  rintro ⟨cs', t', h1, h2⟩
  have hb : W.heap[R]? = some (.cells cs t) := hb
  rw [hb] at h1; cases h1; exact ht h2
theorem Tbm.nocells {w : World} {T M : Nat} {B : Nat → Prop} {m c : Int} {S : List Sl} (h : Tbm w T M B m c S) {cs : Array Value} {t : TypeId} : ¬ Blk w M cs t := by
  obtain ⟨F, bs, h1, _⟩ := h
  exact h1.map.nocells
theorem InM.six {T M R2 R3 R6 : Nat} {B : Nat → Prop} {m c k2 : Int} {S : List Sl} {w0 W W' : World} {pre : List {x : Sl // Vr S (mvS c k2) x}} (hI : InM T M R2 R3 R6 B m c k2 S w0 pre W) (g : Tch (Tb1 B w0 W M) W W') : Boxed W' R6 Tint (.int .i64 (pre.length : Int)) := g.blk hI.r6 (by
  rintro ⟨_, e | h1⟩
  · have hb := hI.r6
    rw [e] at hb
    exact hI.tab.nocells hb
  · exact not_its hI.r6 (by decide) h1)
theorem InM.step {T M R2 R3 R6 : Nat} {B : Nat → Prop} {m c k2 : Int} {S : List Sl} {w0 W W' : World} {pre : List {x : Sl // Vr S (mvS c k2) x}} (Bd : Nat) (hM : M < Bd) (hI : InM T M R2 R3 R6 B m c k2 S w0 pre W) (x : {x : Sl // Vr S (mvS c k2) x})
    (hS : Wf m c S) (h2 : Is3 k2) (hfl : ∀ s ∈ S, flS c (mvS c k2 s) ≠ 0) (hd2 : R2 ≠ R6) (hd3 : R3 ≠ R6) (h6 : w0.heap.size ≤ R6) (g : Tch (Tb1 B w0 W M) W W') (h : Tbm W' T M (Nx (Tb1 B w0 W M) W) m c (putS c (mvS c k2 x.1) (S.map (mvd c k2 (pre.map (fun x => x.1.key)))))) :
    KeepsFrom Bd W (W'.setCell ⟨R6, 0, none⟩ (.int .i64 ((pre.length : Int) + 1))) ∧ Kpt T M m c S (mvS c k2) W (W'.setCell ⟨R6, 0, none⟩ (.int .i64 ((pre.length : Int) + 1))) ∧ InM T M R2 R3 R6 B m c k2 S w0 (pre ++ [x]) (W'.setCell ⟨R6, 0, none⟩ (.int .i64 ((pre.length : Int) + 1))) := by
  have nb : ∀ {k : Nat} {cs : Array Value} {t : TypeId}, Blk W k cs t → ¬ (t = TTab ∨ t = Tsl ∨ t = Tps) → ¬ Tb1 B w0 W M k := by
    rintro k cs t hb ht ⟨_, rfl | h1⟩
    · exact hI.tab.nocells hb
    · exact not_its hb ht h1
  have i6 : Boxed W' R6 Tint (.int .i64 (pre.length : Int)) := g.blk hI.r6 (nb hI.r6 (by decide))
  obtain ⟨s, hs, hsk, hsv⟩ := x.2
  have ho := hS.ok s hs
  have hmv : mvS c k2 x.1 = mvS c k2 s := by
    rcases hsv with e | e
    · rw [e]
    · rw [e]; exact mvS_again ho.oks hS.cu ho.kind h2
  have t4 : Tbm (W'.setCell ⟨R6, 0, none⟩ (.int .i64 ((pre.length : Int) + 1))) T M (Nx B w0) m c (S.map (mvd c k2 (pre.map (fun x => x.1.key) ++ [x.1.key]))) := by
    refine Tbm.setBox ((h.mono (C := Nx B w0) (fun k hk => ?_)).perm ?_) i6 (by decide) _
    · rcases hk with hk | hk
      · exact hk.1
      · exact .inr (Nat.le_trans hI.tch.size hk)
    · unfold putS
      rw [hmv, if_neg (hfl s hs), show (mvS c k2 s).key = s.key from rfl, ← hsk]
      exact mvd_more _ hS.ap hs
  have gN : Tch (Nx B w0) W (W'.setCell ⟨R6, 0, none⟩ (.int .i64 ((pre.length : Int) + 1))) := Tch.trans (g.mono (fun k _ hk => hk.1)) (Tch.set W' R6 0 _ (.inr h6))
  refine ⟨⟨gN.size, fun k o hB hk ho => ?_⟩, ⟨⟨gN.size, fun k cs t hb ht => ?_⟩, fun _ => ⟨_, ⟨mvd c k2 (pre.map (fun x => x.1.key) ++ [x.1.key]), fun s _ => mvd_key _ _ _ s, List.Perm.refl _⟩, t4.mono (fun _ _ => trivial)⟩⟩, ?_⟩
  · have hne : k ≠ R6 := by
      rintro rfl
      rw [show W.heap[k]? = _ from hI.r6] at hk; cases hk; cases ho
    rw [Below.heap_setCell _ _ _ _ hne, g.block k (heap_lt hk) (fun hb => ?_), hk]
    rcases hb.2 with e | ⟨cs, t, h1, _⟩
    · omega
    · rw [hk] at h1; cases h1; cases ho
  · have hne : k ≠ R6 := by
      rintro rfl
      have e1 : W.heap[k]? = some (.cells cs t) := hb
      rw [show W.heap[k]? = _ from hI.r6] at e1; cases e1
      rcases ht with e | e | e <;> exact absurd e (by decide)
    refine (Below.heap_setCell _ _ _ _ hne).trans (g.blk hb (nb hb ?_))
    rcases ht with rfl | rfl | rfl <;> decide
  · refine ⟨(show Boxed W' _ _ _ from g.blk hI.r2 (nb hI.r2 (by decide))).other hd2 _, (show Boxed W' _ _ _ from g.blk hI.r3 (nb hI.r3 (by decide))).other hd3 _, ?_, hI.tch.next gN, ?_⟩
    · rw [List.length_append, List.length_singleton, Int.natCast_add]
      exact box_put i6 _
    · rw [List.map_append]; exact t4
set_option maxHeartbeats 4000000 in
theorem mvall_in (n : Nat) (hn : 8 ≤ n) (o : Option Addr) (QT B : Nat → Prop) (m c k2 : Int) (S : List Sl) (w : World) (h : Ent o w QT B m c S) (h2 : Is3 k2) (hfl : ∀ s ∈ S, flS c (mvS c k2 s) ≠ 0) (hsort : SortC S.length) :
    CallsIn Fence.wide n Tryz.prog 23 #[.pointer o, .int .u8 k2] w fun e w' => ∃ T, QT T ∧ e = .returned (.tuple #[.int .i64 (S.length : Int), .int .u16 0]) ∧ Tch B w w' ∧ Tbl w' T (Nx B w) m c (S.map (mvS c k2)) := by
  have h1 : 1 ≤ n := by omega
  have CR := Lib.hid (fun V => callsIn_wide (n := n - 1) |>.2 (knright_any k2 V))
  rw [h2.isK] at CR
  have CO := Lib.hid (fun V g => callsIn_wide (n := n - 1) |>.2 (h.go V g))
  have HS := Lib.hid hsort
  have HF := Lib.hid hfl
  have b2 := Lib.hid ((Boxed.new w Ttp (.pointer o)).alloc (.cells #[.int .u8 k2] Tu8))
  have b3 := Lib.hid (Boxed.new (w.alloc (.cells #[.pointer o] Ttp)) Tu8 (.int .u8 k2))
  rw [show (w.alloc (.cells #[.pointer o] Ttp)).heap.size = w.heap.size + 1 by simp] at b3
  have k0 := Lib.hid (((Below.refl _ w).alloc (Nat.le_refl _) (.cells #[.pointer o] Ttp)).alloc (by simp) (.cells #[.int .u8 k2] Tu8))
  clear h hsort hfl
  refine callsIn_of_wp_marks Tryz.func23 rfl trivial ?_ rfl
  simp only [Tryz.ntmps23, List.size_toArray, List.length_cons, List.length_nil, Nat.reduceAdd, Nat.reduceSub, Array.replicate_succ, Array.replicate_zero, List.push_toArray, List.append_toArray, List.nil_append, List.cons_append]
  gi_wp2_with (refine ⟨trivial, ?_⟩; gi_at_call 45; refine (CR.out _).mono ?_; rintro e w1 ⟨rfl, _, g1⟩; refine stopHere ?_)
  unfold Stop
  have k1 := kbq k0.out g1
  have b21 := Lib.hid ((g1.block _ (heap_lt b2.out)).trans b2.out)
  have b31 := Lib.hid ((g1.block _ (heap_lt b3.out)).trans b3.out)
  have c2 := (show Boxed w1 _ _ _ from b21.out).cell
  have c3 := (show Boxed w1 _ _ _ from b31.out).cell
  clear g1 b2 b3 k0 CR
  gi_wp2_with (refine ⟨trivial, ?_⟩; gi_at_call 39; refine (CO.out _ k1).mono ?_; rintro e w2 ⟨T, rfl, g2, hQ, hT⟩; refine stopHere ?_)
  unfold Stop
  obtain ⟨M, hM⟩ := hT.tbm
  have b22 : Boxed w2 w.heap.size Ttp (.pointer o) := (g2.block _ (heap_lt b21.out)).trans b21.out
  have b32 : Boxed w2 (w.heap.size + 1) Tu8 (.int .u8 k2) := (g2.block _ (heap_lt b31.out)).trans b31.out
  have kk2 := Lib.hid (kbq k1 g2)
  have HM := Lib.hid (hM.setBox b22 (by decide) (ptr T))
  have B2 := Lib.hid (box_put b22 (ptr T))
  have B3 := Lib.hid (b32.other (show w.heap.size + 1 ≠ w.heap.size by omega) (ptr T))
  have c2 := b22.cell
  have f2 := b22.frozen
  have hs2 := kk2.out.size
  have cX := acell (o := .cells #[.int .i64 0] Tint) B2.out.cell
  clear b21 b31 b22 b32 g2 k1 hT hM CO
  gi_wp2_with (refine ⟨trivial, ?_⟩; gi_at_call 47; refine (active_in Fence.wide (n - 1) trivial rfl T _).mono ?_; rintro e w3 ⟨rfl, rfl⟩)
  obtain ⟨W0, hW0⟩ : ∃ W0, ((w2.setCell ⟨w.heap.size, 0, none⟩ (ptr T)).alloc (.cells #[.int .i64 0] Tint)).alloc (.cells #[ptr T] Ttp) = W0 := ⟨_, rfl⟩
  have B20 : Boxed W0 w.heap.size Ttp (ptr T) := by rw [← hW0]; exact (B2.out.alloc _).alloc _
  have B30 : Boxed W0 (w.heap.size + 1) Tu8 (.int .u8 k2) := by rw [← hW0]; exact (B3.out.alloc _).alloc _
  have B60 : Boxed W0 w2.heap.size Tint (.int .i64 0) := by rw [← hW0]; have := (Boxed.new (w2.setCell ⟨w.heap.size, 0, none⟩ (ptr T)) Tint (.int .i64 0)).alloc (.cells #[ptr T] Ttp); simpa using this
  have BT0 : Boxed W0 (w2.heap.size + 1) Ttp (ptr T) := by rw [← hW0]; have := Boxed.new ((w2.setCell ⟨w.heap.size, 0, none⟩ (ptr T)).alloc (.cells #[.int .i64 0] Tint)) Ttp (ptr T); simpa using this
  have hsz : W0.heap.size = w2.heap.size + 2 := by rw [← hW0]; simp
  have HB0 : Below w.heap.size w W0 := by
    rw [← hW0]
    refine Below.alloc (Below.alloc (kk2.out.setCell (p := ⟨w.heap.size, 0, none⟩) (Nat.le_refl _) (ptr T)) ?_ _) ?_ _
    · simp; omega
    · simp; omega
  have HM0 : Tbm W0 T M B m c S := by
    rw [← hW0]
    exact (HM.out.below ((Below.refl _ _).alloc (Nat.le_refl _) _)).below ((Below.refl _ _).alloc (Nat.le_refl _) _)
  have hMlt := HM0.lt
  have hwf := HM0.wf
  have hb2 := heap_lt B20
  have hb3 := heap_lt B30
  have hlt2 : w.heap.size + 1 < w2.heap.size := by
    have := heap_lt (show _ = _ from B3.out)
    simpa using this
  have HWF := Lib.hid hwf
  have hfew : S.length ≤ 1000000 := by have := hwf.len; have := hwf.m2; omega
  rw [hW0]
  clear hW0 HM B2 B3 c2 f2 cX c3 kk2
  refine wpIn_rangeFunc_ownH rfl h1 (gf := 81) (lb := #[ptr (w2.heap.size + 1)]) rfl trivial (enters_of Tryz.func81 (by kernel_rfl) rfl)
    (act1_stops (n - 1) (by omega) T M (w2.heap.size + 1) m c S (mvS c k2) W0 BT0 (HM0.mono (fun _ _ => trivial)) HS.out) Kpt.trans (fun W l o o' _ x y z => Kpt.put W l o o' x y z) (Below.refl _ _) (fun _ => rfl)
    (InM T M w.heap.size (w.heap.size + 1) w2.heap.size B m c k2 S w) (fun _ _ _ => False) (InM.own _ hMlt (by omega)) (fun _ s A Bw row hs hg hr => hs) ⟨B20, B30, B60, Tch.of HB0, by
      rw [show (List.map (fun x : {x : Sl // Vr S (mvS c k2) x} => x.1.key) []) = [] from rfl, mvd_nil]; exact HM0.mono (fun k hk => .inl hk)⟩
    (fun x a' W => ∃ b, Blk W b x.1.cs Tas ∧ a' = { tmps := #[.pointer o, .int .u8 k2, ptr w.heap.size, ptr (w.heap.size + 1), .int .i64 0, .int .u16 0, ptr w2.heap.size, ptr b, .int .u8 k2, .bool true, .bool false, .pointer o, ptr T, ptr T, .func (.func 81) #[] #[ptr (w2.heap.size + 1)], x.1.v, undef, undef, undef, undef, undef, undef, undef], defers := [] })
    ?hAx ?assign ?body ?done ?stop
  case hAx =>
    rintro x a' s X Y row ⟨b, hb, e⟩ hg hr
    refine ⟨b, (hg.block b hb.lt (fun e' => ?_)).trans hb, e⟩
    obtain ⟨_, o, ho, hc⟩ := hr b e'.symm
    rw [show X.heap[b]? = _ from hb] at ho; cases ho; cases hc
  case assign =>
    intro l pre x W K hI hK
    gi_wp2
    refine hK _ _ ((KeepsOthers.alloc W _).from _) (kpt_far (by simp) (fun k o ho _ => (al_old _ _ (heap_lt ho)).trans ho)) ((InM.own W0.heap.size hMlt (by omega)).alloc _ hI) ⟨W.heap.size, Blk.new _ _ _, rfl⟩
  case body =>
    rintro l pre x a' W hl ⟨r, hr⟩ hI ⟨b, hb, rfl⟩ hlen
    obtain ⟨s, hs, hsk, hsv⟩ := x.2
    have ho := HWF.out.ok s hs
    have hoks : Oks x.1 ∧ Is3 x.1.k ∧ x.1.r = s.r := by
      rcases hsv with e | e
      · rw [e]; exact ⟨ho.oks, ho.kind, rfl⟩
      · rw [e]; exact ⟨(mvS_oks ho.oks HWF.out.cu ho.kind h2).1, by rw [(mvS_oks ho.oks HWF.out.cu ho.kind h2).2]; exact h2, rfl⟩
    have hoff : ((offS x.1.key (S.map (mvd c k2 (pre.map (fun x => x.1.key))))).length : Int) < m := by
      have h8 := offS_lt (k := x.1.key) (List.mem_map.2 ⟨s, hs, rfl⟩ : mvd c k2 (pre.map (fun x => x.1.key)) s ∈ S.map (mvd c k2 (pre.map (fun x => x.1.key)))) (by rw [(mvd_key _ _ _ s).1, hsk])
      rw [List.length_map] at h8
      have := HWF.out.len
      omega
    have CV := Lib.hid (CallsIn.inRound l (callsIn_wide (n := n - 1 - 1 - 1) |>.2 (over_any T M (Tb1 B w W M) m c k2 _ x.1 W hI.tab.sure hoks.1 (by rw [← hsk]; exact ho.key) (by rw [hoks.2.2]; exact ho.rule) hoks.2.1 h2 hoff)))
    have c2 := hI.r2.cell
    have c3 := hI.r3.cell
    have c6 := hI.r6.cell
    have f6 := hI.r6.frozen
    have x0 := hb.cell 0
    have x1 := hb.cell 1
    have x2 := hb.cell 2
    have x3 := hb.cell 3
    have x4 := hb.cell 4
    have x5 := hb.cell 5
    have x6 := hb.cell 6
    have x7 := hb.cell 7
    simp at x0 x1 x2 x3 x4 x5 x6 x7
    have h2' : 1 ≤ n - 1 - 1 := by omega
    have HI := Lib.hid hI
    clear hI hb B20 B30 B60 BT0 HM0 HB0 hoff hoks ho hsv hsk hs
    gi_wp2_with (refine ⟨trivial, ?_⟩; gi_at_call 46; refine CV.out.mono ?_; rintro e W3 ⟨rfl, g3, h3⟩; refine stopHere ?_)
    unfold Stop
    have b6 := HI.out.six g3
    have HS3 := Lib.hid (HI.out.step W0.heap.size hMlt x HWF.out h2 HF.out (by omega) (by omega) (by omega) g3 h3)
    have c6 := b6.cell
    have f6 := b6.frozen
    have hw6 : IntKind.i64.wrap ((pre.length : Int) + 1) = (pre.length : Int) + 1 := by rw [IntKind.wrap_i64]; omega
    clear b6 g3 h3 CV HI x0 x1 x2 x3 x4 x5 x6 x7 c2 c3
    gi_wp2
    show KeepsFrom _ _ _ ∧ Kpt _ _ _ _ _ _ _ _ ∧ InM _ _ _ _ _ _ _ _ _ _ _ _ _
    exact HS3.out
  case done =>
    rintro D xs W hD hS hI hK
    obtain ⟨d, hd1, hd2, hd3⟩ := hS
    have hL : xs.length = S.length := by
      have e1 := congrArg List.length hd3
      have e2 := hd1.length_eq
      simp only [List.length_map, Array.length_toList] at e1 e2
      omega
    have hall : ∀ s ∈ S, s.key ∈ xs.map (fun x => x.1.key) := fun s hs => by
      rw [hd3]; exact hd1.mem_iff.2 (List.mem_map.2 ⟨s, hs, rfl⟩)
    have c6 := hI.r6.cell
    rw [hL] at c6
    have HI := Lib.hid hI
    have HALL := Lib.hid hall
    clear hI hall hd1 hd2 hd3 hL B20 B30 B60 BT0 HM0 HB0
    dsimp only
    gi_wp2
    refine ⟨by simp, .inl ⟨_, _, rfl, run_takeDeferred hK, ?_⟩⟩
    refine ⟨.tuple #[.int .i64 (S.length : Int), .int .u16 0], by simp [results, Tryz.f23, go_sem], T, hQ, rfl, HI.out.tch.next (Tch.put W D _ (.inr (by omega))), ?_⟩
    have z := HI.out.tab.putO (.deferred none) hK rfl rfl
    rw [mvd_all HALL.out] at z
    exact z.tbl
  case stop =>
    rintro D cc pre W hD _ hF
    exact hF.elim
end Go.Proofs.YtkfncanfgpmgaaaGreat.Wd
