/- A table in memory: how one is kept in the place of who has its key; no conditions but those that each names. -/
import Derived.Test.YtkfncanfgpmgaaaGreatTabT
import Derived.Test.YtkfncanfgpmgaaaGreatTabB
import Derived.Test.YtkfncanfgpmgaaaGreatTabC
namespace Go.Proofs.YtkfncanfgpmgaaaGreat.Wd
open Go Go.RowKit Go.Shelf Go.Deep
set_option linter.unusedVariables false
set_option maxRecDepth 100000

/-- A slot that can be handed on. -/
structure Oks (s : Sl) : Prop where
  key : s.key.size ≤ 281474976710656
  r : Okr s.r
  k : 0 ≤ s.k ∧ s.k ≤ 255
  a : U s.a
  b : U s.b
abbrev capS (s : Sl) : Int := caI s.r.p s.r.e s.r.b s.r.k
/-- How full it is. -/
def flS (c : Int) (s : Sl) : Int := kfI s.k s.a s.b c (capS s)
/-- When it is due. -/
def dueS (c : Int) (s : Sl) : Int := kuI c (flS c s)
theorem caI_U (p : ByteArray) (e b k : Int) (he : U e) (hb : U b) : U (caI p e b k) := by
  unfold caI; split
  · exact sat_U _ (Int.mul_nonneg he.1 hb.1)
  · exact U_zero

theorem TabM.low {w : World} {T M : Nat} {B : Nat → Prop} {m c : Int} {F : Nat → Sl × Int} {bs : List Nat} (h : TabM w T M B m c F bs) : TabM w T M (fun k => B k ∧ k < w.heap.size) m c F bs := by
  obtain ⟨v, hb⟩ := h.top
  obtain ⟨q, h1, h2, h3⟩ := h.que
  refine ⟨⟨v, hb⟩, h.map, ⟨h.inB, h.map.lt⟩, ⟨q, ?_, h2, h3⟩, h.ap, h.few, h.keys⟩
  refine ⟨?_, fun i hi => ?_, ⟨⟨h1.top.1, hb.lt⟩, h1.top.2⟩⟩
  · rcases h1.que with ⟨A, cap, hQ, hA⟩ | hn
    · obtain ⟨cur, hc, r⟩ := hQ.row
      exact .inl ⟨A, cap, hQ, ⟨hA.1, hc.lt⟩, hA.2⟩
    · exact .inr hn
  · have := h1.mem i hi
    refine ⟨⟨this.1, ?_⟩, this.2⟩
    rcases h1.que with ⟨A, cap, hQ, hA⟩ | ⟨h0, _⟩
    · exact (hQ.nd i hi).lt
    · omega
/-- One more. -/
def updF (F : Nat → Sl × Int) (x : Nat) (y : Sl × Int) : Nat → Sl × Int := fun b => if b = x then y else F b
theorem updF_x (F : Nat → Sl × Int) (x : Nat) (y : Sl × Int) : updF F x y x = y := if_pos rfl
theorem updF_o (F : Nat → Sl × Int) (x : Nat) (y : Sl × Int) {b : Nat} (h : b ≠ x) : updF F x y b = F b := if_neg h
theorem Qub.congr {w : World} {T n : Nat} {q : Nat → Nat} {F G : Nat → Sl × Int} {B : Nat → Prop} (h : Qub w T n q F B) (e : ∀ i, i < n → G (q i) = F (q i)) : Qub w T n q G B := by
  refine ⟨?_, h.mem, h.top⟩
  rcases h.que with ⟨A, cap, hQ, hA⟩ | hn
  · exact .inl ⟨A, cap, ⟨hQ.var, hQ.row, hQ.few, fun i hi => by rw [e i hi]; exact hQ.nd i hi, hQ.inj, hQ.one, hQ.two⟩, hA⟩
  · exact .inr hn
theorem Ord.congr {n : Nat} {q : Nat → Nat} {F G : Nat → Sl × Int} (h : Ord (dueR F) 0 n q) (e : ∀ i, i < n → G (q i) = F (q i)) : Ord (dueR G) 0 n q := fun k h0 hk hl => by
  have := par_lt h0
  have z := h k h0 hk hl
  simp only [dueR] at z ⊢
  rw [e k hk, e (par k) (by omega)]; exact z

theorem al_old (v : World) (o : Obj) {k : Nat} (hk : k < v.heap.size) : (v.alloc o).heap[k]? = v.heap[k]? := ((Below.refl _ v).alloc (Nat.le_refl _) o).block k hk
theorem putO_other {V : World} {M k : Nat} {o : Obj} (h : k ≠ M) : (V.putObj M o).heap[k]? = V.heap[k]? := World.putObj_heap_other h
/-- The new one joins. -/
theorem put_join {w v2 : World} {T M : Nat} {B : Nat → Prop} {m c : Int} {F : Nat → Sl × Int} {bs : List Nat} {s : Sl} {D : Int} (hU : TabM v2 T M (fun k => B k ∧ k < w.heap.size) m c F (offB F s.key bs))
    (hK : Tch (fun k => B k ∧ k < w.heap.size) w v2) (hs : Oks s) (hf : (offB F s.key bs).length < 1000000) :
    ∃ o : Obj, (∀ w1 : World, w1.heap[M]? = v2.heap[M]? → (Instr.mapUpdate Tmap (.map (some M)) (.string s.key) (ptr v2.heap.size)).run Tryz.prog w1 = .ok () (w1.putObj M o)) ∧
      ∀ V, Drew (v2.alloc (.cells (kcs (s, D) 0) Tsl)) V → Calls Tryz.prog 102 #[.pointer (some ⟨T, 3, none⟩), ptr v2.heap.size] (V.putObj M o) fun e w' => e = .returned (.tuple #[]) ∧ Tch B w w' ∧
        TabM w' T M (Nx B w) m c (updF F v2.heap.size (s, D)) (v2.heap.size :: offB F s.key bs) := by
  have habs : ¬ Has F (offB F s.key bs) s.key := fun ⟨b, hb, e⟩ => (off_mem.1 hb).2 e
  obtain ⟨o, hmu, hmp⟩ := hU.map.put (k := s.key) (by have := hs.key; omega) habs v2.heap.size (by omega)
  refine ⟨o, hmu, fun V hV => ?_⟩
  generalize hbs : offB F s.key bs = cs at *
  have hkey : ∀ b ∈ cs, (F b).1.key ≠ s.key := fun b hb e => habs ⟨b, hb, e⟩
  obtain ⟨q, hq, ho, hm⟩ := hU.que
  obtain ⟨v, hv⟩ := hU.top
  have wv := hK.size
  have hlt : ∀ b ∈ cs, b < v2.heap.size := fun b hb => by
    obtain ⟨i, hi, e⟩ := (hm b).2 hb
    rw [← e]
    have := (hq.mem i hi).1.2
    omega
  have hne : ∀ b ∈ cs, b ≠ v2.heap.size := fun b hb => by have := hlt b hb; omega
  obtain ⟨n, rfl⟩ := hV
  have hold : ∀ k, k < v2.heap.size → ((v2.alloc (.cells (kcs (s, D) 0) Tsl)).drewN n).heap[k]? = v2.heap[k]? := fun k hk => al_old v2 _ hk
  have hnew : ((v2.alloc (.cells (kcs (s, D) 0) Tsl)).drewN n).heap[v2.heap.size]? = some (.cells (kcs (s, D) 0) Tsl) := World.alloc_heap_new v2 _
  have hsz : ((v2.alloc (.cells (kcs (s, D) 0) Tsl)).drewN n).heap.size = v2.heap.size + 1 := by show (v2.alloc _).heap.size = _; simp
  have hos : Tch (fun _ => False) v2 ((v2.alloc (.cells (kcs (s, D) 0) Tsl)).drewN n) := ⟨rfl, rfl, rfl, by rw [hsz]; omega, fun k hk _ => hold k hk⟩
  generalize (v2.alloc (.cells (kcs (s, D) 0) Tsl)).drewN n = V at *
  have hMl := hU.map.lt
  have tm := hU.tm
  -- the queue in the new world
  have q1 : Qub V T cs.length q F (fun k => Nx B w k ∧ k ≠ M) := (hq.keep (fun k _ hl => hold k hl)).mono (fun k hk => ⟨.inl hk.1.1, hk.2⟩)
  have q2 : Qub (V.putObj M o) T cs.length q F (fun k => Nx B w k ∧ k ≠ M) := q1.keep (fun k hk hl => putO_other hk.2)
  have q3 := q2.congr (G := updF F v2.heap.size (s, D)) (fun i hi => updF_o _ _ _ (hne _ ((hm _).1 ⟨i, hi, rfl⟩)))
  have o3 := ho.congr (G := updF F v2.heap.size (s, D)) (fun i hi => updF_o _ _ _ (hne _ ((hm _).1 ⟨i, hi, rfl⟩)))
  have bT : Blk (V.putObj M o) T #[.int .i64 m, .int .u64 c, .map (some M), v] TTab := (putO_other tm).trans ((hold T hv.lt).trans hv)
  have hx : Fresh (V.putObj M o) T cs.length q (updF F v2.heap.size (s, D)) v2.heap.size 0 := by
    refine ⟨?_, fun hin => hne _ ((hm _).1 hin) rfl, by have := hv.lt; omega⟩
    rw [updF_x]
    exact (putO_other (by omega)).trans hnew
  have hTn : ∀ cs', ¬ Blk (V.putObj M o) T cs' Tps := fun cs' hc => by
    have nt : ¬ (Tps = TTab) := by decide
    have h1 : (V.putObj M o).heap[T]? = some (.cells _ TTab) := bT
    have h2 : (V.putObj M o).heap[T]? = some (.cells cs' Tps) := hc
    rw [h1] at h2
    injection h2 with h2
    injection h2 with _ e2
    exact nt e2.symm
  have mp4 := hmp V (updF F v2.heap.size (s, D)) (hold M hMl) (fun b hb => by rw [updF_o _ _ _ (hne b hb)]) (by rw [updF_x])
  have psz : (V.putObj M o).heap.size = v2.heap.size + 1 := by simp [hsz]
  refine (qjoin_any T cs.length v2.heap.size q _ 0 _ _ q3 o3 (bT.fz 3) hx hTn ⟨.inr wv, by omega⟩ (by omega)).mono ?_
  rintro e w5 ⟨rfl, ⟨q', r1, r2, r3⟩, hg, ht⟩
  refine ⟨rfl, ?_, ?_⟩
  · have a1 : Tch B w V := (hK.mono (fun k _ hk => hk.1)).trans (hos.mono (fun k _ hk => hk.elim))
    have a2 : Tch B w (V.putObj M o) := a1.trans (Tch.put V M o hU.inB.1)
    exact a2.next (hg.mono (fun k _ hk => hk.1))
  · obtain ⟨v', hv'⟩ := ht _ _ bT
    refine ⟨⟨v', hv'⟩, mp4.kept (hg.block M (by rw [psz]; omega) (fun x => x.2 rfl)), .inl hU.inB.1, ⟨q', ?_, r2, fun x => ?_⟩, ?_, ?_, ?_⟩
    · refine r1.mono (fun k hk => ?_)
      rcases hk with hk | hk
      · exact hk
      · exact ⟨.inr (by rw [psz] at hk; omega), by rw [psz] at hk; omega⟩
    · have := r3 x
      rw [List.length_cons, this, hm, List.mem_cons]
      exact Or.comm
    · refine List.pairwise_cons.2 ⟨fun b hb => ?_, ?_⟩
      · rw [updF_x, updF_o _ _ _ (hne b hb)]; exact fun e => hkey b hb e.symm
      · refine List.Pairwise.imp_of_mem ?_ hU.ap
        intro a b ha hb hab
        rw [updF_o _ _ _ (hne a ha), updF_o _ _ _ (hne b hb)]; exact hab
    · rw [List.length_cons]; omega
    · intro b hb
      rcases List.mem_cons.1 hb with rfl | hb
      · rw [updF_x]; exact hs.key
      · rw [updF_o _ _ _ (hne b hb)]; exact hU.keys b hb
/-- What is kept behind it. -/
def PutP (T M : Nat) (B : Nat → Prop) (m c : Int) (F : Nat → Sl × Int) (bs : List Nat) (s : Sl) (w : World) (e : Ending) (w' : World) : Prop :=
  e = .returned (.tuple #[]) ∧ Tch B w w' ∧ (if dueS c s = 0 then TabM w' T M (Nx B w) m c F (offB F s.key bs) else ∃ x, w.heap.size ≤ x ∧ TabM w' T M (Nx B w) m c (updF F x (s, dueS c s)) (x :: offB F s.key bs))

theorem put_any (T M : Nat) (B : Nat → Prop) (m c : Int) (F : Nat → Sl × Int) (bs : List Nat) (s : Sl) (w : World) (h : TabM w T M B m c F bs) (hs : Oks s) (hc : U c) (hf : (offB F s.key bs).length < 1000000) :
    Calls Tryz.prog 61 #[ptr T, s.v] w (PutP T M B m c F bs s w) := by
  have HL := Lib.hid (fun W (g : TabM W T M (fun k => B k ∧ k < w.heap.size) m c F bs) => lose_any T M _ m c F bs s.key W g (by have := hs.key; omega))
  have H0 := Lib.hid (h.low)
  have CC := Lib.hid (fun W => cap_any s.r.p s.r.e s.r.b s.r.k W (by have := hs.r.p; omega) hs.r.e hs.r.b)
  have CU := Lib.hid (fun W => kuntil_any s.k s.a s.b c (capS s) W hs.a hs.b hc (caI_U _ _ _ _ hs.r.e hs.r.b))
  have HS := Lib.hid hs
  have HF := Lib.hid hf
  have wsz := h.cells.2.2.2.2.1
  clear h hs hf
  have HA := Lib.hid (H0.out.below ((Below.refl _ w).alloc (Nat.le_refl _) (.cells s.cs 48)))
  have b0 := Blk.new w s.cs 48
  go_enter Tryz.func61, Tryz.ntmps61
  go_wp2_with (go_at_call 42; refine (HL.out _ HA.out).mono ?_; rintro e w1 ⟨rfl, hT1, g1⟩; refine stopHere ?_)
  unfold Stop
  have b1 := g1.blk b0 (fun x => Nat.lt_irrefl _ x.2)
  have G1 : Tch (fun k => B k ∧ k < w.heap.size) w w1 := (Tch.of ((Below.refl _ w).alloc (Nat.le_refl _) _)).trans g1
  have HT1 := Lib.hid hT1
  have HB1 := Lib.hid b1
  obtain ⟨t0, t1, t2, tf, tl, tn⟩ := hT1.cells
  have x0 := b1.cell 0
  have x1 := b1.cell 1
  have x2 := b1.cell 2
  have x3 := b1.cell 3
  have x4 := b1.cell 4
  have x5 := b1.cell 5
  have x6 := b1.cell 6
  have x7 := b1.cell 7
  simp at x0 x1 x2 x3 x4 x5 x6 x7
  clear HL HA b0 hT1 g1 b1 tf tn
  have kr := Below.refl w1.heap.size w1
  go_wp2_with fail
  go_region_held3 (fun w' => Below w1.heap.size w1 w' ∧ w'.cell? ⟨T, 1, none⟩ = some (.int .u64 c) ∧ w'.cell? ⟨w.heap.size, 1, none⟩ = some (.string s.r.p) ∧ w'.cell? ⟨w.heap.size, 2, none⟩ = some (.int .u64 s.r.e) ∧ w'.cell? ⟨w.heap.size, 3, none⟩ = some (.int .u64 s.r.b) ∧ w'.cell? ⟨w.heap.size, 4, none⟩ = some (.int .u8 s.r.k) ∧ w'.cell? ⟨w.heap.size, 5, none⟩ = some (.int .u8 s.k) ∧ w'.cell? ⟨w.heap.size, 6, none⟩ = some (.int .u64 s.a) ∧ w'.cell? ⟨w.heap.size, 7, none⟩ = some (.int .u64 s.b))
    (first | with_reducible exact ⟨kr, celln kr t1, celln kr x1, celln kr x2, celln kr x3, celln kr x4, celln kr x5, celln kr x6, celln kr x7⟩ | with_reducible exact ⟨kr.drew, celln kr.drew t1, celln kr.drew x1, celln kr.drew x2, celln kr.drew x3, celln kr.drew x4, celln kr.drew x5, celln kr.drew x6, celln kr.drew x7⟩)
    (first
      | (go_at_call 51; ((with_reducible refine (CC.out _).mono ?_); rintro r v1 ⟨rfl, ⟨_, g⟩⟩; (first | with_reducible (replace kr := kbq kr g) | with_reducible (replace kr := kbq kr.drew g))))
      | (go_at_call 50; ((with_reducible refine (CU.out _).mono ?_); rintro r v2 ⟨rfl, ⟨_, g⟩⟩; (first | with_reducible (replace kr := kbq kr g) | with_reducible (replace kr := kbq kr.drew g)))))
  rename_i hH
  clear hH CC CU
  have hD : kuI c (kfI s.k s.a s.b c (capS s)) = dueS c s := rfl
  have U1 : TabM v2 T M (fun k => B k ∧ k < w.heap.size) m c F (offB F s.key bs) := HT1.out.below kr
  have K1 : Tch (fun k => B k ∧ k < w.heap.size) w v2 := G1.trans (Tch.of kr)
  have hwv : w.heap.size ≤ v2.heap.size := K1.size
  rw [hD]
  have HU := Lib.hid U1
  have HK := Lib.hid K1
  have y0 := celln kr x0
  have y1 := celln kr x1
  have y2 := celln kr x2
  have y3 := celln kr x3
  have y4 := celln kr x4
  have y5 := celln kr x5
  have y6 := celln kr x6
  have y7 := celln kr x7
  have u2 := celln kr t2
  have tlv : T < v2.heap.size := Nat.lt_of_lt_of_le tl kr.size
  clear hD U1 K1 x0 x1 x2 x3 x4 x5 x6 x7 t0 t1 t2 tl kr G1 HB1 HT1
  by_cases h0 : dueS c s = 0
  · have e1 : (dueS c s == 0) = true := by simpa using h0
    have HZ := Lib.hid h0
    generalize hDD : dueS c s = D at *
    clear h0
    go_wp2
    refine bodyPost_ret (results_none rfl _ _ _) rfl ?_
    refine ⟨rfl, HK.out.mono (fun k _ hk => hk.1), ?_⟩
    rw [hDD, if_pos HZ.out]
    exact HU.out.mono (fun k hk => .inl hk.1)
  · have e1 : (dueS c s == 0) = false := by simpa using h0
    have HZ := Lib.hid h0
    generalize hDD : dueS c s = D at *
    clear h0
    have HX : Hid (∃ o : Obj, (∀ w1 : World, w1.heap[M]? = v2.heap[M]? → (Instr.mapUpdate Tmap (.map (some M)) (.string s.key) (ptr v2.heap.size)).run Tryz.prog w1 = .ok () (w1.putObj M o)) ∧
      ∀ V, Drew (v2.alloc (.cells (kcs (s, D) 0) Tsl)) V → Calls Tryz.prog 102 #[.pointer (some ⟨T, 3, none⟩), ptr v2.heap.size] (V.putObj M o) fun e w' => e = .returned (.tuple #[]) ∧ Tch B w w' ∧
        TabM w' T M (Nx B w) m c (updF F v2.heap.size (s, D)) (v2.heap.size :: offB F s.key bs)) := Lib.hid (put_join HU.out HK.out HS.out (by have := HF.out; omega))
    obtain ⟨o, hmu, hJ⟩ := HX.out
    have HJ : Hid (∀ V, Drew (v2.alloc (.cells #[.string s.key, .string s.r.p, .int .u64 s.r.e, .int .u64 s.r.b, .int .u8 s.r.k, .int .u8 s.k, .int .u64 s.a, .int .u64 s.b, .int .u64 D, .int .i64 0] Tsl)) V → _) := Lib.hid hJ
    have m0 : (Instr.mapUpdate Tmap (.map (some M)) (.string s.key) (ptr v2.heap.size)).run Tryz.prog (v2.alloc (.cells #[.string s.key, .string s.r.p, .int .u64 s.r.e, .int .u64 s.r.b, .int .u8 s.r.k, .int .u8 s.k, .int .u64 s.a, .int .u64 s.b, .int .u64 D, .int .i64 0] Tsl)) = .ok () ((v2.alloc (.cells #[.string s.key, .string s.r.p, .int .u64 s.r.e, .int .u64 s.r.b, .int .u8 s.r.k, .int .u8 s.k, .int .u64 s.a, .int .u64 s.b, .int .u64 D, .int .i64 0] Tsl)).putObj M o) := hmu _ (al_old v2 _ HU.out.map.lt)
    have m1 : (Instr.mapUpdate Tmap (.map (some M)) (.string s.key) (ptr v2.heap.size)).run Tryz.prog (v2.alloc (.cells #[.string s.key, .string s.r.p, .int .u64 s.r.e, .int .u64 s.r.b, .int .u8 s.r.k, .int .u8 s.k, .int .u64 s.a, .int .u64 s.b, .int .u64 D, .int .i64 0] Tsl)).drew = .ok () ((v2.alloc (.cells #[.string s.key, .string s.r.p, .int .u64 s.r.e, .int .u64 s.r.b, .int .u8 s.r.k, .int .u8 s.k, .int .u64 s.a, .int .u64 s.b, .int .u64 D, .int .i64 0] Tsl)).drew.putObj M o) := hmu _ (al_old v2 _ HU.out.map.lt)
    have m2 : (Instr.mapUpdate Tmap (.map (some M)) (.string s.key) (ptr v2.heap.size)).run Tryz.prog (v2.alloc (.cells #[.string s.key, .string s.r.p, .int .u64 s.r.e, .int .u64 s.r.b, .int .u8 s.r.k, .int .u8 s.k, .int .u64 s.a, .int .u64 s.b, .int .u64 D, .int .i64 0] Tsl)).drew.drew = .ok () ((v2.alloc (.cells #[.string s.key, .string s.r.p, .int .u64 s.r.e, .int .u64 s.r.b, .int .u8 s.r.k, .int .u8 s.k, .int .u64 s.a, .int .u64 s.b, .int .u64 D, .int .i64 0] Tsl)).drew.drew.putObj M o) := hmu _ (al_old v2 _ HU.out.map.lt)
    have z0 := acell (o := (.cells #[.string s.key, .string s.r.p, .int .u64 s.r.e, .int .u64 s.r.b, .int .u8 s.r.k, .int .u8 s.k, .int .u64 s.a, .int .u64 s.b, .int .u64 D, .int .i64 0] Tsl)) y0
    have z2 := acell (o := (.cells #[.string s.key, .string s.r.p, .int .u64 s.r.e, .int .u64 s.r.b, .int .u8 s.r.k, .int .u8 s.k, .int .u64 s.a, .int .u64 s.b, .int .u64 D, .int .i64 0] Tsl)) u2
    have zt : T < (v2.alloc (.cells #[.string s.key, .string s.r.p, .int .u64 s.r.e, .int .u64 s.r.b, .int .u8 s.r.k, .int .u8 s.k, .int .u64 s.a, .int .u64 s.b, .int .u64 D, .int .i64 0] Tsl)).heap.size := by simp; omega
    clear hJ hmu HX
    go_wp2_with fail
    generalize v2.alloc (.cells #[.string s.key, .string s.r.p, .int .u64 s.r.e, .int .u64 s.r.b, .int .u8 s.r.k, .int .u8 s.k, .int .u64 s.a, .int .u64 s.b, .int .u64 D, .int .i64 0] Tsl) = V3 at *
    clear y0 y1 y2 y3 y4 y5 y6 y7 u2
    go_region
    go_wp2_with (go_at_call 102; refine (HJ.out _ (by first | exact Drew.refl _ | exact ⟨1, rfl⟩ | exact ⟨2, rfl⟩)).mono ?_; rintro e w5 ⟨rfl, hT5, hR5⟩)
    go_end0
    refine ⟨rfl, hT5, ?_⟩
    rw [hDD, if_neg HZ.out]
    exact ⟨_, hwv, hR5⟩
end Go.Proofs.YtkfncanfgpmgaaaGreat.Wd
