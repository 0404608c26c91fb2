/- A table in memory: who is looked up, what is kept of a key; no conditions but those that each names. -/
import Derived.Test.YtkfncanfgpmgaaaGreatTabK
import Derived.Deep.RegionHeld3
namespace Go.Proofs.YtkfncanfgpmgaaaGreat.Wd
open Go Go.RowKit Go.Shelf Go.Deep
set_option linter.unusedVariables false
set_option maxRecDepth 100000

/-- Who has a key. -/
def getS (S : List Sl) (k : ByteArray) : Option Sl := S.find? (fun s => decide (s.key = k))
/-- All others. -/
def offS (k : ByteArray) (S : List Sl) : List Sl := S.filter (fun s => decide (s.key ≠ k))
theorem getS_some {S : List Sl} {k : ByteArray} {s : Sl} (h : getS S k = some s) : s ∈ S ∧ s.key = k := ⟨List.mem_of_find?_eq_some h, by have := List.find?_some h; simpa using this⟩
theorem getS_none {S : List Sl} {k : ByteArray} : getS S k = none ↔ ∀ s ∈ S, s.key ≠ k := by
  unfold getS; rw [List.find?_eq_none]; simp
theorem pw_one {S : List Sl} (h : S.Pairwise (fun x y => x.key ≠ y.key)) {b c : Sl} (hb : b ∈ S) (hc : c ∈ S) (e : b.key = c.key) : b = c := by
  induction S with
  | nil => cases hb
  | cons x xs ih =>
    obtain ⟨h1, h2⟩ := List.pairwise_cons.1 h
    rcases List.mem_cons.1 hb with eb | hb'
    · rcases List.mem_cons.1 hc with ec | hc'
      · exact eb.trans ec.symm
      · exact absurd (eb ▸ e) (h1 c hc')
    · rcases List.mem_cons.1 hc with ec | hc'
      · exact absurd (ec ▸ e).symm (h1 b hb')
      · exact ih h2 hb' hc'
theorem getS_of {S : List Sl} {k : ByteArray} {s : Sl} (h : S.Pairwise (fun x y => x.key ≠ y.key)) (hs : s ∈ S) (hk : s.key = k) : getS S k = some s := by
  cases e : getS S k with
  | none => exact absurd hk (getS_none.1 e s hs)
  | some t =>
    obtain ⟨h1, h2⟩ := getS_some e
    rw [pw_one h h1 hs (h2.trans hk.symm)]
/-- Who is looked up in a table. -/
theorem Tbl.look {w : World} {T : Nat} {B : Nat → Prop} {m c : Int} {S : List Sl} (h : Tbl w T B m c S) (k : ByteArray) (hk : k.size ≤ 9223372036854775807) :
    ∃ M, M < w.heap.size ∧ w.cell? ⟨T, 2, none⟩ = some (.map (some M)) ∧ (∀ w1 : World, w1.heap[M]? = w.heap[M]? → ∀ ty, (Builtin.len_ #[Tmap] ty #[.map (some M)]).run Tryz.prog w1 = .ok (.int .i64 S.length) w1) ∧
      ((getS S k = none ∧ ∀ w1 : World, w1.heap[M]? = w.heap[M]? → (Instr.lookup Tmap (.map (some M)) (.string k) true).run Tryz.prog w1 = .ok (.tuple #[.pointer none, .bool false]) w1) ∨
       ∃ s b d i, getS S k = some s ∧ (∀ w1 : World, w1.heap[M]? = w.heap[M]? → (Instr.lookup Tmap (.map (some M)) (.string k) true).run Tryz.prog w1 = .ok (.tuple #[ptr b, .bool true]) w1) ∧ Blk w b (kcs (s, d) i) Tsl) := by
  obtain ⟨L, ⟨M, F, bs, h1, hL⟩, hp, hd, hw⟩ := h
  subst hL
  rw [List.map_map] at hp
  have hlen : S.length = bs.length := by rw [← hp.length_eq, List.length_map]
  refine ⟨M, h1.map.lt, h1.cells.2.2.1, fun w1 e ty => by rw [hlen]; exact (h1.map.kept e).len ty, ?_⟩
  by_cases hh : Has F bs k
  · right
    obtain ⟨b, hb, e⟩ := hh
    obtain ⟨q, hq, ho, hm⟩ := h1.que
    obtain ⟨i, hi, eb⟩ := (hm b).2 hb
    have hin : (F b).1 ∈ S := hp.mem_iff.1 (List.mem_map.2 ⟨b, hb, rfl⟩)
    refine ⟨(F b).1, b, (F b).2, i, getS_of hw.ap hin e, fun w1 e1 => (h1.map.kept e1).look_yes h1.ap hk hb e, ?_⟩
    rcases hq.que with ⟨A, cap, hQ, hA⟩ | ⟨h0, _⟩
    · have := hQ.nd i hi; rw [eb] at this; exact this
    · omega
  · left
    refine ⟨getS_none.2 (fun s hs e => hh ?_), fun w1 e1 => (h1.map.kept e1).look_no hk hh⟩
    obtain ⟨b, hb, eb⟩ := List.mem_map.1 (hp.mem_iff.2 hs)
    exact ⟨b, hb, by rw [← e, ← eb]; rfl⟩
theorem kcs_cells {w : World} {b : Nat} {s : Sl} {d i : Int} (h : Blk w b (kcs (s, d) i) Tsl) : w.cell? ⟨b, 0, none⟩ = some (.string s.key) ∧ w.cell? ⟨b, 1, none⟩ = some (.string s.r.p) ∧ w.cell? ⟨b, 2, none⟩ = some (.int .u64 s.r.e) ∧ w.cell? ⟨b, 3, none⟩ = some (.int .u64 s.r.b) ∧ w.cell? ⟨b, 4, none⟩ = some (.int .u8 s.r.k) ∧ w.cell? ⟨b, 5, none⟩ = some (.int .u8 s.k) ∧ w.cell? ⟨b, 6, none⟩ = some (.int .u64 s.a) ∧ w.cell? ⟨b, 7, none⟩ = some (.int .u64 s.b) :=
  ⟨h.cell 0, h.cell 1, h.cell 2, h.cell 3, h.cell 4, h.cell 5, h.cell 6, h.cell 7⟩

/-- A state, as data. -/
structure St where
  k : Int
  a : Int
  b : Int
abbrev St.v (s : St) : Value := sta s.k s.a s.b
/-- How full a key may be by a rule. -/
abbrev capR (r : Rl) : Int := caI r.p r.e r.b r.k
theorem capR_U {r : Rl} (h : Okr r) : U (capR r) := caI_U _ _ _ _ h.e h.b
/-- What is kept of a key, or an empty state. -/
def stOf (c : Int) (r : Rl) : Option Sl → St
  | some s => ⟨s.k, s.a, s.b⟩
  | none => ⟨koK r.k, koA r.k c (capR r) 0, koB r.k c⟩
theorem tb {Q : Nat → Prop} {W a b : World} (kr : Tch Q W a) (g : Below a.heap.size a b) : Tch Q W b := kr.bel (g.mono kr.size)
theorem td {Q : Nat → Prop} {W a : World} (kr : Tch Q W a) : Tch Q W a.drew := kr.trans (Drew.tch ⟨1, rfl⟩)
theorem ta {Q : Nat → Prop} {W a : World} {o : Obj} (kr : Tch Q W a) : Tch Q W (a.alloc o) := tb kr ((Below.refl _ a).alloc (Nat.le_refl _) o)
theorem tset {Q : Nat → Prop} {W a : World} {X i : Nat} {v : Value} (kr : Tch Q W a) (h : Q X ∨ W.heap.size ≤ X) : Tch Q W (a.setCell ⟨X, i, none⟩ v) := kr.next (Tch.set a X i v h)
theorem Blk.dr {w : World} {b : Nat} {cs : Array Value} {t : TypeId} (h : Blk w b cs t) : Blk w.drew b cs t := h
theorem ts3 {Q : Nat → Prop} {W w : World} {X : Nat} {p0 p1 p2 : Value} (kr : Tch Q W w) (h : Q X ∨ W.heap.size ≤ X) : Tch Q W (((w.setCell ⟨X, 0, none⟩ p0).setCell ⟨X, 1, none⟩ p1).setCell ⟨X, 2, none⟩ p2) := (tset (tset (tset kr h) h) h)
theorem sc3 {w : World} {X b i : Nat} {v p0 p1 p2 : Value} (h : w.cell? ⟨b, i, none⟩ = some v) (hb : b ≠ X) : (((w.setCell ⟨X, 0, none⟩ p0).setCell ⟨X, 1, none⟩ p1).setCell ⟨X, 2, none⟩ p2).cell? ⟨b, i, none⟩ = some v := ((cs_other _ _ _ _ _ _ (.inl hb)).trans ((cs_other _ _ _ _ _ _ (.inl hb)).trans ((cs_other _ _ _ _ _ _ (.inl hb)).trans h)))
theorem blk3 {w : World} {b : Nat} {p0 p1 p2 : Value} {t : TypeId} (h : Blk w b #[p0, p1, p2] t) : w.cell? ⟨b, 0, none⟩ = some p0 ∧ w.cell? ⟨b, 1, none⟩ = some p1 ∧ w.cell? ⟨b, 2, none⟩ = some p2 ∧ w.frozen? ⟨b, 0, none⟩ = false ∧ w.frozen? ⟨b, 1, none⟩ = false ∧ w.frozen? ⟨b, 2, none⟩ = false := ⟨h.cell 0, h.cell 1, h.cell 2, h.fz 0, h.fz 1, h.fz 2⟩
theorem bset3 {w : World} {X : Nat} {p0 p1 p2 c0 c1 c2 : Value} {t : TypeId} (h : Blk w X #[c0, c1, c2] t) : Blk (((w.setCell ⟨X, 0, none⟩ p0).setCell ⟨X, 1, none⟩ p1).setCell ⟨X, 2, none⟩ p2) X #[p0, p1, p2] t := by
  have z := (((h.set 0 p0).set 1 p1).set 2 p2)
  simp only [List.setIfInBounds_toArray, List.set_cons_zero, List.set_cons_succ] at z
  exact z
theorem ts4 {Q : Nat → Prop} {W w : World} {X : Nat} {p0 p1 p2 p3 : Value} (kr : Tch Q W w) (h : Q X ∨ W.heap.size ≤ X) : Tch Q W ((((w.setCell ⟨X, 0, none⟩ p0).setCell ⟨X, 1, none⟩ p1).setCell ⟨X, 2, none⟩ p2).setCell ⟨X, 3, none⟩ p3) := (tset (tset (tset (tset kr h) h) h) h)
theorem sc4 {w : World} {X b i : Nat} {v p0 p1 p2 p3 : Value} (h : w.cell? ⟨b, i, none⟩ = some v) (hb : b ≠ X) : ((((w.setCell ⟨X, 0, none⟩ p0).setCell ⟨X, 1, none⟩ p1).setCell ⟨X, 2, none⟩ p2).setCell ⟨X, 3, none⟩ p3).cell? ⟨b, i, none⟩ = some v := ((cs_other _ _ _ _ _ _ (.inl hb)).trans ((cs_other _ _ _ _ _ _ (.inl hb)).trans ((cs_other _ _ _ _ _ _ (.inl hb)).trans ((cs_other _ _ _ _ _ _ (.inl hb)).trans h))))
theorem blk4 {w : World} {b : Nat} {p0 p1 p2 p3 : Value} {t : TypeId} (h : Blk w b #[p0, p1, p2, p3] t) : w.cell? ⟨b, 0, none⟩ = some p0 ∧ w.cell? ⟨b, 1, none⟩ = some p1 ∧ w.cell? ⟨b, 2, none⟩ = some p2 ∧ w.cell? ⟨b, 3, none⟩ = some p3 ∧ w.frozen? ⟨b, 0, none⟩ = false ∧ w.frozen? ⟨b, 1, none⟩ = false ∧ w.frozen? ⟨b, 2, none⟩ = false ∧ w.frozen? ⟨b, 3, none⟩ = false := ⟨h.cell 0, h.cell 1, h.cell 2, h.cell 3, h.fz 0, h.fz 1, h.fz 2, h.fz 3⟩
theorem bset4 {w : World} {X : Nat} {p0 p1 p2 p3 c0 c1 c2 c3 : Value} {t : TypeId} (h : Blk w X #[c0, c1, c2, c3] t) : Blk ((((w.setCell ⟨X, 0, none⟩ p0).setCell ⟨X, 1, none⟩ p1).setCell ⟨X, 2, none⟩ p2).setCell ⟨X, 3, none⟩ p3) X #[p0, p1, p2, p3] t := by
  have z := ((((h.set 0 p0).set 1 p1).set 2 p2).set 3 p3)
  simp only [List.setIfInBounds_toArray, List.set_cons_zero, List.set_cons_succ] at z
  exact z
theorem ts10 {Q : Nat → Prop} {W w : World} {X : Nat} {p0 p1 p2 p3 p4 p5 p6 p7 p8 p9 : Value} (kr : Tch Q W w) (h : Q X ∨ W.heap.size ≤ X) : Tch Q W ((((((((((w.setCell ⟨X, 0, none⟩ p0).setCell ⟨X, 1, none⟩ p1).setCell ⟨X, 2, none⟩ p2).setCell ⟨X, 3, none⟩ p3).setCell ⟨X, 4, none⟩ p4).setCell ⟨X, 5, none⟩ p5).setCell ⟨X, 6, none⟩ p6).setCell ⟨X, 7, none⟩ p7).setCell ⟨X, 8, none⟩ p8).setCell ⟨X, 9, none⟩ p9) := (tset (tset (tset (tset (tset (tset (tset (tset (tset (tset kr h) h) h) h) h) h) h) h) h) h)
theorem sc10 {w : World} {X b i : Nat} {v p0 p1 p2 p3 p4 p5 p6 p7 p8 p9 : Value} (h : w.cell? ⟨b, i, none⟩ = some v) (hb : b ≠ X) : ((((((((((w.setCell ⟨X, 0, none⟩ p0).setCell ⟨X, 1, none⟩ p1).setCell ⟨X, 2, none⟩ p2).setCell ⟨X, 3, none⟩ p3).setCell ⟨X, 4, none⟩ p4).setCell ⟨X, 5, none⟩ p5).setCell ⟨X, 6, none⟩ p6).setCell ⟨X, 7, none⟩ p7).setCell ⟨X, 8, none⟩ p8).setCell ⟨X, 9, none⟩ p9).cell? ⟨b, i, none⟩ = some v := ((cs_other _ _ _ _ _ _ (.inl hb)).trans ((cs_other _ _ _ _ _ _ (.inl hb)).trans ((cs_other _ _ _ _ _ _ (.inl hb)).trans ((cs_other _ _ _ _ _ _ (.inl hb)).trans ((cs_other _ _ _ _ _ _ (.inl hb)).trans ((cs_other _ _ _ _ _ _ (.inl hb)).trans ((cs_other _ _ _ _ _ _ (.inl hb)).trans ((cs_other _ _ _ _ _ _ (.inl hb)).trans ((cs_other _ _ _ _ _ _ (.inl hb)).trans ((cs_other _ _ _ _ _ _ (.inl hb)).trans h))))))))))
theorem blk10 {w : World} {b : Nat} {p0 p1 p2 p3 p4 p5 p6 p7 p8 p9 : Value} {t : TypeId} (h : Blk w b #[p0, p1, p2, p3, p4, p5, p6, p7, p8, p9] t) : w.cell? ⟨b, 0, none⟩ = some p0 ∧ w.cell? ⟨b, 1, none⟩ = some p1 ∧ w.cell? ⟨b, 2, none⟩ = some p2 ∧ w.cell? ⟨b, 3, none⟩ = some p3 ∧ w.cell? ⟨b, 4, none⟩ = some p4 ∧ w.cell? ⟨b, 5, none⟩ = some p5 ∧ w.cell? ⟨b, 6, none⟩ = some p6 ∧ w.cell? ⟨b, 7, none⟩ = some p7 ∧ w.cell? ⟨b, 8, none⟩ = some p8 ∧ w.cell? ⟨b, 9, none⟩ = some p9 ∧ w.frozen? ⟨b, 0, none⟩ = false ∧ w.frozen? ⟨b, 1, none⟩ = false ∧ w.frozen? ⟨b, 2, none⟩ = false ∧ w.frozen? ⟨b, 3, none⟩ = false ∧ w.frozen? ⟨b, 4, none⟩ = false ∧ w.frozen? ⟨b, 5, none⟩ = false ∧ w.frozen? ⟨b, 6, none⟩ = false ∧ w.frozen? ⟨b, 7, none⟩ = false ∧ w.frozen? ⟨b, 8, none⟩ = false ∧ w.frozen? ⟨b, 9, none⟩ = false := ⟨h.cell 0, h.cell 1, h.cell 2, h.cell 3, h.cell 4, h.cell 5, h.cell 6, h.cell 7, h.cell 8, h.cell 9, h.fz 0, h.fz 1, h.fz 2, h.fz 3, h.fz 4, h.fz 5, h.fz 6, h.fz 7, h.fz 8, h.fz 9⟩
theorem bset10 {w : World} {X : Nat} {p0 p1 p2 p3 p4 p5 p6 p7 p8 p9 c0 c1 c2 c3 c4 c5 c6 c7 c8 c9 : Value} {t : TypeId} (h : Blk w X #[c0, c1, c2, c3, c4, c5, c6, c7, c8, c9] t) : Blk ((((((((((w.setCell ⟨X, 0, none⟩ p0).setCell ⟨X, 1, none⟩ p1).setCell ⟨X, 2, none⟩ p2).setCell ⟨X, 3, none⟩ p3).setCell ⟨X, 4, none⟩ p4).setCell ⟨X, 5, none⟩ p5).setCell ⟨X, 6, none⟩ p6).setCell ⟨X, 7, none⟩ p7).setCell ⟨X, 8, none⟩ p8).setCell ⟨X, 9, none⟩ p9) X #[p0, p1, p2, p3, p4, p5, p6, p7, p8, p9] t := by
  have z := ((((((((((h.set 0 p0).set 1 p1).set 2 p2).set 3 p3).set 4 p4).set 5 p5).set 6 p6).set 7 p7).set 8 p8).set 9 p9)
  simp only [List.setIfInBounds_toArray, List.set_cons_zero, List.set_cons_succ] at z
  exact z
theorem cell2 {w : World} {o o2 : Obj} {b i : Nat} {v : Value} (h : w.cell? ⟨b, i, none⟩ = some v) : ((w.alloc o).alloc o2).cell? ⟨b, i, none⟩ = some v := acell (acell h)
theorem heap2 {w : World} {o o2 : Obj} {M : Nat} (h : M < w.heap.size) : ((w.alloc o).alloc o2).heap[M]? = w.heap[M]? := (al_old _ _ (by simp; omega)).trans (al_old _ _ h)
theorem Tch.belowF {a b c : World} (h : Below a.heap.size a b) (g : Tch (fun _ => False) b c) : Below a.heap.size a c :=
  h.trans ⟨g.os, g.tape, g.output, g.size, fun k hk => by
    by_cases z : k < b.heap.size
    · exact g.block k z (fun x => x)
    · have := h.size; omega⟩
set_option maxHeartbeats 1000000 in
theorem state_any (T : Nat) (B : Nat → Prop) (m c : Int) (S : List Sl) (k : ByteArray) (r : Rl) (w : World) (h : Tbl w T B m c S) (hk : k.size ≤ 9223372036854775807) (hr : Okr r) :
    Calls Tryz.prog 73 #[ptr T, .string k, r.v] w fun e w' => e = .returned (stOf c r (getS S k)).v ∧ Below w.heap.size w w' := by
  obtain ⟨c0, c1, cf, ct⟩ := h.cells
  obtain ⟨M, Ml, hM, _, hL⟩ := h.look k hk
  have hcu := h.wf.cu
  have CC := Lib.hid (fun W => cap_any r.p r.e r.b r.k W (by have := hr.p; omega) hr.e hr.b)
  have CO := Lib.hid (fun W => kof_any r.k c (capR r) 0 W hcu (capR_U hr) U_zero)
  have b0 := Lib.hid (((Blk.new w #[.string r.p, .int .u64 r.e, .int .u64 r.b, .int .u8 r.k] 42).alloc (.cells #[.int .u8 0, .int .u64 0, .int .u64 0] 46)))
  have a0 := Lib.hid (Blk.new (w.alloc (.cells #[.string r.p, .int .u64 r.e, .int .u64 r.b, .int .u8 r.k] 42)) #[.int .u8 0, .int .u64 0, .int .u64 0] 46)
  have k0 := Lib.hid (((Below.refl _ w).alloc (Nat.le_refl _) (.cells #[.string r.p, .int .u64 r.e, .int .u64 r.b, .int .u8 r.k] 42)).alloc (by simp) (.cells #[.int .u8 0, .int .u64 0, .int .u64 0] 46))
  have s0 : ((w.alloc (.cells #[.string r.p, .int .u64 r.e, .int .u64 r.b, .int .u8 r.k] 42)).alloc (.cells #[.int .u8 0, .int .u64 0, .int .u64 0] 46)).heap.size = w.heap.size + 2 := by simp
  rw [show (w.alloc (.cells #[.string r.p, .int .u64 r.e, .int .u64 r.b, .int .u8 r.k] 42)).heap.size = w.heap.size + 1 by simp] at a0
  replace hM := cell2 (o := (.cells #[.string r.p, .int .u64 r.e, .int .u64 r.b, .int .u8 r.k] 42)) (o2 := (.cells #[.int .u8 0, .int .u64 0, .int .u64 0] 46)) hM
  replace c1 := cell2 (o := (.cells #[.string r.p, .int .u64 r.e, .int .u64 r.b, .int .u8 r.k] 42)) (o2 := (.cells #[.int .u8 0, .int .u64 0, .int .u64 0] 46)) c1
  rcases hL with ⟨e0, hL⟩ | ⟨s, b, d, i, e0, hL, hb⟩
  · rw [e0]
    replace hL := hL _ (heap2 (o := (.cells #[.string r.p, .int .u64 r.e, .int .u64 r.b, .int .u8 r.k] 42)) (o2 := (.cells #[.int .u8 0, .int .u64 0, .int .u64 0] 46)) Ml)
    clear h hcu
    go_enter Tryz.func73, Tryz.ntmps73
    go_wp2_with fail
    generalize ((w.alloc (.cells #[.string r.p, .int .u64 r.e, .int .u64 r.b, .int .u8 r.k] 42)).alloc (.cells #[.int .u8 0, .int .u64 0, .int .u64 0] 46)) = W at *
    obtain ⟨x0, x1, x2, x3⟩ := (show W.cell? ⟨w.heap.size, 0, none⟩ = some (.string r.p) ∧ W.cell? ⟨w.heap.size, 1, none⟩ = some (.int .u64 r.e) ∧ W.cell? ⟨w.heap.size, 2, none⟩ = some (.int .u64 r.b) ∧ W.cell? ⟨w.heap.size, 3, none⟩ = some (.int .u8 r.k) from ⟨b0.out.cell 0, b0.out.cell 1, b0.out.cell 2, b0.out.cell 3⟩)
    have tl : T < W.heap.size := by omega
    have rl : w.heap.size < W.heap.size := by omega
    clear s0
    have kr := Tch.refl (fun _ => False) W
    go_cut [9] from 26 to 38 (fun v wx => ∃ Y, v = .pointer (some ⟨Y, 0, none⟩) ∧ W.heap.size ≤ Y ∧ Blk wx Y #[.int .u8 (koK r.k), .int .u64 (koA r.k c (capR r) 0), .int .u64 (koB r.k c)] 46 ∧ Tch (fun _ => False) W wx)
    case first =>
      go_region_held3 (fun w' => Tch (fun _ => False) W w' ∧ w'.cell? ⟨T, 1, none⟩ = some (.int .u64 c) ∧ w'.cell? ⟨w.heap.size, 0, none⟩ = some (.string r.p) ∧ w'.cell? ⟨w.heap.size, 1, none⟩ = some (.int .u64 r.e) ∧ w'.cell? ⟨w.heap.size, 2, none⟩ = some (.int .u64 r.b) ∧ w'.cell? ⟨w.heap.size, 3, none⟩ = some (.int .u8 r.k))
        (first | with_reducible exact ⟨kr, c1, x0, x1, x2, x3⟩ | with_reducible exact ⟨(td kr), dcell c1, dcell x0, dcell x1, dcell x2, dcell x3⟩ | with_reducible exact ⟨(ta kr), acell c1, acell x0, acell x1, acell x2, acell x3⟩ | with_reducible exact ⟨(td (ta kr)), dcell (acell c1), dcell (acell x0), dcell (acell x1), dcell (acell x2), dcell (acell x3)⟩ | with_reducible exact ⟨(ts3 kr (.inr hz)), sc3 c1 (Nat.ne_of_lt (Nat.lt_of_lt_of_le tl hz)), sc3 x0 (Nat.ne_of_lt (Nat.lt_of_lt_of_le rl hz)), sc3 x1 (Nat.ne_of_lt (Nat.lt_of_lt_of_le rl hz)), sc3 x2 (Nat.ne_of_lt (Nat.lt_of_lt_of_le rl hz)), sc3 x3 (Nat.ne_of_lt (Nat.lt_of_lt_of_le rl hz))⟩ | with_reducible exact ⟨(td (ts3 kr (.inr hz))), dcell (sc3 c1 (Nat.ne_of_lt (Nat.lt_of_lt_of_le tl hz))), dcell (sc3 x0 (Nat.ne_of_lt (Nat.lt_of_lt_of_le rl hz))), dcell (sc3 x1 (Nat.ne_of_lt (Nat.lt_of_lt_of_le rl hz))), dcell (sc3 x2 (Nat.ne_of_lt (Nat.lt_of_lt_of_le rl hz))), dcell (sc3 x3 (Nat.ne_of_lt (Nat.lt_of_lt_of_le rl hz)))⟩ | with_reducible exact ⟨(ts3 kr (.inr (Nat.le_refl _))), sc3 c1 (Nat.ne_of_lt tl), sc3 x0 (Nat.ne_of_lt rl), sc3 x1 (Nat.ne_of_lt rl), sc3 x2 (Nat.ne_of_lt rl), sc3 x3 (Nat.ne_of_lt rl)⟩ | with_reducible exact ⟨(td (ts3 kr (.inr (Nat.le_refl _)))), dcell (sc3 c1 (Nat.ne_of_lt tl)), dcell (sc3 x0 (Nat.ne_of_lt rl)), dcell (sc3 x1 (Nat.ne_of_lt rl)), dcell (sc3 x2 (Nat.ne_of_lt rl)), dcell (sc3 x3 (Nat.ne_of_lt rl))⟩)
        (first
          | (go_at_call 51; ((with_reducible refine (CC.out _).mono ?_); rintro r w' ⟨rfl, _, g⟩; (first | with_reducible (replace kr := tb kr g; replace c1 := celln g c1; replace x0 := celln g x0; replace x1 := celln g x1; replace x2 := celln g x2; replace x3 := celln g x3; try (replace zb := zb.below g; (try clear z0 z1 z2 zf0 zf1 zf2); obtain ⟨z0, z1, z2, zf0, zf1, zf2⟩ := blk3 zb)) | with_reducible (replace kr := tb (td kr) g; replace c1 := celln g (dcell c1); replace x0 := celln g (dcell x0); replace x1 := celln g (dcell x1); replace x2 := celln g (dcell x2); replace x3 := celln g (dcell x3); try (replace zb := (zb.dr).below g; (try clear z0 z1 z2 zf0 zf1 zf2); obtain ⟨z0, z1, z2, zf0, zf1, zf2⟩ := blk3 zb)) | with_reducible (have zb := (Blk.new _ _ _).below g; obtain ⟨z0, z1, z2, zf0, zf1, zf2⟩ := blk3 zb; have hz := kr.size; replace kr := tb (ta kr) g; replace c1 := celln g (acell c1); replace x0 := celln g (acell x0); replace x1 := celln g (acell x1); replace x2 := celln g (acell x2); replace x3 := celln g (acell x3)) | with_reducible (have zb := ((Blk.new _ _ _).dr).below g; obtain ⟨z0, z1, z2, zf0, zf1, zf2⟩ := blk3 zb; have hz := kr.size; replace kr := tb (td (ta kr)) g; replace c1 := celln g (dcell (acell c1)); replace x0 := celln g (dcell (acell x0)); replace x1 := celln g (dcell (acell x1)); replace x2 := celln g (dcell (acell x2)); replace x3 := celln g (dcell (acell x3))))))
          | (go_at_call 110; ((with_reducible refine (CO.out _).mono ?_); rintro r w' ⟨rfl, _, g⟩; (first | with_reducible (replace kr := tb kr g; replace c1 := celln g c1; replace x0 := celln g x0; replace x1 := celln g x1; replace x2 := celln g x2; replace x3 := celln g x3; try (replace zb := zb.below g; (try clear z0 z1 z2 zf0 zf1 zf2); obtain ⟨z0, z1, z2, zf0, zf1, zf2⟩ := blk3 zb)) | with_reducible (replace kr := tb (td kr) g; replace c1 := celln g (dcell c1); replace x0 := celln g (dcell x0); replace x1 := celln g (dcell x1); replace x2 := celln g (dcell x2); replace x3 := celln g (dcell x3); try (replace zb := (zb.dr).below g; (try clear z0 z1 z2 zf0 zf1 zf2); obtain ⟨z0, z1, z2, zf0, zf1, zf2⟩ := blk3 zb)) | with_reducible (have zb := (Blk.new _ _ _).below g; obtain ⟨z0, z1, z2, zf0, zf1, zf2⟩ := blk3 zb; have hz := kr.size; replace kr := tb (ta kr) g; replace c1 := celln g (acell c1); replace x0 := celln g (acell x0); replace x1 := celln g (acell x1); replace x2 := celln g (acell x2); replace x3 := celln g (acell x3)) | with_reducible (have zb := ((Blk.new _ _ _).dr).below g; obtain ⟨z0, z1, z2, zf0, zf1, zf2⟩ := blk3 zb; have hz := kr.size; replace kr := tb (td (ta kr)) g; replace c1 := celln g (dcell (acell c1)); replace x0 := celln g (dcell (acell x0)); replace x1 := celln g (dcell (acell x1)); replace x2 := celln g (dcell (acell x2)); replace x3 := celln g (dcell (acell x3)))))))
      all_goals
        first
        | (have hB := bset3 (p0 := .int .u8 (koK r.k)) (p1 := .int .u64 (koA r.k c (capR r) 0)) (p2 := .int .u64 (koB r.k c)) zb
           have hY := (show W.heap.size ≤ _ by first | exact hz | exact Nat.le_refl _)
           have hk9 := ts3 (p0 := .int .u8 (koK r.k)) (p1 := .int .u64 (koA r.k c (capR r) 0)) (p2 := .int .u64 (koB r.k c)) kr (.inr hY)
           generalize ((World.setCell _ _ (.int .u8 (koK r.k))).setCell _ (.int .u64 (koA r.k c (capR r) 0))).setCell _ (.int .u64 (koB r.k c)) = W9 at *
           go_wp2
           go_meet
           case rel => exact ⟨_, rfl, hY, hB, hk9⟩)
        | (have hB := Blk.new w' #[.int .u8 (koK r.k), .int .u64 (koA r.k c (capR r) 0), .int .u64 (koB r.k c)] 46
           have hY := kr.size
           have hk9 := ta (o := .cells #[.int .u8 (koK r.k), .int .u64 (koA r.k c (capR r) 0), .int .u64 (koB r.k c)] 46) kr
           generalize w'.alloc (.cells #[.int .u8 (koK r.k), .int .u64 (koA r.k c (capR r) 0), .int .u64 (koB r.k c)] 46) = W9 at *
           go_wp2
           go_meet
           case rel => exact ⟨_, rfl, hY, hB, hk9⟩)
    case rest =>
    obtain ⟨Y, rfl, hY, hB, hk9⟩ := hcut
    have a9 := Lib.hid (hk9.blk a0.out (fun x => x))
    have k9 := Lib.hid (Tch.belowF k0.out hk9)
    obtain ⟨z0, z1, z2, _⟩ := blk3 hB
    obtain ⟨y0, y1, y2, yf0, yf1, yf2⟩ := blk3 a9.out
    clear hB hk9 x0 x1 x2 x3 c1 hL hM kr a0 b0
    go_wp2_with fail
    have b9 := bset3 (p0 := .int .u8 (koK r.k)) (p1 := .int .u64 (koA r.k c (capR r) 0)) (p2 := .int .u64 (koB r.k c)) a9.out
    have kz := ((k9.out.setCell (p := ⟨w.heap.size + 1, 0, none⟩) (Nat.le_succ _) (.int .u8 (koK r.k))).setCell (p := ⟨w.heap.size + 1, 1, none⟩) (Nat.le_succ _) (.int .u64 (koA r.k c (capR r) 0))).setCell (p := ⟨w.heap.size + 1, 2, none⟩) (Nat.le_succ _) (.int .u64 (koB r.k c))
    obtain ⟨q0, q1, q2, _⟩ := blk3 b9
    refine bodyPost_ret (v := (stOf c r none).v) ?_ rfl ⟨rfl, kz⟩
    simp [results, Tryz.results73, go_sem, q0, q1, q2, stOf]
  · rw [e0]
    replace hL := hL _ (heap2 (o := (.cells #[.string r.p, .int .u64 r.e, .int .u64 r.b, .int .u8 r.k] 42)) (o2 := (.cells #[.int .u8 0, .int .u64 0, .int .u64 0] 46)) Ml)
    obtain ⟨x0, x1, x2, x3, x4, x5, x6, x7⟩ := kcs_cells hb
    replace x5 := cell2 (o := (.cells #[.string r.p, .int .u64 r.e, .int .u64 r.b, .int .u8 r.k] 42)) (o2 := (.cells #[.int .u8 0, .int .u64 0, .int .u64 0] 46)) x5
    replace x6 := cell2 (o := (.cells #[.string r.p, .int .u64 r.e, .int .u64 r.b, .int .u8 r.k] 42)) (o2 := (.cells #[.int .u8 0, .int .u64 0, .int .u64 0] 46)) x6
    replace x7 := cell2 (o := (.cells #[.string r.p, .int .u64 r.e, .int .u64 r.b, .int .u8 r.k] 42)) (o2 := (.cells #[.int .u8 0, .int .u64 0, .int .u64 0] 46)) x7
    have kz := ((Below.refl _ w).alloc (Nat.le_refl _) (.cells #[.string r.p, .int .u64 r.e, .int .u64 r.b, .int .u8 r.k] 42)).alloc (by simp) (.cells #[.int .u8 s.k, .int .u64 s.a, .int .u64 s.b] 46)
    have bz := Blk.new (w.alloc (.cells #[.string r.p, .int .u64 r.e, .int .u64 r.b, .int .u8 r.k] 42)) #[.int .u8 s.k, .int .u64 s.a, .int .u64 s.b] 46
    rw [show (w.alloc (.cells #[.string r.p, .int .u64 r.e, .int .u64 r.b, .int .u8 r.k] 42)).heap.size = w.heap.size + 1 by simp] at bz
    obtain ⟨q0, q1, q2, _⟩ := blk3 bz
    clear hb x0 x1 x2 x3 x4 CC CO c1 h hcu
    go_enter Tryz.func73, Tryz.ntmps73
    go_wp2_with fail
    refine bodyPost_ret (v := (stOf c r (some s)).v) ?_ rfl ⟨rfl, kz⟩
    simp [results, Tryz.results73, go_sem, q0, q1, q2, stOf]
end Go.Proofs.YtkfncanfgpmgaaaGreat.Wd
