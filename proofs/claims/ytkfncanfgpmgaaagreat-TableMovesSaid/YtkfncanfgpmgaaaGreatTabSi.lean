/- What an iterator over a table wants; no conditions but those that each names. -/
import Derived.Test.YtkfncanfgpmgaaaGreatTabSf
import Derived.Test.YtkfncanfgpmgaaaGreatTabSg
namespace Go.Proofs.YtkfncanfgpmgaaaGreat.Wd
open Go Go.RowKit Go.Deep Go.Shelf
set_option linter.unusedVariables false
set_option maxRecDepth 100000

abbrev Ttp : TypeId := 33
abbrev Tstrs : TypeId := 122
/-- A slot that was there, or its other form. -/
def Vr (S0 : List Sl) (mv : Sl → Sl) (x : Sl) : Prop := ∃ s ∈ S0, s.key = x.key ∧ (x = s ∨ x = mv s)
/-- Slots that were there, some of them in their other form. -/
def Var (S0 : List Sl) (mv : Sl → Sl) (S1 : List Sl) : Prop := ∃ f : Sl → Sl, (∀ s ∈ S0, (f s).key = s.key ∧ (f s = s ∨ f s = mv s)) ∧ S1.Perm (S0.map f)
theorem Var.start (S0 : List Sl) (mv : Sl → Sl) : Var S0 mv S0 := ⟨id, fun s _ => ⟨rfl, .inl rfl⟩, by rw [List.map_id]⟩
theorem Var.has {S0 S1 : List Sl} {mv : Sl → Sl} (h : Var S0 mv S1) {k : ByteArray} (hk : k ∈ S0.map (fun s => s.key)) : ∃ x ∈ S1, x.key = k ∧ Vr S0 mv x := by
  obtain ⟨f, h1, h2⟩ := h
  obtain ⟨s, hs, rfl⟩ := List.mem_map.1 hk
  exact ⟨f s, h2.mem_iff.2 (List.mem_map.2 ⟨s, hs, rfl⟩), (h1 s hs).1, s, hs, (h1 s hs).1.symm, (h1 s hs).2⟩
theorem Mp.look_one {w : World} {M : Nat} {F : Nat → Sl × Int} {bs : List Nat} (h : Mp w M F bs) (ha : Ap F bs) {k : ByteArray} (hs : k.size ≤ 9223372036854775807) {b : Nat} (hb : b ∈ bs) (hk : (F b).1.key = k) :
    (Instr.lookup Tmap (.map (some M)) (.string k) false).run Tryz.prog w = .ok (ptr b) w := by
  obtain ⟨es, ho, hp⟩ := h
  obtain ⟨v, ps, hrun, hv⟩ := ho.lookup KS Tryz.underlying80 (zeroPtr w) (zd := .nil) (zp := []) rfl (keyOf_s k hs)
  rw [at_yes hp ha hb hk] at hv
  rw [hrun, ptrR_inv hv]
/-- One of a table. -/
theorem Tbm.at {w : World} {T M : Nat} {B : Nat → Prop} {m c : Int} {S : List Sl} (h : Tbm w T M B m c S) {x : Sl} (hx : x ∈ S) :
    x.key.size ≤ 9223372036854775807 ∧ w.cell? ⟨T, 2, none⟩ = some (.map (some M)) ∧ ∃ b d i, (∀ w1 : World, w1.heap[M]? = w.heap[M]? → (Instr.lookup Tmap (.map (some M)) (.string x.key) false).run Tryz.prog w1 = .ok (ptr b) w1) ∧ Blk w b (kcs (x, d) i) Tsl := by
  obtain ⟨F, bs, h1, hp, hd, hw⟩ := h
  rw [List.map_map] at hp
  obtain ⟨b, hb, e⟩ := List.mem_map.1 (hp.mem_iff.2 hx)
  have e : (F b).1 = x := e
  have hk := h1.keys b hb
  rw [e] at hk
  obtain ⟨q, hq, ho, hm⟩ := h1.que
  obtain ⟨i, hi, eb⟩ := (hm b).2 hb
  refine ⟨by omega, h1.cells.2.2.1, b, (F b).2, i, fun w1 e1 => (h1.map.kept e1).look_one h1.ap (by omega) hb (by rw [e]), ?_⟩
  rcases hq.que with ⟨A, cap, hQ, hA⟩ | ⟨h0, _⟩
  · have := hQ.nd i hi; rw [eb] at this
    rw [← e]; exact this
  · omega
/-- What an iterator's own blocks hold is left as it was. -/
structure Tci (A C : World) : Prop where
  size : A.heap.size ≤ C.heap.size
  same : ∀ (k : Nat) (cs : Array Value) (t : TypeId), Blk A k cs t → (t = Tstr ∨ t = Tstrs ∨ t = Ttp) → Blk C k cs t
theorem Tci.trans {a b c : World} (h : Tci a b) (g : Tci b c) : Tci a c := ⟨Nat.le_trans h.size g.size, fun k cs t x y => g.same k cs t (h.same k cs t x y) y⟩
theorem Tci.of {a b : World} (h : Below a.heap.size a b) : Tci a b := ⟨h.size, fun k cs t x _ => (h.block k (heap_lt x)).trans x⟩
theorem Tci.putO (w : World) (l : Nat) (o o' : Obj) (hl : w.heap[l]? = some o) (hc : o.isCells = false) : Tci w (w.putObj l o') :=
  ⟨by simp, fun k cs t x _ => (putO_other (fun e => by subst e; have x : w.heap[k]? = some (.cells cs t) := x; rw [hl] at x; cases x; cases hc)).trans x⟩
theorem Tci.blk {a b : World} (h : Tci a b) {k : Nat} {cs : Array Value} {t : TypeId} (x : Blk a k cs t) (ht : t = Tstr ∨ t = Tstrs ∨ t = Ttp) : Blk b k cs t := h.same k cs t x ht
theorem Tci.boxed {a b : World} (h : Tci a b) {k : Nat} {v : Value} {t : TypeId} (x : Boxed a k t v) (ht : t = Tstr ∨ t = Tstrs ∨ t = Ttp) : Boxed b k t v := h.same k _ t x ht
/-- What is kept from one round to the next. -/
def Kpt (T M : Nat) (m c : Int) (S0 : List Sl) (mv : Sl → Sl) (A C : World) : Prop := Tci A C ∧ ((∃ S1, Var S0 mv S1 ∧ Tbm A T M (fun _ => True) m c S1) → ∃ S2, Var S0 mv S2 ∧ Tbm C T M (fun _ => True) m c S2)
theorem Kpt.trans {T M : Nat} {m c : Int} {S0 : List Sl} {mv : Sl → Sl} {A B C : World} (h : Kpt T M m c S0 mv A B) (g : Kpt T M m c S0 mv B C) : Kpt T M m c S0 mv A C := ⟨h.1.trans g.1, fun x => g.2 (h.2 x)⟩
theorem Kpt.put {T M : Nat} {m c : Int} {S0 : List Sl} {mv : Sl → Sl} (W : World) (l : Nat) (o o' : Obj) (h : W.heap[l]? = some o) (hc : o.isCells = false) (hw : o.isWalk = false) : Kpt T M m c S0 mv W (W.putObj l o') :=
  ⟨.putO W l o o' h hc, fun ⟨S1, v, t⟩ => ⟨S1, v, t.putO o' h hc hw⟩⟩
/-- The keys, in order, in a row of block KB. -/
structure Row (W : World) (KB : Nat) (d : Array ByteArray) : Prop where
  cell : ∃ cur, Blk W KB cur Tstr ∧ ∀ k, k < d.size → cur[k]? = some (.string d[k]!)
theorem SoT.row {W : World} {KB RX cap : Nat} {d : Array ByteArray} (h : SoT W KB RX cap d) : Row W KB d := by
  obtain ⟨cur, hb⟩ := h.typ
  refine ⟨cur, hb, fun k hk => ?_⟩
  rw [← hb.cell k]; exact (h.rows k hk).1
theorem Row.tci {a b : World} {KB : Nat} {d : Array ByteArray} (h : Row a KB d) (g : Tci a b) : Row b KB d := by
  obtain ⟨cur, hb, hc⟩ := h.cell
  exact ⟨cur, g.blk hb (.inl rfl), hc⟩
theorem Row.at {w : World} {KB : Nat} {d : Array ByteArray} (h : Row w KB d) {k : Nat} (hk : k < d.size) : w.cell? ⟨KB, k, none⟩ = some (.string d[k]!) := by
  obtain ⟨cur, hb, hc⟩ := h.cell
  rw [hb.cell k]; exact hc k hk
theorem active_in (F : Fence) (n : Nat) (h : F.fn 47) (hro : F.round = none) (T : Nat) (w : World) :
    CallsIn F n Tryz.prog 47 #[ptr T] w fun e w' => e = .returned (.func (.func 81) #[] #[ptr w.heap.size]) ∧ w' = w.alloc (.cells #[ptr T] Ttp) := by
  refine callsIn_of_wp Tryz.func47 rfl h ?_ hro
  simp only [Tryz.ntmps47, List.size_toArray, List.length_cons, List.length_nil, Nat.reduceAdd, Nat.reduceSub, Array.replicate_succ, Array.replicate_zero, List.push_toArray, List.append_toArray, List.nil_append, List.cons_append]
  gi_wp2
  go_ret
  exact ⟨rfl, rfl⟩
end Go.Proofs.YtkfncanfgpmgaaaGreat.Wd
