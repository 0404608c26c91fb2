/- A map of slots by their keys, in memory; no conditions but those that each names. -/
import Derived.Test.YtkfncanfgpmgaaaGreatTabV2
import Derived.Maps.OwnSet
namespace Go.Proofs.YtkfncanfgpmgaaaGreat.Wd
open Go Go.RowKit Go.Shelf Go.Deep
set_option linter.unusedVariables false
set_option maxRecDepth 100000

/-- How a slot's place reads. -/
def ptrR : Value → Option (DataW Unit × List MemPlace)
  | .pointer (some ⟨b, 0, none⟩) => some (.lit (.int .i64 (b : Int)), [])
  | .pointer none => some (.nil, [])
  | _ => none
theorem ptrR_ptr (b : Nat) : ptrR (ptr b) = some (.lit (.int .i64 (b : Int)), []) := rfl
theorem ptrR_inv {v : Value} {b : Nat} {ps : List MemPlace} (h : ptrR v = some (.lit (.int .i64 (b : Int)), ps)) : v = ptr b := by
  unfold ptrR at h
  split at h
  · rename_i c
    simp at h
    have e : c = b := by omega
    rw [e]
  · simp at h
  · cases h
theorem ptrR_nil {v : Value} {ps : List MemPlace} (h : ptrR v = some (.nil, ps)) : v = .pointer none := by
  unfold ptrR at h
  split at h
  · simp at h
  · rfl
  · cases h

abbrev Tmap : TypeId := 80
abbrev Tstr : TypeId := 9
abbrev lks (k : ByteArray) : Lit := .string (lb k)
/-- What a map of these reads as, in some order. -/
def mapL (F : Nat → Sl × Int) (bs : List Nat) : List (Lit × DataW Unit) := bs.map (fun b => (lks (F b).1.key, .lit (.int .i64 (b : Int))))
/-- Block M is a map of the slots in these blocks, by their keys. -/
def Mp (w : World) (M : Nat) (F : Nat → Sl × Int) (bs : List Nat) : Prop := ∃ es, w.ownsMap Tryz.prog Tstr ptrR M bs.length (.map es) ∧ es.Perm (mapL F bs)
/-- No two keys are the same. -/
def Ap (F : Nat → Sl × Int) (bs : List Nat) : Prop := bs.Pairwise (fun x y => (F x).1.key ≠ (F y).1.key)

theorem ins_perm (x : Lit × DataW Unit) : ∀ l : List (Lit × DataW Unit), (DataW.insert x l).Perm (x :: l)
  | [] => List.Perm.refl _
  | y :: r => by
    unfold DataW.insert
    split
    · exact List.Perm.refl _
    · exact ((ins_perm x r).cons y).trans (List.Perm.swap x y r)
theorem KS : Maps.Keyed Tryz.prog Tstr := Maps.string_keyed Tryz.underlying9
theorem lb_inj {a b : ByteArray} (h : lb a = lb b) : a = b := by
  cases a with | mk x => cases b with | mk y => exact congrArg ByteArray.mk (Array.ext' h)
theorem keyOf_s (k : ByteArray) (h : k.size ≤ 9223372036854775807) : keyOf Tryz.prog Tstr (.string k) = some (lks k) := Go.WideMaps.keyOf_string_mk Tryz.underlying9 h
theorem same_s (a b : ByteArray) : (lks a).sameKey (lks b) = decide (a = b) := by
  show (lb a == lb b) = _
  by_cases h : a = b
  · simp [h]
  · rw [decide_eq_false h, beq_eq_false_iff_ne]; exact fun e => h (lb_inj e)
theorem mapL_mem {F : Nat → Sl × Int} {bs : List Nat} {p : Lit × DataW Unit} : p ∈ mapL F bs ↔ ∃ b ∈ bs, p = (lks (F b).1.key, .lit (.int .i64 (b : Int))) := by
  simp only [mapL, List.mem_map]
  exact ⟨fun ⟨b, h, e⟩ => ⟨b, h, e.symm⟩, fun ⟨b, h, e⟩ => ⟨b, h, e.symm⟩⟩
/-- Is there one of this key? -/
def Has (F : Nat → Sl × Int) (bs : List Nat) (k : ByteArray) : Prop := ∃ b ∈ bs, (F b).1.key = k
theorem has_yes {F : Nat → Sl × Int} {bs : List Nat} {es : List (Lit × DataW Unit)} (h : es.Perm (mapL F bs)) {k : ByteArray} {b : Nat} (hb : b ∈ bs) (hk : (F b).1.key = k) : Maps.has (.map es) (lks k) = true := by
  rw [Maps.has_eq, h.any_eq, List.any_eq_true]
  exact ⟨_, mapL_mem.2 ⟨b, hb, rfl⟩, by rw [same_s, hk]; simp⟩
theorem has_no {F : Nat → Sl × Int} {bs : List Nat} {es : List (Lit × DataW Unit)} (h : es.Perm (mapL F bs)) {k : ByteArray} (hk : ¬ Has F bs k) : Maps.has (.map es) (lks k) = false := by
  rw [Maps.has_eq, h.any_eq, List.any_eq_false]
  rintro p hp
  obtain ⟨b, hb, rfl⟩ := mapL_mem.1 hp
  rw [same_s]
  simp only [decide_eq_true_eq]
  exact fun e => hk ⟨b, hb, e⟩
theorem ap_one {F : Nat → Sl × Int} {bs : List Nat} (h : Ap F bs) {b c : Nat} (hb : b ∈ bs) (hc : c ∈ bs) (e : (F b).1.key = (F c).1.key) : b = c := by
  induction bs with
  | nil => cases hb
  | cons x xs ih =>
    obtain ⟨h1, h2⟩ := List.pairwise_cons.1 h
    rcases List.mem_cons.1 hb with eb | hb'
    · rcases List.mem_cons.1 hc with ec | hc'
      · exact eb.trans ec.symm
      · exact absurd (eb ▸ e) (h1 c hc')
    · rcases List.mem_cons.1 hc with ec | hc'
      · exact absurd (ec ▸ e).symm (h1 b hb')
      · exact ih h2 hb' hc'
theorem at_yes {F : Nat → Sl × Int} {bs : List Nat} {es : List (Lit × DataW Unit)} (h : es.Perm (mapL F bs)) (ha : Ap F bs) {k : ByteArray} {b : Nat} (hb : b ∈ bs) (hk : (F b).1.key = k) (zd : DataW Unit) : (DataW.map es).atKey (lks k) zd = .lit (.int .i64 (b : Int)) := by
  unfold DataW.atKey
  dsimp only
  cases e : es.find? (fun p => p.1.sameKey (lks k)) with
  | none =>
    have := List.find?_eq_none.1 e _ (h.mem_iff.2 (mapL_mem.2 ⟨b, hb, rfl⟩))
    rw [same_s, hk] at this; simp at this
  | some p =>
    have h1 := List.find?_some e
    obtain ⟨c, hc, rfl⟩ := mapL_mem.1 (h.mem_iff.1 (List.mem_of_find?_eq_some e))
    rw [same_s] at h1
    have h2 : (F c).1.key = k := by simpa using h1
    rw [ap_one ha hc hb (h2.trans hk.symm)]
theorem at_no {F : Nat → Sl × Int} {bs : List Nat} {es : List (Lit × DataW Unit)} (h : es.Perm (mapL F bs)) {k : ByteArray} (hk : ¬ Has F bs k) (zd : DataW Unit) : (DataW.map es).atKey (lks k) zd = zd := by
  unfold DataW.atKey
  dsimp only
  cases e : es.find? (fun p => p.1.sameKey (lks k)) with
  | none => rfl
  | some p =>
    have h1 := List.find?_some e
    obtain ⟨c, hc, rfl⟩ := mapL_mem.1 (h.mem_iff.1 (List.mem_of_find?_eq_some e))
    rw [same_s] at h1
    exact absurd ⟨c, hc, by simpa using h1⟩ hk
theorem zeroPtr (w : World) : (zeroValue Tps).run Tryz.prog w = .ok (.pointer none) w := by
  obtain ⟨i0, hi, hy0, hy1, hy2⟩ := info_parts zeroPs
  simp [zeroValue, typeInfo, hi, hy0]
/-- What is looked up. -/
theorem Mp.look_yes {w : World} {M : Nat} {F : Nat → Sl × Int} {bs : List Nat} (h : Mp w M F bs) (ha : Ap F bs) {k : ByteArray} (hs : k.size ≤ 9223372036854775807) {b : Nat} (hb : b ∈ bs) (hk : (F b).1.key = k) :
    (Instr.lookup Tmap (.map (some M)) (.string k) true).run Tryz.prog w = .ok (.tuple #[ptr b, .bool true]) w := by
  obtain ⟨es, ho, hp⟩ := h
  obtain ⟨v, ps, hrun, hv⟩ := ho.look_ok KS Tryz.underlying80 (zeroPtr w) (zd := .nil) (zp := []) rfl (keyOf_s k hs)
  rw [at_yes hp ha hb hk] at hv
  rw [hrun, ptrR_inv hv, has_yes hp hb hk]
theorem Mp.look_no {w : World} {M : Nat} {F : Nat → Sl × Int} {bs : List Nat} (h : Mp w M F bs) {k : ByteArray} (hs : k.size ≤ 9223372036854775807) (hk : ¬ Has F bs k) :
    (Instr.lookup Tmap (.map (some M)) (.string k) true).run Tryz.prog w = .ok (.tuple #[.pointer none, .bool false]) w := by
  obtain ⟨es, ho, hp⟩ := h
  obtain ⟨v, ps, hrun, hv⟩ := ho.look_ok KS Tryz.underlying80 (zeroPtr w) (zd := .nil) (zp := []) rfl (keyOf_s k hs)
  rw [at_no hp hk] at hv
  rw [hrun, ptrR_nil hv, has_no hp hk]
theorem ownsMap_fit {w : World} {M n : Nat} {es : List (Lit × DataW Unit)} (h : w.ownsMap Tryz.prog Tstr ptrR M n (.map es)) : w.ownsMap Tryz.prog Tstr ptrR M es.length (.map es) := by
  obtain ⟨e, clock, hb, F, hs, hD⟩ := h
  refine ⟨e, clock, hb, F, ?_, hD⟩
  injection hD with hD
  rw [hD, Go.length_read]; exact Nat.le_refl _
theorem mapL_len (F : Nat → Sl × Int) (bs : List Nat) : (mapL F bs).length = bs.length := by simp [mapL]
theorem Mp.of {w : World} {M n : Nat} {F : Nat → Sl × Int} {bs : List Nat} {es : List (Lit × DataW Unit)} (h : w.ownsMap Tryz.prog Tstr ptrR M n (.map es)) (hp : es.Perm (mapL F bs)) : Mp w M F bs :=
  ⟨es, by have := ownsMap_fit h; rw [hp.length_eq, mapL_len] at this; exact this, hp⟩
/-- How many there are. -/
theorem Mp.len {w : World} {M : Nat} {F : Nat → Sl × Int} {bs : List Nat} (h : Mp w M F bs) (ty : TypeId) : (Builtin.len_ #[Tmap] ty #[.map (some M)]).run Tryz.prog w = .ok (.int .i64 bs.length) w := by
  obtain ⟨es, ho, hp⟩ := h
  rw [ho.len Tryz.underlying80 ty, Maps.size_eq, hp.length_eq, mapL_len]
/-- Without a key. -/
def offB (F : Nat → Sl × Int) (k : ByteArray) (bs : List Nat) : List Nat := bs.filter (fun b => decide ((F b).1.key ≠ k))
theorem mapL_off {F : Nat → Sl × Int} {bs : List Nat} {k : ByteArray} : (mapL F bs).filter (fun p => !p.1.sameKey (lks k)) = mapL F (offB F k bs) := by
  unfold mapL offB
  rw [List.filter_map]
  congr 1
  apply List.filter_congr
  intro b _
  simp only [Function.comp, same_s]
  by_cases h : (F b).1.key = k <;> simp [h]
theorem Mp.drop {w : World} {M : Nat} {F : Nat → Sl × Int} {bs : List Nat} (h : Mp w M F bs) {k : ByteArray} (hs : k.size ≤ 9223372036854775807) (ty : TypeId) :
    ∃ w', (Builtin.delete_ #[Tmap, Tstr] ty #[.map (some M), .string k]).run Tryz.prog w = .ok (.tuple #[]) w' ∧ Mp w' M F (offB F k bs) ∧ w.grownBy w' (some M) ∧ w'.heap.size = w.heap.size := by
  obtain ⟨es, ho, hp⟩ := h
  obtain ⟨w', hrun, hown, ht⟩ := ho.drop KS Tryz.underlying80 (keyOf_s k hs) ty
  refine ⟨w', hrun, Mp.of hown ?_, ht.grown, ?_⟩
  · rw [← mapL_off]; exact hp.filter _
  · obtain ⟨_, _, _, _, _, rfl⟩ := ht
    simp [ChangeMaps.setBlock]
/-- A map that nobody wrote is there still. -/
theorem Mp.kept {w w' : World} {M : Nat} {F : Nat → Sl × Int} {bs : List Nat} (h : Mp w M F bs) (e : w'.heap[M]? = w.heap[M]?) : Mp w' M F bs := by
  obtain ⟨es, ⟨a, c, hb, r⟩, hp⟩ := h
  exact ⟨es, ⟨a, c, e.trans hb, r⟩, hp⟩
theorem Mp.congr {w : World} {M : Nat} {F G : Nat → Sl × Int} {bs : List Nat} (h : Mp w M F bs) (e : ∀ b ∈ bs, (G b).1.key = (F b).1.key) : Mp w M G bs := by
  obtain ⟨es, ho, hp⟩ := h
  refine ⟨es, ho, ?_⟩
  have : mapL G bs = mapL F bs := List.map_congr_left (fun b hb => by rw [e b hb])
  rw [this]; exact hp
theorem Mp.lt {w : World} {M : Nat} {F : Nat → Sl × Int} {bs : List Nat} (h : Mp w M F bs) : M < w.heap.size := by
  obtain ⟨es, ho, _⟩ := h; exact ho.lt
theorem Mp.nocells {w : World} {M : Nat} {F : Nat → Sl × Int} {bs : List Nat} (h : Mp w M F bs) {cs : Array Value} {t : TypeId} : ¬ Blk w M cs t := by
  obtain ⟨es, ⟨a, c, hb, r⟩, hp⟩ := h
  intro (x : w.heap[M]? = _)
  rw [hb] at x; cases x
/-- One of a key that was not there is put in: whatever was drawn ahead of it. -/
theorem Mp.put {w : World} {M : Nat} {F : Nat → Sl × Int} {bs : List Nat} (h : Mp w M F bs) {k : ByteArray} (hs : k.size ≤ 9223372036854775807) (hk : ¬ Has F bs k) (x : Nat) (hn : bs.length < 9223372036854775807) :
    ∃ o : Obj, (∀ w1 : World, w1.heap[M]? = w.heap[M]? → (Instr.mapUpdate Tmap (.map (some M)) (.string k) (ptr x)).run Tryz.prog w1 = .ok () (w1.putObj M o)) ∧
      ∀ (w1 : World) (G : Nat → Sl × Int), w1.heap[M]? = w.heap[M]? → (∀ b ∈ bs, (G b).1.key = (F b).1.key) → (G x).1.key = k → Mp (w1.putObj M o) M G (x :: bs) := by
  obtain ⟨es, ho, hp⟩ := h
  have ho' := ho
  obtain ⟨a, c, hb, ft, hsz, hD⟩ := ho
  have habs : ∀ e ∈ a.toList, e.key ≠ .string k := by
    intro e he e2
    rcases Maps.fit_look (w := w) true KS Tryz.underlying80 (zeroPtr w) hb ft (keyOf_s k hs) with ⟨_, h2, _⟩ | ⟨e0, y, _, _, _, _, hat, _⟩
    · exact h2 e he e2
    · have h3 := hat (.lit (.bool true))
      have h4 := hat .nil
      rw [← hD, at_no hp hk] at h3 h4
      rw [← h4] at h3; cases h3
  have raw : ∀ w1 : World, w1.heap[M]? = w.heap[M]? → (Instr.mapUpdate Tmap (.map (some M)) (.string k) (ptr x)).run Tryz.prog w1 = .ok () (w1.putObj M (.map (a.push ⟨.string k, ptr x, c⟩) (c + 1))) := by
    intro w1 h1
    have hb1 := h1.trans hb
    rcases KS.find w1 (keyOf_s k hs) a.toList ft.keys with ⟨q1, q2⟩ | ⟨j, e0, q1, q2, q3⟩
    · simp [Instr.mapUpdate, run_underlying Tryz.underlying80, MapKept.run_getObj_map hb1, KS.check w1 false (keyOf_s k hs), q1, MapKept.run_setObj_map _ hb1, Result.andThen, World.putObj]
    · exact absurd q3 (habs e0 (List.mem_of_getElem? q2))
  refine ⟨_, raw, fun w1 G h1 hG hGx => ?_⟩
  have ho1 : w1.ownsMap Tryz.prog Tstr ptrR M bs.length (.map es) := ⟨a, c, h1.trans hb, ft, hsz, hD⟩
  obtain ⟨w', hrun, hown, _⟩ := ho1.store KS Tryz.underlying80 (by unfold maxLen; omega) (keyOf_s k hs) (ptrR_ptr x)
  rw [raw w1 h1] at hrun
  injection hrun with _ hw
  subst hw
  refine Mp.of hown ?_
  have e1 : mapL G (x :: bs) = (lks k, .lit (.int .i64 (x : Int))) :: mapL F bs := by
    unfold mapL
    rw [List.map_cons, hGx]
    congr 1
    exact List.map_congr_left (fun b hb => by rw [hG b hb])
  rw [e1]
  have e2 : (mapL F bs).filter (fun p => !p.1.sameKey (lks k)) = mapL F bs := by
    refine List.filter_eq_self.2 (fun p hp => ?_)
    obtain ⟨b, hb, rfl⟩ := mapL_mem.1 hp
    rw [same_s]
    simp only [Bool.not_eq_true', decide_eq_false_iff_not]
    exact fun e => hk ⟨b, hb, e⟩
  have e3 := (hp.filter (fun p => !p.1.sameKey (lks k)))
  rw [e2] at e3
  exact (ins_perm _ _).trans (e3.cons _)
end Go.Proofs.YtkfncanfgpmgaaaGreat.Wd
