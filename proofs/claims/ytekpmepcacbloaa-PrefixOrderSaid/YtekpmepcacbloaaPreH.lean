/- Nodes in memory: how they lie, what is looked up in their maps, what is put in; no conditions but those that each names. -/
import Derived.Test.YtekpmepcacbloaaPreT
namespace Go.Proofs.Ytekpmepcacbloaa.Wd
open Go Go.RowKit Go.Shelf
set_option linter.unusedVariables false

abbrev ndp (o : Option Nat) : Value := .pointer (o.map (fun b => ⟨b, 0, none⟩))
/-- The rule that a node's cells hold. -/
def rlOf (nd : Nd) : Rl := nd.rule.getD rl0
def cellsN (nd : Nd) : Array Value := #[.string nd.step, .map nd.mp, .string (rlOf nd).p, .int .u64 (rlOf nd).e, .int .u64 (rlOf nd).b, .int .u8 (rlOf nd).k, .bool nd.rule.isSome]
/-- A map's entries. -/
def entsL : List (UInt8 × Nat) → Nat → List MapEntry
  | [], _ => []
  | e :: d, i => ⟨.int .u8 (e.1.toNat : Int), ndp (some e.2), i⟩ :: entsL d (i + 1)
def mapO (d : List (UInt8 × Nat)) : Obj := .map (entsL d 0).toArray d.length
def posD : List (UInt8 × Nat) → UInt8 → Nat → Nat
  | [], _, i => i
  | e :: d, c, i => if e.1 = c then i else posD d c (i + 1)
theorem u8_beq (a b : UInt8) : ((a.toNat : Int) == (b.toNat : Int)) = decide (a = b) := by
  rw [Bool.eq_iff_iff, beq_iff_eq, decide_eq_true_eq, ← UInt8.toNat_inj]; omega
theorem find_ents (c : UInt8) : ∀ d i, Instr.findNow (.int .u8) (.int .u8 (c.toNat : Int)) (entsL d i) i = some ((look d c).map (fun b => (posD d c i, ndp (some b))))
  | [], i => rfl
  | e :: d, i => by
    rw [entsL, Instr.findNow]
    have h : Instr.sameNow (.int .u8) (.int .u8 (c.toNat : Int)) (.int .u8 (e.1.toNat : Int)) = some (decide (c = e.1)) := by
      simp only [Instr.sameNow, if_true, u8_beq]
    simp only [h]
    by_cases g : e.1 = c
    · rw [decide_eq_true g.symm]
      simp [look, posD, g]
    · rw [decide_eq_false (fun x => g x.symm)]
      show Instr.findNow _ _ (entsL d (i + 1)) (i + 1) = _
      rw [find_ents c d (i + 1), look, if_neg g, posD, if_neg g]
theorem ents_put_new (c : UInt8) (b : Nat) : ∀ d i, look d c = none → entsL (putD d c b) i = entsL d i ++ [⟨.int .u8 (c.toNat : Int), ndp (some b), i + d.length⟩] ∧ (putD d c b).length = d.length + 1
  | [], i, _ => ⟨rfl, rfl⟩
  | e :: d, i, h => by
    rw [look] at h
    by_cases g : e.1 = c
    · rw [if_pos g] at h; cases h
    · rw [if_neg g] at h
      obtain ⟨h1, h2⟩ := ents_put_new c b d (i + 1) h
      rw [putD, if_neg g, entsL, h1, entsL, List.length_cons, List.length_cons, h2]
      exact ⟨by simp [Nat.add_assoc, Nat.add_comm 1], rfl⟩
theorem ents_put_old (c : UInt8) (b : Nat) : ∀ d i, look d c ≠ none → entsL (putD d c b) i = (entsL d i).modify (posD d c i - i) (fun x => { x with key := .int .u8 (c.toNat : Int), val := ndp (some b) }) ∧ (putD d c b).length = d.length ∧ i ≤ posD d c i
  | [], i, h => absurd rfl h
  | e :: d, i, h => by
    rw [look] at h
    by_cases g : e.1 = c
    · rw [putD, if_pos g, entsL, entsL, posD, if_pos g, Nat.sub_self]
      exact ⟨by simp, rfl, Nat.le_refl _⟩
    · rw [if_neg g] at h
      obtain ⟨h1, h2, h3⟩ := ents_put_old c b d (i + 1) h
      rw [putD, if_neg g, entsL, h1, entsL, List.length_cons, List.length_cons, h2, posD, if_neg g]
      refine ⟨?_, rfl, by omega⟩
      rw [show posD d c (i + 1) - i = (posD d c (i + 1) - (i + 1)) + 1 by omega, List.modify_succ_cons]
theorem pos_key (c : UInt8) : ∀ d i, look d c ≠ none → ∃ x : MapEntry, (entsL d i)[posD d c i - i]? = some x ∧ x.key = .int .u8 (c.toNat : Int)
  | [], i, h => absurd rfl h
  | e :: d, i, h => by
    rw [look] at h
    by_cases g : e.1 = c
    · rw [entsL, posD, if_pos g, Nat.sub_self]
      exact ⟨_, rfl, by rw [g]⟩
    · rw [if_neg g] at h
      obtain ⟨x, h1, h2⟩ := pos_key c d (i + 1) h
      obtain ⟨_, _, h3⟩ := ents_put_old c 0 d (i + 1) h
      rw [entsL, posD, if_neg g, show posD d c (i + 1) - i = (posD d c (i + 1) - (i + 1)) + 1 by omega]
      exact ⟨x, by simpa using h1, h2⟩

/-- What is looked up in a node's map. -/
theorem run_down (w : World) (mp : Option Nat) (d : List (UInt8 × Nat)) (c : UInt8) (hm : ∀ m, mp = some m → w.heap[m]? = some (mapO d)) (hb : mp = none → d = []) (ok : Bool) :
    (Instr.lookup 52 (.map mp) (.int .u8 (c.toNat : Int)) ok).run Try.prog w = .ok (if ok then .tuple #[ndp (look d c), .bool (look d c).isSome] else ndp (look d c)) w := by
  cases mp with
  | none =>
    rw [hb rfl]
    have hn : Instr.findNow (.int .u8) (.int .u8 (c.toNat : Int)) [] 0 = some none := rfl
    cases ok <;> simp [Instr.lookup, run_underlying Try.underlying52, MapKept.run_checkKey Try.underlying5 (d := .int .u8) (k := .int .u8 (c.toNat : Int)) rfl, MapKept.run_findKey Try.underlying5 hn, Result.andThen, look, go_sem]
  | some m =>
    have hh := hm m rfl
    unfold mapO at hh
    have hn := find_ents c d 0
    cases e : look d c with
    | none =>
      rw [e] at hn
      cases ok <;> simp [Instr.lookup, run_underlying Try.underlying52, MapKept.run_getObj_map hh, MapKept.run_checkKey Try.underlying5 (d := .int .u8) (k := .int .u8 (c.toNat : Int)) rfl, MapKept.run_findKey Try.underlying5 hn, Result.andThen, go_sem]
    | some b =>
      rw [e] at hn
      cases ok <;> simp [Instr.lookup, run_underlying Try.underlying52, MapKept.run_getObj_map hh, MapKept.run_checkKey Try.underlying5 (d := .int .u8) (k := .int .u8 (c.toNat : Int)) rfl, MapKept.run_findKey Try.underlying5 hn, Result.andThen, go_sem]
/-- What is put into a node's map. -/
theorem run_putm (w : World) (m : Nat) (d : List (UInt8 × Nat)) (c : UInt8) (b : Nat) (hh : w.heap[m]? = some (mapO d)) :
    (Instr.mapUpdate 52 (.map (some m)) (.int .u8 (c.toNat : Int)) (ndp (some b))).run Try.prog w = .ok () (w.putObj m (mapO (putD d c b))) := by
  unfold mapO at hh
  have hn := find_ents c d 0
  cases e : look d c with
  | none =>
    rw [e] at hn
    obtain ⟨g1, g2⟩ := ents_put_new c b d 0 e
    have hE : mapO (putD d c b) = .map ((entsL d 0).toArray.push ⟨.int .u8 (c.toNat : Int), ndp (some b), d.length⟩) (d.length + 1) := by
      unfold mapO
      rw [g1, g2, Nat.zero_add]; simp
    rw [hE]
    simp [Instr.mapUpdate, run_underlying Try.underlying52, MapKept.run_getObj_map hh, MapKept.run_checkKey Try.underlying5 (d := .int .u8) (k := .int .u8 (c.toNat : Int)) rfl, MapKept.run_findKey Try.underlying5 hn, MapKept.run_setObj_map _ hh, Result.andThen, World.putObj]
  | some b0 =>
    rw [e] at hn
    have hne : look d c ≠ none := by rw [e]; exact fun h => by cases h
    obtain ⟨g1, g2, _⟩ := ents_put_old c b d 0 hne
    obtain ⟨x, k1, k2⟩ := pos_key c d 0 hne
    rw [Nat.sub_zero] at g1 k1
    have hE : mapO (putD d c b) = .map ((entsL d 0).toArray.modify (posD d c 0) (fun x => { x with key := .int .u8 (c.toNat : Int), val := ndp (some b) })) d.length := by
      unfold mapO
      rw [g1, g2]; simp
    rw [hE]
    simp [Instr.mapUpdate, run_underlying Try.underlying52, MapKept.run_getObj_map hh, MapKept.run_checkKey Try.underlying5 (d := .int .u8) (k := .int .u8 (c.toNat : Int)) rfl, MapKept.run_findKey Try.underlying5 hn, MapKept.run_setObj_map _ hh, Result.andThen, World.putObj, k1, k2, MapKept.run_keyThatStays (d := .int .u8) (k := .int .u8 (c.toNat : Int)) rfl]

/-- Nodes lie in memory, in blocks of a kind. -/
structure Lies (w : World) (F : Nat → Option Nd) (lo : Nat → Prop) : Prop where
  node : ∀ b nd, F b = some nd → w.heap[b]? = some (.cells (cellsN nd) 54)
  map : ∀ b nd m, F b = some nd → nd.mp = some m → w.heap[m]? = some (mapO nd.dn)
  bare : ∀ b nd, F b = some nd → nd.mp = none → nd.dn = []
  apart : ∀ b nd b' nd' m, F b = some nd → F b' = some nd' → nd.mp = some m → nd'.mp = some m → b = b'
  low : ∀ b nd, F b = some nd → lo b ∧ ∀ m, nd.mp = some m → lo m
  small : ∀ b nd, F b = some nd → nd.step.size ≤ 281474976710656 ∧ Okr (rlOf nd)
theorem heap_lt {w : World} {b : Nat} {o : Obj} (h : w.heap[b]? = some o) : b < w.heap.size := (Array.getElem?_eq_some_iff.1 h).1
/-- They all lie below N. -/
def Under (F : Nat → Option Nd) (N : Nat) : Prop := ∀ b nd, F b = some nd → b < N ∧ ∀ m, nd.mp = some m → m < N
theorem Lies.under {w : World} {F : Nat → Option Nd} {lo : Nat → Prop} (h : Lies w F lo) : Under F w.heap.size := fun b nd hb => ⟨heap_lt (h.node b nd hb), fun m hm => heap_lt (h.map b nd m hb hm)⟩
theorem Lies.keep {w w' : World} {F : Nat → Option Nd} {N : Nat} {lo : Nat → Prop} (h : Lies w F lo) (u : Under F N) (g : Below N w w') : Lies w' F lo :=
  ⟨fun b nd hb => (g.block b (u b nd hb).1).trans (h.node b nd hb), fun b nd m hb hm => (g.block m ((u b nd hb).2 m hm)).trans (h.map b nd m hb hm), h.bare, h.apart, h.low, h.small⟩
theorem Lies.below {w w' : World} {F : Nat → Option Nd} {lo : Nat → Prop} (h : Lies w F lo) (g : Below w.heap.size w w') : Lies w' F lo := h.keep h.under g
/-- A node's cells. -/
structure NC (w : World) (b : Nat) (nd : Nd) : Prop where
  c0 : w.cell? ⟨b, 0, none⟩ = some (.string nd.step)
  c1 : w.cell? ⟨b, 1, none⟩ = some (.map nd.mp)
  c2 : R4 w b 2 (rlOf nd)
  c6 : w.cell? ⟨b, 6, none⟩ = some (.bool nd.rule.isSome)
theorem nc_of {w : World} {b : Nat} {nd : Nd} (h : w.heap[b]? = some (.cells (cellsN nd) 54)) : NC w b nd := by
  refine ⟨?_, ?_, ⟨?_, ?_, ?_, ?_⟩, ?_⟩ <;> simp [World.cell?, h, cellsN]
theorem fz_of {w : World} {b : Nat} {cs : Array Value} {t : TypeId} (h : w.heap[b]? = some (.cells cs t)) (i : Nat) : w.frozen? ⟨b, i, none⟩ = false := by simp [World.frozen?, h]
theorem Lies.nc {w : World} {F : Nat → Option Nd} {b : Nat} {lo : Nat → Prop} {nd : Nd} (h : Lies w F lo) (hb : F b = some nd) : NC w b nd := nc_of (h.node b nd hb)
theorem Lies.down {w : World} {F : Nat → Option Nd} {b : Nat} {lo : Nat → Prop} {nd : Nd} (h : Lies w F lo) (hb : F b = some nd) (c : UInt8) (ok : Bool) :
    (Instr.lookup 52 (.map nd.mp) (.int .u8 (c.toNat : Int)) ok).run Try.prog w = .ok (if ok then .tuple #[ndp (look nd.dn c), .bool (look nd.dn c).isSome] else ndp (look nd.dn c)) w :=
  run_down w nd.mp nd.dn c (fun m hm => h.map b nd m hb hm) (h.bare b nd hb) ok

/-- A tree in memory. -/
def TreeAt (w : World) (t : Nat) (rs : List Rl) : Prop := ∃ F R lo, w.heap[t]? = some (.cells #[ndp (some R), .int .i64 (cntT rs rs.length : Int)] 56) ∧ Lies w F lo ∧ Grove F R rs
theorem TreeAt.below {w w' : World} {t : Nat} {rs : List Rl} (h : TreeAt w t rs) (g : Below w.heap.size w w') : TreeAt w' t rs := by
  obtain ⟨F, R, lo, h1, h2, h3⟩ := h
  exact ⟨F, R, lo, (g.block t (heap_lt h1)).trans h1, h2.below g, h3⟩
end Go.Proofs.Ytekpmepcacbloaa.Wd
