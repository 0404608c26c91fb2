/- What (*node).put does; no conditions but those that each names. -/
import Derived.Test.YtekpmepcacbloaaPreF
import Derived.Laws.Cover3
namespace Go.Proofs.Ytekpmepcacbloaa.Wd
open Go Go.RowKit Go.Shelf
set_option linter.unusedVariables false
set_option maxRecDepth 100000

/-- All lies as it lay, but for some blocks, and new ones. -/
structure Tch (S : Nat → Prop) (w w' : World) : Prop where
  os : w'.os = w.os
  tape : w'.tape = w.tape
  output : w'.output = w.output
  size : w.heap.size ≤ w'.heap.size
  block : ∀ k, k < w.heap.size → ¬ S k → w'.heap[k]? = w.heap[k]?
theorem Tch.refl (S : Nat → Prop) (w : World) : Tch S w w := ⟨rfl, rfl, rfl, Nat.le_refl _, fun _ _ _ => rfl⟩
theorem Tch.trans {S : Nat → Prop} {a b c : World} (h : Tch S a b) (k : Tch S b c) : Tch S a c :=
  ⟨k.os.trans h.os, k.tape.trans h.tape, k.output.trans h.output, Nat.le_trans h.size k.size, fun i hi hn => (k.block i (Nat.lt_of_lt_of_le hi h.size) hn).trans (h.block i hi hn)⟩
theorem Tch.mono {S S' : Nat → Prop} {a b : World} (h : Tch S a b) (hs : ∀ k, k < a.heap.size → S k → S' k) : Tch S' a b := ⟨h.os, h.tape, h.output, h.size, fun k hk hn => h.block k hk (fun e => hn (hs k hk e))⟩
theorem Tch.of {S : Nat → Prop} {a b : World} (h : Below a.heap.size a b) : Tch S a b := ⟨h.os, h.tape, h.output, h.size, fun k hk _ => h.block k hk⟩
theorem Tch.below {S : Nat → Prop} {a b : World} {N : Nat} (h : Tch S a b) (hN : N ≤ a.heap.size) (hs : ∀ k, S k → N ≤ k) : Below N a b := ⟨h.os, h.tape, h.output, h.size, fun k hk => h.block k (by omega) (fun e => by have := hs k e; omega)⟩
theorem Tch.set {S : Nat → Prop} (w : World) (b i : Nat) (v : Value) (hb : S b) : Tch S w (w.setCell ⟨b, i, none⟩ v) :=
  ⟨rfl, rfl, rfl, by simp [World.setCell], fun k _ hn => Below.heap_setCell _ _ _ _ (fun e => hn (by rw [e]; exact hb))⟩
theorem Tch.put {S : Nat → Prop} (w : World) (b : Nat) (o : Obj) (hb : S b) : Tch S w (w.putObj b o) :=
  ⟨rfl, rfl, rfl, by simp, fun k _ hn => World.putObj_heap_other (fun e => hn (by rw [e]; exact hb))⟩
theorem Tch.blk {S : Nat → Prop} {a b : World} (h : Tch S a b) {k : Nat} {cs : Array Value} {t : TypeId} (hb : Blk a k cs t) (hk : ¬ S k) : Blk b k cs t := (h.block k hb.lt hk).trans hb

abbrev Tn : TypeId := 54
theorem run_map_nil (m : Option Nat) (W : World) : (binOp BinOp.eql 52 (.map m) (.map none)).run Try.prog W = .ok (.bool m.isNone) W := by
  simp [binOp, go_sem, run_equal_map_nil W _ _ _ m Try.underlying52]
theorem put_any (b x : Nat) (nd : Nd) (s : ByteArray) (w : World) (hb : Blk w b (cellsN nd) 54) (hm : ∀ m, nd.mp = some m → w.heap[m]? = some (mapO nd.dn)) (h0 : nd.mp = none → nd.dn = []) (hx : w.cell? ⟨x, 0, none⟩ = some (.string s)) (hs : 0 < s.size) (hxb : x ≠ b) :
    Calls Try.prog 29 #[.pointer (some ⟨b, 0, none⟩), .pointer (some ⟨x, 0, none⟩)] w fun e w' => e = .returned (.pointer (some ⟨x, 0, none⟩)) ∧
      ∃ m', (nd.mp = some m' ∨ (nd.mp = none ∧ m' = w.heap.size)) ∧ Blk w' b (cellsN { nd with mp := some m', dn := putD nd.dn (hdB s) x }) 54 ∧ w'.heap[m']? = some (mapO (putD nd.dn (hdB s) x)) ∧ Tch (fun k => k = b ∨ nd.mp = some k) w w' := by
  have c1 : w.cell? ⟨b, 1, none⟩ = some (.map nd.mp) := hb.cell 1
  have f1 := hb.fz 1
  have hi : s[0] = hdB s := hd_at hs
  have HS := Lib.hid hs
  have hxl : x < w.heap.size := cell_lt hx
  have hbl := hb.lt
  have HB := Lib.hid hb
  have H0 := Lib.hid h0
  have HM := Lib.hid hm
  clear hb h0 hm
  cases e : nd.mp with
  | some m =>
    rw [e] at c1
    have hk := HM.out m e
    have hmb : m ≠ b := fun g => by rw [g, HB.out] at hk; cases hk
    have kq := run_map_nil (some m)
    have k0 : (Instr.mapUpdate 52 (.map (some m)) (.int .u8 ((hdB s).toNat : Int)) (.pointer (some ⟨x, 0, none⟩))).run Try.prog w = .ok () (w.putObj m (mapO (putD nd.dn (hdB s) x))) := run_putm w m nd.dn (hdB s) x hk
    have k1 : (Instr.mapUpdate 52 (.map (some m)) (.int .u8 ((hdB s).toNat : Int)) (.pointer (some ⟨x, 0, none⟩))).run Try.prog w.drew = .ok () (w.drew.putObj m (mapO (putD nd.dn (hdB s) x))) := run_putm w.drew m nd.dn (hdB s) x hk
    have HE := Lib.hid e
    have HK := Lib.hid hk
    clear e hk
    generalize hc : hdB s = c at *
    go_enter Try.func29, Try.ntmps29
    go_wp2
    go_region
    go_wp2
    go_ret
    subst hc
    refine ⟨rfl, m, .inl rfl, ?_, World.putObj_heap_same (heap_lt HK.out), ?_⟩
    · have ec : cellsN { nd with mp := some m, dn := putD nd.dn (hdB s) x } = cellsN nd := by unfold cellsN rlOf; rw [HE.out]
      rw [ec]
      exact (World.putObj_heap_other (Ne.symm hmb)).trans HB.out
    · exact ⟨rfl, rfl, rfl, by simp, fun k _ hn => World.putObj_heap_other (fun g => hn (by rw [g]; exact .inr rfl))⟩
  | none =>
    rw [e] at c1
    have hd := H0.out e
    have HE := Lib.hid e
    have kq := run_map_nil none
    have hmm := @run_makeMap Try.prog
    clear e
    generalize hc : hdB s = c at *
    have hne : w.heap.size ≠ b := by omega
    go_enter Try.func29, Try.ntmps29
    go_wp2
    have hsz : (w.setCell ⟨b, 1, none⟩ (.map (some w.heap.size))).heap.size = w.heap.size := by simp [World.setCell]
    have hk : ((w.setCell ⟨b, 1, none⟩ (.map (some w.heap.size))).alloc (.map #[] 0)).heap[w.heap.size]? = some (mapO []) := by
      have := World.alloc_heap_new (w.setCell ⟨b, 1, none⟩ (.map (some w.heap.size))) (.map #[] 0)
      rw [hsz] at this
      exact this
    have hbk : Blk ((w.setCell ⟨b, 1, none⟩ (.map (some w.heap.size))).alloc (.map #[] 0)) b (cellsN { nd with mp := some w.heap.size, dn := putD nd.dn c x }) 54 := (HB.out.set 1 (.map (some w.heap.size))).alloc _
    have ht : Tch (fun k => k = b ∨ none = some k) w ((w.setCell ⟨b, 1, none⟩ (.map (some w.heap.size))).alloc (.map #[] 0)) := (Tch.set w b 1 _ (.inl rfl)).trans (Tch.of ((Below.refl _ _).alloc (Nat.le_refl _) _))
    have c0 : ((w.setCell ⟨b, 1, none⟩ (.map (some w.heap.size))).alloc (.map #[] 0)).cell? ⟨x, 0, none⟩ = some (.string s) := acell ((cs_other w b 1 _ x 0 (.inl hxb)).trans hx)
    generalize ((w.setCell ⟨b, 1, none⟩ (.map (some w.heap.size))).alloc (.map #[] 0)) = W at *
    have c1' : W.cell? ⟨b, 1, none⟩ = some (.map (some w.heap.size)) := hbk.cell 1
    have k0 : (Instr.mapUpdate 52 (.map (some w.heap.size)) (.int .u8 (c.toNat : Int)) (.pointer (some ⟨x, 0, none⟩))).run Try.prog W = .ok () (W.putObj w.heap.size (mapO (putD [] c x))) := run_putm W w.heap.size [] c x hk
    have k1 : (Instr.mapUpdate 52 (.map (some w.heap.size)) (.int .u8 (c.toNat : Int)) (.pointer (some ⟨x, 0, none⟩))).run Try.prog W.drew = .ok () (W.drew.putObj w.heap.size (mapO (putD [] c x))) := run_putm W.drew w.heap.size [] c x hk
    have HT := Lib.hid ht
    have HK := Lib.hid hk
    have HBK := Lib.hid hbk
    clear ht hk hbk hsz
    go_region
    go_wp2
    go_ret
    subst hc
    refine ⟨rfl, w.heap.size, .inr ⟨trivial, rfl⟩, (World.putObj_heap_other (Ne.symm hne)).trans HBK.out, ?_, ?_⟩
    · rw [hd]; exact World.putObj_heap_same (heap_lt HK.out)
    · exact ⟨HT.out.os, HT.out.tape, HT.out.output, by have := HT.out.size; simpa using this, fun k hk hn => (World.putObj_heap_other (Nat.ne_of_lt hk)).trans (HT.out.block k hk hn)⟩

/-! ### Nodes that are changed -/
/-- All blocks from n on are of that kind. -/
def Fr (P : Nat → Prop) (n : Nat) : Prop := ∀ k, n ≤ k → P k
theorem Fr.up {P : Nat → Prop} {n m : Nat} (h : Fr P n) (g : n ≤ m) : Fr P m := fun k hk => h k (Nat.le_trans g hk)
/-- A node below gets its map, or its map one more. -/
theorem Lies.change {w w' : World} {F : Nat → Option Nd} {n m' : Nat} {lo : Nat → Prop} {nd n' : Nd} (h : Lies w F lo) (hn : F n = some nd) (hm : nd.mp = some m' ∨ (nd.mp = none ∧ m' = w.heap.size)) (hb : Blk w' n (cellsN n') 54) (hmp : n'.mp = some m')
    (hmo : w'.heap[m']? = some (mapO n'.dn)) (ht : Tch (fun k => k = n ∨ nd.mp = some k) w w') (hlo : Fr lo w.heap.size) (hs : n'.step.size ≤ 281474976710656 ∧ Okr (rlOf n')) : Lies w' (upd F n n') lo := by
  have bw : ∀ b x, upd F n n' b = some x → (b = n ∧ x = n') ∨ (b ≠ n ∧ F b = some x) := fun b x hx => by
    by_cases e : b = n
    · subst e; rw [upd_same] at hx; cases hx; exact .inl ⟨rfl, rfl⟩
    · rw [upd_other _ _ e] at hx; exact .inr ⟨e, hx⟩
  have hne : ∀ b x m, F b = some x → nd.mp = some m → b ≠ m := fun b x m hx g e => by
    have h1 := h.node b x hx
    have h2 := h.map n nd m hn g
    rw [e, h2] at h1; cases h1
  have hot : ∀ b x m, b ≠ n → F b = some x → x.mp = some m → m ≠ m' := fun b x m hb hx g e => by
    subst e
    rcases hm with hm | ⟨_, hm⟩
    · exact hb (h.apart b x n nd m hx hn g hm)
    · have := heap_lt (h.map b x m hx g); omega
  refine ⟨fun b x hx => ?_, fun b x m hx g => ?_, fun b x hx g => ?_, fun b x c y m hx hy gx gy => ?_, fun b x hx => ?_, fun b x hx => ?_⟩
  · rcases bw b x hx with ⟨rfl, rfl⟩ | ⟨e, hx⟩
    · exact hb
    · exact ht.blk (h.node b x hx) (fun g => g.elim e (fun g => hne b x b hx g rfl))
  · rcases bw b x hx with ⟨rfl, rfl⟩ | ⟨e, hx⟩
    · rw [hmp] at g; cases g; exact hmo
    · have h1 := h.map b x m hx g
      refine (ht.block m (heap_lt h1) (fun k => ?_)).trans h1
      rcases k with k | k
      · subst k; rw [h.node m nd hn] at h1; cases h1
      · exact e (h.apart b x n nd m hx hn g k)
  · rcases bw b x hx with ⟨rfl, rfl⟩ | ⟨e, hx⟩
    · rw [hmp] at g; cases g
    · exact h.bare b x hx g
  · rcases bw b x hx with ⟨e, e'⟩ | ⟨e, hx'⟩
    · rcases bw c y hy with ⟨e2, _⟩ | ⟨e2, hy'⟩
      · exact e.trans e2.symm
      · rw [e', hmp] at gx; cases gx; exact absurd rfl (hot c y m' e2 hy' gy)
    · rcases bw c y hy with ⟨e2, e3⟩ | ⟨e2, hy'⟩
      · rw [e3, hmp] at gy; cases gy; exact absurd rfl (hot b x m' e hx' gx)
      · exact h.apart b x c y m hx' hy' gx gy
  · rcases bw b x hx with ⟨rfl, rfl⟩ | ⟨e, hx⟩
    · refine ⟨(h.low b nd hn).1, fun m g => ?_⟩
      rw [hmp] at g; cases g
      rcases hm with hm | ⟨_, hm⟩
      · exact (h.low b nd hn).2 m' hm
      · rw [hm]; exact hlo _ (Nat.le_refl _)
    · exact h.low b x hx
  · rcases bw b x hx with ⟨rfl, rfl⟩ | ⟨e, hx⟩
    · exact hs
    · exact h.small b x hx
/-- A node of its own, without a map. -/
theorem Lies.more {w : World} {F : Nat → Option Nd} {t : Nat} {lo : Nat → Prop} {x : Nd} (h : Lies w F lo) (hf : F t = none) (hb : Blk w t (cellsN x) 54) (hmp : x.mp = none) (hd : x.dn = []) (hlo : lo t) (hs : x.step.size ≤ 281474976710656 ∧ Okr (rlOf x)) : Lies w (upd F t x) lo := by
  have bw : ∀ b y, upd F t x b = some y → (b = t ∧ y = x) ∨ (b ≠ t ∧ F b = some y) := fun b y hy => by
    by_cases e : b = t
    · subst e; rw [upd_same] at hy; cases hy; exact .inl ⟨rfl, rfl⟩
    · rw [upd_other _ _ e] at hy; exact .inr ⟨e, hy⟩
  refine ⟨fun b y hy => ?_, fun b y m hy g => ?_, fun b y hy g => ?_, fun b y c z m hy hz gy gz => ?_, fun b y hy => ?_, fun b y hy => ?_⟩
  · rcases bw b y hy with ⟨rfl, rfl⟩ | ⟨_, hy⟩
    · exact hb
    · exact h.node b y hy
  · rcases bw b y hy with ⟨rfl, rfl⟩ | ⟨_, hy⟩
    · rw [hmp] at g; cases g
    · exact h.map b y m hy g
  · rcases bw b y hy with ⟨rfl, rfl⟩ | ⟨_, hy⟩
    · exact hd
    · exact h.bare b y hy g
  · rcases bw b y hy with ⟨rfl, rfl⟩ | ⟨_, hy⟩
    · rw [hmp] at gy; cases gy
    · rcases bw c z hz with ⟨rfl, rfl⟩ | ⟨_, hz⟩
      · rw [hmp] at gz; cases gz
      · exact h.apart b y c z m hy hz gy gz
  · rcases bw b y hy with ⟨rfl, rfl⟩ | ⟨_, hy⟩
    · exact ⟨hlo, fun m g => by rw [hmp] at g; cases g⟩
    · exact h.low b y hy
  · rcases bw b y hy with ⟨rfl, rfl⟩ | ⟨_, hy⟩
    · exact hs
    · exact h.small b y hy
/-- A node's own cells are written. -/
theorem Lies.store {w w' : World} {F : Nat → Option Nd} {n : Nat} {lo : Nat → Prop} {nd n' : Nd} (h : Lies w F lo) (hn : F n = some nd) (hmp : n'.mp = nd.mp) (hd : n'.dn = nd.dn) (hb : Blk w' n (cellsN n') 54) (ht : Tch (fun k => k = n) w w') (hs : n'.step.size ≤ 281474976710656 ∧ Okr (rlOf n')) : Lies w' (upd F n n') lo := by
  have bw : ∀ b x, upd F n n' b = some x → (b = n ∧ x = n') ∨ (b ≠ n ∧ F b = some x) := fun b x hx => by
    by_cases e : b = n
    · subst e; rw [upd_same] at hx; cases hx; exact .inl ⟨rfl, rfl⟩
    · rw [upd_other _ _ e] at hx; exact .inr ⟨e, hx⟩
  have old : ∀ b x, upd F n n' b = some x → ∃ y, F b = some y ∧ x.mp = y.mp ∧ x.dn = y.dn := fun b x hx => by
    rcases bw b x hx with ⟨rfl, rfl⟩ | ⟨e, hx⟩
    · exact ⟨nd, hn, hmp, hd⟩
    · exact ⟨x, hx, rfl, rfl⟩
  refine ⟨fun b x hx => ?_, fun b x m hx g => ?_, fun b x hx g => ?_, fun b x c y m hx hy gx gy => ?_, fun b x hx => ?_, fun b x hx => ?_⟩
  · rcases bw b x hx with ⟨rfl, rfl⟩ | ⟨e, hx⟩
    · exact hb
    · exact ht.blk (h.node b x hx) e
  · obtain ⟨y, k1, k2, k3⟩ := old b x hx
    have h1 := h.map b y m k1 (by rw [← k2]; exact g)
    rw [k3]
    exact (ht.block m (heap_lt h1) (fun e => by rw [e, h.node n nd hn] at h1; cases h1)).trans h1
  · obtain ⟨y, k1, k2, k3⟩ := old b x hx
    rw [k3]; exact h.bare b y k1 (by rw [← k2]; exact g)
  · obtain ⟨x0, k1, k2, _⟩ := old b x hx
    obtain ⟨y0, l1, l2, _⟩ := old c y hy
    exact h.apart b x0 c y0 m k1 l1 (by rw [← k2]; exact gx) (by rw [← l2]; exact gy)
  · obtain ⟨y, k1, k2, _⟩ := old b x hx
    exact ⟨(h.low b y k1).1, fun m g => (h.low b y k1).2 m (by rw [← k2]; exact g)⟩
  · rcases bw b x hx with ⟨rfl, rfl⟩ | ⟨e, hx⟩
    · exact hs
    · exact h.small b x hx
theorem upd_comm (F : Nat → Option Nd) {a b : Nat} (x y : Nd) (h : a ≠ b) : upd (upd F a x) b y = upd (upd F b y) a x := by
  funext z
  unfold upd
  by_cases e1 : z = a
  · rw [if_neg (fun g => h (e1.symm.trans g)), if_pos e1, if_pos e1]
  · rw [if_neg e1, if_neg e1]
theorem upd_four (F : Nat → Option Nd) {t n b : Nat} (t0 n' b' t' : Nd) (h1 : n ≠ t) (h2 : b ≠ t) : upd (upd (upd (upd F t t0) n n') b b') t t' = upd (upd (upd F n n') b b') t t' := by
  funext z
  unfold upd
  by_cases e1 : z = t
  · simp [e1]
  · simp [e1]
end Go.Proofs.Ytekpmepcacbloaa.Wd
