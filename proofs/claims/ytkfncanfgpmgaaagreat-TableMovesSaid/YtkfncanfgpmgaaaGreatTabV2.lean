/- A queue of slots in memory: join and leave, walked; no conditions but those that each names. -/
import Derived.Test.YtkfncanfgpmgaaaGreatTabV
namespace Go.Proofs.YtkfncanfgpmgaaaGreat.Wd
open Go Go.RowKit Go.Shelf Go.Deep
set_option linter.unusedVariables false
set_option maxRecDepth 100000

theorem gb_set (w : World) (b o : Nat) (v : Value) : w.grownBy (w.setCell ⟨b, o, none⟩ v) (some b) := ⟨rfl, rfl, rfl, by simp [World.setCell], fun k _ hn => Below.heap_setCell _ _ _ _ (fun e => hn (by rw [e]))⟩
theorem Fresh.untyped {w : World} {T n : Nat} {q : Nat → Nat} {F : Nat → Sl × Int} {x : Nat} {p : Int} (h : Fresh w T n q F x p) {cs : Array Value} (hb : Blk w x cs Tps) : False := by
  have nt : ¬ (Tps = Tsl) := by decide
  have hb' : w.heap[x]? = some (.cells (kcs (F x) p) Tsl) := h.blk
  have hc' : w.heap[x]? = some (.cells cs Tps) := hb
  rw [hc'] at hb'
  injection hb' with hb'
  injection hb' with _ e2
  exact nt e2
theorem as_slot (x : Nat) (w : World) : (Instr.typeAssert (.iface Tps (ptr x)) 20 Tps false).run Tryz.prog w = .ok (ptr x) w := by kernel_rfl

theorem qpush_any (T n x : Nat) (q : Nat → Nat) (F : Nat → Sl × Int) (p : Int) (B : Nat → Prop) (w : World) (h : Qub w T n q F B) (hf : w.frozen? ⟨T, 3, none⟩ = false) (hx : Fresh w T n q F x p) (hT : ∀ cs, ¬ Blk w T cs Tps) (hB : B x) (hn : n + 1 ≤ 1099511627776) :
    Calls Tryz.prog 213 #[.pointer (some ⟨T, 3, none⟩), .iface Tps (ptr x)] w fun e w' => e = .returned (.tuple #[]) ∧ (∃ A cap, Que w' T A (n + 1) cap (qpu q n x) F ∧ Nx B w A) ∧ Tch B w w' ∧ Top3 T w w' := by
  obtain ⟨v, hv, hl, hown, hnd, hin, htw, hob⟩ : ∃ v, w.cell? ⟨T, 3, none⟩ = some v ∧ (∃ a c, v = .slice a n c) ∧ w.ownsRow 0 Tps 1 v n (qrow q n) ∧ (∀ i, i < n → Blk w (q i) (kcs (F (q i)) i) Tsl) ∧ (∀ i j, i < n → j < n → q i = q j → i = j) ∧ (∀ i, i < n → q i ≠ T) ∧ (∀ a, v.ownBlock = some a → (∃ cs, Blk w a cs Tps) ∧ B a) := by
    rcases h.que with ⟨A, cap, hQ, hA⟩ | ⟨h0, hv⟩
    · refine ⟨_, hQ.var, ⟨_, _, rfl⟩, hQ.owns, hQ.nd, hQ.inj, fun i hi => (hQ.two i hi).2, fun a ha => ?_⟩
      rw [ownb] at ha
      injection ha with ha
      obtain ⟨cur, hb, _⟩ := hQ.row
      exact ⟨⟨cur, ha ▸ hb⟩, ha ▸ hA⟩
    · subst h0
      exact ⟨_, hv, ⟨_, _, rfl⟩, World.ownsRow_nil _ _ _ _, fun i hi => absurd hi (Nat.not_lt_zero _), fun i j hi => absurd hi (Nat.not_lt_zero _), fun i hi => absurd hi (Nat.not_lt_zero _), fun a ha => by cases ha⟩
  obtain ⟨a0, c0, rfl⟩ := hl
  have p0 := hx.blk.cell 9
  have p1 := hx.blk.fz 9
  have hTop := h.top
  have HX := Lib.hid hx
  have c9 : w.cell? ⟨x, 9, none⟩ = some (.int .i64 p) := p0
  have s1 : (w.setCell ⟨x, 9, none⟩ (.int .i64 n)).cell? ⟨T, 3, none⟩ = some (.slice a0 n c0) := by rw [cs_other _ _ _ _ _ _ (.inl (Ne.symm hx.ne))]; exact hv
  have HV := Lib.hid hv
  have HO := Lib.hid hown
  have HN := Lib.hid hnd
  have HI := Lib.hid hin
  have HW := Lib.hid htw
  have HB := Lib.hid hob
  clear h hx hown hnd hin htw hob p0
  obtain ⟨i0, hi, hy0, hy1, hy2⟩ := info_parts zeroPs
  go_enter Tryz.func213, Tryz.ntmps213
  have hta := as_slot x w
  go_wp2_with (at_builtin; refine wpList_append_lies _ rfl _ _ 82 rfl 0 Tps i0 (.pointer none) 1 8 Tryz.underlying82 hi hy0 hy1 hy2 rfl (by decide) (.slice a0 n c0) n (qrow q n) rfl ?o ⟨w.heap.size, 0, none⟩ 1 1 [ptr x] rfl rfl ?c1 ?c2 (by decide) (by unfold maxLen; omega) (by omega) (Nat.zero_le _) _ rfl ?_)
  case o =>
    refine (HO.out.kept (row := some x) (gb_set w x 9 _) ?_).alloc _
    cases e : (Value.slice a0 n c0).ownBlock with
    | none => exact .inl rfl
    | some a =>
      refine .inr fun e2 => ?_
      injection e2 with e2
      obtain ⟨⟨cs, hb⟩, _⟩ := HB.out a e
      rw [e2] at hb
      exact HX.out.untyped hb
  case c1 =>
    intro j u hu
    match j, hu with
    | 0, hu => simp at hu; subst hu; have z := (Blk.new (w.setCell ⟨x, 9, none⟩ (.int .i64 n)) #[ptr x] Tps).cell 0; simpa [Addr.add, World.setCell] using z
    | j + 1, hu => simp at hu
  case c2 =>
    intro u hu
    simp at hu; subst hu; rfl
  · intro g cap w2 own grow hg hgs
    have hgT : ∀ k, k < w.heap.size → k ≠ x → (Value.slice a0 n c0).ownBlock ≠ some k → w2.heap[k]? = w.heap[k]? := fun k hk hx ho =>
      (grow.block k (by simp; omega) (fun e => ho e.symm)).trans (((Below.refl _ _).alloc (Nat.le_refl _) _ |>.block k (by simpa using hk)).trans (Below.heap_setCell _ _ _ _ hx))
    have hTn : (Value.slice a0 n c0).ownBlock ≠ some T := fun e => by
      obtain ⟨⟨cs, hb⟩, _⟩ := HB.out T e
      exact hT cs hb
    have hT2 := hgT T (cell_lt hv) (Ne.symm HX.out.ne) hTn
    have t3 : w2.cell? ⟨T, 3, none⟩ = some (.slice a0 n c0) := (World.cell?_of_block hT2).trans hv
    have f3 : w2.frozen? ⟨T, 3, none⟩ = false := (World.frozen?_of_block hT2).trans hf
    have Z := Lib.hid (que_push p rfl HX.out HV.out HN.out HI.out HW.out hn own grow (fun a ha => (HB.out a ha).1) (by simpa using hg) hT)
    have Y : Tch B w w2 := ⟨grow.os, grow.tape, grow.output, by have := grow.size; simp at this; omega, fun k hk hn => hgT k hk (fun e => hn (e ▸ hB)) (fun e => hn (HB.out k e).2)⟩
    have X : Nx B w g := by
      rcases hg with e | e
      · exact .inl (HB.out g e).2
      · exact .inr (by rw [e]; simp)
    have P3 : Top3 T w w2 := Top3.same hT2
    clear own grow hg hgs hgT hT2 hv
    go_wp2
    go_end0
    exact ⟨rfl, ⟨g, cap, Z.out, X⟩, Y.trans (Tch.set _ T 3 _ hTop), P3.trans (Top3.set T _ _)⟩

theorem tch_nx {B : Nat → Prop} {a b : World} (h : Tch B a b) : Tch (Nx B a) a b := h.mono (fun _ _ x => .inl x)
/-- In a queue that stands right one more. -/
theorem hpush_any (T n x : Nat) (q : Nat → Nat) (F : Nat → Sl × Int) (p : Int) (B : Nat → Prop) (w : World) (h : Qub w T n q F B) (ho : Ord (dueR F) 0 n q) (hf : w.frozen? ⟨T, 3, none⟩ = false) (hx : Fresh w T n q F x p) (hT : ∀ cs, ¬ Blk w T cs Tps) (hB : B x) (hn : n + 1 ≤ 1099511627776) :
    Calls Tryz.prog 143 #[qif T, .iface Tps (ptr x)] w fun e w' => e = .returned (.tuple #[]) ∧ (∃ q', Qub w' T (n + 1) q' F (Nx B w) ∧ Ord (dueR F) 0 (n + 1) q' ∧ ∀ y, In (n + 1) q' y ↔ (In n q y ∨ y = x)) ∧ Tch B w w' ∧ Top3 T w w' := by
  have C := Lib.hid (qpush_any T n x q F p B w h hf hx hT hB hn)
  have mp := m_push ⟨T, 3, none⟩ w
  have HT := Lib.hid h.top
  have HM := Lib.hid h.mem
  have HO : Hid (Ord (dueR F) 0 n (qpu q n x)) := Lib.hid (fun k h0 hk hl => by
    have := par_lt h0
    rw [qpu_o _ _ _ (by omega), qpu_o _ _ _ (by omega)]; exact ho k h0 hk hl)
  clear h ho hx hf
  go_enter Tryz.func143, Tryz.ntmps143
  go_wp2_with (go_at_call 213; refine C.out.mono ?_; rintro e w1 ⟨rfl, ⟨A, cap, hQ, hA⟩, hg, hp⟩; refine stopHere ?_)
  unfold Stop
  have ml := m_len T _ w1 hQ.var
  have C0 := Lib.hid (qlen_any (some ⟨A, 0, none⟩) (n + 1) cap)
  have C2 := Lib.hid (up_any T A (n + 1) cap (n + 1) F n (qpu q n x) w1 hQ (Nat.le_refl _) (by omega) HO.out.more)
  have HQ := Lib.hid hQ
  clear C mp hQ
  go_wp2_with (first
    | (go_at_call 209; refine (C0.out _).mono ?_; rintro e w2 ⟨rfl, rfl⟩)
    | (go_at_call 147; refine C2.out.mono ?_; rintro e w3 ⟨rfl, q', hm, ho', hQ', hg'⟩))
  go_end0
  have hmem : ∀ y, In (n + 1) q' y ↔ (In n q y ∨ y = x) := fun y => by
    rw [In.mv hm]
    constructor
    · rintro ⟨k, hk, e⟩
      by_cases z : k = n
      · rw [z, qpu_n] at e; exact .inr e.symm
      · rw [qpu_o _ _ _ z] at e; exact .inl ⟨k, by omega, e⟩
    · rintro (⟨k, hk, e⟩ | e)
      · exact ⟨k, by omega, by rw [qpu_o _ _ _ (by omega)]; exact e⟩
      · exact ⟨n, by omega, by rw [qpu_n]; exact e.symm⟩
  have hq : ∀ k, k < n + 1 → Nx B w (q' k) := fun k hk => by
    rcases (hmem (q' k)).1 ⟨k, hk, rfl⟩ with ⟨j, hj, e⟩ | e
    · rw [← e]; exact .inl (HM.out j hj)
    · rw [e]; exact .inl hB
  refine ⟨rfl, ⟨q', ⟨.inl ⟨A, cap, hQ', hA⟩, hq, .inl HT.out⟩, ho', hmem⟩, hg.next (hg'.mono (fun k _ hk => ?_)), hp.trans (Top3.tch hg' HQ.out.out (cell_lt HQ.out.var))⟩
  rcases hk with e | ⟨i, hi, e⟩
  · rw [e]; exact hA
  · obtain ⟨j, hj, e2⟩ := hm.here i hi
    rw [e, ← e2]; exact hq j hj

/-- One joins. -/
theorem qjoin_any (T n x : Nat) (q : Nat → Nat) (F : Nat → Sl × Int) (p : Int) (B : Nat → Prop) (w : World) (h : Qub w T n q F B) (ho : Ord (dueR F) 0 n q) (hf : w.frozen? ⟨T, 3, none⟩ = false) (hx : Fresh w T n q F x p) (hT : ∀ cs, ¬ Blk w T cs Tps) (hB : B x) (hn : n + 1 ≤ 1099511627776) :
    Calls Tryz.prog 102 #[.pointer (some ⟨T, 3, none⟩), ptr x] w fun e w' => e = .returned (.tuple #[]) ∧ (∃ q', Qub w' T (n + 1) q' F (Nx B w) ∧ Ord (dueR F) 0 (n + 1) q' ∧ ∀ y, In (n + 1) q' y ↔ (In n q y ∨ y = x)) ∧ Tch B w w' ∧ Top3 T w w' := by
  have C := Lib.hid (hpush_any T n x q F p B w h ho hf hx hT hB hn)
  clear h ho hx hf hT hB
  go_enter Tryz.func102, Tryz.ntmps102
  go_wp2_with (go_at_call 143; refine C.out.mono ?_; rintro e w1 ⟨rfl, hr⟩)
  go_end0
  exact ⟨rfl, hr⟩

/-- One leaves. -/
theorem qleave_any (T n i : Nat) (q : Nat → Nat) (F : Nat → Sl × Int) (B : Nat → Prop) (w : World) (h : Qub w T (n + 1) q F B) (ho : Ord (dueR F) 0 (n + 1) q) (hf : w.frozen? ⟨T, 3, none⟩ = false) (hi : i < n + 1) :
    Calls Tryz.prog 71 #[.pointer (some ⟨T, 3, none⟩), ptr (q i)] w fun e w' => e = .returned (.tuple #[]) ∧ (∃ q', Qub w' T n q' F B ∧ Ord (dueR F) 0 n q' ∧ ∀ y, In n q' y ↔ (In (n + 1) q y ∧ y ≠ q i)) ∧ Tch B w w' ∧ Top3 T w w' := by
  rcases h.que with ⟨A, cap, hQ, hA⟩ | ⟨h0, _⟩
  · have C := Lib.hid (remove_any T A n cap i q F w hQ hf (by omega) ho)
    have p1 := (hQ.place hi).1
    have HM := Lib.hid h.mem
    have HT := Lib.hid h.top
    clear h ho hQ hf
    generalize hb : q i = b at *
    go_enter Tryz.func71, Tryz.ntmps71
    go_wp2_with (go_at_call 107; refine C.out.mono ?_; rintro e w1 ⟨v, q', rfl, hQ', ho', hm, hg, hp⟩)
    go_end0
    have hq : ∀ k, k < n → B (q' k) := fun k hk => by
      obtain ⟨⟨j, hj, e⟩, _⟩ := (hm (q' k)).1 ⟨k, hk, rfl⟩
      rw [← e]; exact HM.out j hj
    refine ⟨rfl, ⟨q', ⟨.inl ⟨A, cap, hQ', hA⟩, hq, HT.out⟩, ho', hm⟩, hg.mono (fun k _ hk => ?_), hp⟩
    rcases hk with e | e | ⟨j, hj, e⟩
    · rw [e]; exact HT.out
    · rw [e]; exact hA
    · rw [e]; exact HM.out j hj
  · omega
end Go.Proofs.YtkfncanfgpmgaaaGreat.Wd
