/- A queue of slots in memory: who joins it, and who leaves; no conditions but those that each names. -/
import Derived.Test.YtkfncanfgpmgaaaGreatTabU
namespace Go.Proofs.YtkfncanfgpmgaaaGreat.Wd
open Go Go.RowKit Go.Shelf
set_option linter.unusedVariables false
set_option maxRecDepth 100000

theorem Mv.here {n : Nat} {q q' : Nat → Nat} (h : Mv 0 n q q') : ∀ i, i < n → ∃ j, j < n ∧ q' j = q i := by
  induction h with
  | refl => exact fun i hi => ⟨i, hi, rfl⟩
  | xch a b _ ha hb hc hd ih =>
    intro i hi
    obtain ⟨j, hj, e⟩ := ih i hi
    by_cases e1 : j = a
    · exact ⟨b, hd, by rw [xch_r, ← e1, e]⟩
    · by_cases e2 : j = b
      · exact ⟨a, hb, by rw [xch_l, ← e2, e]⟩
      · exact ⟨j, hj, by rw [xch_o _ e1 e2, e]⟩

/-- The last one is gone. -/
theorem Que.less {w : World} {T A n cap : Nat} {q : Nat → Nat} {F : Nat → Sl × Int} (h : Que w T A (n + 1) cap q F) (hf : w.frozen? ⟨T, 3, none⟩ = false) :
    Que ((w.setCell ⟨A, n, none⟩ (.pointer none)).setCell ⟨T, 3, none⟩ (.slice (some ⟨A, 0, none⟩) n cap)) T A n cap q F := by
  obtain ⟨cur, hb, h1, h2, h3, h4⟩ := h.row
  refine ⟨?_, ⟨_, (hb.set n _).other 3 _ h.one, by simp [h1], by omega, h3, fun i hi => ?_⟩, by have := h.few; omega, fun i hi => ?_, fun i j hi hj => h.inj i j (by omega) (by omega), h.one, fun i hi => h.two i (by omega)⟩
  · exact World.cell?_setCell_same _ _ _ ((cs_other _ _ _ _ _ _ (.inl (Ne.symm h.one))).trans h.var)
  · rw [Array.getElem?_setIfInBounds_ne (by omega)]; exact h4 i (by omega)
  · exact ((h.nd i (by omega)).other n _ (h.two i (by omega)).1).other 3 _ (h.two i (by omega)).2

theorem qpop_any (T A n cap : Nat) (q : Nat → Nat) (F : Nat → Sl × Int) (w : World) (h : Que w T A (n + 1) cap q F) (hf : w.frozen? ⟨T, 3, none⟩ = false) :
    Calls Tryz.prog 212 #[.pointer (some ⟨T, 3, none⟩)] w fun e w' => e = .returned (.iface Tps (ptr (q n))) ∧ Que w' T A n cap q F ∧ Tch (fun k => k = A ∨ k = T) w w' ∧ Top3 T w w' := by
  have hcap := h.cap
  have hv := h.var
  obtain ⟨ha, hfa⟩ := h.at (show n < n + 1 by omega)
  have HL := Lib.hid (h.less hf)
  have hone := h.one
  have s1 : (w.setCell ⟨A, n, none⟩ (.pointer none)).cell? ⟨T, 3, none⟩ = some (.slice (some ⟨A, 0, none⟩) (n + 1) cap) := by rw [cs_other _ _ _ _ _ _ (.inl (Ne.symm hone))]; exact hv
  have s2 : (w.setCell ⟨A, n, none⟩ (.pointer none)).frozen? ⟨T, 3, none⟩ = false := by simp only [World.frozen?_setCell]; exact hf
  clear h
  generalize q n = B at *
  go_enter Tryz.func212, Tryz.ntmps212
  go_wp2
  go_ret
  exact ⟨rfl, HL.out, (Tch.set w A n _ (.inl rfl)).trans (Tch.set _ T 3 _ (.inr rfl)), (Top3.other w _ hone).trans (Top3.set T _ _)⟩

/-- Who stands in it. -/
def In (n : Nat) (q : Nat → Nat) (x : Nat) : Prop := ∃ k, k < n ∧ q k = x
theorem In.mv {n : Nat} {q q' : Nat → Nat} (h : Mv 0 n q q') (x : Nat) : In n q' x ↔ In n q x := by
  constructor
  · rintro ⟨k, hk, e⟩
    obtain ⟨j, _, hj, e2⟩ := h.back k (Nat.zero_le _) hk
    exact ⟨j, hj, e2.symm.trans e⟩
  · rintro ⟨k, hk, e⟩
    obtain ⟨j, hj, e2⟩ := h.here k hk
    exact ⟨j, hj, e2.trans e⟩
/-- Which blocks may be written by who joins, or leaves. -/
def QT (T A n : Nat) (q : Nat → Nat) : Nat → Prop := fun k => k = T ∨ QB A n q k
theorem fz_tch {S : Nat → Prop} {w w' : World} (h : Tch S w w') {T o : Nat} {v : Value} (hc : w.cell? ⟨T, o, none⟩ = some v) (hT : ¬ S T) : w'.frozen? ⟨T, o, none⟩ = w.frozen? ⟨T, o, none⟩ := World.frozen?_of_block (h.block T (cell_lt hc) hT)
theorem Que.out {w : World} {T A n cap : Nat} {q : Nat → Nat} {F : Nat → Sl × Int} (h : Que w T A n cap q F) : ¬ QB A n q T := by
  rintro (e | ⟨i, hi, e⟩)
  · exact h.one e.symm
  · exact (h.two i hi).2 e.symm

theorem remove_any (T A n cap i : Nat) (q : Nat → Nat) (F : Nat → Sl × Int) (w : World) (h : Que w T A (n + 1) cap q F) (hf : w.frozen? ⟨T, 3, none⟩ = false) (hi : i ≤ n) (ho : Ord (dueR F) 0 (n + 1) q) :
    Calls Tryz.prog 107 #[qif T, .int .i64 i] w fun e w' => ∃ v q', e = .returned v ∧ Que w' T A n cap q' F ∧ Ord (dueR F) 0 n q' ∧ (∀ x, In n q' x ↔ (In (n + 1) q x ∧ x ≠ q i)) ∧ Tch (QT T A (n + 1) q) w w' ∧ Top3 T w w' := by
  have hcap := h.cap
  have H := Lib.hid h
  have HO := Lib.hid ho
  have ml := m_len T _ w h.var
  by_cases hin : i = n
  · subst hin
    have mp := m_pop ⟨T, 3, none⟩ w
    have C := Lib.hid (qpop_any T A i cap q F w h hf)
    have C0 := Lib.hid (qlen_any (some ⟨A, 0, none⟩) (i + 1) cap)
    clear h ho hf
    go_enter Tryz.func107, Tryz.ntmps107
    go_wp2_with (first
      | (go_at_call 209; refine (C0.out _).mono ?_; rintro e w1 ⟨rfl, rfl⟩)
      | (go_at_call 212; refine C.out.mono ?_; rintro e w1 ⟨rfl, hQ, hg, ht⟩))
    go_ret
    refine ⟨_, q, rfl, hQ, HO.out.less, fun x => ?_, hg.mono (fun k _ hk => hk.elim (fun e => .inr (.inl e)) .inl), ht⟩
    constructor
    · rintro ⟨k, hk, e⟩
      exact ⟨⟨k, by omega, e⟩, fun e2 => by have := H.out.inj k i (by omega) (by omega) (e.trans e2); omega⟩
    · rintro ⟨⟨k, hk, e⟩, hne⟩
      exact ⟨k, by have : k ≠ i := fun x => hne (by rw [← e, x]); omega, e⟩
  · have hlt : i < n := by omega
    have e1 : ((n : Int) != (i : Int)) = true := by simp; omega
    have ms := m_swap T _ w h.var
    have C0 := Lib.hid (qlen_any (some ⟨A, 0, none⟩) (n + 1) cap)
    have C1 := Lib.hid (qswap_any T A (n + 1) cap q F i n w h (by omega) (by omega) hin)
    have HG := Lib.hid (ho.gone (dueR_tr F) hlt)
    have HT := Lib.hid h.out
    have hv := h.var
    have HE : Hid (∀ (q' : Nat → Nat), Mv 0 n (xch q i n) q' → (∀ x, In n q' x ↔ (In (n + 1) q x ∧ x ≠ q i)) ∧ q' n = q i ∧ ∀ k, QB A (n + 1) q' k → QB A (n + 1) q k) := Lib.hid (fun q' hm => by
      have m1 : Mv 0 (n + 1) q q' := (Mv.xch i n .refl (Nat.zero_le _) (by omega) (Nat.zero_le _) (by omega)).trans (hm.mono (Nat.le_refl _) (by omega))
      refine ⟨fun x => ?_, by rw [hm.out n (.inr (Nat.le_refl _)), xch_r], fun k hk => QB.of_mv m1 hk⟩
      rw [In.mv hm]
      constructor
      · rintro ⟨k, hk, e⟩
        by_cases z : k = i
        · rw [z, xch_l] at e
          exact ⟨⟨n, by omega, e⟩, fun e2 => by have := H.out.inj n i (by omega) (by omega) (e.trans e2); omega⟩
        · rw [xch_o _ z (by omega)] at e
          exact ⟨⟨k, by omega, e⟩, fun e2 => by have := H.out.inj k i (by omega) (by omega) (e.trans e2); omega⟩
      · rintro ⟨⟨k, hk, e⟩, hne⟩
        by_cases z : k = n
        · exact ⟨i, hlt, by rw [xch_l, ← z, e]⟩
        · exact ⟨k, by omega, by rw [xch_o _ (fun x => hne (by rw [← e, x])) z, e]⟩)
    clear h ho
    go_enter Tryz.func107, Tryz.ntmps107
    go_wp2_with (first
      | (go_at_call 209; refine (C0.out _).mono ?_; rintro e w1 ⟨rfl, rfl⟩)
      | (go_at_call 211; refine C1.out.mono ?_; rintro e w1 ⟨rfl, hQ1, hg1⟩; have C2 := Lib.hid (down_any T A (n + 1) cap n i F (xch q i n) w1 hQ1 (by omega) (by omega) HG.out); clear ms C1 ml)
      | (go_at_call 146; refine C2.out.mono ?_; rintro e w2 ⟨b, q2, rfl, hm2, h2t, h2f, hQ2, hg2⟩; refine stopHere ?_))
    unfold Stop
    have f2 : w2.frozen? ⟨T, 3, none⟩ = false := by
      rw [fz_tch hg2 hQ1.var (fun x => HT.out (QB.of_mv (Mv.xch i n .refl (Nat.zero_le _) (by omega) (Nat.zero_le _) (by omega)) x)), fz_tch hg1 hv HT.out]; exact hf
    have G2 : Tch (QB A (n + 1) q) w w2 := hg1.trans (hg2.mono (fun k _ hk => QB.of_mv (Mv.xch i n .refl (Nat.zero_le _) (by omega) (Nat.zero_le _) (by omega)) hk))
    obtain ⟨z1, z2, z3⟩ := HE.out q2 hm2
    have P2 : Top3 T w w2 := Top3.tch G2 HT.out (cell_lt hv)
    have T2 := hQ2.out
    have V2 := hQ2.var
    clear HG hg1 hg2 hQ1 C2
    cases b
    · have C3 := Lib.hid (up_any T A (n + 1) cap n F i q2 w2 hQ2 (by omega) hlt (h2f rfl))
      clear h2t h2f
      have HZ := Lib.hid z1
      have HZ2 := Lib.hid z2
      have HZ3 := Lib.hid z3
      clear z1 z2 z3
      go_wp2_with (go_at_call 147; refine C3.out.mono ?_; rintro e w3 ⟨rfl, q3, hm3, ho3, hQ3, hg3⟩; have f3 : w3.frozen? ⟨T, 3, none⟩ = false := (by rw [fz_tch hg3 V2 T2]; exact f2); have mp := m_pop ⟨T, 3, none⟩ w3; have C4 := Lib.hid (qpop_any T A n cap q3 F w3 hQ3 f3); refine stopHere ?_)
      unfold Stop
      clear C3
      go_wp2_with (go_at_call 212; refine C4.out.mono ?_; rintro e w4 ⟨rfl, hQ4, hg4, ht4⟩)
      go_ret
      obtain ⟨y1, y2, y3⟩ := HE.out q3 (hm2.trans hm3)
      exact ⟨_, q3, rfl, hQ4, ho3, y1, (G2.trans (hg3.mono (fun k _ hk => HZ3.out k hk))).mono (fun k _ hk => .inr hk) |>.trans (hg4.mono (fun k _ hk => hk.elim (fun e => .inr (.inl e)) .inl)), (P2.trans (Top3.tch hg3 T2 (cell_lt V2))).trans ht4⟩
    · have ho2 := Lib.hid (h2t rfl)
      have HZ := Lib.hid z1
      clear h2t h2f z1 z2 z3
      have mp := m_pop ⟨T, 3, none⟩ w2
      have C4 := Lib.hid (qpop_any T A n cap q2 F w2 hQ2 f2)
      go_wp2_with (go_at_call 212; refine C4.out.mono ?_; rintro e w4 ⟨rfl, hQ4, hg4, ht4⟩)
      go_ret
      exact ⟨_, q2, rfl, hQ4, ho2.out, HZ.out, G2.mono (fun k _ hk => .inr hk) |>.trans (hg4.mono (fun k _ hk => hk.elim (fun e => .inr (.inl e)) .inl)), P2.trans ht4⟩
end Go.Proofs.YtkfncanfgpmgaaaGreat.Wd
