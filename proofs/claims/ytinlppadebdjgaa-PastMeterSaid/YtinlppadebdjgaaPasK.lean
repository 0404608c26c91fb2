/- The chapter's example, and the document's answers of chapter 4, for any numbers; no conditions. -/
import Derived.Test.YtinlppadebdjgaaPasJ
namespace Go.Proofs.Ytinlppadebdjgaa.Wd
open Go Go.RowKit
set_option linter.unusedVariables false

theorem kU (x : Int) (h : 0 ≤ x) (h' : x ≤ 1000) : U x := ⟨h, by omega⟩

set_option maxRecDepth 100000 in
set_option maxHeartbeats 1000000 in
theorem known_any (w : World) : Calls Try.prog 10 #[] w fun e w' => e = .returned (.bool true) ∧ Below w.heap.size w w' := by
  have eu1 : EU [(5, 8)] := by intro e he; simp at he; subst he; exact ⟨kU _ (by omega) (by omega), kU _ (by omega) (by omega)⟩
  have eu2 : EU [(5, 8), (8, 5)] := by intro e he; simp at he; rcases he with rfl | rfl <;> exact ⟨kU _ (by omega) (by omega), kU _ (by omega) (by omega)⟩
  have b0 : Below w.heap.size w (w.alloc (.cells #[.int .u64 5, .int .u64 8] 29)) := (Below.refl _ w).alloc (Nat.le_refl _) _
  have hh0 := one_hist w 5 8
  have e1 : cfB ([(5, 8)] ++ [(8, 6)]) 10 = false := by decide
  have e2 : cfB ([(5, 8)] ++ [(8, 5)]) 10 = true := by decide
  have e3 : dcL [(5, 8)] 8 10 6 = [(5, 8)] := by decide
  have e4 : dcL [(5, 8)] 8 10 5 = [(5, 8), (8, 5)] := by decide
  have e5 : flL [(5, 8)] 8 = 5 := by decide
  have e6 : cfB [(5, 8), (8, 5)] 10 = true := by decide
  have e7 : cfB [(5, 8), (8, 5)] 9 = false := by decide
  have e8 : rsB [(5, 8), (8, 5)] = true := by decide
  have d1 (w : World) (v : Value) (h : Hist w v [(5, 8)]) := pdec_any v [(5, 8)] 8 10 6 w h eu1 (by simp) (kU _ (by omega) (by omega)) (kU _ (by omega) (by omega)) (kU _ (by omega) (by omega))
  have d2 (w : World) (v : Value) (h : Hist w v [(5, 8)]) := pdec_any v [(5, 8)] 8 10 5 w h eu1 (by simp) (kU _ (by omega) (by omega)) (kU _ (by omega) (by omega)) (kU _ (by omega) (by omega))
  have f1 (w : World) (v : Value) (h : Hist w v [(5, 8)]) := h.fill eu1 (by simp) (now := 8) (kU _ (by omega) (by omega))
  have c1 (w : World) (v : Value) (h : Hist w v [(5, 8), (8, 5)]) := h.conf eu2 (by simp) (c := 10) (kU _ (by omega) (by omega))
  have c2 (w : World) (v : Value) (h : Hist w v [(5, 8), (8, 5)]) := h.conf eu2 (by simp) (c := 9) (kU _ (by omega) (by omega))
  have r1 (w : World) (v : Value) (h : Hist w v [(5, 8), (8, 5)]) := h.rises (by simp)
  rw [e1, e3] at d1
  rw [e2, e4] at d2
  rw [e5] at f1
  rw [e6] at c1
  rw [e7] at c2
  rw [e8] at r1
  have D1 := Lib.hid d1
  have D2 := Lib.hid d2
  have F1 := Lib.hid f1
  have C1 := Lib.hid c1
  have C2 := Lib.hid c2
  have R1 := Lib.hid r1
  clear e1 e2 e3 e4 e5 e6 e7 e8 d1 d2 f1 c1 c2 r1 eu1 eu2
  go_enter Try.func10, Try.ntmps10
  go_wp2_with (first
    | (go_at_call 13; ((with_reducible refine (D1.out _ _ hh0).mono ?_); rintro e w1 ⟨v1, rfl, own1, b1⟩; have hh1 := hh0.below b1; obtain ⟨g1, cp1, rfl⟩ : ∃ g cp, v1 = .slice (some ⟨g, 0, none⟩) 1 cp := ownsRow_succ own1))
    | (go_at_call 13; ((with_reducible refine (D2.out _ _ hh1).mono ?_); rintro e w2 ⟨v2, rfl, own2, b2⟩; have hh2 := hh1.below b2; have hk2 := own_hist rfl own2; obtain ⟨g2, cp2, rfl⟩ : ∃ g cp, v2 = .slice (some ⟨g, 0, none⟩) 2 cp := ownsRow_succ own2))
    | (go_at_call 15; ((with_reducible refine (F1.out _ _ hh2).mono ?_); rintro e w3 ⟨rfl, b3⟩; have hk3 := hk2.below b3))
    | (go_at_call 17; ((with_reducible refine (C1.out _ _ hk3).mono ?_); rintro e w4 ⟨rfl, b4⟩; have hk4 := hk3.below b4))
    | (go_at_call 17; ((with_reducible refine (C2.out _ _ hk4).mono ?_); rintro e w5 ⟨rfl, b5⟩; have hk5 := hk4.below b5))
    | (go_at_call 18; ((with_reducible refine (R1.out _ _ hk5).mono ?_); rintro e w6 ⟨rfl, b6⟩)))
  go_ret
  exact ⟨rfl, (((((b0.trans (b1.mono b0.size)).trans (b2.mono (Nat.le_trans b0.size b1.size))).trans (b3.mono (Nat.le_trans (Nat.le_trans b0.size b1.size) b2.size))).trans (b4.mono (Nat.le_trans (Nat.le_trans (Nat.le_trans b0.size b1.size) b2.size) b3.size))).trans (b5.mono (Nat.le_trans (Nat.le_trans (Nat.le_trans (Nat.le_trans b0.size b1.size) b2.size) b3.size) b4.size))).trans (b6.mono (Nat.le_trans (Nat.le_trans (Nat.le_trans (Nat.le_trans (Nat.le_trans b0.size b1.size) b2.size) b3.size) b4.size) b5.size))⟩

/-! ### Chapter 4, by the document -/
def fiI (a b now : Int) : Int := sbI a (sbI now b)
def deB (a b now cap v : Int) : Bool := ftB (fiI a b now) v cap
theorem fiI_U (a b now : Int) (ha : U a) (hb : U b) (hn : U now) : U (fiI a b now) := sbI_U _ _ ha (sbI_U _ _ hn hb)
/-- What is kept behind a decision. -/
def deK (k a b now cap v : Int) : Int := if deB a b now cap v = true then 3 else k
def deA (a b now cap v : Int) : Int := if deB a b now cap v = true then fiI a b now + v else a
def deT (a b now cap v : Int) : Int := if deB a b now cap v = true then now else b
theorem mof_any (now fill : Int) (w : World) :
    Calls Try.prog 28 #[.int .u64 now, .int .u64 fill] w fun e w' => e = .returned (sta 3 fill now) ∧ Kept w w' := by
  go_enter Try.func28, Try.ntmps28
  go_wp2
  exact bodyPost_ret (v := sta 3 fill now) (by simp [results, Try.results28, go_sem]) rfl ⟨rfl, (Kept.refl w).alloc _ _⟩

theorem mfill_any (k a b now : Int) (w : World) (ha : U a) (hb : U b) (hn : U now) :
    Calls Try.prog 16 #[sta k a b, .int .u64 now] w fun e w' => e = .returned (.int .u64 (fiI a b now)) ∧ Kept w w' := by
  have h1 := sbI_U now b hn hb
  go_enter Try.func16, Try.ntmps16
  go_wp2
  go_quiet ((go_at_call 20; first | exact still_call (ref_sub _ _ _ hn hb) | exact still_call (ref_sub _ _ _ ha h1)))
  go_wp2
  go_ret
  exact ⟨rfl, ((Kept.refl w).alloc _ _).drewN _⟩

theorem mdecide_no (k a b now cap v : Int) (w : World) (ha : U a) (hb : U b) (hn : U now) (hc : U cap) (hv : U v) (h : deB a b now cap v = false) :
    Calls Try.prog 14 #[sta k a b, .int .u64 now, .int .u64 cap, .int .u64 v] w fun e w' => e = .returned (.tuple #[sta k a b, .bool false]) ∧ Kept w w' := by
  have hf := fiI_U a b now ha hb hn
  have c1 (w : World) := mfill_any k a b now w ha hb hn
  have c2 (w : World) := ref_fits (fiI a b now) v cap w hf hv hc
  unfold deB at h
  rw [h] at c2
  have C1 := Lib.hid c1
  have C2 := Lib.hid c2
  clear c1 c2 h
  generalize fiI a b now = f at *
  go_enter Try.func14, Try.ntmps14
  go_wp2_with (first
    | (go_at_call 16; ((with_reducible refine (C1.out _).mono ?_); rintro e w1 ⟨rfl, g1⟩; obtain ⟨hc1, hf1⟩ := g1.reads))
    | (go_at_call 27; ((with_reducible refine (C2.out _).mono ?_); rintro e w2 ⟨rfl, rfl⟩)))
  exact bodyPost_ret (v := .tuple #[sta k a b, .bool false]) (by simp [results, Try.results14, go_sem, hc1]) rfl
    ⟨rfl, ((((((Kept.refl w).alloc _ _).alloc _ _).trans g1).setCell (by simp) _).setCell (by simp) _).setCell (by simp) _⟩

theorem mdecide_yes (k a b now cap v : Int) (w : World) (ha : U a) (hb : U b) (hn : U now) (hc : U cap) (hv : U v) (h : deB a b now cap v = true) :
    Calls Try.prog 14 #[sta k a b, .int .u64 now, .int .u64 cap, .int .u64 v] w fun e w' => e = .returned (.tuple #[sta 3 (fiI a b now + v) now, .bool true]) ∧ Kept w w' := by
  have hf := fiI_U a b now ha hb hn
  have c1 (w : World) := mfill_any k a b now w ha hb hn
  have c2 (w : World) := ref_fits (fiI a b now) v cap w hf hv hc
  unfold deB at h
  rw [h] at c2
  have hs : U (fiI a b now + v) := by unfold ftB at h; simp at h; unfold U at *; omega
  have C1 := Lib.hid c1
  have C2 := Lib.hid c2
  clear c1 c2 h
  generalize fiI a b now = f at *
  unfold U at hf hv hs
  go_enter Try.func14, Try.ntmps14
  go_wp2_with (first
    | (go_at_call 16; ((with_reducible refine (C1.out _).mono ?_); rintro e w1 ⟨rfl, g1⟩; obtain ⟨hc1, hf1⟩ := g1.reads; have hz1 : w.heap.size + 1 < w1.heap.size := by (have := g1.size; simp at this; omega)))
    | (go_at_call 27; ((with_reducible refine (C2.out _).mono ?_); rintro e w2 ⟨rfl, rfl⟩))
    | (go_at_call 28; ((with_reducible refine (mof_any _ _ _).mono ?_); rintro e w2 ⟨rfl, g2⟩; obtain ⟨hc2, hf2⟩ := g2.reads)))
  exact bodyPost_ret (v := .tuple #[sta 3 (f + v) now, .bool true]) (by simp [results, Try.results14, go_sem, hc1, hc2, hz1]) rfl
    ⟨rfl, (((((((Kept.refl w).alloc _ _).alloc _ _).trans g1).trans g2).setCell (by simp) _).setCell (by simp) _).setCell (by simp) _⟩

theorem mdecide_any (k a b now cap v : Int) (w : World) (ha : U a) (hb : U b) (hn : U now) (hc : U cap) (hv : U v) :
    Calls Try.prog 14 #[sta k a b, .int .u64 now, .int .u64 cap, .int .u64 v] w fun e w' => e = .returned (.tuple #[sta (deK k a b now cap v) (deA a b now cap v) (deT a b now cap v), .bool (deB a b now cap v)]) ∧ Kept w w' := by
  unfold deK deA deT
  cases h : deB a b now cap v
  · exact mdecide_no k a b now cap v w ha hb hn hc hv h
  · exact mdecide_yes k a b now cap v w ha hb hn hc hv h

end Go.Proofs.Ytinlppadebdjgaa.Wd
