/- What the document's own answers of chapter 4 are: the same as the program's; the chapter's example; for any numbers of 64 bits. -/
import Derived.Test.YtjhemadigijeiaaLeaA
namespace Go.Proofs.Ytjhemadigijeiaa.Wd
open Go.RowKit

/-- What is kept behind a decision. -/
def deK (k a b now cap v : Int) : Int := if deB a b now cap v = true then 3 else k
def deA (a b now cap v : Int) : Int := if deB a b now cap v = true then fiI a b now + v else a
def deT (a b now cap v : Int) : Int := if deB a b now cap v = true then now else b
theorem decide_any (k a b now cap v : Int) (w : World) (ha : U a) (hb : U b) (hn : U now) (hc : U cap) (hv : U v) :
    Calls Try.prog 14 #[sta k a b, .int .u64 now, .int .u64 cap, .int .u64 v] w fun e w' => e = .returned (.tuple #[sta (deK k a b now cap v) (deA a b now cap v) (deT a b now cap v), .bool (deB a b now cap v)]) ∧ Kept w w' := by
  unfold deK deA deT
  cases h : deB a b now cap v
  · exact decide_no k a b now cap v w ha hb hn hc hv h
  · exact decide_yes k a b now cap v w ha hb hn hc hv h

theorem ref_sub (a b : Int) (w : World) (ha : U a) (hb : U b) :
    Calls Try.prog 13 #[.int .u64 a, .int .u64 b] w fun e w' => e = .returned (.int .u64 (sbI a b)) ∧ w = w' := by
  unfold U at *
  by_cases c : a < b
  · have e : sbI a b = 0 := by simp [sbI, c]
    rw [e]; clear e
    go_enter Try.func13, Try.ntmps13
    go_wp2
    go_ret
    exact ⟨rfl, rfl⟩
  · have e : sbI a b = a - b := by simp [sbI, c]
    rw [e]; clear e
    go_enter Try.func13, Try.ntmps13
    go_wp2
    go_ret
    exact ⟨rfl, rfl⟩

theorem ref_fits (a b c : Int) (w : World) (ha : U a) (hb : U b) (hc : U c) :
    Calls Try.prog 20 #[.int .u64 a, .int .u64 b, .int .u64 c] w fun e w' => e = .returned (.bool (ftB a b c)) ∧ w = w' := by
  unfold U at *
  by_cases x : a ≤ c
  · have e : ftB a b c = decide (b ≤ c - a) := by unfold ftB; rw [Bool.eq_iff_iff]; simp only [decide_eq_true_eq]; omega
    rw [e]; clear e
    go_enter Try.func20, Try.ntmps20
    go_wp2
    go_ret
    exact ⟨rfl, rfl⟩
  · have e : ftB a b c = false := by unfold ftB; simp; omega
    rw [e]; clear e
    have x1 : decide (a ≤ c) = false := by simpa using x
    clear x
    go_enter Try.func20, Try.ntmps20
    go_wp2
    go_ret
    exact ⟨rfl, rfl⟩

theorem rof_any (now fill : Int) (w : World) :
    Calls Try.prog 17 #[.int .u64 now, .int .u64 fill] w fun e w' => e = .returned (sta 3 fill now) ∧ Kept w w' := by
  go_enter Try.func17, Try.ntmps17
  go_wp2
  exact bodyPost_ret (v := sta 3 fill now) (by simp [results, Try.results17, go_sem]) rfl ⟨rfl, (Kept.refl w).alloc _ _⟩

theorem rfill_any (k a b now : Int) (w : World) (ha : U a) (hb : U b) (hn : U now) :
    Calls Try.prog 16 #[sta k a b, .int .u64 now] w fun e w' => e = .returned (.int .u64 (fiI a b now)) ∧ Kept w w' := by
  have h1 := sbI_U now b hn hb
  go_enter Try.func16, Try.ntmps16
  go_wp2
  go_quiet ((go_at_call 13; first | exact still_call (ref_sub _ _ _ hn hb) | exact still_call (ref_sub _ _ _ ha h1)))
  go_wp2
  go_ret
  exact ⟨rfl, ((Kept.refl w).alloc _ _).drewN _⟩

theorem rdecide_no (k a b now cap v : Int) (w : World) (ha : U a) (hb : U b) (hn : U now) (hc : U cap) (hv : U v) (h : deB a b now cap v = false) :
    Calls Try.prog 15 #[sta k a b, .int .u64 now, .int .u64 cap, .int .u64 v] w fun e w' => e = .returned (.tuple #[sta k a b, .bool false]) ∧ Kept w w' := by
  have hf := fiI_U a b now ha hb hn
  have c1 (w : World) := rfill_any k a b now w ha hb hn
  have c2 (w : World) := ref_fits (fiI a b now) v cap w hf hv hc
  unfold deB at h
  rw [h] at c2
  have C1 := Lib.hid c1
  have C2 := Lib.hid c2
  clear c1 c2 h
  generalize fiI a b now = f at *
  go_enter Try.func15, Try.ntmps15
  go_wp2_with (first
    | (go_at_call 16; ((with_reducible refine (C1.out _).mono ?_); rintro e w1 ⟨rfl, g1⟩; obtain ⟨hc1, hf1⟩ := g1.reads))
    | (go_at_call 20; ((with_reducible refine (C2.out _).mono ?_); rintro e w2 ⟨rfl, rfl⟩)))
  exact bodyPost_ret (v := .tuple #[sta k a b, .bool false]) (by simp [results, Try.results15, go_sem, hc1]) rfl
    ⟨rfl, ((((((Kept.refl w).alloc _ _).alloc _ _).trans g1).setCell (by simp) _).setCell (by simp) _).setCell (by simp) _⟩

theorem rdecide_yes (k a b now cap v : Int) (w : World) (ha : U a) (hb : U b) (hn : U now) (hc : U cap) (hv : U v) (h : deB a b now cap v = true) :
    Calls Try.prog 15 #[sta k a b, .int .u64 now, .int .u64 cap, .int .u64 v] w fun e w' => e = .returned (.tuple #[sta 3 (fiI a b now + v) now, .bool true]) ∧ Kept w w' := by
  have hf := fiI_U a b now ha hb hn
  have c1 (w : World) := rfill_any k a b now w ha hb hn
  have c2 (w : World) := ref_fits (fiI a b now) v cap w hf hv hc
  unfold deB at h
  rw [h] at c2
  have hs : U (fiI a b now + v) := by unfold ftB at h; simp at h; unfold U at *; omega
  have C1 := Lib.hid c1
  have C2 := Lib.hid c2
  clear c1 c2 h
  generalize fiI a b now = f at *
  unfold U at hf hv hs
  go_enter Try.func15, Try.ntmps15
  go_wp2_with (first
    | (go_at_call 16; ((with_reducible refine (C1.out _).mono ?_); rintro e w1 ⟨rfl, g1⟩; obtain ⟨hc1, hf1⟩ := g1.reads; have hz1 : w.heap.size + 1 < w1.heap.size := by (have := g1.size; simp at this; omega)))
    | (go_at_call 20; ((with_reducible refine (C2.out _).mono ?_); rintro e w2 ⟨rfl, rfl⟩))
    | (go_at_call 17; ((with_reducible refine (rof_any _ _ _).mono ?_); rintro e w2 ⟨rfl, g2⟩; obtain ⟨hc2, hf2⟩ := g2.reads)))
  exact bodyPost_ret (v := .tuple #[sta 3 (f + v) now, .bool true]) (by simp [results, Try.results15, go_sem, hc1, hc2, hz1]) rfl
    ⟨rfl, (((((((Kept.refl w).alloc _ _).alloc _ _).trans g1).trans g2).setCell (by simp) _).setCell (by simp) _).setCell (by simp) _⟩

theorem rdecide_any (k a b now cap v : Int) (w : World) (ha : U a) (hb : U b) (hn : U now) (hc : U cap) (hv : U v) :
    Calls Try.prog 15 #[sta k a b, .int .u64 now, .int .u64 cap, .int .u64 v] w fun e w' => e = .returned (.tuple #[sta (deK k a b now cap v) (deA a b now cap v) (deT a b now cap v), .bool (deB a b now cap v)]) ∧ Kept w w' := by
  unfold deK deA deT
  cases h : deB a b now cap v
  · exact rdecide_no k a b now cap v w ha hb hn hc hv h
  · exact rdecide_yes k a b now cap v w ha hb hn hc hv h

theorem known_any (w : World) : Calls Try.prog 9 #[] w fun e w' => e = .returned (.bool true) ∧ Kept w w' := by
  have o1 (w : World) := of_any 5 10 8 w
  have d1 (w : World) := decide_any 3 8 5 8 10 6 w ⟨by omega, by omega⟩ ⟨by omega, by omega⟩ ⟨by omega, by omega⟩ ⟨by omega, by omega⟩ ⟨by omega, by omega⟩
  have f1 (w : World) := fill_any 3 8 5 8 10 w ⟨by omega, by omega⟩ ⟨by omega, by omega⟩ ⟨by omega, by omega⟩
  have e1 : deK 3 8 5 8 10 6 = 3 := by decide
  have e2 : deA 8 5 8 10 6 = 8 := by decide
  have e3 : deT 8 5 8 10 6 = 5 := by decide
  have e4 : deB 8 5 8 10 6 = false := by decide
  have e5 : fiI 8 5 8 = 5 := by decide
  rw [e1, e2, e3, e4] at d1
  rw [e5] at f1
  clear e1 e2 e3 e4 e5
  have O1 := Lib.hid o1
  have D1 := Lib.hid d1
  have F1 := Lib.hid f1
  clear o1 d1 f1
  go_enter Try.func9, Try.ntmps9
  go_wp2_with (first
    | (go_at_call 11; ((with_reducible refine (O1.out _).mono ?_); rintro e w1 ⟨rfl, g1⟩))
    | (go_at_call 14; ((with_reducible refine (D1.out _).mono ?_); rintro e w2 ⟨rfl, g2⟩; obtain ⟨hc2, hf2⟩ := g2.reads; have hz2 : w1.heap.size < w2.heap.size := by (have := g2.size; simp at this; omega)))
    | (go_at_call 12; ((with_reducible refine (F1.out _).mono ?_); rintro e w3 ⟨rfl, g3⟩; obtain ⟨hc3, hf3⟩ := g3.reads)))
  go_ret
  exact ⟨rfl, ((((g1.alloc _ _).trans g2).alloc _ _).trans g3)⟩
end Go.Proofs.Ytjhemadigijeiaa.Wd
