/- What leaky's calls answer (and num's and wide's that they stand on), for any numbers of 64 bits; no conditions. -/
import Derived.Test.YtjhemadigijeiaaStaA
namespace Go.Proofs.Ytjhemadigijeiaa.Wd
open Go.RowKit

theorem less_any (ah al bh bl : Int) (w : World) :
    Calls Try.prog 23 #[.int .u64 ah, .int .u64 al, .int .u64 bh, .int .u64 bl] w fun e w' => e = .returned (.bool (ltB ah al bh bl)) ∧ w = w' := by
  by_cases h : ah = bh
  · subst h
    have e : ltB ah al ah bl = decide (al < bl) := by simp [ltB]
    rw [e]
    clear e
    go_enter Try.func23, Try.ntmps23
    go_wp2
    all_goals (go_ret; exact ⟨rfl, rfl⟩)
  · have e : ltB ah al bh bl = decide (ah < bh) := by simp [ltB, h]
    rw [e]
    clear e
    go_enter Try.func23, Try.ntmps23
    go_wp2
    all_goals (go_ret; exact ⟨rfl, rfl⟩)

theorem ret2 {k m : IntKind} {a b c d : Int} (h : a = b) (h' : c = d) : Ending.returned (.tuple #[.int k a, .int m c]) = .returned (.tuple #[.int k b, .int m d]) := by rw [h, h']

theorem addCarry_any (a b c : Int) (w : World) (ha : 0 ≤ a ∧ a ≤ 18446744073709551615) (hb : 0 ≤ b ∧ b ≤ 18446744073709551615) (hc : 0 ≤ c ∧ c ≤ 1) :
    Calls Try.prog 25 #[.int .u64 a, .int .u64 b, .int .u64 c] w fun e w' => e = .returned (.tuple #[.int .u64 ((a + b + c) % 18446744073709551616), .int .u64 ((a + b + c) / 18446744073709551616)]) ∧ w = w' := by
  go_enter Try.func25, Try.ntmps25
  go_wp2
  all_goals (go_ret2; refine ⟨ret2 ?_ ?_, rfl⟩ <;> (simp only [IntKind.wrap_u64] at *; omega))

theorem ret3 {k m : IntKind} {a b c d : Int} {p q : Bool} (h : a = b) (h' : c = d) (h'' : p = q) : Ending.returned (.tuple #[.int k a, .int m c, .bool p]) = .returned (.tuple #[.int k b, .int m d, .bool q]) := by rw [h, h', h'']

theorem add_any (ah al bh bl : Int) (w : World) (h1 : U ah) (h2 : U al) (h3 : U bh) (h4 : U bl) :
    Calls Try.prog 22 #[.int .u64 ah, .int .u64 al, .int .u64 bh, .int .u64 bl] w fun e w' => e = .returned (.tuple #[.int .u64 (adH ah al bh bl), .int .u64 (adL al bl), .bool (adC ah al bh bl)]) ∧ w = w' := by
  unfold U at *
  go_enter Try.func22, Try.ntmps22
  go_wp2_with (go_at_call 25; refine (addCarry_any _ _ _ _ (by omega) (by omega) (by omega)).mono ?_; rintro e w' ⟨rfl, rfl⟩)
  go_ret3
  refine ⟨ret3 rfl rfl ?_, rfl⟩
  rw [Bool.eq_iff_iff]
  unfold adC
  simp only [beq_iff_eq, decide_eq_true_eq]
  omega

theorem num_sub (a b : Int) (w : World) (ha : U a) (hb : U b) :
    Calls Try.prog 24 #[.int .u64 a, .int .u64 b] w fun e w' => e = .returned (.int .u64 (sbI a b)) ∧ w = w' := by
  unfold U at *
  by_cases c : a < b
  · have e : sbI a b = 0 := by simp [sbI, c]
    rw [e]; clear e
    go_enter Try.func24, Try.ntmps24
    go_wp2
    go_ret
    exact ⟨rfl, rfl⟩
  · have e : sbI a b = a - b := by simp [sbI, c]
    rw [e]; clear e
    go_enter Try.func24, Try.ntmps24
    go_wp2
    go_ret
    exact ⟨rfl, rfl⟩

theorem num_fits (a b c : Int) (w : World) (ha : U a) (hb : U b) (hc : U c) :
    Calls Try.prog 19 #[.int .u64 a, .int .u64 b, .int .u64 c] w fun e w' => e = .returned (.bool (ftB a b c)) ∧ w = w' := by
  rw [← fits_less a b c ha hb hc]
  go_enter Try.func19, Try.ntmps19
  go_wp2_with (first
    | (go_at_call 22; ((with_reducible refine (add_any _ _ _ _ _ U_zero ha U_zero hb).mono ?_); rintro e w' ⟨rfl, rfl⟩))
    | (go_at_call 23; ((with_reducible refine (less_any _ _ _ _ _).mono ?_); rintro e w' ⟨rfl, rfl⟩)))
  go_ret
  exact ⟨rfl, rfl⟩

theorem of_any (now cap fill : Int) (w : World) :
    Calls Try.prog 11 #[.int .u64 now, .int .u64 cap, .int .u64 fill] w fun e w' => e = .returned (sta 3 fill now) ∧ Kept w w' := by
  go_enter Try.func11, Try.ntmps11
  go_wp2
  exact bodyPost_ret (v := sta 3 fill now) (by simp [results, Try.results11, go_sem]) rfl ⟨rfl, (Kept.refl w).alloc _ _⟩

theorem at_any (k a b now : Int) (w : World) (ha : U a) (hb : U b) (hn : U now) :
    Calls Try.prog 21 #[.agg #[.int .u8 k, .int .u64 a, .int .u64 b], .int .u64 now] w fun e w' => e = .returned (.int .u64 (sbI a (sbI now b))) ∧ Kept w w' := by
  have h1 := sbI_U now b hn hb
  go_enter Try.func21, Try.ntmps21
  go_wp2
  go_quiet ((go_at_call 24; first | exact still_call (num_sub _ _ _ hn hb) | exact still_call (num_sub _ _ _ ha h1)))
  go_wp2
  go_ret
  exact ⟨rfl, ((Kept.refl w).alloc _ _).drewN _⟩


theorem reading_any (k a b : Int) (w : World) :
    Calls Try.prog 18 #[sta k a b] w fun e w' => e = .returned (.func (Fn.func 21) #[sta k a b] #[]) ∧ Kept w w' := by
  go_enter Try.func18, Try.ntmps18
  go_wp2
  go_ret
  exact ⟨rfl, (Kept.refl w).alloc _ _⟩

/-- How full a meter is. -/
def fiI (a b now : Int) : Int := sbI a (sbI now b)
theorem fiI_U (a b now : Int) (ha : U a) (hb : U b) (hn : U now) : U (fiI a b now) := sbI_U _ _ ha (sbI_U _ _ hn hb)

theorem fill_any (k a b now cap : Int) (w : World) (ha : U a) (hb : U b) (hn : U now) :
    Calls Try.prog 12 #[sta k a b, .int .u64 now, .int .u64 cap] w fun e w' => e = .returned (.int .u64 (fiI a b now)) ∧ Kept w w' := by
  go_enter Try.func12, Try.ntmps12
  go_wp2_with (first
    | (go_at_call 18; ((with_reducible refine (reading_any _ _ _ _).mono ?_); rintro e w1 ⟨rfl, g1⟩))
    | (go_at_call 21; ((with_reducible refine (at_any _ _ _ _ _ ha hb hn).mono ?_); rintro e w2 ⟨rfl, g2⟩)))
  go_ret
  exact ⟨rfl, (((Kept.refl w).alloc _ _).trans g1).trans g2⟩

/-- What is decided: whether it comes in, and what is kept. -/
def deB (a b now cap v : Int) : Bool := ftB (fiI a b now) v cap

theorem decide_no (k a b now cap v : Int) (w : World) (ha : U a) (hb : U b) (hn : U now) (hc : U cap) (hv : U v) (h : deB a b now cap v = false) :
    Calls Try.prog 14 #[sta k a b, .int .u64 now, .int .u64 cap, .int .u64 v] w fun e w' => e = .returned (.tuple #[sta k a b, .bool false]) ∧ Kept w w' := by
  have hf := fiI_U a b now ha hb hn
  have c1 (w : World) := fill_any k a b now cap w ha hb hn
  have c2 (w : World) := num_fits (fiI a b now) v cap w hf hv hc
  unfold deB at h
  rw [h] at c2
  have C1 := Lib.hid c1
  have C2 := Lib.hid c2
  clear c1 c2 h
  generalize fiI a b now = f at *
  go_enter Try.func14, Try.ntmps14
  go_wp2_with (first
    | (go_at_call 12; ((with_reducible refine (C1.out _).mono ?_); rintro e w1 ⟨rfl, g1⟩; obtain ⟨hc1, hf1⟩ := g1.reads))
    | (go_at_call 19; ((with_reducible refine (C2.out _).mono ?_); rintro e w2 ⟨rfl, rfl⟩)))
  exact bodyPost_ret (v := .tuple #[sta k a b, .bool false]) (by simp [results, Try.results14, go_sem, hc1]) rfl
    ⟨rfl, ((((((Kept.refl w).alloc _ _).alloc _ _).trans g1).setCell (by simp) _).setCell (by simp) _).setCell (by simp) _⟩

theorem decide_yes (k a b now cap v : Int) (w : World) (ha : U a) (hb : U b) (hn : U now) (hc : U cap) (hv : U v) (h : deB a b now cap v = true) :
    Calls Try.prog 14 #[sta k a b, .int .u64 now, .int .u64 cap, .int .u64 v] w fun e w' => e = .returned (.tuple #[sta 3 (fiI a b now + v) now, .bool true]) ∧ Kept w w' := by
  have hf := fiI_U a b now ha hb hn
  have c1 (w : World) := fill_any k a b now cap w ha hb hn
  have c2 (w : World) := num_fits (fiI a b now) v cap w hf hv hc
  unfold deB at h
  rw [h] at c2
  have hs : U (fiI a b now + v) := by unfold ftB at h; simp at h; unfold U at *; omega
  have C1 := Lib.hid c1
  have C2 := Lib.hid c2
  clear c1 c2 h
  generalize fiI a b now = f at *
  unfold U at hf hv hs
  go_enter Try.func14, Try.ntmps14
  go_wp2_with (first
    | (go_at_call 12; ((with_reducible refine (C1.out _).mono ?_); rintro e w1 ⟨rfl, g1⟩; obtain ⟨hc1, hf1⟩ := g1.reads; have hz1 : w.heap.size + 1 < w1.heap.size := by (have := g1.size; simp at this; omega)))
    | (go_at_call 19; ((with_reducible refine (C2.out _).mono ?_); rintro e w2 ⟨rfl, rfl⟩))
    | (go_at_call 11; ((with_reducible refine (of_any _ _ _ _).mono ?_); rintro e w2 ⟨rfl, g2⟩; obtain ⟨hc2, hf2⟩ := g2.reads)))
  exact bodyPost_ret (v := .tuple #[sta 3 (f + v) now, .bool true]) (by simp [results, Try.results14, go_sem, hc1, hc2, hz1]) rfl
    ⟨rfl, (((((((Kept.refl w).alloc _ _).alloc _ _).trans g1).trans g2).setCell (by simp) _).setCell (by simp) _).setCell (by simp) _⟩
end Go.Proofs.Ytjhemadigijeiaa.Wd
