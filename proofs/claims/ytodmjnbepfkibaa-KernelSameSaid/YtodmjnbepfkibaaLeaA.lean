/- What leaky's calls answer, for any numbers of 64 bits; no conditions. -/
import Derived.Test.YtodmjnbepfkibaaNumC
namespace Go.Proofs.Ytodmjnbepfkibaa.Wd
open Go.RowKit

theorem of_any (now cap fill : Int) (w : World) :
    Calls Try.prog 54 #[.int .u64 now, .int .u64 cap, .int .u64 fill] w fun e w' => e = .returned (sta 3 fill now) ∧ Kept w w' := by
  go_enter Try.func54, Try.ntmps54
  go_wp2
  exact bodyPost_ret (v := sta 3 fill now) (by simp [results, Try.results54, go_sem]) rfl ⟨rfl, (Kept.refl w).alloc _ _⟩

theorem at_any (k a b now : Int) (w : World) (ha : U a) (hb : U b) (hn : U now) :
    Calls Try.prog 67 #[.agg #[.int .u8 k, .int .u64 a, .int .u64 b], .int .u64 now] w fun e w' => e = .returned (.int .u64 (sbI a (sbI now b))) ∧ Kept w w' := by
  have h1 := sbI_U now b hn hb
  go_enter Try.func67, Try.ntmps67
  go_wp2
  go_quiet ((go_at_call 34; first | exact still_call (num_sub _ _ _ hn hb) | exact still_call (num_sub _ _ _ ha h1)))
  go_wp2
  go_ret
  exact ⟨rfl, ((Kept.refl w).alloc _ _).drewN _⟩


theorem reading_any (k a b : Int) (w : World) :
    Calls Try.prog 64 #[sta k a b] w fun e w' => e = .returned (.func (Fn.func 67) #[sta k a b] #[]) ∧ Kept w w' := by
  go_enter Try.func64, Try.ntmps64
  go_wp2
  go_ret
  exact ⟨rfl, (Kept.refl w).alloc _ _⟩

/-- How full a meter is. -/
def fiI (a b now : Int) : Int := sbI a (sbI now b)
theorem fiI_U (a b now : Int) (ha : U a) (hb : U b) (hn : U now) : U (fiI a b now) := sbI_U _ _ ha (sbI_U _ _ hn hb)

theorem fill_any (k a b now cap : Int) (w : World) (ha : U a) (hb : U b) (hn : U now) :
    Calls Try.prog 55 #[sta k a b, .int .u64 now, .int .u64 cap] w fun e w' => e = .returned (.int .u64 (fiI a b now)) ∧ Kept w w' := by
  go_enter Try.func55, Try.ntmps55
  go_wp2_with (first
    | (go_at_call 64; ((with_reducible refine (reading_any _ _ _ _).mono ?_); rintro e w1 ⟨rfl, g1⟩))
    | (go_at_call 67; ((with_reducible refine (at_any _ _ _ _ _ ha hb hn).mono ?_); rintro e w2 ⟨rfl, g2⟩)))
  go_ret
  exact ⟨rfl, (((Kept.refl w).alloc _ _).trans g1).trans g2⟩

/-- What is decided: whether it comes in, and what is kept. -/
def deB (a b now cap v : Int) : Bool := ftB (fiI a b now) v cap

theorem decide_no (k a b now cap v : Int) (w : World) (ha : U a) (hb : U b) (hn : U now) (hc : U cap) (hv : U v) (h : deB a b now cap v = false) :
    Calls Try.prog 56 #[sta k a b, .int .u64 now, .int .u64 cap, .int .u64 v] w fun e w' => e = .returned (.tuple #[sta k a b, .bool false]) ∧ Kept w w' := by
  have hf := fiI_U a b now ha hb hn
  have c1 (w : World) := fill_any k a b now cap w ha hb hn
  have c2 (w : World) := num_fits (fiI a b now) v cap w hf hv hc
  unfold deB at h
  rw [h] at c2
  have C1 := Lib.hid c1
  have C2 := Lib.hid c2
  clear c1 c2 h
  generalize fiI a b now = f at *
  go_enter Try.func56, Try.ntmps56
  go_wp2_with (first
    | (go_at_call 55; ((with_reducible refine (C1.out _).mono ?_); rintro e w1 ⟨rfl, g1⟩; obtain ⟨hc1, hf1⟩ := g1.reads))
    | (go_at_call 31; ((with_reducible refine (C2.out _).mono ?_); rintro e w2 ⟨rfl, rfl⟩)))
  exact bodyPost_ret (v := .tuple #[sta k a b, .bool false]) (by simp [results, Try.results56, go_sem, hc1]) rfl
    ⟨rfl, ((((((Kept.refl w).alloc _ _).alloc _ _).trans g1).setCell (by simp) _).setCell (by simp) _).setCell (by simp) _⟩

theorem decide_yes (k a b now cap v : Int) (w : World) (ha : U a) (hb : U b) (hn : U now) (hc : U cap) (hv : U v) (h : deB a b now cap v = true) :
    Calls Try.prog 56 #[sta k a b, .int .u64 now, .int .u64 cap, .int .u64 v] w fun e w' => e = .returned (.tuple #[sta 3 (fiI a b now + v) now, .bool true]) ∧ Kept w w' := by
  have hf := fiI_U a b now ha hb hn
  have c1 (w : World) := fill_any k a b now cap w ha hb hn
  have c2 (w : World) := num_fits (fiI a b now) v cap w hf hv hc
  unfold deB at h
  rw [h] at c2
  have hs : U (fiI a b now + v) := by unfold ftB at h; simp at h; unfold U at *; omega
  have C1 := Lib.hid c1
  have C2 := Lib.hid c2
  clear c1 c2 h
  generalize fiI a b now = f at *
  unfold U at hf hv hs
  go_enter Try.func56, Try.ntmps56
  go_wp2_with (first
    | (go_at_call 55; ((with_reducible refine (C1.out _).mono ?_); rintro e w1 ⟨rfl, g1⟩; obtain ⟨hc1, hf1⟩ := g1.reads; have hz1 : w.heap.size + 1 < w1.heap.size := by (have := g1.size; simp at this; omega)))
    | (go_at_call 31; ((with_reducible refine (C2.out _).mono ?_); rintro e w2 ⟨rfl, rfl⟩))
    | (go_at_call 54; ((with_reducible refine (of_any _ _ _ _).mono ?_); rintro e w2 ⟨rfl, g2⟩; obtain ⟨hc2, hf2⟩ := g2.reads)))
  exact bodyPost_ret (v := .tuple #[sta 3 (f + v) now, .bool true]) (by simp [results, Try.results56, go_sem, hc1, hc2, hz1]) rfl
    ⟨rfl, (((((((Kept.refl w).alloc _ _).alloc _ _).trans g1).trans g2).setCell (by simp) _).setCell (by simp) _).setCell (by simp) _⟩
end Go.Proofs.Ytodmjnbepfkibaa.Wd
