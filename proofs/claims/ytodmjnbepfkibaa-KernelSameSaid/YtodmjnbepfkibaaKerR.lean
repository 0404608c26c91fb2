/- What the document's own answers of chapters 4, 5 and 6 are: the same as the program's; for any numbers of 64 bits; no conditions. -/
import Derived.Test.YtodmjnbepfkibaaLeaA
import Derived.Test.YtodmjnbepfkibaaBucA
import Derived.Test.YtodmjnbepfkibaaGcrA
import Derived.Test.YtodmjnbepfkibaaRefC
namespace Go.Proofs.Ytodmjnbepfkibaa.Wd
open Go.RowKit
set_option linter.unusedVariables false

/-! ### Chapter 4 -/


/-- What is kept behind a decision. -/
def deK (k a b now cap v : Int) : Int := if deB a b now cap v = true then 3 else k
def deA (a b now cap v : Int) : Int := if deB a b now cap v = true then fiI a b now + v else a
def deT (a b now cap v : Int) : Int := if deB a b now cap v = true then now else b
theorem decide_any (k a b now cap v : Int) (w : World) (ha : U a) (hb : U b) (hn : U now) (hc : U cap) (hv : U v) :
    Calls Try.prog 56 #[sta k a b, .int .u64 now, .int .u64 cap, .int .u64 v] w fun e w' => e = .returned (.tuple #[sta (deK k a b now cap v) (deA a b now cap v) (deT a b now cap v), .bool (deB a b now cap v)]) ∧ Kept w w' := by
  unfold deK deA deT
  cases h : deB a b now cap v
  · exact decide_no k a b now cap v w ha hb hn hc hv h
  · exact decide_yes k a b now cap v w ha hb hn hc hv h

theorem lrof_any (now fill : Int) (w : World) :
    Calls Try.prog 40 #[.int .u64 now, .int .u64 fill] w fun e w' => e = .returned (sta 3 fill now) ∧ Kept w w' := by
  go_enter Try.func40, Try.ntmps40
  go_wp2
  exact bodyPost_ret (v := sta 3 fill now) (by simp [results, Try.results40, go_sem]) rfl ⟨rfl, (Kept.refl w).alloc _ _⟩

theorem lrfill_any (k a b now : Int) (w : World) (ha : U a) (hb : U b) (hn : U now) :
    Calls Try.prog 44 #[sta k a b, .int .u64 now] w fun e w' => e = .returned (.int .u64 (fiI a b now)) ∧ Kept w w' := by
  have h1 := sbI_U now b hn hb
  go_enter Try.func44, Try.ntmps44
  go_wp2
  go_quiet ((go_at_call 47; first | exact still_call (ref_sub _ _ _ hn hb) | exact still_call (ref_sub _ _ _ ha h1)))
  go_wp2
  go_ret
  exact ⟨rfl, ((Kept.refl w).alloc _ _).drewN _⟩

theorem lrdecide_no (k a b now cap v : Int) (w : World) (ha : U a) (hb : U b) (hn : U now) (hc : U cap) (hv : U v) (h : deB a b now cap v = false) :
    Calls Try.prog 37 #[sta k a b, .int .u64 now, .int .u64 cap, .int .u64 v] w fun e w' => e = .returned (.tuple #[sta k a b, .bool false]) ∧ Kept w w' := by
  have hf := fiI_U a b now ha hb hn
  have c1 (w : World) := lrfill_any k a b now w ha hb hn
  have c2 (w : World) := ref_fits (fiI a b now) v cap w hf hv hc
  unfold deB at h
  rw [h] at c2
  have C1 := Lib.hid c1
  have C2 := Lib.hid c2
  clear c1 c2 h
  generalize fiI a b now = f at *
  go_enter Try.func37, Try.ntmps37
  go_wp2_with (first
    | (go_at_call 44; ((with_reducible refine (C1.out _).mono ?_); rintro e w1 ⟨rfl, g1⟩; obtain ⟨hc1, hf1⟩ := g1.reads))
    | (go_at_call 41; ((with_reducible refine (C2.out _).mono ?_); rintro e w2 ⟨rfl, rfl⟩)))
  exact bodyPost_ret (v := .tuple #[sta k a b, .bool false]) (by simp [results, Try.results37, go_sem, hc1]) rfl
    ⟨rfl, ((((((Kept.refl w).alloc _ _).alloc _ _).trans g1).setCell (by simp) _).setCell (by simp) _).setCell (by simp) _⟩

theorem lrdecide_yes (k a b now cap v : Int) (w : World) (ha : U a) (hb : U b) (hn : U now) (hc : U cap) (hv : U v) (h : deB a b now cap v = true) :
    Calls Try.prog 37 #[sta k a b, .int .u64 now, .int .u64 cap, .int .u64 v] w fun e w' => e = .returned (.tuple #[sta 3 (fiI a b now + v) now, .bool true]) ∧ Kept w w' := by
  have hf := fiI_U a b now ha hb hn
  have c1 (w : World) := lrfill_any k a b now w ha hb hn
  have c2 (w : World) := ref_fits (fiI a b now) v cap w hf hv hc
  unfold deB at h
  rw [h] at c2
  have hs : U (fiI a b now + v) := by unfold ftB at h; simp at h; unfold U at *; omega
  have C1 := Lib.hid c1
  have C2 := Lib.hid c2
  clear c1 c2 h
  generalize fiI a b now = f at *
  unfold U at hf hv hs
  go_enter Try.func37, Try.ntmps37
  go_wp2_with (first
    | (go_at_call 44; ((with_reducible refine (C1.out _).mono ?_); rintro e w1 ⟨rfl, g1⟩; obtain ⟨hc1, hf1⟩ := g1.reads; have hz1 : w.heap.size + 1 < w1.heap.size := by (have := g1.size; simp at this; omega)))
    | (go_at_call 41; ((with_reducible refine (C2.out _).mono ?_); rintro e w2 ⟨rfl, rfl⟩))
    | (go_at_call 40; ((with_reducible refine (lrof_any _ _ _).mono ?_); rintro e w2 ⟨rfl, g2⟩; obtain ⟨hc2, hf2⟩ := g2.reads)))
  exact bodyPost_ret (v := .tuple #[sta 3 (f + v) now, .bool true]) (by simp [results, Try.results37, go_sem, hc1, hc2, hz1]) rfl
    ⟨rfl, (((((((Kept.refl w).alloc _ _).alloc _ _).trans g1).trans g2).setCell (by simp) _).setCell (by simp) _).setCell (by simp) _⟩

theorem lrdecide_any (k a b now cap v : Int) (w : World) (ha : U a) (hb : U b) (hn : U now) (hc : U cap) (hv : U v) :
    Calls Try.prog 37 #[sta k a b, .int .u64 now, .int .u64 cap, .int .u64 v] w fun e w' => e = .returned (.tuple #[sta (deK k a b now cap v) (deA a b now cap v) (deT a b now cap v), .bool (deB a b now cap v)]) ∧ Kept w w' := by
  unfold deK deA deT
  cases h : deB a b now cap v
  · exact lrdecide_no k a b now cap v w ha hb hn hc hv h
  · exact lrdecide_yes k a b now cap v w ha hb hn hc hv h

/-! ### Chapter 5 -/


theorem brtok_core (k a b now cap x y n : Int) (w : World) (hm : (cap < y ∧ n = cap) ∨ (y < cap ∧ n = y) ∨ (cap = y ∧ n = cap))
    (C1 : Hid (∀ w, Calls Try.prog 47 #[.int .u64 now, .int .u64 b] w fun e w' => e = .returned (.int .u64 x) ∧ w = w'))
    (C2 : Hid (∀ w, Calls Try.prog 45 #[.int .u64 a, .int .u64 x] w fun e w' => e = .returned (.int .u64 y) ∧ w = w')) :
    Calls Try.prog 61 #[sta k a b, .int .u64 now, .int .u64 cap] w fun e w' => e = .returned (.int .u64 n) ∧ Kept w w' := by
  rcases hm with ⟨hl, rfl⟩ | ⟨hl, rfl⟩ | ⟨rfl, rfl⟩
  all_goals
    go_enter Try.func61, Try.ntmps61
    go_wp2
    go_quiet (first | (go_at_call 47; exact still_call (C1.out _)) | (go_at_call 45; exact still_call (C2.out _)))
    go_wp2
    go_ret
    exact ⟨rfl, ((Kept.refl w).alloc _ _).drewN _⟩

theorem brtok_any (k a b now cap : Int) (w : World) (ha : U a) (hb : U b) (hn : U now) (hc : U cap) :
    Calls Try.prog 61 #[sta k a b, .int .u64 now, .int .u64 cap] w fun e w' => e = .returned (.int .u64 (tkI a b now cap)) ∧ Kept w w' := by
  have h1 := sbI_U now b hn hb
  refine brtok_core k a b now cap (sbI now b) (sat (a + sbI now b)) (tkI a b now cap) w ?_ (Lib.hid fun w => ref_sub now b w hn hb) (Lib.hid fun w => ref_add a (sbI now b) w ha h1)
  unfold tkI sat U at *
  (repeat' split) <;> omega

theorem brof_any (now cap fill : Int) (w : World) (hc : U cap) (hf : U fill) :
    Calls Try.prog 39 #[.int .u64 now, .int .u64 cap, .int .u64 fill] w fun e w' => e = .returned (sta 2 (sbI cap fill) now) ∧ Kept w w' := by
  have C1 := Lib.hid (fun w => ref_sub cap fill w hc hf)
  generalize sbI cap fill = x at *
  go_enter Try.func39, Try.ntmps39
  go_wp2_with (go_at_call 47; ((with_reducible refine (C1.out _).mono ?_); rintro e w1 ⟨rfl, rfl⟩))
  exact bodyPost_ret (v := sta 2 x now) (by simp [results, Try.results39, go_sem]) rfl ⟨rfl, (Kept.refl w).alloc _ _⟩

theorem brfill_any (k a b now cap : Int) (w : World) (ha : U a) (hb : U b) (hn : U now) (hc : U cap) :
    Calls Try.prog 43 #[sta k a b, .int .u64 now, .int .u64 cap] w fun e w' => e = .returned (.int .u64 (biI a b now cap)) ∧ Kept w w' := by
  have h1 := tkI_U a b now cap ha hb hn hc
  have h2 := tkI_le a b now cap
  have C1 := Lib.hid (fun w => brtok_any k a b now cap w ha hb hn hc)
  unfold biI
  generalize tkI a b now cap = n at *
  unfold U at h1 hc
  go_enter Try.func43, Try.ntmps43
  go_wp2_with (go_at_call 61; ((with_reducible refine (C1.out _).mono ?_); rintro e w2 ⟨rfl, g2⟩))
  go_ret
  exact ⟨rfl, ((Kept.refl w).alloc _ _).trans g2⟩

theorem brdecide_no (k a b now cap v : Int) (w : World) (ha : U a) (hb : U b) (hn : U now) (hc : U cap) (hv : U v) (h : bdB a b now cap v = false) :
    Calls Try.prog 36 #[sta k a b, .int .u64 now, .int .u64 cap, .int .u64 v] w fun e w' => e = .returned (.tuple #[sta k a b, .bool false]) ∧ Kept w w' := by
  have C1 := Lib.hid (fun w => brtok_any k a b now cap w ha hb hn hc)
  have hlt : tkI a b now cap < v := by unfold bdB at h; simp at h; omega
  clear h
  generalize tkI a b now cap = n at *
  go_enter Try.func36, Try.ntmps36
  go_wp2_with (go_at_call 61; ((with_reducible refine (C1.out _).mono ?_); rintro e w2 ⟨rfl, g2⟩; obtain ⟨hc2, hf2⟩ := g2.reads; have hz2 : w.heap.size < w2.heap.size ∧ w.heap.size + 1 < w2.heap.size := by (have := g2.size; simp at this; omega)))
  exact bodyPost_ret (v := .tuple #[sta k a b, .bool false]) (by simp [results, Try.results36, go_sem, hc2]) rfl
    ⟨rfl, ((((((Kept.refl w).alloc _ _).alloc _ _).trans g2).setCell (by simp) _).setCell (by simp) _).setCell (by simp) _⟩

theorem brdecide_yes (k a b now cap v : Int) (w : World) (ha : U a) (hb : U b) (hn : U now) (hc : U cap) (hv : U v) (h : bdB a b now cap v = true) :
    Calls Try.prog 36 #[sta k a b, .int .u64 now, .int .u64 cap, .int .u64 v] w fun e w' => e = .returned (.tuple #[sta 2 (tkI a b now cap - v) now, .bool true]) ∧ Kept w w' := by
  have C1 := Lib.hid (fun w => brtok_any k a b now cap w ha hb hn hc)
  have hle : v ≤ tkI a b now cap := by unfold bdB at h; simp at h; omega
  have h1 := tkI_U a b now cap ha hb hn hc
  clear h
  generalize tkI a b now cap = n at *
  unfold U at hv h1
  go_enter Try.func36, Try.ntmps36
  go_wp2_with (go_at_call 61; ((with_reducible refine (C1.out _).mono ?_); rintro e w2 ⟨rfl, g2⟩; obtain ⟨hc2, hf2⟩ := g2.reads; have hz2 : w.heap.size < w2.heap.size ∧ w.heap.size + 1 < w2.heap.size := by (have := g2.size; simp at this; omega)))
  exact bodyPost_ret (v := .tuple #[sta 2 (n - v) now, .bool true]) (by simp [results, Try.results36, go_sem, hc2]) rfl
    ⟨rfl, ((((((Kept.refl w).alloc _ _).alloc _ _).trans g2).setCell (by simp) _).setCell (by simp) _).setCell (by simp) _⟩

theorem brdecide_any (k a b now cap v : Int) (w : World) (ha : U a) (hb : U b) (hn : U now) (hc : U cap) (hv : U v) :
    Calls Try.prog 36 #[sta k a b, .int .u64 now, .int .u64 cap, .int .u64 v] w fun e w' => e = .returned (.tuple #[sta (bdK k a b now cap v) (bdA a b now cap v) (bdT a b now cap v), .bool (bdB a b now cap v)]) ∧ Kept w w' := by
  unfold bdK bdA bdT
  cases h : bdB a b now cap v
  · exact brdecide_no k a b now cap v w ha hb hn hc hv h
  · exact brdecide_yes k a b now cap v w ha hb hn hc hv h

/-! ### Chapter 6 -/


theorem grof_any (now fill : Int) (w : World) (hn : U now) (hf : U fill) :
    Calls Try.prog 38 #[.int .u64 now, .int .u64 fill] w fun e w' => e = .returned (sta 1 (sat (now + fill)) 0) ∧ Kept w w' := by
  have C1 := Lib.hid (fun w => ref_add now fill w hn hf)
  generalize sat (now + fill) = x at *
  go_enter Try.func38, Try.ntmps38
  go_wp2_with (go_at_call 45; ((with_reducible refine (C1.out _).mono ?_); rintro e w1 ⟨rfl, rfl⟩))
  exact bodyPost_ret (v := sta 1 x 0) (by simp [results, Try.results38, go_sem]) rfl ⟨rfl, (Kept.refl w).alloc _ _⟩

theorem grfill_any (k a b now : Int) (w : World) (ha : U a) (hn : U now) :
    Calls Try.prog 42 #[sta k a b, .int .u64 now] w fun e w' => e = .returned (.int .u64 (sbI a now)) ∧ Kept w w' := by
  have C1 := Lib.hid (fun w => ref_sub a now w ha hn)
  generalize sbI a now = x at *
  go_enter Try.func42, Try.ntmps42
  go_wp2_with (go_at_call 47; ((with_reducible refine (C1.out _).mono ?_); rintro e w1 ⟨rfl, rfl⟩))
  go_ret
  exact ⟨rfl, (Kept.refl w).alloc _ _⟩

theorem grdecide_no (k a b now cap v : Int) (w : World) (ha : U a) (hb : U b) (hn : U now) (hc : U cap) (hv : U v) (h : gdB a now cap v = false) :
    Calls Try.prog 35 #[sta k a b, .int .u64 now, .int .u64 cap, .int .u64 v] w fun e w' => e = .returned (.tuple #[sta k a b, .bool false]) ∧ Kept w w' := by
  have ut := thI_U a now ha hn
  have us := sbI_U a now ha hn
  have es := thI_sub a now
  have c2 (w : World) := ref_fits (sbI a now) v cap w us hv hc
  have c3 (w : World) := ref_add (thI a now) v w ut hv
  rw [show ftB (sbI a now) v cap = false from h, ← es] at c2
  have C2 := Lib.hid c2
  have C3 := Lib.hid c3
  rw [← es] at us
  have hm : (if a < now then now else a) = thI a now := rfl
  clear c2 c3 h es
  generalize thI a now = t at *
  unfold U at hn ut us
  go_enter Try.func35, Try.ntmps35
  go_wp2_with (first
    | (go_at_call 41; ((with_reducible refine (C2.out _).mono ?_); rintro e w2 ⟨rfl, rfl⟩))
    | (go_at_call 45; ((with_reducible refine (C3.out _).mono ?_); rintro e w3 ⟨rfl, rfl⟩)))
  exact bodyPost_ret (v := .tuple #[sta k a b, .bool false]) (by simp [results, Try.results35, go_sem]) rfl
    ⟨rfl, (((Kept.refl w).alloc _ _).alloc _ _)⟩

theorem grdecide_yes (k a b now cap v : Int) (w : World) (ha : U a) (hb : U b) (hn : U now) (hc : U cap) (hv : U v) (h : gdB a now cap v = true) :
    Calls Try.prog 35 #[sta k a b, .int .u64 now, .int .u64 cap, .int .u64 v] w fun e w' => e = .returned (.tuple #[sta 1 (sat (thI a now + v)) 0, .bool true]) ∧ Kept w w' := by
  have ut := thI_U a now ha hn
  have us := sbI_U a now ha hn
  have es := thI_sub a now
  have c2 (w : World) := ref_fits (sbI a now) v cap w us hv hc
  have c3 (w : World) := ref_add (thI a now) v w ut hv
  rw [show ftB (sbI a now) v cap = true from h, ← es] at c2
  have C2 := Lib.hid c2
  have C3 := Lib.hid c3
  rw [← es] at us
  have hm : (if a < now then now else a) = thI a now := rfl
  clear c2 c3 h es
  generalize thI a now = t at *
  generalize sat (t + v) = x at *
  unfold U at hn ut us
  go_enter Try.func35, Try.ntmps35
  go_wp2_with (first
    | (go_at_call 41; ((with_reducible refine (C2.out _).mono ?_); rintro e w2 ⟨rfl, rfl⟩))
    | (go_at_call 45; ((with_reducible refine (C3.out _).mono ?_); rintro e w3 ⟨rfl, rfl⟩)))
  exact bodyPost_ret (v := .tuple #[sta 1 x 0, .bool true]) (by simp [results, Try.results35, go_sem]) rfl
    ⟨rfl, (((Kept.refl w).alloc _ _).alloc _ _)⟩

theorem grdecide_any (k a b now cap v : Int) (w : World) (ha : U a) (hb : U b) (hn : U now) (hc : U cap) (hv : U v) :
    Calls Try.prog 35 #[sta k a b, .int .u64 now, .int .u64 cap, .int .u64 v] w fun e w' => e = .returned (.tuple #[sta (gdK k a now cap v) (gdA a now cap v) (gdT a b now cap v), .bool (gdB a now cap v)]) ∧ Kept w w' := by
  unfold gdK gdA gdT
  cases h : gdB a now cap v
  · exact grdecide_no k a b now cap v w ha hb hn hc hv h
  · exact grdecide_yes k a b now cap v w ha hb hn hc hv h
end Go.Proofs.Ytodmjnbepfkibaa.Wd
