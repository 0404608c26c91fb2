/- What the document's own answers of chapter 6 are: the same as the program's; the chapter's example; for any numbers of 64 bits. -/
import Derived.Test.YtomdiidolgofmaaGcrA
import Derived.Test.YtomdiidolgofmaaRefC
namespace Go.Proofs.Ytomdiidolgofmaa.Wd
open Go.RowKit
set_option linter.unusedVariables false

theorem rof_any (now fill : Int) (w : World) (hn : U now) (hf : U fill) :
    Calls Try.prog 16 #[.int .u64 now, .int .u64 fill] w fun e w' => e = .returned (sta 1 (sat (now + fill)) 0) ∧ Kept w w' := by
  have C1 := Lib.hid (fun w => ref_add now fill w hn hf)
  generalize sat (now + fill) = x at *
  go_enter Try.func16, Try.ntmps16
  go_wp2_with (go_at_call 22; ((with_reducible refine (C1.out _).mono ?_); rintro e w1 ⟨rfl, rfl⟩))
  exact bodyPost_ret (v := sta 1 x 0) (by simp [results, Try.results16, go_sem]) rfl ⟨rfl, (Kept.refl w).alloc _ _⟩

theorem rfill_any (k a b now : Int) (w : World) (ha : U a) (hn : U now) :
    Calls Try.prog 15 #[sta k a b, .int .u64 now] w fun e w' => e = .returned (.int .u64 (sbI a now)) ∧ Kept w w' := by
  have C1 := Lib.hid (fun w => ref_sub a now w ha hn)
  generalize sbI a now = x at *
  go_enter Try.func15, Try.ntmps15
  go_wp2_with (go_at_call 23; ((with_reducible refine (C1.out _).mono ?_); rintro e w1 ⟨rfl, rfl⟩))
  go_ret
  exact ⟨rfl, (Kept.refl w).alloc _ _⟩

theorem rdecide_no (k a b now cap v : Int) (w : World) (ha : U a) (hb : U b) (hn : U now) (hc : U cap) (hv : U v) (h : gdB a now cap v = false) :
    Calls Try.prog 14 #[sta k a b, .int .u64 now, .int .u64 cap, .int .u64 v] w fun e w' => e = .returned (.tuple #[sta k a b, .bool false]) ∧ Kept w w' := by
  have ut := thI_U a now ha hn
  have us := sbI_U a now ha hn
  have es := thI_sub a now
  have c2 (w : World) := ref_fits (sbI a now) v cap w us hv hc
  have c3 (w : World) := ref_add (thI a now) v w ut hv
  rw [show ftB (sbI a now) v cap = false from h, ← es] at c2
  have C2 := Lib.hid c2
  have C3 := Lib.hid c3
  rw [← es] at us
  have hm : (if a < now then now else a) = thI a now := rfl
  clear c2 c3 h es
  generalize thI a now = t at *
  unfold U at hn ut us
  go_enter Try.func14, Try.ntmps14
  go_wp2_with (first
    | (go_at_call 21; ((with_reducible refine (C2.out _).mono ?_); rintro e w2 ⟨rfl, rfl⟩))
    | (go_at_call 22; ((with_reducible refine (C3.out _).mono ?_); rintro e w3 ⟨rfl, rfl⟩)))
  exact bodyPost_ret (v := .tuple #[sta k a b, .bool false]) (by simp [results, Try.results14, go_sem]) rfl
    ⟨rfl, (((Kept.refl w).alloc _ _).alloc _ _)⟩

theorem rdecide_yes (k a b now cap v : Int) (w : World) (ha : U a) (hb : U b) (hn : U now) (hc : U cap) (hv : U v) (h : gdB a now cap v = true) :
    Calls Try.prog 14 #[sta k a b, .int .u64 now, .int .u64 cap, .int .u64 v] w fun e w' => e = .returned (.tuple #[sta 1 (sat (thI a now + v)) 0, .bool true]) ∧ Kept w w' := by
  have ut := thI_U a now ha hn
  have us := sbI_U a now ha hn
  have es := thI_sub a now
  have c2 (w : World) := ref_fits (sbI a now) v cap w us hv hc
  have c3 (w : World) := ref_add (thI a now) v w ut hv
  rw [show ftB (sbI a now) v cap = true from h, ← es] at c2
  have C2 := Lib.hid c2
  have C3 := Lib.hid c3
  rw [← es] at us
  have hm : (if a < now then now else a) = thI a now := rfl
  clear c2 c3 h es
  generalize thI a now = t at *
  generalize sat (t + v) = x at *
  unfold U at hn ut us
  go_enter Try.func14, Try.ntmps14
  go_wp2_with (first
    | (go_at_call 21; ((with_reducible refine (C2.out _).mono ?_); rintro e w2 ⟨rfl, rfl⟩))
    | (go_at_call 22; ((with_reducible refine (C3.out _).mono ?_); rintro e w3 ⟨rfl, rfl⟩)))
  exact bodyPost_ret (v := .tuple #[sta 1 x 0, .bool true]) (by simp [results, Try.results14, go_sem]) rfl
    ⟨rfl, (((Kept.refl w).alloc _ _).alloc _ _)⟩

theorem rdecide_any (k a b now cap v : Int) (w : World) (ha : U a) (hb : U b) (hn : U now) (hc : U cap) (hv : U v) :
    Calls Try.prog 14 #[sta k a b, .int .u64 now, .int .u64 cap, .int .u64 v] w fun e w' => e = .returned (.tuple #[sta (gdK k a now cap v) (gdA a now cap v) (gdT a b now cap v), .bool (gdB a now cap v)]) ∧ Kept w w' := by
  unfold gdK gdA gdT
  cases h : gdB a now cap v
  · exact rdecide_no k a b now cap v w ha hb hn hc hv h
  · exact rdecide_yes k a b now cap v w ha hb hn hc hv h

theorem known_any (w : World) : Calls Try.prog 9 #[] w fun e w' => e = .returned (.bool true) ∧ Kept w w' := by
  have o1 (w : World) := gof_any 5 10 8 w ⟨by omega, by omega⟩ ⟨by omega, by omega⟩
  have d1 (w : World) := gdecide_any 1 13 0 8 10 6 w ⟨by omega, by omega⟩ ⟨by omega, by omega⟩ ⟨by omega, by omega⟩ ⟨by omega, by omega⟩ ⟨by omega, by omega⟩
  have f1 (w : World) := gfill_any 1 13 0 8 10 w ⟨by omega, by omega⟩ ⟨by omega, by omega⟩
  have e0 : sat (5 + 8) = 13 := by decide
  have e1 : gdK 1 13 8 10 6 = 1 := by decide
  have e2 : gdA 13 8 10 6 = 13 := by decide
  have e3 : gdT 13 0 8 10 6 = 0 := by decide
  have e4 : gdB 13 8 10 6 = false := by decide
  have e5 : sbI 13 8 = 5 := by decide
  rw [e0] at o1
  rw [e1, e2, e3, e4] at d1
  rw [e5] at f1
  clear e0 e1 e2 e3 e4 e5
  have O1 := Lib.hid o1
  have D1 := Lib.hid d1
  have F1 := Lib.hid f1
  clear o1 d1 f1
  go_enter Try.func9, Try.ntmps9
  go_wp2_with (first
    | (go_at_call 11; ((with_reducible refine (O1.out _).mono ?_); rintro e w1 ⟨rfl, g1⟩))
    | (go_at_call 13; ((with_reducible refine (D1.out _).mono ?_); rintro e w2 ⟨rfl, g2⟩; obtain ⟨hc2, hf2⟩ := g2.reads; have hz2 : w1.heap.size < w2.heap.size := by (have := g2.size; simp at this; omega)))
    | (go_at_call 12; ((with_reducible refine (F1.out _).mono ?_); rintro e w3 ⟨rfl, g3⟩; obtain ⟨hc3, hf3⟩ := g3.reads)))
  go_ret
  exact ⟨rfl, ((((g1.alloc _ _).trans g2).alloc _ _).trans g3)⟩
end Go.Proofs.Ytomdiidolgofmaa.Wd
