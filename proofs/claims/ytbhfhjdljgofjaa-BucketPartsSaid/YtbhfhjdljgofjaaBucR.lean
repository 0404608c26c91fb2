/- What the document's own answers of chapter 5 are: the same as the program's; the chapter's example; for any numbers of 64 bits. -/
import Derived.Test.YtbhfhjdljgofjaaBucA
namespace Go.Proofs.Ytbhfhjdljgofjaa.Wd
open Go.RowKit
set_option linter.unusedVariables false

theorem ref_sub (a b : Int) (w : World) (ha : U a) (hb : U b) :
    Calls Try.prog 20 #[.int .u64 a, .int .u64 b] w fun e w' => e = .returned (.int .u64 (sbI a b)) ∧ w = w' := by
  unfold U at *
  by_cases c : a < b
  · have e : sbI a b = 0 := by simp [sbI, c]
    rw [e]; clear e
    go_enter Try.func20, Try.ntmps20
    go_wp2
    go_ret
    exact ⟨rfl, rfl⟩
  · have e : sbI a b = a - b := by simp [sbI, c]
    rw [e]; clear e
    go_enter Try.func20, Try.ntmps20
    go_wp2
    go_ret
    exact ⟨rfl, rfl⟩

theorem ref_add (a b : Int) (w : World) (ha : U a) (hb : U b) :
    Calls Try.prog 23 #[.int .u64 a, .int .u64 b] w fun e w' => e = .returned (.int .u64 (sat (a + b))) ∧ w = w' := by
  unfold U at *
  by_cases c : a + b ≤ 18446744073709551615
  · have e : sat (a + b) = a + b := by simp [sat, c]
    rw [e]; clear e
    go_enter Try.func23, Try.ntmps23
    go_wp2
    go_ret
    exact ⟨rfl, rfl⟩
  · have e : sat (a + b) = 18446744073709551615 := by simp [sat, c]
    rw [e]; clear e
    obtain ⟨t, ht⟩ : ∃ t, IntKind.u64.wrap (a + b) = t := ⟨_, rfl⟩
    have h : t < a := by rw [← ht, IntKind.wrap_u64]; omega
    clear c ha hb
    go_enter Try.func23, Try.ntmps23
    go_wp2
    go_ret
    exact ⟨rfl, rfl⟩

theorem rtok_core (k a b now cap x y n : Int) (w : World) (hm : (cap < y ∧ n = cap) ∨ (y < cap ∧ n = y) ∨ (cap = y ∧ n = cap))
    (C1 : Hid (∀ w, Calls Try.prog 20 #[.int .u64 now, .int .u64 b] w fun e w' => e = .returned (.int .u64 x) ∧ w = w'))
    (C2 : Hid (∀ w, Calls Try.prog 23 #[.int .u64 a, .int .u64 x] w fun e w' => e = .returned (.int .u64 y) ∧ w = w')) :
    Calls Try.prog 19 #[sta k a b, .int .u64 now, .int .u64 cap] w fun e w' => e = .returned (.int .u64 n) ∧ Kept w w' := by
  rcases hm with ⟨hl, rfl⟩ | ⟨hl, rfl⟩ | ⟨rfl, rfl⟩
  all_goals
    go_enter Try.func19, Try.ntmps19
    go_wp2
    go_quiet (first | (go_at_call 20; exact still_call (C1.out _)) | (go_at_call 23; exact still_call (C2.out _)))
    go_wp2
    go_ret
    exact ⟨rfl, ((Kept.refl w).alloc _ _).drewN _⟩

theorem rtok_any (k a b now cap : Int) (w : World) (ha : U a) (hb : U b) (hn : U now) (hc : U cap) :
    Calls Try.prog 19 #[sta k a b, .int .u64 now, .int .u64 cap] w fun e w' => e = .returned (.int .u64 (tkI a b now cap)) ∧ Kept w w' := by
  have h1 := sbI_U now b hn hb
  refine rtok_core k a b now cap (sbI now b) (sat (a + sbI now b)) (tkI a b now cap) w ?_ (Lib.hid fun w => ref_sub now b w hn hb) (Lib.hid fun w => ref_add a (sbI now b) w ha h1)
  unfold tkI sat U at *
  (repeat' split) <;> omega

theorem rof_any (now cap fill : Int) (w : World) (hc : U cap) (hf : U fill) :
    Calls Try.prog 16 #[.int .u64 now, .int .u64 cap, .int .u64 fill] w fun e w' => e = .returned (sta 2 (sbI cap fill) now) ∧ Kept w w' := by
  have C1 := Lib.hid (fun w => ref_sub cap fill w hc hf)
  generalize sbI cap fill = x at *
  go_enter Try.func16, Try.ntmps16
  go_wp2_with (go_at_call 20; ((with_reducible refine (C1.out _).mono ?_); rintro e w1 ⟨rfl, rfl⟩))
  exact bodyPost_ret (v := sta 2 x now) (by simp [results, Try.results16, go_sem]) rfl ⟨rfl, (Kept.refl w).alloc _ _⟩

theorem rfill_any (k a b now cap : Int) (w : World) (ha : U a) (hb : U b) (hn : U now) (hc : U cap) :
    Calls Try.prog 15 #[sta k a b, .int .u64 now, .int .u64 cap] w fun e w' => e = .returned (.int .u64 (biI a b now cap)) ∧ Kept w w' := by
  have h1 := tkI_U a b now cap ha hb hn hc
  have h2 := tkI_le a b now cap
  have C1 := Lib.hid (fun w => rtok_any k a b now cap w ha hb hn hc)
  unfold biI
  generalize tkI a b now cap = n at *
  unfold U at h1 hc
  go_enter Try.func15, Try.ntmps15
  go_wp2_with (go_at_call 19; ((with_reducible refine (C1.out _).mono ?_); rintro e w2 ⟨rfl, g2⟩))
  go_ret
  exact ⟨rfl, ((Kept.refl w).alloc _ _).trans g2⟩

theorem rdecide_no (k a b now cap v : Int) (w : World) (ha : U a) (hb : U b) (hn : U now) (hc : U cap) (hv : U v) (h : bdB a b now cap v = false) :
    Calls Try.prog 14 #[sta k a b, .int .u64 now, .int .u64 cap, .int .u64 v] w fun e w' => e = .returned (.tuple #[sta k a b, .bool false]) ∧ Kept w w' := by
  have C1 := Lib.hid (fun w => rtok_any k a b now cap w ha hb hn hc)
  have hlt : tkI a b now cap < v := by unfold bdB at h; simp at h; omega
  clear h
  generalize tkI a b now cap = n at *
  go_enter Try.func14, Try.ntmps14
  go_wp2_with (go_at_call 19; ((with_reducible refine (C1.out _).mono ?_); rintro e w2 ⟨rfl, g2⟩; obtain ⟨hc2, hf2⟩ := g2.reads; have hz2 : w.heap.size < w2.heap.size ∧ w.heap.size + 1 < w2.heap.size := by (have := g2.size; simp at this; omega)))
  exact bodyPost_ret (v := .tuple #[sta k a b, .bool false]) (by simp [results, Try.results14, go_sem, hc2]) rfl
    ⟨rfl, ((((((Kept.refl w).alloc _ _).alloc _ _).trans g2).setCell (by simp) _).setCell (by simp) _).setCell (by simp) _⟩

theorem rdecide_yes (k a b now cap v : Int) (w : World) (ha : U a) (hb : U b) (hn : U now) (hc : U cap) (hv : U v) (h : bdB a b now cap v = true) :
    Calls Try.prog 14 #[sta k a b, .int .u64 now, .int .u64 cap, .int .u64 v] w fun e w' => e = .returned (.tuple #[sta 2 (tkI a b now cap - v) now, .bool true]) ∧ Kept w w' := by
  have C1 := Lib.hid (fun w => rtok_any k a b now cap w ha hb hn hc)
  have hle : v ≤ tkI a b now cap := by unfold bdB at h; simp at h; omega
  have h1 := tkI_U a b now cap ha hb hn hc
  clear h
  generalize tkI a b now cap = n at *
  unfold U at hv h1
  go_enter Try.func14, Try.ntmps14
  go_wp2_with (go_at_call 19; ((with_reducible refine (C1.out _).mono ?_); rintro e w2 ⟨rfl, g2⟩; obtain ⟨hc2, hf2⟩ := g2.reads; have hz2 : w.heap.size < w2.heap.size ∧ w.heap.size + 1 < w2.heap.size := by (have := g2.size; simp at this; omega)))
  exact bodyPost_ret (v := .tuple #[sta 2 (n - v) now, .bool true]) (by simp [results, Try.results14, go_sem, hc2]) rfl
    ⟨rfl, ((((((Kept.refl w).alloc _ _).alloc _ _).trans g2).setCell (by simp) _).setCell (by simp) _).setCell (by simp) _⟩

theorem rdecide_any (k a b now cap v : Int) (w : World) (ha : U a) (hb : U b) (hn : U now) (hc : U cap) (hv : U v) :
    Calls Try.prog 14 #[sta k a b, .int .u64 now, .int .u64 cap, .int .u64 v] w fun e w' => e = .returned (.tuple #[sta (bdK k a b now cap v) (bdA a b now cap v) (bdT a b now cap v), .bool (bdB a b now cap v)]) ∧ Kept w w' := by
  unfold bdK bdA bdT
  cases h : bdB a b now cap v
  · exact rdecide_no k a b now cap v w ha hb hn hc hv h
  · exact rdecide_yes k a b now cap v w ha hb hn hc hv h

theorem known_any (w : World) : Calls Try.prog 9 #[] w fun e w' => e = .returned (.bool true) ∧ Kept w w' := by
  have o1 (w : World) := bof_any 5 10 8 w ⟨by omega, by omega⟩ ⟨by omega, by omega⟩
  have d1 (w : World) := bdecide_any 2 2 5 8 10 6 w ⟨by omega, by omega⟩ ⟨by omega, by omega⟩ ⟨by omega, by omega⟩ ⟨by omega, by omega⟩ ⟨by omega, by omega⟩
  have f1 (w : World) := bfill_any 2 2 5 8 10 w ⟨by omega, by omega⟩ ⟨by omega, by omega⟩ ⟨by omega, by omega⟩ ⟨by omega, by omega⟩
  have e0 : sbI 10 8 = 2 := by decide
  have e1 : bdK 2 2 5 8 10 6 = 2 := by decide
  have e2 : bdA 2 5 8 10 6 = 2 := by decide
  have e3 : bdT 2 5 8 10 6 = 5 := by decide
  have e4 : bdB 2 5 8 10 6 = false := by decide
  have e5 : biI 2 5 8 10 = 5 := by decide
  rw [e0] at o1
  rw [e1, e2, e3, e4] at d1
  rw [e5] at f1
  clear e0 e1 e2 e3 e4 e5
  have O1 := Lib.hid o1
  have D1 := Lib.hid d1
  have F1 := Lib.hid f1
  clear o1 d1 f1
  go_enter Try.func9, Try.ntmps9
  go_wp2_with (first
    | (go_at_call 11; ((with_reducible refine (O1.out _).mono ?_); rintro e w1 ⟨rfl, g1⟩))
    | (go_at_call 13; ((with_reducible refine (D1.out _).mono ?_); rintro e w2 ⟨rfl, g2⟩; obtain ⟨hc2, hf2⟩ := g2.reads; have hz2 : w1.heap.size < w2.heap.size := by (have := g2.size; simp at this; omega)))
    | (go_at_call 12; ((with_reducible refine (F1.out _).mono ?_); rintro e w3 ⟨rfl, g3⟩; obtain ⟨hc3, hf3⟩ := g3.reads)))
  go_ret
  exact ⟨rfl, ((((g1.alloc _ _).trans g2).alloc _ _).trans g3)⟩
end Go.Proofs.Ytbhfhjdljgofjaa.Wd
