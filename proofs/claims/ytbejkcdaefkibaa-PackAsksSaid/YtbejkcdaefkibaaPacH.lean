/- What pack's reader tells of a head, and of entries; pack.Decode; no conditions but those that each names. -/
import Derived.Test.YtbejkcdaefkibaaPacR
namespace Go.Proofs.Ytbejkcdaefkibaa.Wd
open Go Go.RowKit Go.Shelf Go.Deep Go.Lib
set_option linter.unusedVariables false
set_option maxRecDepth 100000

set_option maxHeartbeats 1000000 in
theorem head_magic (R B : Nat) (l : List UInt8) (w : World) (h : Rd w R B l) (hm : l.take 4 ≠ mg) :
    Calls Try.prog 23 #[.pointer (some ⟨R, 0, none⟩)] w fun e w' => e = .returned (.tuple #[.int .u64 0, .int .u64 0, .int .u16 40]) ∧ Tch (fun b => b = R) w w' := by
  obtain ⟨hBR, hRl⟩ := h.lt
  by_cases h4 : l.length < 4
  · have P4 := Lib.hid (piece_no R B 4 l w h h4)
    rw [show ((4 : Nat) : Int) = 4 from rfl] at P4
    go_enter Try.func23, Try.ntmps23
    go_wp2_with fail
    refine wp_scope_label 0 rfl ?_
    go_wp2_with (first
      | (go_at_call 31; (with_reducible refine P4.out.mono ?_); rintro e w1 ⟨rfl, rfl⟩))
    simp only [Exit.jump]
    refine bodyPost_ret (v := .tuple #[.int .u64 0, .int .u64 0, .int .u16 40]) ?_ rfl ⟨rfl, Tch.refl _ _⟩
    simp [results, Try.results23, go_sem]
  · have P4 := Lib.hid (piece_yes R B 4 l w h (by omega))
    rw [show ((4 : Nat) : Int) = 4 from rfl] at P4
    generalize hK : l.take 4 = key at *
    have hne : (key == [84, 76, 82, 49]) = false := beq_eq_false_iff_ne.2 hm
    go_enter Try.func23, Try.ntmps23
    go_wp2_with fail
    refine wp_scope_label 0 rfl ?_
    go_wp2_with (first
      | (go_at_call 31; (with_reducible refine P4.out.mono ?_); rintro e w1 ⟨A, c, rfl, _, _, T1, r1, _, t1⟩; have cv := all_str T1 c; refine stopHere ?_))
    unfold Stop
    go_wp2
    simp only [Exit.jump]
    refine bodyPost_ret (v := .tuple #[.int .u64 0, .int .u64 0, .int .u16 40]) ?_ rfl ⟨rfl, t1⟩
    simp [results, Try.results23, go_sem]

set_option maxHeartbeats 1000000 in
theorem head_short (R B : Nat) (l : List UInt8) (w : World) (h : Rd w R B l) (hm : l.take 4 = mg) (hs : l.length < 16) :
    Calls Try.prog 23 #[.pointer (some ⟨R, 0, none⟩)] w fun e w' => e = .returned (.tuple #[.int .u64 0, .int .u64 0, .int .u16 41]) ∧ Tch (fun b => b = R) w w' := by
  obtain ⟨hBR, hRl⟩ := h.lt
  have h4 : 4 ≤ l.length := by have := congrArg List.length hm; rw [List.length_take] at this; simp at this; omega
  have P4 := Lib.hid (piece_yes R B 4 l w h h4)
  rw [show ((4 : Nat) : Int) = 4 from rfl, hm] at P4
  have hne : (([84, 76, 82, 49] : List UInt8) == [84, 76, 82, 49]) = true := rfl
  by_cases h12 : l.length < 12
  · have N8 := Lib.hid (fun W (r : Rd W R B (l.drop 4)) => number_no R B 8 (l.drop 4) W r (by rw [List.length_drop]; omega) (by decide))
    rw [show ((8 : Nat) : Int) = 8 from rfl] at N8
    go_enter Try.func23, Try.ntmps23
    go_wp2_with fail
    refine wp_scope_label 0 rfl ?_
    go_wp2_with (first
      | (go_at_call 31; (with_reducible refine P4.out.mono ?_); rintro e w1 ⟨A, c, rfl, _, _, T1, r1, _, t1⟩; have cv := all_str T1 c)
      | (go_at_call 32; (with_reducible refine (N8.out _ r1).mono ?_); rintro e w2 ⟨rfl, g2⟩))
    go_step3
    refine ⟨rfl, ?_⟩
    go_wp2
    simp only [Exit.jump]
    refine bodyPost_ret (v := .tuple #[.int .u64 0, .int .u64 0, .int .u16 41]) ?_ rfl ⟨rfl, t1.trans (Tch.of g2)⟩
    simp [results, Try.results23, go_sem]
  · have N8 := Lib.hid (fun W (r : Rd W R B (l.drop 4)) => number_yes R B 8 (l.drop 4) W r (by rw [List.length_drop]; omega) (by decide) (by decide))
    rw [show ((8 : Nat) : Int) = 8 from rfl, List.drop_drop] at N8
    have N4 := Lib.hid (fun W (r : Rd W R B (l.drop (4 + 8))) => number_no R B 4 (l.drop (4 + 8)) W r (by rw [List.length_drop]; omega) (by decide))
    rw [show ((4 : Nat) : Int) = 4 from rfl] at N4
    generalize hU : vl ((l.drop 4).take 8) = un at *
    go_enter Try.func23, Try.ntmps23
    go_wp2_with fail
    refine wp_scope_label 0 rfl ?_
    go_wp2_with (first
      | (go_at_call 31; (with_reducible refine P4.out.mono ?_); rintro e w1 ⟨A, c, rfl, _, _, T1, r1, _, t1⟩; have cv := all_str T1 c)
      | (go_at_call 32; (with_reducible refine (N8.out _ r1).mono ?_); rintro e w2 ⟨rfl, r2, t2⟩)
      | (go_at_call 32; (with_reducible refine (N4.out _ r2).mono ?_); rintro e w3 ⟨rfl, g3⟩))
    go_step3
    refine ⟨rfl, ?_⟩
    go_wp2
    simp only [Exit.jump]
    refine bodyPost_ret (v := .tuple #[.int .u64 0, .int .u64 0, .int .u16 41]) ?_ rfl ⟨rfl, (t1.trans t2).trans (Tch.of g3)⟩
    simp [results, Try.results23, go_sem]

set_option maxHeartbeats 1000000 in
theorem head_yes (R B : Nat) (l : List UInt8) (w : World) (h : Rd w R B l) (hm : l.take 4 = mg) (hs : 16 ≤ l.length) :
    Calls Try.prog 23 #[.pointer (some ⟨R, 0, none⟩)] w fun e w' => e = .returned (.tuple #[.int .u64 (vl ((l.drop 4).take 8) : Int), .int .u64 (vl ((l.drop 12).take 4) : Int), .int .u16 0]) ∧ Rd w' R B (l.drop 16) ∧ Tch (fun b => b = R) w w' := by
  obtain ⟨hBR, hRl⟩ := h.lt
  have P4 := Lib.hid (piece_yes R B 4 l w h (by omega))
  rw [show ((4 : Nat) : Int) = 4 from rfl, hm] at P4
  have hne : (([84, 76, 82, 49] : List UInt8) == [84, 76, 82, 49]) = true := rfl
  have N8 := Lib.hid (fun W (r : Rd W R B (l.drop 4)) => number_yes R B 8 (l.drop 4) W r (by rw [List.length_drop]; omega) (by decide) (by decide))
  rw [show ((8 : Nat) : Int) = 8 from rfl, List.drop_drop] at N8
  have N4 := Lib.hid (fun W (r : Rd W R B (l.drop (4 + 8))) => number_yes R B 4 (l.drop (4 + 8)) W r (by rw [List.length_drop]; omega) (by decide) (by decide))
  rw [show ((4 : Nat) : Int) = 4 from rfl, List.drop_drop] at N4
  rw [show (12 : Nat) = 4 + 8 from rfl, show (16 : Nat) = 4 + 8 + 4 from rfl]
  generalize vl ((l.drop 4).take 8) = un at *
  generalize vl ((l.drop (4 + 8)).take 4) = mn at *
  go_enter Try.func23, Try.ntmps23
  go_wp2_with fail
  refine wp_scope_label 0 rfl ?_
  go_wp2_with (first
    | (go_at_call 31; (with_reducible refine P4.out.mono ?_); rintro e w1 ⟨A, c, rfl, _, _, T1, r1, _, t1⟩; have cv := all_str T1 c)
    | (go_at_call 32; (with_reducible refine (N8.out _ r1).mono ?_); rintro e w2 ⟨rfl, r2, t2⟩)
    | (go_at_call 32; (with_reducible refine (N4.out _ r2).mono ?_); rintro e w3 ⟨rfl, r3, t3⟩))
  simp only [Exit.jump]
  refine bodyPost_ret (v := .tuple #[.int .u64 (un : Int), .int .u64 (mn : Int), .int .u16 0]) ?_ rfl ⟨rfl, r3, (t1.trans t2).trans t3⟩
  simp [results, Try.results23, go_sem]
end Go.Proofs.Ytbejkcdaefkibaa.Wd
