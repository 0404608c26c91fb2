/- What wide.Less, wide.addCarry and wide.Add answer, for any numbers of 64 bits; no conditions. -/
import Derived.Test.YtpkpmbigljkneaaDoorMath
import Derived.Test.YtpkpmbigljkneaaDoorRows
import Derived.WalkKit
import Derived.ProofKit
import Derived.OpenShut
import Derived.Handy
import Derived.Lib.Hide
import Derived.Deep.RegionHeld3
namespace Go.Proofs.YtpkpmbigljkneaaDoor.Wd
open Go.RowKit

theorem less_any (ah al bh bl : Int) (w : World) :
    Calls Tryd.prog 84 #[.int .u64 ah, .int .u64 al, .int .u64 bh, .int .u64 bl] w fun e w' => e = .returned (.bool (ltB ah al bh bl)) ∧ w = w' := by
  by_cases h : ah = bh
  · subst h
    have e : ltB ah al ah bl = decide (al < bl) := by simp [ltB]
    rw [e]
    clear e
    go_enter Tryd.func84, Tryd.ntmps84
    go_wp2
    all_goals (go_ret; exact ⟨rfl, rfl⟩)
  · have e : ltB ah al bh bl = decide (ah < bh) := by simp [ltB, h]
    rw [e]
    clear e
    go_enter Tryd.func84, Tryd.ntmps84
    go_wp2
    all_goals (go_ret; exact ⟨rfl, rfl⟩)

theorem ret2 {k m : IntKind} {a b c d : Int} (h : a = b) (h' : c = d) : Ending.returned (.tuple #[.int k a, .int m c]) = .returned (.tuple #[.int k b, .int m d]) := by rw [h, h']

theorem addCarry_any (a b c : Int) (w : World) (ha : 0 ≤ a ∧ a ≤ 18446744073709551615) (hb : 0 ≤ b ∧ b ≤ 18446744073709551615) (hc : 0 ≤ c ∧ c ≤ 1) :
    Calls Tryd.prog 87 #[.int .u64 a, .int .u64 b, .int .u64 c] w fun e w' => e = .returned (.tuple #[.int .u64 ((a + b + c) % 18446744073709551616), .int .u64 ((a + b + c) / 18446744073709551616)]) ∧ w = w' := by
  go_enter Tryd.func87, Tryd.ntmps87
  go_wp2
  all_goals (go_ret2; refine ⟨ret2 ?_ ?_, rfl⟩ <;> (simp only [IntKind.wrap_u64] at *; omega))

theorem split_any (a : Int) (w : World) (ha : 0 ≤ a ∧ a ≤ 18446744073709551615) :
    Calls Tryd.prog 66 #[.int .u64 a] w fun e w' => e = .returned (.agg #[.int .u64 (a % 4294967296), .int .u64 (a / 4294967296)]) ∧ w.alloc (.cells #[.int .u64 (a % 4294967296), .int .u64 (a / 4294967296)] 100) = w' := by
  have e := and_mask32 a ha
  rw [← e]
  clear e
  go_enter Tryd.func66, Tryd.ntmps66
  go_wp2
  exact bodyPost_ret (v := .agg #[.int .u64 (bits BinOp.and IntKind.u64 a 4294967295), .int .u64 (a / 4294967296)]) (by simp [results, Tryd.results66, go_sem]) rfl ⟨rfl, rfl⟩

theorem join_any (a b : Int) (w : World) (ha : 0 ≤ a ∧ a ≤ 4294967295) (hb : 0 ≤ b ∧ b ≤ 4294967295) :
    Calls Tryd.prog 67 #[.agg #[.int .u64 a, .int .u64 b]] w fun e w' => e = .returned (.int .u64 (b * 4294967296 + a)) ∧ w.alloc (.cells #[.int .u64 a, .int .u64 b] 100) = w' := by
  have e := or_32' b a ha hb
  rw [← e]
  clear e
  go_enter Tryd.func67, Tryd.ntmps67
  go_wp2
  go_ret
  exact ⟨rfl, rfl⟩

theorem ret3 {k m : IntKind} {a b c d : Int} {p q : Bool} (h : a = b) (h' : c = d) (h'' : p = q) : Ending.returned (.tuple #[.int k a, .int m c, .bool p]) = .returned (.tuple #[.int k b, .int m d, .bool q]) := by rw [h, h', h'']

theorem add_any (ah al bh bl : Int) (w : World) (h1 : U ah) (h2 : U al) (h3 : U bh) (h4 : U bl) :
    Calls Tryd.prog 83 #[.int .u64 ah, .int .u64 al, .int .u64 bh, .int .u64 bl] w fun e w' => e = .returned (.tuple #[.int .u64 (adH ah al bh bl), .int .u64 (adL al bl), .bool (adC ah al bh bl)]) ∧ w = w' := by
  unfold U at *
  go_enter Tryd.func83, Tryd.ntmps83
  go_wp2_with (go_at_call 87; refine (addCarry_any _ _ _ _ (by omega) (by omega) (by omega)).mono ?_; rintro e w' ⟨rfl, rfl⟩)
  go_ret3
  refine ⟨ret3 rfl rfl ?_, rfl⟩
  rw [Bool.eq_iff_iff]
  unfold adC
  simp only [beq_iff_eq, decide_eq_true_eq]
  omega

theorem split_parts (lo hi : Int) (w : World) (h0 : 0 ≤ lo ∧ lo ≤ 4294967295) (h1 : 0 ≤ hi ∧ hi ≤ 4294967295) :
    Calls Tryd.prog 66 #[.int .u64 (hi * 4294967296 + lo)] w fun e w' => e = .returned (.agg #[.int .u64 lo, .int .u64 hi]) ∧ w.alloc (.cells #[.int .u64 lo, .int .u64 hi] 100) = w' := by
  have e := split_any (hi * 4294967296 + lo) w (by omega)
  have e1 : (hi * 4294967296 + lo) % 4294967296 = lo := by omega
  have e2 : (hi * 4294967296 + lo) / 4294967296 = hi := by omega
  rw [e1, e2] at e
  exact e

theorem cell_keep {W : World} {b o : Nat} {v : Value} {x : Obj} (h : W.cell? ⟨b, o, none⟩ = some v) (hb : b < W.heap.size) : (W.alloc x).drew.cell? ⟨b, o, none⟩ = some v := by
  have e : (W.alloc x).drew.cell? ⟨b, o, none⟩ = W.cell? ⟨b, o, none⟩ := ((Below.refl W.heap.size W).alloc (Nat.le_refl _) x).drew.cell (p := ⟨b, o, none⟩) hb
  rw [e]; exact h
theorem size_keep {W : World} {n : Nat} {x : Obj} (h : n ≤ W.heap.size) : n ≤ (W.alloc x).drew.heap.size := by
  have e : (W.alloc x).drew.heap.size = W.heap.size + 1 := by simp
  omega

theorem mul_parts (a0 a1 b0 b1 : Int) (w : World) (h0 : 0 ≤ a0 ∧ a0 ≤ 4294967295) (h1 : 0 ≤ a1 ∧ a1 ≤ 4294967295) (g0 : 0 ≤ b0 ∧ b0 ≤ 4294967295) (g1 : 0 ≤ b1 ∧ b1 ≤ 4294967295) :
    Calls Tryd.prog 61 #[.int .u64 (a1 * 4294967296 + a0), .int .u64 (b1 * 4294967296 + b0)] w fun e w' => e = .returned (.tuple #[.int .u64 (muH (a1 * 4294967296 + a0) (b1 * 4294967296 + b0)), .int .u64 (muL (a1 * 4294967296 + a0) (b1 * 4294967296 + b0))]) ∧ Kept w w' := by
  obtain ⟨m1, m2, m3, m4, m5⟩ := mul_halves a0 a1 b0 b1 h0 h1 g0 g1
  have M5 := Lib.hid m5
  clear m5
  go_enter Tryd.func61, Tryd.ntmps61
  go_wp2_with (go_at_call 66; first | ((with_reducible refine (split_parts _ _ _ (by omega) (by omega)).mono ?_); rintro e w' ⟨rfl, rfl⟩) | ((with_reducible refine (split_any _ _ (by omega)).mono ?_); rintro e w' ⟨rfl, rfl⟩))
  generalize hW : World.alloc _ _ = W
  have gW : Kept w W := by rw [← hW]; clear hW; constructor <;> go_grown
  have sW : w.heap.size + 10 ≤ W.heap.size := by rw [← hW]; clear hW; simp
  have c1 : W.cell? ⟨w.heap.size + 1 + 1, 1, none⟩ = some (.int .u64 a1) := by rw [← hW]; clear hW; go_cell
  have c2 : W.cell? ⟨w.heap.size + 1 + 1 + 1, 1, none⟩ = some (.int .u64 b1) := by rw [← hW]; clear hW; go_cell
  have c3 : W.cell? ⟨w.heap.size + 1 + 1 + 1 + 1 + 1 + 1 + 1, 1, none⟩ = some (.int .u64 ((a1 * b0 + a0 * b0 / 4294967296) / 4294967296)) := by rw [← hW]; clear hW; go_cell
  have c4 : W.cell? ⟨w.heap.size + 1 + 1 + 1 + 1 + 1 + 1 + 1 + 1 + 1, 1, none⟩ = some (.int .u64 ((a0 * b1 + (a1 * b0 + a0 * b0 / 4294967296) % 4294967296) / 4294967296)) := by rw [← hW]; clear hW; go_cell
  have c5 : W.cell? ⟨w.heap.size + 1 + 1 + 1 + 1 + 1, 0, none⟩ = some (.int .u64 (a0 * b0 % 4294967296)) := by rw [← hW]; clear hW; go_cell
  have c6 : W.cell? ⟨w.heap.size + 1 + 1 + 1 + 1 + 1 + 1 + 1 + 1 + 1, 0, none⟩ = some (.int .u64 ((a0 * b1 + (a1 * b0 + a0 * b0 / 4294967296)) % 4294967296)) := by rw [← hW]; clear hW; go_cell
  clear hW
  go_region_held3 (fun w' => Kept w w' ∧ w.heap.size + 10 ≤ w'.heap.size ∧ w'.cell? ⟨w.heap.size + 1 + 1, 1, none⟩ = some (.int .u64 a1) ∧ w'.cell? ⟨w.heap.size + 1 + 1 + 1, 1, none⟩ = some (.int .u64 b1)
    ∧ w'.cell? ⟨w.heap.size + 1 + 1 + 1 + 1 + 1 + 1 + 1, 1, none⟩ = some (.int .u64 ((a1 * b0 + a0 * b0 / 4294967296) / 4294967296))
    ∧ w'.cell? ⟨w.heap.size + 1 + 1 + 1 + 1 + 1 + 1 + 1 + 1 + 1, 1, none⟩ = some (.int .u64 ((a0 * b1 + (a1 * b0 + a0 * b0 / 4294967296) % 4294967296) / 4294967296))
    ∧ w'.cell? ⟨w.heap.size + 1 + 1 + 1 + 1 + 1, 0, none⟩ = some (.int .u64 (a0 * b0 % 4294967296))
    ∧ w'.cell? ⟨w.heap.size + 1 + 1 + 1 + 1 + 1 + 1 + 1 + 1 + 1, 0, none⟩ = some (.int .u64 ((a0 * b1 + (a1 * b0 + a0 * b0 / 4294967296)) % 4294967296)))
    (first | exact ⟨gW, sW, c1, c2, c3, c4, c5, c6⟩ | exact ⟨gW.drew, sW, c1, c2, c3, c4, c5, c6⟩ | exact ⟨(Kept.alloc gW _ _).drew, size_keep sW, cell_keep c1 (by omega), cell_keep c2 (by omega), cell_keep c3 (by omega), cell_keep c4 (by omega), cell_keep c5 (by omega), cell_keep c6 (by omega)⟩)
    (first | (go_at_call 67; ((with_reducible refine (join_any _ _ _ (by omega) (by omega)).mono ?_); rintro e w' ⟨rfl, rfl⟩)))
  rename_i hH
  have gF := hH.1
  clear hH c1 c2 c3 c4 c5 c6 sW gW
  go_wp2
  go_ret2
  refine ⟨ret2 ?_ ?_, gF⟩
  · unfold muH; rw [M5.out]; simp only [IntKind.wrap_u64]; omega
  · unfold muL; rw [M5.out]; omega

theorem mul_any (a b : Int) (w : World) (ha : U a) (hb : U b) :
    Calls Tryd.prog 61 #[.int .u64 a, .int .u64 b] w fun e w' => e = .returned (.tuple #[.int .u64 (muH a b), .int .u64 (muL a b)]) ∧ Kept w w' := by
  unfold U at *
  have h := mul_parts (a % 4294967296) (a / 4294967296) (b % 4294967296) (b / 4294967296) w (by omega) (by omega) (by omega) (by omega)
  have ea : a / 4294967296 * 4294967296 + a % 4294967296 = a := by omega
  have eb : b / 4294967296 * 4294967296 + b % 4294967296 = b := by omega
  rw [ea, eb] at h
  exact h
end Go.Proofs.YtpkpmbigljkneaaDoor.Wd
