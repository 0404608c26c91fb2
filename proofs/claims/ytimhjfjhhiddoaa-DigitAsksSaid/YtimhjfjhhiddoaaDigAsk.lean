/- tollerlaw03.DigitAsks answers true, for any texts and numbers; no conditions. -/
import Derived.Test.YtimhjfjhhiddoaaDigByt
import Derived.Test.YtimhjfjhhiddoaaDigBak
namespace Go.Proofs.Ytimhjfjhhiddoaa.Wd
open Go.RowKit Go.Lib

theorem digitAsks_any (s : ByteArray) (n k a b : Int) (r : ByteArray) (w : World) (hs : s.size ≤ 140737488355328) (hn : 0 ≤ n ∧ n ≤ 18446744073709551615) (hk : 0 ≤ k ∧ k ≤ 255) (ha : 0 ≤ a ∧ a ≤ 255) (hb : 0 ≤ b ∧ b ≤ 255) (hr : r.size ≤ 140737488355328) :
    Calls Try.prog 3 #[.string s, .int .u64 n, .int .u8 k, .int .u8 a, .int .u8 b, .string r] w fun e w' => e = .returned (.bool true) ∧ Kept w w' := by
  by_cases h200 : (200 : Int) < (s.size : Int) + (r.size : Int)
  · go_enter Try.func3, Try.ntmps3
    go_wp2_with (first
      | (go_at_call 9; refine (known_any _).mono ?_; rintro e w3 ⟨rfl, g3⟩))
    go_ret
    exact ⟨rfl, g3⟩
  · have h200' : decide ((200 : Int) < (s.size : Int) + (r.size : Int)) = false := decide_eq_false h200
    obtain ⟨p, P, m, hp, hP, hp64, hP1, hm, hm64⟩ := shr_nat n k hn
    obtain ⟨N, rfl⟩ : ∃ N : Nat, n = (N : Int) := ⟨n.toNat, by omega⟩
    have c1 := fun W => refPrint_any m W hm64
    have c2 := fun W => refPrint_any N W (by omega)
    have c3 := fun W => print_any N W (by omega)
    have c4 := fun W => width_any N W (by omega)
    rw [← str_size] at c4
    have hsz := str_size (decDigits m)
    have hL20 := dec_len20 m hm64
    obtain ⟨L, hL⟩ : ∃ L, L = (decDigits m).length := ⟨_, rfl⟩
    rw [← hL] at hsz hL20
    clear hL
    obtain ⟨i, hi⟩ : ∃ i : Nat, a % ((L : Int) + 1) = (i : Int) := ⟨(a % ((L : Int) + 1)).toNat, by have := Int.emod_nonneg a (b := (L : Int) + 1) (by omega); omega⟩
    have hiL : i ≤ L := by have := Int.emod_lt_of_pos a (b := (L : Int) + 1) (by omega); omega
    generalize str (decDigits m) = S at *
    generalize str (decDigits N) = Z at *
    have hs1 : ∀ W : World, (Instr.slice 9 (.string S) none (some (.int .i64 (i : Int))) none).run Try.prog W = .ok (.string (S.extract 0 i)) W := fun W => by
      rw [run_slice_string_to_if W 9 S .i64 (i : Int) Try.underlying9, if_pos (by omega)]; rfl
    have hs2 : ∀ W : World, (Instr.slice 9 (.string S) (some (.int .i64 (i : Int))) none none).run Try.prog W = .ok (.string (S.extract i S.size)) W := fun W => by
      rw [run_slice_string_from_if W 9 S .i64 (i : Int) Try.underlying9, if_pos (by omega)]; rfl
    have hAs : (S.extract 0 i).size = i := by simp; omega
    have hCs : (S.extract i S.size).size ≤ 20 := by simp; omega
    generalize S.extract 0 i = A at *
    generalize S.extract i S.size = C at *
    obtain ⟨c, hc⟩ : ∃ c : UInt8, (c.toNat : Int) = b := ⟨UInt8.ofNat b.toNat, by simp; omega⟩
    have hcv := fun W => one_byte W c b hc
    have hBs := str_size [c]
    rw [show [c].length = 1 from rfl] at hBs
    generalize str [c] = B at *
    clear hc
    have a1 := fun W => asks_any s W (by omega)
    have a2 := fun W => asks_any S W (by omega)
    have a3 := fun W => asks_any (A ++ B ++ C) W (by rw [ByteArray.size_append', ByteArray.size_append']; omega)
    have a4 := fun W => asks_any (S ++ S) W (by rw [ByteArray.size_append']; omega)
    have a5 := fun W => asks_any (S ++ r) W (by rw [ByteArray.size_append']; omega)
    have a6 := fun W => asks_any (⟨#[48]⟩ ++ S) W (by rw [ByteArray.size_append']; show 1 + S.size ≤ _; omega)
    go_enter Try.func3, Try.ntmps3
    go_wp2_with (first
      | (go_at_call 9; refine (known_any _).mono ?_; rintro e w1 ⟨rfl, g1⟩)
      | (go_at_call 10; (with_reducible refine (c1 _).mono ?_); rintro e w2 ⟨rfl, rfl⟩))
    go_region
    have kg : Kept w (w1.alloc (Obj.cells #[Value.int IntKind.u8 b] 5)).drew := (g1.alloc _ _).drew
    generalize (w1.alloc (Obj.cells #[Value.int IntKind.u8 b] 5)).drew = W at *
    have hSs : S.size ≤ 20 := by omega
    have hrs : r.size ≤ 200 := by omega
    clear c1 hs1 hs2 hcv hAs hBs hCs hsz g1 h200' h200
    go_wp2_with (first
      | (go_at_call 11; first
          | ((with_reducible refine (a1 _).mono ?_); rintro e v1 ⟨rfl, q1⟩)
          | ((with_reducible refine (a2 _).mono ?_); rintro e v2 ⟨rfl, q2⟩)
          | ((with_reducible refine (a3 _).mono ?_); rintro e v3 ⟨rfl, q3⟩)
          | ((with_reducible refine (a4 _).mono ?_); rintro e v4 ⟨rfl, q4⟩)
          | ((with_reducible refine (a5 _).mono ?_); rintro e v5 ⟨rfl, q5⟩)
          | ((with_reducible refine (a6 _).mono ?_); rintro e v6 ⟨rfl, q6⟩))
      | (go_at_call 12; (with_reducible refine (c3 _).mono ?_); rintro e v7 ⟨rfl, q7⟩)
      | (go_at_call 13; (with_reducible refine (c4 _).mono ?_); rintro e v8 ⟨rfl, q8⟩)
      | (go_at_call 10; (with_reducible refine (c2 _).mono ?_); rintro e v9 ⟨rfl, rfl⟩))
    go_ret
    refine ⟨rfl, ?_⟩
    repeat (first | assumption | refine Kept.trans ?_ (by assumption))
end Go.Proofs.Ytimhjfjhhiddoaa.Wd
