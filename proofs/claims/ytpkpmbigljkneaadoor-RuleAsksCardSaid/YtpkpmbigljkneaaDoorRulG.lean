/- The document's answer of chapter 3 on printing (tollerref03.Print), and 'asks': both Parses answer the same, for any text; no conditions. -/
import Derived.Test.YtpkpmbigljkneaaDoorRulF
namespace Go.Proofs.YtpkpmbigljkneaaDoor.Wd
open Go.RowKit Go.Lib

theorem str_size (l : List UInt8) : (str l).size = l.length := by simp [str, ByteArray.size]
theorem str_data (l : List UInt8) : (str l).data.toList = l := by simp [str]
theorem str_toList (l : List UInt8) : (str l).toList = l := by rw [ByteArray.toList_eq, str_data]
theorem str_append (x y : List UInt8) : str x ++ str y = str (x ++ y) := ByteArray.mk_append_mk x y
theorem str_of (s : ByteArray) : str s.data.toList = s := by cases s; simp [str]
theorem tenth (d : Nat) (h : d < 10) : (ByteArray.mk #[48, 49, 50, 51, 52, 53, 54, 55, 56, 57]).extract d (d + 1) = str [UInt8.ofNat (48 + d)] := by
  rw [show (#[48, 49, 50, 51, 52, 53, 54, 55, 56, 57] : Array UInt8) = [48, 49, 50, 51, 52, 53, 54, 55, 56, 57].toArray from rfl, ByteArray.extract_mk]
  unfold str
  congr 2
  have : ∀ p : Fin 10, (([48, 49, 50, 51, 52, 53, 54, 55, 56, 57] : List UInt8).drop p.val).take (p.val + 1 - p.val) = [UInt8.ofNat (48 + p.val)] := by decide
  exact this ⟨d, h⟩

/-- A digit's byte. -/
def dch (d : Nat) : UInt8 := UInt8.ofNat (48 + d)

theorem refPrint_any (n : Nat) (w : World) (hn : n < 18446744073709551616) :
    Calls Tryd.prog 12 #[.int .u64 n] w fun e w' => e = .returned (.string (str (decDigits n))) ∧ w = w' := by
  have hL := dec_len20 n hn
  have hsl : ∀ (m : Nat) (W : World), (Instr.slice 9 (.string ⟨#[48, 49, 50, 51, 52, 53, 54, 55, 56, 57]⟩) (some (.int .u64 ((m : Int) % 10))) (some (.int .u64 ((m : Int) % 10 + 1))) none).run Tryd.prog W = .ok (.string (str [dch (m % 10)])) W := fun m W => by
    rw [run_slice_string W 9 _ .u64 .u64 _ _ Tryd.underlying9 (by omega) (by omega) (by show _ ≤ (10 : Int); omega)]
    rw [show ((m : Int) % 10).toNat = m % 10 by omega, show ((m : Int) % 10 + 1).toNat = m % 10 + 1 by omega, tenth _ (by omega)]; rfl
  have hadd : ∀ (b : UInt8) (l : List UInt8) (W : World), l.length ≤ 20 → (Op.stringOp .add (str [b]) (str l)).run Tryd.prog W = .ok (.string (str (b :: l))) W := fun b l W h => by
    rw [run_string_add_sum W _ _ (by rw [str_size, str_size]; simp; omega), str_append]; rfl
  go_enter Tryd.func12, Tryd.ntmps12
  go_wp2
  go_loop [0, 3] (fun n' s => ∃ (m : Nat) (l : List UInt8), n' = .int .u64 m ∧ s = .string (str l) ∧ m < 18446744073709551616 ∧ l.length ≤ 20 ∧ Hid (decDigits n = if m = 0 then l else decDigits m ++ l)) (fun n' _ => (intOf n').toNat)
  case atStart =>
    refine ⟨n / 10, [dch (n % 10)], by simp, rfl, by omega, by simp, Lib.hid ?_⟩
    by_cases h : n < 10
    · rw [dec_small h, if_pos (by omega), Nat.mod_eq_of_lt h]; rfl
    · rw [dec_big h, if_neg (by omega)]; rfl
  case round =>
    obtain ⟨m, l, rfl, rfl, hm, hl, D⟩ := hrel
    by_cases h0 : m = 0
    · subst h0
      go_wp2
      go_ret
      have e : decDigits n = l := by have e := D.out; simpa using e
      exact ⟨by rw [e]; rfl, rfl⟩
    · have hpos : (0 : Int) < (m : Int) := by omega
      have ha := fun W => hadd (dch (m % 10)) l W hl
      clear hadd
      go_wp2
      have e := D.out
      rw [if_neg h0] at e
      have hlen := congrArg List.length e
      rw [List.length_append] at hlen
      have h1 := dec_len1 m
      refine ⟨⟨m / 10, dch (m % 10) :: l, by simp, rfl, by omega, by simp; omega, Lib.hid ?_⟩, by simp [intOf]; omega⟩
      rw [e]
      by_cases h : m < 10
      · rw [dec_small h, if_pos (by omega), Nat.mod_eq_of_lt h]; rfl
      · rw [dec_big h, if_neg (by omega), List.append_assoc]; rfl

end Go.Proofs.YtpkpmbigljkneaaDoor.Wd
