/- Small whole numbers as floats of 64 bits: one more is told exactly, and so is the number itself; no conditions but those that each names. -/
import Derived.Laws.ComplexArith
namespace Go.Proofs.Ytdjeehnjodbmaaa.Wd
open Go

/-- The bits of a whole number that is not nought. -/
def fb (m : Nat) : Nat := (1022 + m.log2) * 4503599627370496 + m * 2 ^ (52 - m.log2)

theorem log2_times (m p : Nat) (h : 0 < m) : (m * 2 ^ p).log2 = m.log2 + p := by
  have hm : m ≠ 0 := by omega
  have hp : 0 < 2 ^ p := Nat.two_pow_pos _
  have hn : m * 2 ^ p ≠ 0 := Nat.mul_ne_zero hm (by omega)
  rw [Nat.log2_eq_iff hn]
  have h1 := Nat.log2_self_le hm
  have h2 : m < 2 ^ (m.log2 + 1) := Nat.lt_log2_self
  refine ⟨?_, ?_⟩
  · rw [Nat.pow_add]; exact Nat.mul_le_mul_right _ h1
  · rw [show m.log2 + p + 1 = m.log2 + 1 + p by omega, Nat.pow_add]; exact Nat.mul_lt_mul_of_pos_right h2 hp

theorem log2_small (m : Nat) (h : 0 < m) (h2 : m < 9007199254740992) : m.log2 ≤ 52 := by
  have := (Nat.log2_lt (n := m) (k := 53) (by omega)).2 h2
  omega

theorem kept_bounds (m : Nat) (h : 0 < m) (h2 : m < 9007199254740992) : 4503599627370496 ≤ m * 2 ^ (52 - m.log2) ∧ m * 2 ^ (52 - m.log2) < 9007199254740992 := by
  have hl := log2_small m h h2
  have e := log2_times m (52 - m.log2) h
  rw [show m.log2 + (52 - m.log2) = 52 by omega] at e
  have hn : m * 2 ^ (52 - m.log2) ≠ 0 := Nat.mul_ne_zero (by omega) (by have := Nat.two_pow_pos (52 - m.log2); omega)
  exact (Nat.log2_eq_iff hn).1 e

theorem fb_one : fb 1 = 4607182418800017408 := by decide

theorem read_fb (m : Nat) (h : 0 < m) (h2 : m < 9007199254740992) : Ieee.double.read (fb m) = .number false (m * 2 ^ (52 - m.log2)) (-((52 - m.log2 : Nat) : Int)) := by
  have hl := log2_small m h h2
  have hk := kept_bounds m h h2
  have hb : Ieee.double.binade = 4503599627370496 := by decide
  have hs : Ieee.double.signWeight = 9223372036854775808 := by decide
  have hi : Ieee.double.infRung = 2047 * 4503599627370496 := by decide
  have hp : Ieee.double.leastPlace = -1074 := by decide
  unfold Ieee.Format.read fb
  rw [hb, hs, hi, hp]
  generalize m * 2 ^ (52 - m.log2) = K at *
  generalize m.log2 = L at *
  have e1 : ((1022 + L) * 4503599627370496 + K) / 9223372036854775808 % 2 = 0 := by omega
  have e2 : ((1022 + L) * 4503599627370496 + K) % 9223372036854775808 = (1022 + L) * 4503599627370496 + K := by omega
  simp only [e1, e2]
  rw [if_neg (by omega), if_pos (by omega)]
  have e3 : ((1022 + L) * 4503599627370496 + K) % 4503599627370496 = K - 4503599627370496 := by omega
  have e4 : ((1022 + L) * 4503599627370496 + K) / 4503599627370496 = 1023 + L := by omega
  rw [e3, e4]
  rw [show 4503599627370496 + (K - 4503599627370496) = K by omega, show (-1074 : Int) + ((1023 + L - 1 : Nat) : Int) = -((52 - L : Nat) : Int) by omega]
  rfl

theorem floatBits_add (x y : Nat) : floatBits .add .f64 x y = ((Ieee.double.read x).sum (Ieee.double.read y)).map Ieee.double.write := rfl
theorem write_number (s : Bool) (m : Nat) (p : Int) : Ieee.double.write (.number s m p) = Ieee.double.nearest s m p := rfl
theorem decode_f64 (x : Nat) : FloatKind.f64.decode x = Ieee.double.read x := rfl
theorem sum_numbers (m n : Nat) (i j : Int) (k l : Nat) (T : Nat) (b : Int) (hb : min i j = b) (hk : (i - b).toNat = k) (hl : (j - b).toNat = l) (hT : m * 2 ^ k + n * 2 ^ l = T) (h0 : 0 < T) :
    (Ieee.Datum.number false m i).sum (.number false n j) = some (.number false T b) := by
  subst hb hk hl
  have e : ((m * 2 ^ (i - min i j).toNat : Nat) : Int) + ((n * 2 ^ (j - min i j).toNat : Nat) : Int) = (T : Int) := by rw [← hT]; omega
  unfold Ieee.Datum.sum Ieee.signed
  simp only [Bool.false_eq_true, if_false, Nat.shiftLeft_eq, e]
  rw [if_neg (by omega), decide_eq_false (by omega), Int.natAbs_natCast]

theorem cut_exact (way : Ieee.Toward) (K d : Nat) (hw : way = .even ∨ way = .zero) (h : 0 < K) : way.cut false (K * 2 ^ d) d = K := by
  have hl := log2_times K d h
  have hm : min d ((K * 2 ^ d).log2 + 2) = d := by omega
  have hp : 0 < 2 ^ d := Nat.two_pow_pos _
  unfold Ieee.Toward.cut
  simp only [hm, Nat.shiftLeft_eq, Nat.one_mul, Nat.mul_div_cancel _ hp, Nat.mul_mod_left]
  have e : (2 ^ d == 2 * 0) = false := beq_eq_false_iff_ne.2 (by omega)
  rcases hw with rfl | rfl
  · simp only [e]; simp
  · simp

theorem nearest_gen (M j : Nat) (place last : Int) (K : Nat) (hM : M ≠ 0) (hlast : max (place + (M.log2 : Int) - 52) (-1074) = last) (h1 : (place - last).toNat = 0) (h2 : (last - place).toNat = j) (hK : M = K * 2 ^ j) (hk : 0 < K)
    (hi : (last - -1074).toNat * 4503599627370496 + K ≤ 2047 * 4503599627370496) : Ieee.double.nearest false M place = (last - -1074).toNat * 4503599627370496 + K := by
  have hb : Ieee.double.binade = 4503599627370496 := by decide
  have hir : Ieee.double.infRung = 2047 * 4503599627370496 := by decide
  have hlp : Ieee.double.leastPlace = -1074 := by decide
  have hfb : ((Ieee.double.fractionBits : Nat) : Int) = 52 := by decide
  unfold Ieee.Format.nearest Ieee.Format.word
  rw [if_neg hM, hb, hir, hlp, hfb]
  simp only [hlast, h1, h2, Nat.shiftLeft_zero]
  rw [hK, cut_exact .even _ _ (.inl rfl) hk]
  simp only [Bool.false_eq_true, if_false]
  exact Nat.min_eq_left hi

theorem nearest_fb (m p : Nat) (h : 0 < m) (h2 : m < 9007199254740992) (hp : 52 ≤ p + m.log2) (_hq : p ≤ 1074) : Ieee.double.nearest false (m * 2 ^ p) (-(p : Int)) = fb m := by
  have hl := log2_small m h h2
  have hk := kept_bounds m h h2
  have hn : m * 2 ^ p ≠ 0 := Nat.mul_ne_zero (by omega) (by have := Nat.two_pow_pos p; omega)
  have e5 : m * 2 ^ p = (m * 2 ^ (52 - m.log2)) * 2 ^ (m.log2 + p - 52) := by
    rw [Nat.mul_assoc, ← Nat.pow_add, show 52 - m.log2 + (m.log2 + p - 52) = p by omega]
  have e := log2_times m p h
  unfold fb
  generalize m * 2 ^ p = M at *
  generalize m * 2 ^ (52 - m.log2) = K at *
  generalize m.log2 = L at *
  rw [nearest_gen M (L + p - 52) (-(p : Int)) ((L : Int) - 52) K hn (by rw [e]; omega) (by omega) (by omega) e5 (by omega) (by omega)]
  rw [show ((L : Int) - 52 - -1074).toNat = 1022 + L by omega]

theorem fb_add (m : Nat) (h : 0 < m) (h2 : m < 9007199254740991) : floatBits .add .f64 (fb m) 4607182418800017408 = some (fb (m + 1)) := by
  have hl := log2_small m h (by omega)
  have hl1 : (1 : Nat).log2 = 0 := by decide
  rw [← fb_one, floatBits_add, read_fb m h (by omega), read_fb 1 (by omega) (by omega), hl1]
  have e3 : m * 2 ^ (52 - m.log2) * 2 ^ m.log2 + 1 * 2 ^ (52 - 0) * 2 ^ 0 = (m + 1) * 2 ^ 52 := by
    rw [Nat.mul_assoc, ← Nat.pow_add, show 52 - m.log2 + m.log2 = 52 by omega, Nat.add_mul]
  rw [sum_numbers _ _ _ _ m.log2 0 ((m + 1) * 2 ^ 52) (-((52 : Nat) : Int)) (by omega) (by omega) (by omega) e3 (Nat.mul_pos (by omega) (Nat.two_pow_pos _))]
  rw [Option.map_some, write_number, nearest_fb (m + 1) 52 (by omega) (by omega) (by omega) (by omega)]

theorem fb_add0 (m : Nat) (h : 0 < m) (h2 : m < 9007199254740992) : floatBits .add .f64 (fb m) 0 = some (fb m) := by
  have hl := log2_small m h (by omega)
  have e : Ieee.double.read 0 = .number false 0 (-((1074 : Nat) : Int)) := by decide
  rw [floatBits_add, read_fb m h (by omega), e]
  obtain ⟨q, hq⟩ : ∃ q : Nat, q = 1074 := ⟨_, rfl⟩
  have e3 : m * 2 ^ (52 - m.log2) * 2 ^ (m.log2 + 1022) + 0 * 2 ^ 0 = m * 2 ^ q := by rw [Nat.mul_assoc, ← Nat.pow_add, show 52 - m.log2 + (m.log2 + 1022) = q by omega, Nat.zero_mul, Nat.add_zero]
  rw [← hq]
  rw [sum_numbers _ _ _ _ (m.log2 + 1022) 0 (m * 2 ^ q) (-(q : Int)) (by omega) (by omega) (by omega) e3 (Nat.mul_pos h (Nat.two_pow_pos _))]
  rw [Option.map_some, write_number, nearest_fb m q h h2 (by omega) (by omega)]

theorem toInt_fb (m k : Nat) (h : 0 < m) : (Ieee.Datum.number false (m * 2 ^ k) (-(k : Int))).toInt .zero = some (m : Int) := by
  unfold Ieee.Datum.toInt Ieee.Datum.integral Ieee.signed
  have e1 : (-(k : Int)).toNat = 0 := by omega
  have e2 : (- -(k : Int)).toNat = k := by omega
  simp only [e1, e2, Nat.shiftLeft_zero, Bool.false_eq_true, if_false]
  rw [cut_exact .zero m k (.inr rfl) h]

theorem ftiv (bits : Nat) (n : Int) (h : (FloatKind.f64.decode bits).toInt .zero = some n) (h1 : IntKind.i64.min ≤ n) (h2 : n ≤ IntKind.i64.max) : floatToIntVal .f64 bits .i64 = some n := by
  unfold floatToIntVal
  rw [h]
  exact if_pos ⟨h1, h2⟩
theorem i64_min : IntKind.i64.min = -9223372036854775808 := rfl
theorem i64_max : IntKind.i64.max = 9223372036854775807 := rfl

theorem fb_int (m : Nat) (h : 0 < m) (h2 : m < 9007199254740992) : floatToIntVal .f64 (fb m) .i64 = some (m : Int) :=
  ftiv (fb m) m (by rw [decode_f64, read_fb m h h2, toInt_fb m _ h]) (by rw [i64_min]; omega) (by rw [i64_max]; omega)
end Go.Proofs.Ytdjeehnjodbmaaa.Wd
