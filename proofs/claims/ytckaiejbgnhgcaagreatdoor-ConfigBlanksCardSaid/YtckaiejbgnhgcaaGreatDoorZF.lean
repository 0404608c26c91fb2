/- Plain facts on the words of a text: what is met byte by byte, and what is told of it; no conditions but those that each names. Small whole numbers as floats of 64 bits: one more is told exactly, and so is the number itself; no conditions but those that each names. Words for memory, and what the small calls of package words answer (kindOf, met, on, down, place); no conditions but those that each names. What the call word of package words answers; no conditions but those that each names. What words.Split answers: rows of words in memory; no conditions but those that each names. -/
import Derived.Test.YtckaiejbgnhgcaaGreatDoorZA
import Derived.Test.YtckaiejbgnhgcaaGreatDoorRows
import Derived.Laws.ComplexArith
import Derived.WalkKit
import Derived.WalkMore
import Derived.WalkSpells
import Derived.WalkLawsBesides
import Derived.WalkSmall
import Derived.Laws.Entries
import Derived.Laws.AppendOwn
import Derived.Deep.AppendLies
import Derived.Deep.RegionHeld3
import Derived.Deep.LoopGhost
import Derived.BigQuiet
import Derived.Lib.QuietBelow
import Derived.Lib.Hide
import Derived.OwnWalk
import Derived.ScopeJumps
import Derived.PlainAid
import Derived.Handy
namespace Go.Proofs.YtckaiejbgnhgcaaGreatDoor.Wd.Ws
open Go.RowKit

/-- The kind of a byte. -/
def kd (c : UInt8) : Nat := if c = 32 ∨ c = 9 then 2 else if c = 10 then 3 else if c = 35 then 4 else if 33 ≤ c ∧ c ≤ 126 then 5 else 1
theorem kd_cases (c : UInt8) : kd c = 1 ∨ kd c = 2 ∨ kd c = 3 ∨ kd c = 4 ∨ kd c = 5 := by
  unfold kd
  split
  · omega
  · split
    · omega
    · split
      · omega
      · split <;> omega
theorem kd_two (c : UInt8) : kd c = 2 ↔ c = 32 ∨ c = 9 := by
  unfold kd
  repeat' split
  all_goals simp_all
theorem kd_three (c : UInt8) : kd c = 3 ↔ c = 10 := by
  unfold kd
  constructor
  · intro h
    split at h
    · omega
    · split at h
      · assumption
      · split at h
        · omega
        · split at h <;> omega
  · rintro rfl; decide
theorem kd_four (c : UInt8) : kd c = 4 ↔ c = 35 := by
  unfold kd
  constructor
  · intro h
    split at h
    · omega
    · split at h
      · omega
      · split at h
        · assumption
        · split at h <;> omega
  · rintro rfl; decide
theorem kd_five (c : UInt8) (h : kd c = 5) : 33 ≤ c ∧ c ≤ 126 := by
  unfold kd at h
  split at h
  · omega
  · split at h
    · omega
    · split at h
      · omega
      · split at h
        · assumption
        · omega
/-- Visible. -/
def vs (c : UInt8) : Bool := decide (4 ≤ kd c)

/-- A word: its bytes, its line, its place in it. -/
abbrev Wo := List UInt8 × Nat × Nat
/-- What is told of a text. -/
structure Res where
  er : Nat
  ln : Nat
  cl : Nat
  rows : List (List Wo)
def Res.bad (n c : Nat) : Res := ⟨20, n, c, []⟩
def Res.ok (ls : List (List Wo)) : Res := ⟨0, 0, 0, ls⟩
def Res.long : Res := ⟨21, 0, 0, []⟩

/-- Where one is: between words, behind what opens a remark, or in a word. -/
inductive Mo where
  | gap
  | rem
  | wrd (x : List UInt8) (c : Nat)
/-- A line's words, with the one that one is in. -/
def shutL (m : Mo) (n : Nat) (line : List Wo) : List Wo :=
  match m with
  | .wrd x c => line ++ [(x, n, c)]
  | _ => line
/-- Lines, with one more if it has words. -/
def flush (line : List Wo) (lines : List (List Wo)) : List (List Wo) := if line = [] then lines else lines ++ [line]
/-- What one is behind a visible byte. -/
def seen (b : UInt8) (m : Mo) (c : Nat) (line : List Wo) : Mo :=
  match m with
  | .gap => if kd b = 4 ∧ line = [] then .rem else .wrd [b] c
  | .rem => .rem
  | .wrd x c0 => .wrd (x ++ [b]) c0
/-- What one is behind a blank. -/
def blanked (m : Mo) : Mo :=
  match m with
  | .rem => .rem
  | _ => .gap

def aut : List UInt8 → Mo → Nat → Nat → List Wo → List (List Wo) → Res
  | [], m, n, _, line, lines => .ok (flush (shutL m n line) lines)
  | b :: t, m, n, c, line, lines =>
    if kd b = 1 then .bad n c
    else if kd b = 2 then aut t (blanked m) n (c + 1) (shutL m n line) lines
    else if kd b = 3 then aut t .gap (n + 1) 1 [] (flush (shutL m n line) lines)
    else aut t (seen b m c line) n (c + 1) line lines

/-- What is told of a text. -/
def spl (bs : List UInt8) : Res := if 1048576 < bs.length then .long else aut bs .gap 1 1 [] []

section
variable {b : UInt8} {t : List UInt8} {m : Mo} {n c : Nat} {line : List Wo} {lines : List (List Wo)}
theorem aut_1 (h : kd b = 1) : aut (b :: t) m n c line lines = .bad n c := by rw [aut, if_pos h]
theorem aut_2 (h : kd b = 2) : aut (b :: t) m n c line lines = aut t (blanked m) n (c + 1) (shutL m n line) lines := by rw [aut, if_neg (by omega), if_pos h]
theorem aut_3 (h : kd b = 3) : aut (b :: t) m n c line lines = aut t .gap (n + 1) 1 [] (flush (shutL m n line) lines) := by rw [aut, if_neg (by omega), if_neg (by omega), if_pos h]
theorem aut_v (h : vs b = true) : aut (b :: t) m n c line lines = aut t (seen b m c line) n (c + 1) line lines := by
  have h' : 4 ≤ kd b := of_decide_eq_true h
  rw [aut, if_neg (by omega), if_neg (by omega), if_neg (by omega)]
theorem not_vs (h : vs b = false) : kd b = 1 ∨ kd b = 2 ∨ kd b = 3 := by
  have h' : ¬ 4 ≤ kd b := of_decide_eq_false h
  have := kd_cases b
  omega
end

/-- A word is gone through. -/
theorem aut_word : ∀ (r x : List UInt8) (c0 n c : Nat) (line : List Wo) (lines : List (List Wo)),
    aut r (.wrd x c0) n c line lines = aut (r.dropWhile vs) .gap n (c + (r.takeWhile vs).length) (line ++ [(x ++ r.takeWhile vs, n, c0)]) lines
  | [], x, c0, n, c, line, lines => by simp [aut, shutL]
  | b :: t, x, c0, n, c, line, lines => by
    cases h : vs b with
    | true =>
      rw [aut_v h, List.dropWhile_cons, List.takeWhile_cons, if_pos h, if_pos h]
      show aut t (.wrd (x ++ [b]) c0) n (c + 1) line lines = _
      rw [aut_word t]
      simp only [List.length_cons, List.append_assoc, List.cons_append, List.nil_append]
      rw [show c + 1 + (t.takeWhile vs).length = c + ((t.takeWhile vs).length + 1) by omega]
    | false =>
      rw [List.dropWhile_cons, List.takeWhile_cons, if_neg (by rw [h]; decide), if_neg (by rw [h]; decide)]
      simp only [List.append_nil, List.length_nil, Nat.add_zero]
      rcases not_vs h with h | h | h
      · rw [aut_1 h, aut_1 h]
      · rw [aut_2 h, aut_2 h]; rfl
      · rw [aut_3 h, aut_3 h]; rfl
/-- A word begins. -/
theorem aut_begin {b : UInt8} {t : List UInt8} {n c : Nat} {line : List Wo} {lines : List (List Wo)} (h : vs b = true) (h4 : kd b = 4 → line ≠ []) :
    aut (b :: t) .gap n c line lines = aut (t.dropWhile vs) .gap n (c + 1 + (t.takeWhile vs).length) (line ++ [(b :: t.takeWhile vs, n, c)]) lines := by
  rw [aut_v h]
  have e : seen b .gap c line = .wrd [b] c := if_neg (fun g => h4 g.1 g.2)
  rw [e, aut_word]; rfl
/-- A remark that has come to its end. -/
theorem aut_rem {r : List UInt8} {n c : Nat} {lines : List (List Wo)} (h : ∀ b t, r = b :: t → kd b = 1 ∨ kd b = 3) : aut r .rem n c [] lines = aut r .gap n c [] lines := by
  cases r with
  | nil => rfl
  | cons b t =>
    rcases h b t rfl with h | h
    · rw [aut_1 h, aut_1 h]
    · rw [aut_3 h, aut_3 h]; rfl
end Go.Proofs.YtckaiejbgnhgcaaGreatDoor.Wd.Ws
namespace Go.Proofs.YtckaiejbgnhgcaaGreatDoor.Wd.Ws
open Go

/-- The bits of a whole number that is not nought. -/
def fb (m : Nat) : Nat := (1022 + m.log2) * 4503599627370496 + m * 2 ^ (52 - m.log2)

theorem log2_times (m p : Nat) (h : 0 < m) : (m * 2 ^ p).log2 = m.log2 + p := by
  have hm : m ≠ 0 := by omega
  have hp : 0 < 2 ^ p := Nat.two_pow_pos _
  have hn : m * 2 ^ p ≠ 0 := Nat.mul_ne_zero hm (by omega)
  rw [Nat.log2_eq_iff hn]
  have h1 := Nat.log2_self_le hm
  have h2 : m < 2 ^ (m.log2 + 1) := Nat.lt_log2_self
  refine ⟨?_, ?_⟩
  · rw [Nat.pow_add]; exact Nat.mul_le_mul_right _ h1
  · rw [show m.log2 + p + 1 = m.log2 + 1 + p by omega, Nat.pow_add]; exact Nat.mul_lt_mul_of_pos_right h2 hp

theorem log2_small (m : Nat) (h : 0 < m) (h2 : m < 9007199254740992) : m.log2 ≤ 52 := by
  have := (Nat.log2_lt (n := m) (k := 53) (by omega)).2 h2
  omega

theorem kept_bounds (m : Nat) (h : 0 < m) (h2 : m < 9007199254740992) : 4503599627370496 ≤ m * 2 ^ (52 - m.log2) ∧ m * 2 ^ (52 - m.log2) < 9007199254740992 := by
  have hl := log2_small m h h2
  have e := log2_times m (52 - m.log2) h
  rw [show m.log2 + (52 - m.log2) = 52 by omega] at e
  have hn : m * 2 ^ (52 - m.log2) ≠ 0 := Nat.mul_ne_zero (by omega) (by have := Nat.two_pow_pos (52 - m.log2); omega)
  exact (Nat.log2_eq_iff hn).1 e

theorem fb_one : fb 1 = 4607182418800017408 := by decide

theorem read_fb (m : Nat) (h : 0 < m) (h2 : m < 9007199254740992) : Ieee.double.read (fb m) = .number false (m * 2 ^ (52 - m.log2)) (-((52 - m.log2 : Nat) : Int)) := by
  have hl := log2_small m h h2
  have hk := kept_bounds m h h2
  have hb : Ieee.double.binade = 4503599627370496 := by decide
  have hs : Ieee.double.signWeight = 9223372036854775808 := by decide
  have hi : Ieee.double.infRung = 2047 * 4503599627370496 := by decide
  have hp : Ieee.double.leastPlace = -1074 := by decide
  unfold Ieee.Format.read fb
  rw [hb, hs, hi, hp]
  generalize m * 2 ^ (52 - m.log2) = K at *
  generalize m.log2 = L at *
  have e1 : ((1022 + L) * 4503599627370496 + K) / 9223372036854775808 % 2 = 0 := by omega
  have e2 : ((1022 + L) * 4503599627370496 + K) % 9223372036854775808 = (1022 + L) * 4503599627370496 + K := by omega
  simp only [e1, e2]
  rw [if_neg (by omega), if_pos (by omega)]
  have e3 : ((1022 + L) * 4503599627370496 + K) % 4503599627370496 = K - 4503599627370496 := by omega
  have e4 : ((1022 + L) * 4503599627370496 + K) / 4503599627370496 = 1023 + L := by omega
  rw [e3, e4]
  rw [show 4503599627370496 + (K - 4503599627370496) = K by omega, show (-1074 : Int) + ((1023 + L - 1 : Nat) : Int) = -((52 - L : Nat) : Int) by omega]
  rfl

theorem floatBits_add (x y : Nat) : floatBits .add .f64 x y = ((Ieee.double.read x).sum (Ieee.double.read y)).map Ieee.double.write := rfl
theorem write_number (s : Bool) (m : Nat) (p : Int) : Ieee.double.write (.number s m p) = Ieee.double.nearest s m p := rfl
theorem decode_f64 (x : Nat) : FloatKind.f64.decode x = Ieee.double.read x := rfl
theorem sum_numbers (m n : Nat) (i j : Int) (k l : Nat) (T : Nat) (b : Int) (hb : min i j = b) (hk : (i - b).toNat = k) (hl : (j - b).toNat = l) (hT : m * 2 ^ k + n * 2 ^ l = T) (h0 : 0 < T) :
    (Ieee.Datum.number false m i).sum (.number false n j) = some (.number false T b) := by
  subst hb hk hl
  have e : ((m * 2 ^ (i - min i j).toNat : Nat) : Int) + ((n * 2 ^ (j - min i j).toNat : Nat) : Int) = (T : Int) := by rw [← hT]; omega
  unfold Ieee.Datum.sum Ieee.signed
  simp only [Bool.false_eq_true, if_false, Nat.shiftLeft_eq, e]
  rw [if_neg (by omega), decide_eq_false (by omega), Int.natAbs_natCast]

theorem cut_exact (way : Ieee.Toward) (K d : Nat) (hw : way = .even ∨ way = .zero) (h : 0 < K) : way.cut false (K * 2 ^ d) d = K := by
  have hl := log2_times K d h
  have hm : min d ((K * 2 ^ d).log2 + 2) = d := by omega
  have hp : 0 < 2 ^ d := Nat.two_pow_pos _
  unfold Ieee.Toward.cut
  simp only [hm, Nat.shiftLeft_eq, Nat.one_mul, Nat.mul_div_cancel _ hp, Nat.mul_mod_left]
  have e : (2 ^ d == 2 * 0) = false := beq_eq_false_iff_ne.2 (by omega)
  rcases hw with rfl | rfl
  · simp only [e]; simp
  · simp

theorem nearest_gen (M j : Nat) (place last : Int) (K : Nat) (hM : M ≠ 0) (hlast : max (place + (M.log2 : Int) - 52) (-1074) = last) (h1 : (place - last).toNat = 0) (h2 : (last - place).toNat = j) (hK : M = K * 2 ^ j) (hk : 0 < K)
    (hi : (last - -1074).toNat * 4503599627370496 + K ≤ 2047 * 4503599627370496) : Ieee.double.nearest false M place = (last - -1074).toNat * 4503599627370496 + K := by
  have hb : Ieee.double.binade = 4503599627370496 := by decide
  have hir : Ieee.double.infRung = 2047 * 4503599627370496 := by decide
  have hlp : Ieee.double.leastPlace = -1074 := by decide
  have hfb : ((Ieee.double.fractionBits : Nat) : Int) = 52 := by decide
  unfold Ieee.Format.nearest Ieee.Format.word
  rw [if_neg hM, hb, hir, hlp, hfb]
  simp only [hlast, h1, h2, Nat.shiftLeft_zero]
  rw [hK, cut_exact .even _ _ (.inl rfl) hk]
  simp only [Bool.false_eq_true, if_false]
  exact Nat.min_eq_left hi

theorem nearest_fb (m p : Nat) (h : 0 < m) (h2 : m < 9007199254740992) (hp : 52 ≤ p + m.log2) (_hq : p ≤ 1074) : Ieee.double.nearest false (m * 2 ^ p) (-(p : Int)) = fb m := by
  have hl := log2_small m h h2
  have hk := kept_bounds m h h2
  have hn : m * 2 ^ p ≠ 0 := Nat.mul_ne_zero (by omega) (by have := Nat.two_pow_pos p; omega)
  have e5 : m * 2 ^ p = (m * 2 ^ (52 - m.log2)) * 2 ^ (m.log2 + p - 52) := by
    rw [Nat.mul_assoc, ← Nat.pow_add, show 52 - m.log2 + (m.log2 + p - 52) = p by omega]
  have e := log2_times m p h
  unfold fb
  generalize m * 2 ^ p = M at *
  generalize m * 2 ^ (52 - m.log2) = K at *
  generalize m.log2 = L at *
  rw [nearest_gen M (L + p - 52) (-(p : Int)) ((L : Int) - 52) K hn (by rw [e]; omega) (by omega) (by omega) e5 (by omega) (by omega)]
  rw [show ((L : Int) - 52 - -1074).toNat = 1022 + L by omega]

theorem fb_add (m : Nat) (h : 0 < m) (h2 : m < 9007199254740991) : floatBits .add .f64 (fb m) 4607182418800017408 = some (fb (m + 1)) := by
  have hl := log2_small m h (by omega)
  have hl1 : (1 : Nat).log2 = 0 := by decide
  rw [← fb_one, floatBits_add, read_fb m h (by omega), read_fb 1 (by omega) (by omega), hl1]
  have e3 : m * 2 ^ (52 - m.log2) * 2 ^ m.log2 + 1 * 2 ^ (52 - 0) * 2 ^ 0 = (m + 1) * 2 ^ 52 := by
    rw [Nat.mul_assoc, ← Nat.pow_add, show 52 - m.log2 + m.log2 = 52 by omega, Nat.add_mul]
  rw [sum_numbers _ _ _ _ m.log2 0 ((m + 1) * 2 ^ 52) (-((52 : Nat) : Int)) (by omega) (by omega) (by omega) e3 (Nat.mul_pos (by omega) (Nat.two_pow_pos _))]
  rw [Option.map_some, write_number, nearest_fb (m + 1) 52 (by omega) (by omega) (by omega) (by omega)]

theorem fb_add0 (m : Nat) (h : 0 < m) (h2 : m < 9007199254740992) : floatBits .add .f64 (fb m) 0 = some (fb m) := by
  have hl := log2_small m h (by omega)
  have e : Ieee.double.read 0 = .number false 0 (-((1074 : Nat) : Int)) := by decide
  rw [floatBits_add, read_fb m h (by omega), e]
  obtain ⟨q, hq⟩ : ∃ q : Nat, q = 1074 := ⟨_, rfl⟩
  have e3 : m * 2 ^ (52 - m.log2) * 2 ^ (m.log2 + 1022) + 0 * 2 ^ 0 = m * 2 ^ q := by rw [Nat.mul_assoc, ← Nat.pow_add, show 52 - m.log2 + (m.log2 + 1022) = q by omega, Nat.zero_mul, Nat.add_zero]
  rw [← hq]
  rw [sum_numbers _ _ _ _ (m.log2 + 1022) 0 (m * 2 ^ q) (-(q : Int)) (by omega) (by omega) (by omega) e3 (Nat.mul_pos h (Nat.two_pow_pos _))]
  rw [Option.map_some, write_number, nearest_fb m q h h2 (by omega) (by omega)]

theorem toInt_fb (m k : Nat) (h : 0 < m) : (Ieee.Datum.number false (m * 2 ^ k) (-(k : Int))).toInt .zero = some (m : Int) := by
  unfold Ieee.Datum.toInt Ieee.Datum.integral Ieee.signed
  have e1 : (-(k : Int)).toNat = 0 := by omega
  have e2 : (- -(k : Int)).toNat = k := by omega
  simp only [e1, e2, Nat.shiftLeft_zero, Bool.false_eq_true, if_false]
  rw [cut_exact .zero m k (.inr rfl) h]

theorem ftiv (bits : Nat) (n : Int) (h : (FloatKind.f64.decode bits).toInt .zero = some n) (h1 : IntKind.i64.min ≤ n) (h2 : n ≤ IntKind.i64.max) : floatToIntVal .f64 bits .i64 = some n := by
  unfold floatToIntVal
  rw [h]
  exact if_pos ⟨h1, h2⟩
theorem i64_min : IntKind.i64.min = -9223372036854775808 := rfl
theorem i64_max : IntKind.i64.max = 9223372036854775807 := rfl

theorem fb_int (m : Nat) (h : 0 < m) (h2 : m < 9007199254740992) : floatToIntVal .f64 (fb m) .i64 = some (m : Int) :=
  ftiv (fb m) m (by rw [decode_f64, read_fb m h h2, toInt_fb m _ h]) (by rw [i64_min]; omega) (by rw [i64_max]; omega)
end Go.Proofs.YtckaiejbgnhgcaaGreatDoor.Wd.Ws
namespace Go.Proofs.YtckaiejbgnhgcaaGreatDoor.Wd.Ws
open Go Go.RowKit
set_option linter.unusedVariables false
set_option maxRecDepth 100000

/-- A place of two parts is put where it is told. -/
theorem put_cpx {P : Program} (w : World) (a : Addr) (m : Mode) (x y : Nat) : (store a (.complex .f64 x y) m).run P w = stored P w a (.complex .f64 x y) m := run_store P w a _ m rfl
attribute [local go_sem] put_cpx

theorem kbq {w a b : World} (h : Below w.heap.size w a) (g : Below a.heap.size a b) : Below w.heap.size w b := h.trans (g.mono h.size)
theorem lt_of_cell {w : World} {b o : Nat} {v : Value} (h : w.cell? ⟨b, o, none⟩ = some v) : b < w.heap.size := by
  by_cases hb : b < w.heap.size
  · exact hb
  · simp [World.cell?, hb] at h
theorem celln {w w' : World} (h : Below w.heap.size w w') {b o : Nat} {v : Value} (c : w.cell? ⟨b, o, none⟩ = some v) : w'.cell? ⟨b, o, none⟩ = some v :=
  (h.cell (p := ⟨b, o, none⟩) (lt_of_cell c)).trans c
theorem dcell {w : World} {p : Addr} {v : Value} (c : w.cell? p = some v) : w.drew.cell? p = some v := c

/-! ### A row of bytes that is known -/
def Txt (w : World) (A : Option Addr) (n : Nat) (bs : List UInt8) : Prop :=
  bs.length = n ∧ (0 < n → ∃ b off, A = some ⟨b, off, none⟩ ∧ b < w.heap.size ∧ ∀ k, k < n → w.cell? ⟨b, off + k, none⟩ = some (.int .u8 ((bs.getD k 0).toNat : Int)))
theorem Txt.below {w w' : World} {A : Option Addr} {n : Nat} {bs : List UInt8} (h : Txt w A n bs) (k : Below w.heap.size w w') : Txt w' A n bs :=
  ⟨h.1, fun hn => by
    obtain ⟨b, off, e, hb, hc⟩ := h.2 hn
    exact ⟨b, off, e, Nat.lt_of_lt_of_le hb k.size, fun j hj => (k.cell (p := ⟨b, off + j, none⟩) hb).trans (hc j hj)⟩⟩
theorem Txt.belowN {w w' : World} {B : Nat} {A : Option Addr} {n : Nat} {bs : List UInt8} (h : Txt w A n bs) (k : Below B w w') (hA : ∀ b off, A = some ⟨b, off, none⟩ → b < B) : Txt w' A n bs :=
  ⟨h.1, fun hn => by
    obtain ⟨b, off, e, hb, hc⟩ := h.2 hn
    exact ⟨b, off, e, Nat.lt_of_lt_of_le hb k.size, fun j hj => (k.cell (p := ⟨b, off + j, none⟩) (hA b off e)).trans (hc j hj)⟩⟩

/-! ### Three cells of a block that may be written -/
def R3 (w : World) (B o : Nat) (x y z : Value) : Prop := (w.cell? ⟨B, o, none⟩ = some x ∧ w.cell? ⟨B, o + 1, none⟩ = some y ∧ w.cell? ⟨B, o + 2, none⟩ = some z) ∧ w.frozen? ⟨B, o, none⟩ = false ∧ w.frozen? ⟨B, o + 1, none⟩ = false ∧ w.frozen? ⟨B, o + 2, none⟩ = false
theorem R3.lt {w : World} {B o : Nat} {x y z : Value} (h : R3 w B o x y z) : B < w.heap.size := lt_of_cell h.1.1
theorem R3.below {w w' : World} {N B o : Nat} {x y z : Value} (h : R3 w B o x y z) (g : Below N w w') (hB : B < N) : R3 w' B o x y z :=
  ⟨⟨(g.cell (p := ⟨B, o, none⟩) hB).trans h.1.1, (g.cell (p := ⟨B, o + 1, none⟩) hB).trans h.1.2.1, (g.cell (p := ⟨B, o + 2, none⟩) hB).trans h.1.2.2⟩,
   (g.frozen (p := ⟨B, o, none⟩) hB).trans h.2.1, (g.frozen (p := ⟨B, o + 1, none⟩) hB).trans h.2.2.1, (g.frozen (p := ⟨B, o + 2, none⟩) hB).trans h.2.2.2⟩
theorem cell_set (w : World) (B o C p : Nat) (v : Value) (h : B ≠ C ∨ o ≠ p) : (w.setCell ⟨B, o, none⟩ v).cell? ⟨C, p, none⟩ = w.cell? ⟨C, p, none⟩ :=
  World.cell?_setCell_other _ _ _ _ (fun e => by injection e with e1 e2; omega)

/-- The place of a walk as a number of two parts. -/
abbrev cpx (n c : Nat) : Value := .complex .f64 (fb n) (fb c)
/-- How far a walk is gone. -/
abbrev gonT (w : World) (B i n c : Nat) : World := (w.setCell ⟨B, 1, none⟩ (.int .i64 (i : Int))).setCell ⟨B, 2, none⟩ (cpx n c)
/-- A walk: its text, how far it is gone, its place. -/
abbrev Wlk (w : World) (B : Nat) (T : Value) (i n c : Nat) : Prop := R3 w B 0 T (.int .i64 (i : Int)) (cpx n c)
theorem Wlk.go {w : World} {B : Nat} {T : Value} {i n c : Nat} (h : Wlk w B T i n c) (i' n' c' : Nat) : Wlk (gonT w B i' n' c') B T i' n' c' := by
  have h1 : (w.setCell ⟨B, 1, none⟩ (.int .i64 (i' : Int))).cell? ⟨B, 1, none⟩ = some (.int .i64 (i' : Int)) := World.cell?_setCell_same _ _ _ h.1.2.1
  have h2 : (w.setCell ⟨B, 1, none⟩ (.int .i64 (i' : Int))).cell? ⟨B, 2, none⟩ = some (cpx n c) := by rw [cell_set _ _ _ _ _ _ (by omega)]; exact h.1.2.2
  refine ⟨⟨?_, ?_, ?_⟩, ?_, ?_, ?_⟩
  · rw [cell_set _ _ _ _ _ _ (by omega), cell_set _ _ _ _ _ _ (by omega)]; exact h.1.1
  · rw [cell_set _ _ _ _ _ _ (by omega)]; exact h1
  · exact World.cell?_setCell_same _ _ _ h2
  · simp only [World.frozen?_setCell]; exact h.2.1
  · simp only [World.frozen?_setCell]; exact h.2.2.1
  · simp only [World.frozen?_setCell]; exact h.2.2.2
theorem below_gon {N : Nat} {w w' : World} (h : Below N w w') {B : Nat} (hB : N ≤ B) (i n c : Nat) : Below N w (gonT w' B i n c) :=
  (h.setCell (p := ⟨B, 1, none⟩) hB _).setCell (p := ⟨B, 2, none⟩) hB _

/-! ### kindOf -/
theorem kind_any (c : UInt8) (w : World) : Calls Tryz.prog 99 #[.int .u8 (c.toNat : Int)] w fun e w' => e = .returned (.int .u8 ((kd c : Nat) : Int)) ∧ w = w' := by
  have hc : c.toNat < 256 := c.toNat_lt
  have e0 : ∀ k : UInt8, c = k ↔ c.toNat = k.toNat := fun k => ⟨fun h => by rw [h], fun h => UInt8.toNat_inj.1 h⟩
  have hk : kd c = if c.toNat = 32 ∨ c.toNat = 9 then 2 else if c.toNat = 10 then 3 else if c.toNat = 35 then 4 else if 33 ≤ c.toNat ∧ c.toNat ≤ 126 then 5 else 1 := by
    unfold kd
    simp only [e0, UInt8.le_iff_toNat_le]
    rfl
  rw [hk]
  clear hk e0
  generalize c.toNat = v at *
  by_cases h1 : v = 32
  · rw [if_pos (.inl h1)]; subst h1
    go_enter Tryz.func99, Tryz.ntmps99
    go_wp2
    go_ret
    exact ⟨rfl, rfl⟩
  · have d1 : ((v : Int) == 32) = false := beq_eq_false_iff_ne.2 (by omega)
    by_cases h2 : v = 9
    · rw [if_pos (.inr h2)]; subst h2
      go_enter Tryz.func99, Tryz.ntmps99
      go_wp2
      go_ret
      exact ⟨rfl, rfl⟩
    · have d2 : ((v : Int) == 9) = false := beq_eq_false_iff_ne.2 (by omega)
      rw [if_neg (by omega)]
      by_cases h3 : v = 10
      · rw [if_pos h3]; subst h3
        go_enter Tryz.func99, Tryz.ntmps99
        go_wp2
        go_ret
        exact ⟨rfl, rfl⟩
      · have d3 : ((v : Int) == 10) = false := beq_eq_false_iff_ne.2 (by omega)
        rw [if_neg h3]
        by_cases h4 : v = 35
        · rw [if_pos h4]; subst h4
          go_enter Tryz.func99, Tryz.ntmps99
          go_wp2
          go_ret
          exact ⟨rfl, rfl⟩
        · have d4 : ((v : Int) == 35) = false := beq_eq_false_iff_ne.2 (by omega)
          rw [if_neg h4]
          by_cases h5 : 33 ≤ v
          · have d5 : decide ((33 : Int) ≤ (v : Int)) = true := decide_eq_true (by omega)
            by_cases h6 : v ≤ 126
            · have d6 : decide ((v : Int) ≤ (126 : Int)) = true := decide_eq_true (by omega)
              rw [if_pos ⟨h5, h6⟩]
              go_enter Tryz.func99, Tryz.ntmps99
              go_wp2
              go_ret
              exact ⟨rfl, rfl⟩
            · have d6 : decide ((v : Int) ≤ (126 : Int)) = false := decide_eq_false (by omega)
              rw [if_neg (by omega)]
              go_enter Tryz.func99, Tryz.ntmps99
              go_wp2
              go_ret
              exact ⟨rfl, rfl⟩
          · have d5 : decide ((33 : Int) ≤ (v : Int)) = false := decide_eq_false (by omega)
            rw [if_neg (by omega)]
            go_enter Tryz.func99, Tryz.ntmps99
            go_wp2
            go_ret
            exact ⟨rfl, rfl⟩

theorem met_end (B : Nat) (A : Option Addr) (N cap n c : Nat) (w : World) (h : Wlk w B (.slice A N cap) N n c) :
    Calls Tryz.prog 72 #[.pointer (some ⟨B, 0, none⟩)] w fun e w' => e = .returned (.int .u8 0) ∧ Drew w w' := by
  have hB := h.lt
  obtain ⟨⟨c0, c1, c2⟩, f0, f1, f2⟩ := h
  go_enter Tryz.func72, Tryz.ntmps72
  go_wp2
  go_quiet (fail)
  go_wp2
  go_ret
  exact ⟨rfl, _, rfl⟩

theorem met_at (B : Nat) (b off N cap i n c : Nat) (x : UInt8) (w : World) (h : Wlk w B (.slice (some ⟨b, off, none⟩) N cap) i n c) (hi : i < N) (hx : w.cell? ⟨b, off + i, none⟩ = some (.int .u8 (x.toNat : Int))) :
    Calls Tryz.prog 72 #[.pointer (some ⟨B, 0, none⟩)] w fun e w' => e = .returned (.int .u8 ((kd x : Nat) : Int)) ∧ Drew w w' := by
  have hB := h.lt
  have hb := lt_of_cell hx
  have K := Lib.hid (fun w => kind_any x w)
  obtain ⟨⟨c0, c1, c2⟩, f0, f1, f2⟩ := h
  have hne : ((i : Int) == (N : Int)) = false := beq_eq_false_iff_ne.2 (by omega)
  generalize (x.toNat : Int) = v at *
  generalize ((kd x : Nat) : Int) = r at *
  go_enter Tryz.func72, Tryz.ntmps72
  go_wp2
  go_quiet (fail)
  go_wp2
  go_quiet ((go_at_call 99; exact (K.out _).mono fun _ _ k => ⟨k.1, _, k.2.symm⟩))
  go_wp2
  go_ret
  exact ⟨rfl, _, by first | rfl | exact World.drewN_drewN _ _ _⟩

theorem on_any (B : Nat) (T : Value) (i n c : Nat) (w : World) (h : Wlk w B T i n c) (hi : i < 9007199254740992) (hn : 0 < n) (hn2 : n < 9007199254740991) (hc : 0 < c) (hc2 : c < 9007199254740991) :
    Calls Tryz.prog 73 #[.pointer (some ⟨B, 0, none⟩)] w fun e w' => e = .returned (.tuple #[]) ∧ w' = gonT w B (i + 1) n (c + 1) := by
  have hB := h.lt
  have hz := fun W => run_complex_sum (P := Tryz.prog) W .add (.inl rfl) 127 .f64 (fb n) (fb c) 0 4607182418800017408 (fb n) (fb (c + 1)) (by unfold cSumBits; rw [fb_add0 n hn (by omega), fb_add c hc hc2]; rfl)
  have h' : R3 w B 0 T (.int .i64 (i : Int)) (.complex .f64 (fb n) (fb c)) := h
  clear h
  unfold gonT cpx
  generalize fb n = fn at *
  generalize fb c = fc at *
  generalize fb (c + 1) = fd at *
  obtain ⟨⟨c0, c1, c2⟩, f0, f1, f2⟩ := h'
  have c2' : (w.setCell ⟨B, 1, none⟩ (.int .i64 ((i : Int) + 1))).cell? ⟨B, 2, none⟩ = some (.complex .f64 fn fc) := by rw [cell_set _ _ _ _ _ _ (by omega)]; exact c2
  go_enter Tryz.func73, Tryz.ntmps73
  go_wp2
  go_returns
  exact ⟨rfl, rfl⟩

theorem down_any (B : Nat) (T : Value) (i n c : Nat) (w : World) (h : Wlk w B T i n c) (hi : i < 9007199254740992) (hn : 0 < n) (hn2 : n < 9007199254740991) :
    Calls Tryz.prog 75 #[.pointer (some ⟨B, 0, none⟩)] w fun e w' => e = .returned (.tuple #[]) ∧ w' = gonT w B (i + 1) (n + 1) 1 := by
  have hB := h.lt
  have hz := fun W => run_float_arith (P := Tryz.prog) W .add 159 .f64 (fb n) 4607182418800017408 (fb (n + 1)) (fb_add n hn hn2)
  have h' : R3 w B 0 T (.int .i64 (i : Int)) (.complex .f64 (fb n) (fb c)) := h
  clear h
  unfold gonT cpx
  rw [fb_one]
  generalize fb n = fn at *
  generalize fb c = fc at *
  generalize fb (n + 1) = fd at *
  obtain ⟨⟨c0, c1, c2⟩, f0, f1, f2⟩ := h'
  have c2' : (w.setCell ⟨B, 1, none⟩ (.int .i64 ((i : Int) + 1))).cell? ⟨B, 2, none⟩ = some (.complex .f64 fn fc) := by rw [cell_set _ _ _ _ _ _ (by omega)]; exact c2
  go_enter Tryz.func75, Tryz.ntmps75
  go_wp2
  go_returns
  exact ⟨rfl, rfl⟩

theorem place_any (B : Nat) (T : Value) (i n c : Nat) (w : World) (h : Wlk w B T i n c) (hn : 0 < n) (hn2 : n < 9007199254740991) (hc : 0 < c) (hc2 : c < 9007199254740991) :
    Calls Tryz.prog 76 #[.pointer (some ⟨B, 0, none⟩)] w fun e w' => e = .returned (.agg #[.int .i64 (n : Int), .int .i64 (c : Int)]) ∧ Below w.heap.size w w' := by
  have hB := h.lt
  have h1 := fun W => run_convert_float_int (P := Tryz.prog) W 159 3 .f64 .i64 (fb n) n (by kernel_rfl) Tryz.underlying3 (fb_int n hn (by omega))
  have h2 := fun W => run_convert_float_int (P := Tryz.prog) W 159 3 .f64 .i64 (fb c) c (by kernel_rfl) Tryz.underlying3 (fb_int c hc (by omega))
  have h' : R3 w B 0 T (.int .i64 (i : Int)) (.complex .f64 (fb n) (fb c)) := h
  clear h
  generalize fb n = fn at *
  generalize fb c = fc at *
  obtain ⟨⟨c0, c1, c2⟩, f0, f1, f2⟩ := h'
  have hne : B ≠ w.heap.size := by omega
  go_enter Tryz.func76, Tryz.ntmps76
  go_wp2
  go_region
  go_wp2
  go_returns
  refine ⟨rfl, ?_⟩
  exact Below.drew (((Below.refl _ w).alloc (Nat.le_refl _) _))
end Go.Proofs.YtckaiejbgnhgcaaGreatDoor.Wd.Ws
namespace Go.Proofs.YtckaiejbgnhgcaaGreatDoor.Wd.Ws
open Go Go.RowKit
set_option linter.unusedVariables false
set_option maxRecDepth 100000

/-- By a goto: what holds at that label. -/
def Exit.jumps (K : Nat → Act → World → Prop) (Q : Exit → Act → World → Prop) : Exit → Act → World → Prop
  | .goto l, a, w => K l a w
  | e, a, w => Q e a w

/-- Out of a scope: by a jump, to where that jump comes in the end; else as it is left. -/
theorem leave_scope {P : Program} {c : Code} {Q : Exit → Act → World → Prop} {K : Nat → Act → World → Prop} {b : Frame} {k : List Item} {cs : List Frame} {S : Machine} {e : Exit} {a₁ : Act} {w₁ : World}
    (hq : Exit.jumps K Q e a₁ w₁) (harr : Arrives P S b (.inScope c :: k) cs e a₁ w₁)
    (land : ∀ l a w, K l a w → ∃ rest, findLabel c l = some rest ∧ ∃ e' a' w', Q e' a' w' ∧ Arrives P (lone (b.at a (.code rest :: .inScope c :: k)) cs w) b k cs e' a' w') :
    ∃ e' a' w', Q e' a' w' ∧ Arrives P S b k cs e' a' w' := by
  cases e with
  | goto l =>
    obtain ⟨rest, hf, e', a', w', hq', harr'⟩ := land l a₁ w₁ hq
    refine ⟨e', a', w', hq', .of_steps (harr (.code rest :: .inScope c :: k) ?_) harr'⟩
    simp [gotoIn, hf]
  | normal => exact ⟨_, _, _, hq, Steps.trans harr (.one step_inScope)⟩
  | exit id => exact ⟨_, _, _, hq, fun k' hk => harr k' (by simp [exitTo, hk])⟩
  | ret => exact ⟨_, _, _, hq, harr⟩
  | panic ch => exact ⟨_, _, _, hq, harr⟩
  | outgrown => exact ⟨_, _, _, hq, harr⟩

/-- A scope of labels, each with what holds at it and how far it is from the end. -/
theorem wp_scope_many {P : Program} {a : Act} {w : World} {Q : Exit → Act → World → Prop} {c : Code} (J : Nat → Nat → Act → World → Prop)
    (pass : ∀ l m a w, J l m a w → ∃ rest, findLabel c l = some (Code.skip.seq rest) ∧ rest.wp P (Exit.jumps (fun l' a' w' => ∃ m', m' < m ∧ J l' m' a' w') Q) a w)
    (first : c.wp P (Exit.jumps (fun l a' w' => ∃ m, J l m a' w') Q) a w) : (Code.scope c).wp P Q a w := by
  intro b k cs
  have far : ∀ (n m : Nat), m < n → ∀ l a w, J l m a w → ∃ rest, findLabel c l = some rest ∧ ∃ e' a' w', Q e' a' w' ∧ Arrives P (lone (b.at a (.code rest :: .inScope c :: k)) cs w) b k cs e' a' w' := by
    intro n
    induction n with
    | zero => intro m hm; exact absurd hm (Nat.not_lt_zero _)
    | succ n ih =>
      intro m hm l a w hJ
      obtain ⟨rest, hf, hp⟩ := pass l m a w hJ
      have hp2 : (Code.skip.seq rest).wp P (Exit.jumps (fun l' a' w' => ∃ m', m' < m ∧ J l' m' a' w') Q) a w := wp_seq (wp_skip hp)
      obtain ⟨e, a₁, w₁, hq, harr⟩ := hp2 b (.inScope c :: k) cs
      exact ⟨_, hf, leave_scope hq harr fun l' a' w' ⟨m', hm', hJ'⟩ => ih m' (by omega) l' a' w' hJ'⟩
  obtain ⟨e, a₁, w₁, hq, harr⟩ := first b (.inScope c :: k) cs
  obtain ⟨e', a', w', hq', harr'⟩ := leave_scope hq harr fun l a' w' ⟨m, hJ⟩ => far (m + 1) m (Nat.lt_succ_self m) l a' w' hJ
  exact ⟨e', a', w', hq', .of_steps (.one step_scope) harr'⟩

/-- One label: whoever comes to it comes as one who jumps there. -/
theorem wp_scope_one {P : Program} {a : Act} {w : World} {Q : Exit → Act → World → Prop} {c r0 : Code} (h0 : findLabel c 0 = some (Code.skip.seq r0)) (J : Nat → Act → World → Prop)
    (pass : ∀ m a w, J m a w → r0.wp P (Exit.jumps (fun l a' w' => l = 0 ∧ ∃ m', m' < m ∧ J m' a' w') Q) a w)
    (first : (∀ m a w, J m a w → r0.wp P (Exit.jumps (fun l a' w' => l = 0 ∧ ∃ m', J m' a' w') Q) a w) → c.wp P (Exit.jumps (fun l a' w' => l = 0 ∧ ∃ m', J m' a' w') Q) a w) : (Code.scope c).wp P Q a w := by
  refine wp_scope_many (fun l m a w => l = 0 ∧ J m a w) ?_ ?_
  · rintro l m a w ⟨rfl, hJ⟩
    refine ⟨r0, h0, Code.wp_mono ?_ (pass m a w hJ)⟩
    intro e a' w' h'
    cases e <;> first | exact h' | (obtain ⟨hl, m', hm, hJ'⟩ := h'; exact ⟨m', hm, hl, hJ'⟩)
  · refine Code.wp_mono ?_ (first fun m a w hJ => Code.wp_mono ?_ (pass m a w hJ))
    · intro e a' w' h'
      cases e <;> first | exact h' | (obtain ⟨hl, m', hJ'⟩ := h'; exact ⟨m', hl, hJ'⟩)
    · intro e a' w' h'
      cases e <;> first | exact h' | (obtain ⟨hl, m', hm, hJ'⟩ := h'; exact ⟨hl, m', hJ'⟩)

/-- Four labels, the second one of which goes on to the fourth. -/
theorem wp_scope_four {P : Program} {a : Act} {w : World} {Q : Exit → Act → World → Prop} {c r0 r1 r2 r3 : Code} (h0 : findLabel c 0 = some (Code.skip.seq r0)) (h1 : findLabel c 1 = some (Code.skip.seq r1)) (h2 : findLabel c 2 = some (Code.skip.seq r2)) (h3 : findLabel c 3 = some (Code.skip.seq r3))
    (J : Nat → Nat → Act → World → Prop)
    (pass3 : ∀ m a w, J 3 m a w → r3.wp P (Exit.jumps (fun l a' w' => l < 4 ∧ ∃ m', m' < m ∧ J l m' a' w') Q) a w)
    (pass0 : ∀ m a w, J 0 m a w → r0.wp P (Exit.jumps (fun l a' w' => l < 4 ∧ ∃ m', m' < m ∧ J l m' a' w') Q) a w)
    (pass1 : ∀ m, (∀ a w, J 3 m a w → r3.wp P (Exit.jumps (fun l a' w' => l < 4 ∧ ∃ m', m' < m ∧ J l m' a' w') Q) a w) → ∀ a w, J 1 m a w → r1.wp P (Exit.jumps (fun l a' w' => l < 4 ∧ ∃ m', m' < m ∧ J l m' a' w') Q) a w)
    (pass2 : ∀ m a w, J 2 m a w → r2.wp P (Exit.jumps (fun l a' w' => l < 4 ∧ ∃ m', m' < m ∧ J l m' a' w') Q) a w)
    (first : (∀ m a w, J 0 m a w → r0.wp P (Exit.jumps (fun l a' w' => l < 4 ∧ ∃ m', J l m' a' w') Q) a w) → c.wp P (Exit.jumps (fun l a' w' => l < 4 ∧ ∃ m', J l m' a' w') Q) a w) : (Code.scope c).wp P Q a w := by
  refine wp_scope_many (fun l m a w => l < 4 ∧ J l m a w) ?_ ?_
  · rintro l m a w ⟨hl, hJ⟩
    have hm : ∀ (e : Exit) (a' : Act) (w' : World), Exit.jumps (fun l a' w' => l < 4 ∧ ∃ m', m' < m ∧ J l m' a' w') Q e a' w' → Exit.jumps (fun l' a' w' => ∃ m', m' < m ∧ l' < 4 ∧ J l' m' a' w') Q e a' w' := by
      intro e a' w' h'
      cases e <;> first | exact h' | (obtain ⟨hl, m', hm, hJ'⟩ := h'; exact ⟨m', hm, hl, hJ'⟩)
    match l, hl with
    | 0, _ => exact ⟨r0, h0, Code.wp_mono hm (pass0 m a w hJ)⟩
    | 1, _ => exact ⟨r1, h1, Code.wp_mono hm (pass1 m (pass3 m) a w hJ)⟩
    | 2, _ => exact ⟨r2, h2, Code.wp_mono hm (pass2 m a w hJ)⟩
    | 3, _ => exact ⟨r3, h3, Code.wp_mono hm (pass3 m a w hJ)⟩
  · refine Code.wp_mono ?_ (first fun m a w hJ => Code.wp_mono ?_ (pass0 m a w hJ))
    · intro e a' w' h'
      cases e <;> first | exact h' | (obtain ⟨hl, m', hJ'⟩ := h'; exact ⟨m', hl, hJ'⟩)
    · intro e a' w' h'
      cases e <;> first | exact h' | (obtain ⟨hl, m', hm, hJ'⟩ := h'; exact ⟨hl, m', hJ'⟩)

theorem fresh2 {W w2 : World} {x y : Value} {t : TypeId} (g : Below (W.alloc (.cells #[x, y] t)).drew.heap.size (W.alloc (.cells #[x, y] t)).drew w2) :
    (w2.cell? ⟨W.heap.size, 0, none⟩ = some x ∧ w2.cell? ⟨W.heap.size, 1, none⟩ = some y) ∧ w2.frozen? ⟨W.heap.size, 0, none⟩ = false ∧ w2.frozen? ⟨W.heap.size, 1, none⟩ = false := by
  have h : W.heap.size < (W.alloc (.cells #[x, y] t)).drew.heap.size := by simp
  refine ⟨⟨(g.cell (p := ⟨W.heap.size, 0, none⟩) h).trans (by simp), (g.cell (p := ⟨W.heap.size, 1, none⟩) h).trans (by simp)⟩, (g.frozen (p := ⟨W.heap.size, 0, none⟩) h).trans (by simp), (g.frozen (p := ⟨W.heap.size, 1, none⟩) h).trans (by simp)⟩
/-- The walk halts here. -/
def Stop (p : Prop) : Prop := p
theorem stopHere {p : Prop} (h : Stop p) : p := h
theorem keepB {w w' : World} {B o : Nat} {v : Value} (c : w.cell? ⟨B, o, none⟩ = some v) (k : Below w.heap.size w w') : Below w.heap.size w w' ∧ w'.cell? ⟨B, o, none⟩ = some v := ⟨k, celln k c⟩

/-! ### All but one block as it was -/
theorem but_of {w W : World} {B : Nat} (h : Below w.heap.size w W) : w.grownBy W (some B) := ⟨h.os, h.tape, h.output, h.size, fun k hk _ => h.block k hk⟩
theorem but_below {w W W' : World} {B : Nat} (h : w.grownBy W (some B)) (g : Below W.heap.size W W') : w.grownBy W' (some B) :=
  ⟨g.os.trans h.os, g.tape.trans h.tape, g.output.trans h.output, Nat.le_trans h.size g.size, fun k hk hn => (g.block k (Nat.lt_of_lt_of_le hk h.size)).trans (h.block k hk hn)⟩
theorem but_gon {w W : World} {B : Nat} (h : w.grownBy W (some B)) (i n c : Nat) : w.grownBy (gonT W B i n c) (some B) := by
  refine ⟨h.os, h.tape, h.output, ?_, fun k hk hn => ?_⟩
  · simp only [gonT, World.size_setCell]; exact h.size
  · have hk' : k ≠ B := fun e => hn (by rw [e])
    rw [gonT, Below.heap_setCell _ _ _ _ (fun e => hk' e), Below.heap_setCell _ _ _ _ (fun e => hk' e)]
    exact h.block k hk hn
theorem but_belowN {w W W' : World} {B : Nat} (h : w.grownBy W (some B)) (g : Below w.heap.size W W') : w.grownBy W' (some B) :=
  ⟨g.os.trans h.os, g.tape.trans h.tape, g.output.trans h.output, Nat.le_trans h.size g.size, fun k hk hn => (g.block k hk).trans (h.block k hk hn)⟩
theorem but_cell {w W : World} {B : Nat} (h : w.grownBy W (some B)) {b o : Nat} {v : Value} (hb : b ≠ B) (c : w.cell? ⟨b, o, none⟩ = some v) : W.cell? ⟨b, o, none⟩ = some v :=
  (World.cell?_of_block (w := w) (h.block b (lt_of_cell c) (fun e => hb (by injection e)))).trans c
theorem but_txt {w W : World} {B : Nat} (h : w.grownBy W (some B)) {A : Option Addr} {N : Nat} {bs : List UInt8} (hT : Txt w A N bs) (hb : ∀ b off, A = some ⟨b, off, none⟩ → b ≠ B) : Txt W A N bs :=
  ⟨hT.1, fun hn => by
    obtain ⟨b, off, e, hlt, hc⟩ := hT.2 hn
    exact ⟨b, off, e, Nat.lt_of_lt_of_le hlt h.size, fun j hj => but_cell h (hb b off e) (hc j hj)⟩⟩
theorem drew_below {w w' : World} (h : Drew w w') : Below w.heap.size w w' := h.kept.2

/-- The kind of what stands next. -/
def kat (bs : List UInt8) (j : Nat) : Nat := if j < bs.length then kd (bs.getD j 0) else 0
theorem met_any (B : Nat) (A : Option Addr) (N cap j n c : Nat) (bs : List UInt8) (w : World) (h : Wlk w B (.slice A N cap) j n c) (hT : Txt w A N bs) (hj : j ≤ N) :
    Calls Tryz.prog 72 #[.pointer (some ⟨B, 0, none⟩)] w fun e w' => e = .returned (.int .u8 ((kat bs j : Nat) : Int)) ∧ Drew w w' := by
  by_cases hlt : j < N
  · obtain ⟨b, off, rfl, hb, hc⟩ := hT.2 (by omega)
    have e : kat bs j = kd (bs.getD j 0) := if_pos (by rw [hT.1]; exact hlt)
    rw [e]
    exact met_at B b off N cap j n c _ w h hlt (hc j hlt)
  · obtain rfl : j = N := by omega
    have e : kat bs j = 0 := if_neg (by rw [hT.1]; exact hlt)
    rw [e]
    exact met_end B A j cap n c w h

/-- The text of some bytes. -/
abbrev str (l : List UInt8) : ByteArray := ⟨l.toArray⟩

theorem cut_str {w : World} {b off N : Nat} {bs : List UInt8} (hT : Txt w (some ⟨b, off, none⟩) N bs) (i L cap : Nat) (hL : i + L ≤ N) : (convert 22 9 (.slice (some ⟨b, off + i, none⟩) L cap)).run Tryz.prog w = .ok (.string (str ((bs.drop i).take L))) w := by
  have e : ((bs.drop i).take L).length = L := by rw [List.length_take, List.length_drop, hT.1]; omega
  have h := run_convert_bytes_back w 22 9 5 ⟨b, off + i, none⟩ cap ((bs.drop i).take L) Tryz.underlying22 Tryz.underlying5 Tryz.underlying9 (fun j hj => by
    rw [e] at hj
    obtain ⟨b', off', e', hb, hc⟩ := hT.2 (by omega)
    simp only [Option.some.injEq, Addr.mk.injEq] at e'
    obtain ⟨rfl, rfl, _⟩ := e'
    rw [Go.WideShapes.add_plain, Nat.add_assoc, hc (i + j) (by omega)]
    have hij : i + j < bs.length := by rw [hT.1]; omega
    simp [List.getD_eq_getElem?_getD, List.getElem?_eq_getElem hij])
  rw [e] at h
  exact h

set_option maxHeartbeats 1000000 in
theorem word_any (B : Nat) (b off N cap i n c L : Nat) (bs : List UInt8) (w : World) (h : Wlk w B (.slice (some ⟨b, off, none⟩) N cap) i n c) (hT : Txt w (some ⟨b, off, none⟩) N bs) (hbB : b ≠ B) (hN : N ≤ 1048576) (hcap : N ≤ cap) (hcm : cap ≤ 9223372036854775807) (hn : 0 < n) (hn2 : n ≤ 2097152) (hc : 0 < c) (hc2 : c ≤ 2097152)
    (hL : 0 < L) (hLN : i + L ≤ N) (hvis : ∀ k, 1 ≤ k → k < L → 4 ≤ kat bs (i + k)) (hend : kat bs (i + L) < 4) :
    Calls Tryz.prog 74 #[.pointer (some ⟨B, 0, none⟩)] w fun e w' => e = .returned (.agg #[.string (str ((bs.drop i).take L)), .int .i64 (n : Int), .int .i64 (c : Int)]) ∧ Wlk w' B (.slice (some ⟨b, off, none⟩) N cap) (i + L) n (c + L) ∧ w.grownBy w' (some B) := by
  have hB := h.lt
  have k1 : Below w.heap.size w (w.alloc (.cells #[Value.string ⟨#[]⟩, .int .i64 0, .int .i64 0] 88)) := (Below.refl w.heap.size w).alloc (Nat.le_refl _) _
  have hs1 : (w.alloc (.cells #[Value.string ⟨#[]⟩, .int .i64 0, .int .i64 0] 88)).heap.size = w.heap.size + 1 := by simp
  have hW0 : Wlk (w.alloc (.cells #[Value.string ⟨#[]⟩, .int .i64 0, .int .i64 0] 88)) B (.slice (some ⟨b, off, none⟩) N cap) i n c := h.below k1 hB
  have hR0 : R3 (w.alloc (.cells #[Value.string ⟨#[]⟩, .int .i64 0, .int .i64 0] 88)) w.heap.size 0 (.string ⟨#[]⟩) (.int .i64 0) (.int .i64 0) := ⟨⟨by simp, by simp, by simp⟩, by simp, by simp, by simp⟩
  have KK := Lib.hid (fun (W : World) (hW : Below (w.alloc (.cells #[Value.string ⟨#[]⟩, .int .i64 0, .int .i64 0] 88)).heap.size (w.alloc (.cells #[Value.string ⟨#[]⟩, .int .i64 0, .int .i64 0] 88)) W) => (⟨hW0.below hW (by rw [hs1]; omega), but_of (k1.trans (hW.mono (by rw [hs1]; omega))), hR0.below hW (by rw [hs1]; omega)⟩ : Wlk W B (.slice (some ⟨b, off, none⟩) N cap) i n c ∧ w.grownBy W (some B) ∧ R3 W w.heap.size 0 (.string ⟨#[]⟩) (.int .i64 0) (.int .i64 0)))
  have C1 := Lib.hid (fun (W : World) (hW : Below (w.alloc (.cells #[Value.string ⟨#[]⟩, .int .i64 0, .int .i64 0] 88)).heap.size (w.alloc (.cells #[Value.string ⟨#[]⟩, .int .i64 0, .int .i64 0] 88)) W) => place_any B _ i n c W (KK.out W hW).1 hn (by omega) hc (by omega))
  have C2 := Lib.hid (fun (W : World) (k : Nat) (hk : k < L) (hW : Wlk W B (.slice (some ⟨b, off, none⟩) N cap) (i + k) n (c + k)) => on_any B _ (i + k) n (c + k) W hW (by omega) hn (by omega) (by omega) (by omega))
  have C3 := Lib.hid (fun (W : World) (k : Nat) (hk : k ≤ L) (hW : Wlk W B (.slice (some ⟨b, off, none⟩) N cap) (i + k) n (c + k)) (hg : w.grownBy W (some B)) => met_any B _ N cap (i + k) n (c + k) bs W hW (but_txt hg hT (fun b' off' e => by simp only [Option.some.injEq, Addr.mk.injEq] at e; omega)) (by omega))
  have c1 := hW0.1.2.1
  have HT := Lib.hid hT
  have HV := Lib.hid hvis
  have HE := Lib.hid hend
  have kW := Below.refl (w.alloc (.cells #[Value.string ⟨#[]⟩, .int .i64 0, .int .i64 0] 88)).heap.size (w.alloc (.cells #[Value.string ⟨#[]⟩, .int .i64 0, .int .i64 0] 88))
  have hbw : b < w.heap.size := by obtain ⟨b', off', e, hlt, _⟩ := hT.2 (by omega); simp only [Option.some.injEq, Addr.mk.injEq] at e; omega
  clear hT hvis hend h hW0 hR0
  go_enter Tryz.func74, Tryz.ntmps74
  go_wp2
  refine wp_scope_one rfl (fun m a W => ∃ (k p : Nat) (u5 u6 u7 u8 u9 u10 u11 u12 u13 u14 u15 u16 u17 u18 u19 u20 u21 u22 u23 u24 u25 u26 u27 u28 u29 u30 u31 u32 u33 : Value), k < L ∧ m = L - k ∧
    a = { tmps := #[.pointer (some ⟨B, 0, none⟩), undef, .pointer (some ⟨w.heap.size, 0, none⟩), .int .i64 (i : Int), .pointer (some ⟨p, 0, none⟩), u5, u6, u7, u8, u9, u10, u11, u12, u13, u14, u15, u16, u17, u18, u19, u20, u21, u22, u23, u24, u25, u26, u27, u28, u29, u30, u31, u32, u33], defers := [] } ∧
    Wlk W B (.slice (some ⟨b, off, none⟩) N cap) (i + k) n (c + k) ∧ w.grownBy W (some B) ∧ (w.heap.size < p ∧ p < W.heap.size) ∧ (W.cell? ⟨p, 0, none⟩ = some (.int .i64 (n : Int)) ∧ W.cell? ⟨p, 1, none⟩ = some (.int .i64 (c : Int))) ∧ R3 W w.heap.size 0 (.string ⟨#[]⟩) (.int .i64 0) (.int .i64 0)) ?pass ?first
  case pass =>
    rintro m a W ⟨k, p, u5, u6, u7, u8, u9, u10, u11, u12, u13, u14, u15, u16, u17, u18, u19, u20, u21, u22, u23, u24, u25, u26, u27, u28, u29, u30, u31, u32, u33, hk, rfl, rfl, hW, hg, hp, hpc, hR⟩
    have hsz := hg.size
    have hW1 : Wlk (gonT W B (i + k + 1) n (c + k + 1)) B (.slice (some ⟨b, off, none⟩) N cap) (i + (k + 1)) n (c + (k + 1)) := hW.go (i + k + 1) n (c + k + 1)
    have hg1 := but_gon hg (i + k + 1) n (c + k + 1)
    have q0 : (gonT W B (i + k + 1) n (c + k + 1)).cell? ⟨p, 0, none⟩ = some (.int .i64 (n : Int)) := by rw [gonT, cell_set _ _ _ _ _ _ (by omega), cell_set _ _ _ _ _ _ (by omega)]; exact hpc.1
    have q1 : (gonT W B (i + k + 1) n (c + k + 1)).cell? ⟨p, 1, none⟩ = some (.int .i64 (c : Int)) := by rw [gonT, cell_set _ _ _ _ _ _ (by omega), cell_set _ _ _ _ _ _ (by omega)]; exact hpc.2
    have hR1 : R3 (gonT W B (i + k + 1) n (c + k + 1)) w.heap.size 0 (.string ⟨#[]⟩) (.int .i64 0) (.int .i64 0) := by
      refine ⟨⟨?_, ?_, ?_⟩, ?_, ?_, ?_⟩
      · rw [gonT, cell_set _ _ _ _ _ _ (by omega), cell_set _ _ _ _ _ _ (by omega)]; exact hR.1.1
      · rw [gonT, cell_set _ _ _ _ _ _ (by omega), cell_set _ _ _ _ _ _ (by omega)]; exact hR.1.2.1
      · rw [gonT, cell_set _ _ _ _ _ _ (by omega), cell_set _ _ _ _ _ _ (by omega)]; exact hR.1.2.2
      · simp only [gonT, World.frozen?_setCell]; exact hR.2.1
      · simp only [gonT, World.frozen?_setCell]; exact hR.2.2.1
      · simp only [gonT, World.frozen?_setCell]; exact hR.2.2.2
    have hps : p < (gonT W B (i + k + 1) n (c + k + 1)).heap.size := by simp only [gonT, World.size_setCell]; exact hp.2
    have kk := C3.out _ (k + 1) (by omega) hW1 hg1
    have KC := Lib.hid kk
    have KO := Lib.hid (C2.out _ k hk hW)
    clear kk hpc hR hg hW
    generalize gonT W B (i + k + 1) n (c + k + 1) = W1 at *
    go_wp2_with (first
      | (go_at_call 73; (with_reducible refine KO.out.mono ?_); rintro e w3 ⟨rfl, rfl⟩)
      | (go_at_call 72; (with_reducible refine KC.out.mono ?_); rintro e w4 ⟨rfl, g4⟩; refine stopHere ?_))
    have g5 := drew_below g4
    have hW2 := hW1.below g5 hW1.lt
    have hg2 := but_below hg1 g5
    have r0 := celln g5 q0
    have r1 := celln g5 q1
    have hR2 := hR1.below g5 hR1.lt
    have hps2 : p < w4.heap.size := Nat.lt_of_lt_of_le hps g5.size
    clear g4 g5 hW1 hg1 q0 q1 hR1 hps KC KO
    unfold Stop
    by_cases hkL : k + 1 < L
    · have hv := HV.out (k + 1) (by omega) hkL
      have hv' : kat bs (i + (k + 1)) = 4 ∨ kat bs (i + (k + 1)) = 5 := by
        unfold kat at hv ⊢
        split at hv
        · rename_i hlt; rw [if_pos hlt]; have := kd_cases (bs.getD (i + (k + 1)) 0); omega
        · omega
      generalize kat bs (i + (k + 1)) = kk at *
      rcases hv' with rfl | rfl
      all_goals
        go_wp2
        go_step3
        exact ⟨rfl, L - (k + 1), by omega, k + 1, p, _, _, _, _, _, _, _, _, _, _, _, _, _, _, _, _, _, _, _, _, _, _, _, _, _, _, _, _, _, hkL, rfl, rfl, hW2, hg2, ⟨hp.1, hps2⟩, ⟨r0, r1⟩, hR2⟩
    · obtain rfl : L = k + 1 := by omega
      have hv := HE.out
      generalize kat bs (i + (k + 1)) = kk at *
      have d4 : ((kk : Int) == 4) = false := beq_eq_false_iff_ne.2 (by omega)
      have d5 : ((kk : Int) == 5) = false := beq_eq_false_iff_ne.2 (by omega)
      have hcv := cut_str ((but_txt hg2 HT.out (fun b' off' e => by simp only [Option.some.injEq, Addr.mk.injEq] at e; omega)).below (Below.refl _ w4).drew) i (k + 1) (cap - i) hLN
      generalize hX : str ((bs.drop i).take (k + 1)) = X at hcv
      have HX := Lib.hid hX
      clear hX
      obtain ⟨⟨c0, c1, c2⟩, f0, f1, f2⟩ := id hW2
      obtain ⟨⟨x0, x1, x2⟩, y0, y1, y2⟩ := id hR2
      have HW2 := Lib.hid hW2
      have e1 : ((i + (k + 1) : Nat) : Int) - (i : Int) = (k : Int) + 1 := by omega
      clear hW2 hR2
      go_wp2
      go_region
      go_wp2
      simp only [Exit.jumps]
      have kz : Below w.heap.size w4 (((w4.setCell ⟨w.heap.size, 0, none⟩ (.string X)).setCell ⟨w.heap.size, 1, none⟩ (.int .i64 (n : Int))).setCell ⟨w.heap.size, 2, none⟩ (.int .i64 (c : Int))).drew := by go_grown
      show bodyPost _ _ _ _ _ _
      refine bodyPost_ret (v := .agg #[.string X, .int .i64 (n : Int), .int .i64 (c : Int)]) ?_ rfl ⟨by rw [HX.out], R3.below HW2.out kz hB, but_belowN hg2 kz⟩
      simp [results, Tryz.results74, go_sem, x0, x1, x2, cell_set]
  case first =>
    intro pass
    go_wp2
    go_region_held3 (fun w' => Below (w.alloc (.cells #[Value.string ⟨#[]⟩, .int .i64 0, .int .i64 0] 88)).heap.size (w.alloc (.cells #[Value.string ⟨#[]⟩, .int .i64 0, .int .i64 0] 88)) w' ∧ w'.cell? ⟨B, 1, none⟩ = some (.int .i64 (i : Int))) ((refine keepB c1 ?_; go_grown)) ((go_at_call 76; ((refine (C1.out _ (by go_grown)).mono ?_); rintro e w2 ⟨rfl, g2⟩; have kW2 := kbq (w := (w.alloc (.cells #[Value.string ⟨#[]⟩, .int .i64 0, .int .i64 0] 88))) (by go_grown) g2; have z2 := kW2.size; (try (obtain ⟨⟨q0, q1⟩, q2, q3⟩ := fresh2 g2; simp only [World.size_alloc] at q0 q1 q2 q3)); clear g2)))
    all_goals
      go_wp2
      go_step3
      rename_i hH Kx hK
      obtain ⟨j1, j2, j3⟩ := KK.out _ hH.1
      refine hK _ _ (pass L _ _ ⟨0, _, _, _, _, _, _, _, _, _, _, _, _, _, _, _, _, _, _, _, _, _, _, _, _, _, _, _, _, _, _, hL, rfl, rfl, j1, j2, ⟨?_, ?_⟩, ⟨?_, ?_⟩, j3⟩)
      all_goals clear KK C1 C2 C3 HT HV HE pass hK
      all_goals first
        | (simp only [World.size_alloc] at z2; omega)
        | (simp; done)
        | (simp; simp at z2; omega)
        | (simp [cell_set, World.cell?_setCell_same, q0, q1]; done)
        | (simp only [World.size_setCell]; exact lt_of_cell q0)
        | (rw [World.cell?_setCell_same _ _ _ (by rw [cell_set _ _ _ _ _ _ (by omega)]; exact q1)]; done)
end Go.Proofs.YtckaiejbgnhgcaaGreatDoor.Wd.Ws
namespace Go.Proofs.YtckaiejbgnhgcaaGreatDoor.Wd.Ws
open Go Go.RowKit
set_option linter.unusedVariables false
set_option maxRecDepth 100000

theorem infoWord : (Tryz.prog.info? 88).map (fun i => (i.zero, i.size, i.bytes)) = some (some (.agg #[.string ⟨#[]⟩, .int .i64 0, .int .i64 0]), 3, 32) := by kernel_rfl
theorem infoRow : (Tryz.prog.info? 86).map (fun i => (i.zero, i.size, i.bytes)) = some (some (.slice none 0 0), 1, 24) := by kernel_rfl

/-! ### Rows of words in memory -/
/-- The cells of a word. -/
def wcl (x : Wo) : List Value := [.string (str x.1), .int .i64 (x.2.1 : Int), .int .i64 (x.2.2 : Int)]
def flatW : List Wo → List Value
  | [] => []
  | x :: ws => wcl x ++ flatW ws
theorem flatW_append (a b : List Wo) : flatW (a ++ b) = flatW a ++ flatW b := by
  induction a with
  | nil => rfl
  | cons x a ih => simp [flatW, ih]
theorem flatW_length (a : List Wo) : (flatW a).length = a.length * 3 := by
  induction a with
  | nil => rfl
  | cons x a ih => simp [flatW, wcl, ih]; omega
theorem flatW_at : ∀ (ws : List Wo) (k : Nat) (x : Wo), ws[k]? = some x → (flatW ws)[k * 3]? = some (.string (str x.1)) ∧ (flatW ws)[k * 3 + 1]? = some (.int .i64 (x.2.1 : Int)) ∧ (flatW ws)[k * 3 + 2]? = some (.int .i64 (x.2.2 : Int))
  | [], k, x, h => by simp at h
  | y :: ws, 0, x, h => by
    simp at h
    subst h
    exact ⟨rfl, rfl, rfl⟩
  | y :: ws, k + 1, x, h => by
    have := flatW_at ws k x (by simpa using h)
    have e (j : Nat) : (flatW (y :: ws))[(k + 1) * 3 + j]? = (flatW ws)[k * 3 + j]? := by
      rw [flatW, List.getElem?_append_right (by simp [wcl]; omega)]
      congr 1
      simp [wcl]; omega
    exact ⟨(e 0).trans this.1, (e 1).trans this.2.1, (e 2).trans this.2.2⟩
theorem flatW_one (ws : List Wo) : ∀ u ∈ flatW ws, u.oneCell' = true := by
  induction ws with
  | nil => intro u hu; cases hu
  | cons x ws ih =>
    intro u hu
    rcases List.mem_append.1 hu with h | h
    · simp only [wcl, List.mem_cons, List.not_mem_nil, or_false] at h
      rcases h with rfl | rfl | rfl <;> rfl
    · exact ih u h

/-- A row of words. -/
def WRow (w : World) (base : Nat) (v : Value) (ws : List Wo) : Prop := w.ownsRow base 88 3 v ws.length (flatW ws)
theorem WRow.nil (w : World) (base : Nat) : WRow w base (.slice none 0 0) [] := World.ownsRow_nil _ _ _ _
theorem own_mono {w : World} {base base' : Nat} {e : TypeId} {size : Nat} {v : Value} {n : Nat} {xs : List Value} (h : w.ownsRow base e size v n xs) (g : base' ≤ base) : w.ownsRow base' e size v n xs := by
  refine ⟨h.1, ?_⟩
  rcases h.2 with h0 | ⟨b, cap, cur, h1, h2, h3, h4⟩
  · exact .inl h0
  · exact .inr ⟨b, cap, cur, h1, Nat.le_trans g h2, h3, h4⟩
theorem own_below {w w' : World} {base : Nat} {e : TypeId} {size : Nat} {v : Value} {n : Nat} {xs : List Value} (h : w.ownsRow base e size v n xs) (g : Below w.heap.size w w') : w'.ownsRow base e size v n xs := by
  refine ⟨h.1, ?_⟩
  rcases h.2 with h0 | ⟨b, cap, cur, h1, h2, h3, h4⟩
  · exact .inl h0
  · exact .inr ⟨b, cap, cur, h1, h2, (g.block b (Array.getElem?_eq_some_iff.1 h3).1).trans h3, h4⟩
theorem own_block {w : World} {base : Nat} {e : TypeId} {size : Nat} {v : Value} {n : Nat} {xs : List Value} (h : w.ownsRow base e size v n xs) : ∀ k, v.ownBlock = some k → base ≤ k := fun k hk => (h.lt k hk).1
/-- A row as it was, behind what changes one block below it. -/
theorem own_but {w w' : World} {base B : Nat} {e : TypeId} {size : Nat} {v : Value} {n : Nat} {xs : List Value} (h : w.ownsRow base e size v n xs) (g : w.grownBy w' (some B)) (hB : B < base) : w'.ownsRow base e size v n xs := by
  refine h.kept g ?_
  cases hb : v.ownBlock with
  | none => exact .inl rfl
  | some k => exact .inr (fun e => by have := own_block h k hb; injection e; omega)
/-- Rows of unlike kinds lie apart. -/
theorem own_apart {w : World} {b1 b2 : Nat} {e1 e2 : TypeId} {s1 s2 : Nat} {v1 v2 : Value} {n1 n2 : Nat} {x1 x2 : List Value} (h1 : w.ownsRow b1 e1 s1 v1 n1 x1) (h2 : w.ownsRow b2 e2 s2 v2 n2 x2) (hne : e1 ≠ e2) : v1.ownBlock = none ∨ v1.ownBlock ≠ v2.ownBlock := by
  rcases h1.2 with ⟨rfl, _⟩ | ⟨g, cap, cur, rfl, _, hg, _⟩
  · exact .inl rfl
  · refine .inr fun e => ?_
    rcases h2.2 with ⟨rfl, _⟩ | ⟨g', cap', cur', rfl, _, hg', _⟩
    · simp [Value.ownBlock] at e
    · simp [Value.ownBlock] at e
      subst e
      rw [hg] at hg'
      simp at hg'
      exact hne hg'.2
theorem own_caps {w : World} {base : Nat} {e : TypeId} {size : Nat} {A : Option Addr} {n c m : Nat} {xs : List Value} (h : w.ownsRow base e size (.slice A n c) m xs) : n ≤ c ∧ c ≤ 9223372036854775807 := by
  rcases h.2 with ⟨h1, _⟩ | ⟨g, cap, cur, h1, _, _, h2, h3, _⟩
  · simp only [Value.slice.injEq] at h1
    omega
  · simp only [Value.slice.injEq] at h1
    unfold maxLen at h3
    omega
theorem own_slice {w : World} {base : Nat} {e : TypeId} {size : Nat} {v : Value} {n : Nat} {xs : List Value} (h : w.ownsRow base e size v n xs) : ∃ A c, v = .slice A n c := by
  rcases h.2 with ⟨rfl, rfl⟩ | ⟨g, cap, cur, rfl, _⟩
  · exact ⟨_, _, rfl⟩
  · exact ⟨_, _, rfl⟩

/-- Rows of words, each with its value, below a bound. -/
def Each (w : World) (lo top : Nat) : List Value → List (List Wo) → Prop
  | [], [] => True
  | u :: us, ws :: wss => (WRow w lo u ws ∧ u.oneCell' = true ∧ ∀ k, u.ownBlock = some k → k < top) ∧ Each w lo top us wss
  | _, _ => False
theorem Each.len {w : World} {lo top : Nat} : ∀ {us : List Value} {wss : List (List Wo)}, Each w lo top us wss → us.length = wss.length
  | [], [], _ => rfl
  | u :: us, ws :: wss, h => by simp [Each.len h.2]
  | [], _ :: _, h => h.elim
  | _ :: _, [], h => h.elim
theorem Each.push {w : World} {lo top : Nat} : ∀ {us : List Value} {wss : List (List Wo)} {u : Value} {ws : List Wo}, Each w lo top us wss → (WRow w lo u ws ∧ u.oneCell' = true ∧ ∀ k, u.ownBlock = some k → k < top) → Each w lo top (us ++ [u]) (wss ++ [ws])
  | [], [], _, _, _, h => ⟨h, trivial⟩
  | u :: us, ws :: wss, _, _, g, h => ⟨g.1, Each.push g.2 h⟩
  | [], _ :: _, _, _, g, _ => g.elim
  | _ :: _, [], _, _, g, _ => g.elim
theorem Each.imp {w w' : World} {lo lo' top top' : Nat} (f : ∀ u ws, WRow w lo u ws → (∀ k, u.ownBlock = some k → k < top) → WRow w' lo' u ws ∧ ∀ k, u.ownBlock = some k → k < top') : ∀ {us : List Value} {wss : List (List Wo)}, Each w lo top us wss → Each w' lo' top' us wss
  | [], [], _ => trivial
  | u :: us, ws :: wss, h => ⟨⟨(f u ws h.1.1 h.1.2.2).1, h.1.2.1, (f u ws h.1.1 h.1.2.2).2⟩, Each.imp f h.2⟩
  | [], _ :: _, h => h.elim
  | _ :: _, [], h => h.elim
theorem Each.at {w : World} {lo top : Nat} : ∀ {us : List Value} {wss : List (List Wo)} (k : Nat) (ws : List Wo), Each w lo top us wss → wss[k]? = some ws → ∃ u, us[k]? = some u ∧ WRow w lo u ws
  | [], [], k, ws, _, h => by simp at h
  | u :: us, y :: wss, 0, ws, g, h => by simp at h; subst h; exact ⟨u, rfl, g.1.1⟩
  | u :: us, y :: wss, k + 1, ws, g, h => by
    obtain ⟨u', h1, h2⟩ := Each.at k ws g.2 (by simpa using h)
    exact ⟨u', by simpa using h1, h2⟩
  | [], _ :: _, _, _, h, _ => h.elim
  | _ :: _, [], _, _, h, _ => h.elim
theorem Each.one {w : World} {lo top : Nat} : ∀ {us : List Value} {wss : List (List Wo)}, Each w lo top us wss → ∀ u ∈ us, u.oneCell' = true
  | [], [], _, u, h => by cases h
  | v :: us, ws :: wss, g, u, h => by
    rcases List.mem_cons.1 h with rfl | h
    · exact g.1.2.1
    · exact Each.one g.2 u h
  | [], _ :: _, h, _, _ => h.elim
  | _ :: _, [], h, _, _ => h.elim
/-- Rows of rows of words. -/
def WRows (w : World) (v : Value) (wss : List (List Wo)) : Prop := ∃ us, w.ownsRow 0 86 1 v wss.length us ∧ Each w 0 w.heap.size us wss
theorem WRows.nil (w : World) : WRows w (.slice none 0 0) [] := ⟨[], World.ownsRow_nil _ _ _ _, trivial⟩
theorem WRows.below {w w' : World} {v : Value} {wss : List (List Wo)} (h : WRows w v wss) (g : Below w.heap.size w w') : WRows w' v wss := by
  obtain ⟨us, h1, h2⟩ := h
  exact ⟨us, own_below h1 g, h2.imp fun u ws hu hk => ⟨own_below hu g, fun k e => Nat.lt_of_lt_of_le (hk k e) g.size⟩⟩

/-! ### What holds at every label -/
def R2 (w : World) (B : Nat) (x y : Value) : Prop := (w.cell? ⟨B, 0, none⟩ = some x ∧ w.cell? ⟨B, 1, none⟩ = some y) ∧ w.frozen? ⟨B, 0, none⟩ = false ∧ w.frozen? ⟨B, 1, none⟩ = false
theorem R2.below {w w' : World} {N B : Nat} {x y : Value} (h : R2 w B x y) (g : Below N w w') (hB : B < N) : R2 w' B x y :=
  ⟨⟨(g.cell (p := ⟨B, 0, none⟩) hB).trans h.1.1, (g.cell (p := ⟨B, 1, none⟩) hB).trans h.1.2⟩, (g.frozen (p := ⟨B, 0, none⟩) hB).trans h.2.1, (g.frozen (p := ⟨B, 1, none⟩) hB).trans h.2.2⟩
theorem but_below' {w W : World} {B : Nat} (h : w.grownBy W (some B)) (hB : B ≤ w.heap.size) : Below B w W := ⟨h.os, h.tape, h.output, h.size, fun k hk => h.block k (by omega) (fun e => by injection e; omega)⟩

/-- What holds at every label of Split. -/
structure Inv (w0 W : World) (T : Value) (i n c : Nat) (line : List Wo) (lines : List (List Wo)) (vL vLs : Value) : Prop where
  below : Below w0.heap.size w0 W
  walk : Wlk W (w0.heap.size + 1) T i n c
  place : R2 W w0.heap.size (.int .i64 0) (.int .i64 0)
  bounds : (1 ≤ n ∧ n ≤ i + 1) ∧ (1 ≤ c ∧ c ≤ i + 1) ∧ lines.length + line.length ≤ i
  rows : ∃ top us, (w0.heap.size + 2 ≤ top ∧ top ≤ W.heap.size) ∧ WRow W top vL line ∧ W.ownsRow (w0.heap.size + 2) 86 1 vLs lines.length us ∧ (∀ k, vLs.ownBlock = some k → k < top) ∧ Each W (w0.heap.size + 2) top us lines

theorem Inv.grow {w0 W W' : World} {T : Value} {i n c : Nat} {line : List Wo} {lines : List (List Wo)} {vL vLs : Value} (h : Inv w0 W T i n c line lines vL vLs) (g : Below W.heap.size W W') : Inv w0 W' T i n c line lines vL vLs := by
  obtain ⟨top, us, h1, h2, h3, h4, h5⟩ := h.rows
  have hlt := h.walk.lt
  exact ⟨kbq h.below g, h.walk.below g hlt, h.place.below g (by omega), h.bounds, top, us, ⟨h1.1, Nat.le_trans h1.2 g.size⟩, own_below h2 g, own_below h3 g, h4, h5.imp fun u ws hu hk => ⟨own_below hu g, hk⟩⟩
theorem Inv.moved {w0 W W' : World} {T : Value} {i n c i' n' c' : Nat} {line : List Wo} {lines : List (List Wo)} {vL vLs : Value} (h : Inv w0 W T i n c line lines vL vLs) (g : W.grownBy W' (some (w0.heap.size + 1))) (hw : Wlk W' (w0.heap.size + 1) T i' n' c')
    (hi : i ≤ i') (hn : 1 ≤ n' ∧ n' ≤ i' + 1) (hc : 1 ≤ c' ∧ c' ≤ i' + 1) : Inv w0 W' T i' n' c' line lines vL vLs := by
  obtain ⟨top, us, h1, h2, h3, h4, h5⟩ := h.rows
  have hlt := h.walk.lt
  have gb := but_below' g (by omega)
  have hb := h.bounds.2.2
  refine ⟨h.below.trans (gb.mono (by omega)), hw, h.place.below gb (by omega), ⟨hn, hc, by omega⟩, top, us, ⟨h1.1, Nat.le_trans h1.2 g.size⟩, own_but h2 g (by omega), own_but h3 g (by omega), h4, h5.imp fun u ws hu hk => ⟨own_but hu g (by omega), hk⟩⟩
/-- A word behind a line. -/
theorem Inv.word {w0 W W' : World} {T : Value} {i n c : Nat} {line : List Wo} {lines : List (List Wo)} {vL vLs vL' : Value} {x : Wo} {i0 : Nat} (h : Inv w0 W T i n c line lines vL vLs) (hlen : lines.length + line.length < i) (top : Nat) (us : List Value)
    (h1 : w0.heap.size + 2 ≤ top ∧ top ≤ W.heap.size) (h2 : WRow W top vL line) (h3 : W.ownsRow (w0.heap.size + 2) 86 1 vLs lines.length us) (h4 : ∀ k, vLs.ownBlock = some k → k < top) (h5 : Each W (w0.heap.size + 2) top us lines)
    (own : W'.ownsRow top 88 3 vL' (line.length + 1) (flatW line ++ wcl x)) (g : W.grownBy W' vL.ownBlock) : Inv w0 W' T i n c (line ++ [x]) lines vL' vLs := by
  have hb : Below top W W' := (Below.refl _ W).grown g h1.2 (own_block h2)
  have hlt := h.walk.lt
  refine ⟨h.below.trans (hb.mono (by omega)), h.walk.below hb (by omega), h.place.below hb (by omega), ⟨h.bounds.1, h.bounds.2.1, by simp; omega⟩, top, us, ⟨h1.1, Nat.le_trans h1.2 g.size⟩, ?_, h3.kept g ?_, h4, h5.imp fun u ws hu hk => ⟨hu.kept g ?_, hk⟩⟩
  · unfold WRow
    rw [flatW_append, List.length_append]
    exact own
  · cases e : vLs.ownBlock with
    | none => exact .inl rfl
    | some k => exact .inr fun e2 => by have := own_block h2 k e2.symm; have := h4 k e; omega
  · cases e : u.ownBlock with
    | none => exact .inl rfl
    | some k => exact .inr fun e2 => by have := own_block h2 k e2.symm; have := hk k e; omega
/-- A line behind the lines. -/
theorem Inv.stop {w0 W W' : World} {T : Value} {i n c : Nat} {line : List Wo} {lines : List (List Wo)} {vL vLs vLs' : Value} (h : Inv w0 W T i n c line lines vL vLs) (hne : line ≠ []) (top : Nat) (us : List Value)
    (h1 : w0.heap.size + 2 ≤ top ∧ top ≤ W.heap.size) (h2 : WRow W top vL line) (h3 : W.ownsRow (w0.heap.size + 2) 86 1 vLs lines.length us) (h4 : ∀ k, vLs.ownBlock = some k → k < top) (h5 : Each W (w0.heap.size + 2) top us lines)
    (own : W'.ownsRow (w0.heap.size + 2) 86 1 vLs' (lines.length + 1) (us ++ [vL])) (g : W.grownBy W' vLs.ownBlock) : Inv w0 W' T i n c [] (lines ++ [line]) (.slice none 0 0) vLs' := by
  have hlt := h.walk.lt
  have hb : Below (w0.heap.size + 2) W W' := (Below.refl _ W).grown g (by omega) (own_block h3)
  have hl : 0 < line.length := List.length_pos_iff.2 hne
  have hbd := h.bounds.2.2
  have hsz := g.size
  have hvL := h2.kept g (own_apart h2 h3 (by decide))
  refine ⟨h.below.trans (hb.mono (by omega)), h.walk.below hb (by omega), h.place.below hb (by omega), ⟨h.bounds.1, h.bounds.2.1, by simp; omega⟩, W'.heap.size, us ++ [vL], ⟨by omega, Nat.le_refl _⟩, WRow.nil _ _, ?_, fun k e => (own.lt k e).2, ?_⟩
  · rw [List.length_append]; exact own
  · refine Each.push (h5.imp fun u ws hu hk => ⟨hu.kept g (own_apart hu h3 (by decide)), fun k e => by have := hk k e; omega⟩) ⟨own_mono hvL h1.1, ?_, fun k e => ?_⟩
    · obtain ⟨A, c', e⟩ := own_slice h2; rw [e]; rfl
    · exact (hvL.lt k e).2
end Go.Proofs.YtckaiejbgnhgcaaGreatDoor.Wd.Ws
