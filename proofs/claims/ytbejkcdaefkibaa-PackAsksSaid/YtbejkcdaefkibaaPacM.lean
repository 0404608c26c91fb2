/- Plain words: a number as bytes, the greatest first; a snapshot's bytes, and what bytes tell; no conditions but those that each names. -/
import Derived.Test.YtbejkcdaefkibaaPacO
namespace Go.Proofs.Ytbejkcdaefkibaa.Wd
open Go Go.RowKit
set_option linter.unusedVariables false

theorem lb_str (l : List UInt8) : lb (str l) = l := rfl
theorem str_lb (s : ByteArray) : str (lb s) = s := by cases s; rfl

/-- The last k bytes of a number, the greatest first. -/
def be : Nat → Nat → List UInt8
  | 0, _ => []
  | k + 1, n => be k (n / 256) ++ [UInt8.ofNat n]
/-- The number that bytes tell. -/
def vl (l : List UInt8) : Nat := l.foldl (fun v b => v * 256 + b.toNat) 0
theorem be_len : ∀ k n, (be k n).length = k
  | 0, _ => rfl
  | k + 1, n => by rw [be, List.length_append, be_len k]; rfl
theorem vl_nil : vl [] = 0 := rfl
theorem vl_app (l : List UInt8) (b : UInt8) : vl (l ++ [b]) = vl l * 256 + b.toNat := by simp [vl, List.foldl_append]
theorem pow_s (k : Nat) : 256 ^ (k + 1) = 256 ^ k * 256 := Nat.pow_succ 256 k
theorem vl_be : ∀ k n, vl (be k n) = n % 256 ^ k
  | 0, n => by rw [be, vl_nil, Nat.pow_zero, Nat.mod_one]
  | k + 1, n => by
    rw [be, vl_app, vl_be k, pow_s, Nat.mul_comm (256 ^ k) 256, Nat.mod_mul]
    rw [show (UInt8.ofNat n).toNat = n % 256 from rfl]
    omega
theorem cat_of (l : List UInt8) : l = [] ∨ ∃ a b, l = a ++ [b] := by
  by_cases h : l = []
  · exact .inl h
  · exact .inr ⟨_, _, (List.dropLast_concat_getLast h).symm⟩
theorem vl_lt : ∀ (k : Nat) (l : List UInt8), l.length = k → vl l < 256 ^ k
  | 0, l, h => by rw [List.eq_nil_of_length_eq_zero h]; decide
  | k + 1, l, h => by
    rcases cat_of l with rfl | ⟨a, b, rfl⟩
    · simp at h
    · have := vl_lt k a (by simpa using h)
      have hb := b.toNat_lt
      rw [vl_app, pow_s]
      omega
theorem be_vl : ∀ (k : Nat) (l : List UInt8), l.length = k → be k (vl l) = l
  | 0, l, h => by rw [List.eq_nil_of_length_eq_zero h]; rfl
  | k + 1, l, h => by
    rcases cat_of l with rfl | ⟨a, b, rfl⟩
    · simp at h
    · have hb := b.toNat_lt
      rw [vl_app, be]
      rw [show (vl a * 256 + b.toNat) / 256 = vl a by omega, be_vl k a (by simpa using h)]
      congr 2
      apply UInt8.toNat_inj.1
      show (vl a * 256 + b.toNat) % 256 = b.toNat
      omega
theorem be_cons : ∀ k n, be (k + 1) n = UInt8.ofNat (n / 256 ^ k) :: be k n
  | 0, n => by simp [be]
  | k + 1, n => by
    show be (k + 1) (n / 256) ++ [UInt8.ofNat n] = UInt8.ofNat (n / 256 ^ (k + 1)) :: (be k (n / 256) ++ [UInt8.ofNat n])
    rw [be_cons k, Nat.div_div_eq_div_mul, pow_s, Nat.mul_comm 256]; rfl
theorem be_mod : ∀ k n, be k (n % 256 ^ k) = be k n := fun k n => by
  have h := be_vl k (be k n) (be_len k n)
  rwa [vl_be] at h
theorem be_inj {k a b : Nat} (ha : a < 256 ^ k) (hb : b < 256 ^ k) (h : be k a = be k b) : a = b := by
  have := congrArg vl h
  rwa [vl_be, vl_be, Nat.mod_eq_of_lt ha, Nat.mod_eq_of_lt hb] at this
theorem ls_be : ∀ k a b, ls (be k a) (be k b) = decide (a % 256 ^ k < b % 256 ^ k)
  | 0, a, b => by simp [be, ls_nil_right, Nat.mod_one]
  | k + 1, a, b => by
    rw [be_cons, be_cons, ls_cons, ls_be k, u8_lt, pow_s, Nat.mod_mul, Nat.mod_mul]
    have hp : 0 < 256 ^ k := Nat.pow_pos (by decide)
    have h1 := Nat.mod_lt a hp
    have h2 := Nat.mod_lt b hp
    rw [show (UInt8.ofNat (a / 256 ^ k)).toNat = a / 256 ^ k % 256 from rfl, show (UInt8.ofNat (b / 256 ^ k)).toNat = b / 256 ^ k % 256 from rfl]
    have e : (UInt8.ofNat (a / 256 ^ k) == UInt8.ofNat (b / 256 ^ k)) = decide (a / 256 ^ k % 256 = b / 256 ^ k % 256) := by
      rw [Bool.eq_iff_iff, beq_iff_eq, decide_eq_true_eq, ← UInt8.toNat_inj]; rfl
    rw [e]
    generalize a / 256 ^ k % 256 = q
    generalize b / 256 ^ k % 256 = r
    generalize a % 256 ^ k = s at *
    generalize b % 256 ^ k = t at *
    generalize 256 ^ k = P at *
    rw [Bool.eq_iff_iff, Bool.or_eq_true, Bool.and_eq_true, decide_eq_true_eq, decide_eq_true_eq, decide_eq_true_eq, decide_eq_true_eq]
    rcases Nat.lt_trichotomy q r with h | h | h
    · have : P * (q + 1) ≤ P * r := Nat.mul_le_mul_left P h
      rw [Nat.mul_add, Nat.mul_one] at this
      constructor
      · intro; omega
      · intro; exact .inl h
    · subst h
      constructor
      · rintro (g | g) <;> omega
      · intro g; exact .inr ⟨rfl, by omega⟩
    · have : P * (r + 1) ≤ P * q := Nat.mul_le_mul_left P h
      rw [Nat.mul_add, Nat.mul_one] at this
      constructor
      · rintro (g | g) <;> omega
      · intro; omega
theorem be_one (n : Nat) : be 1 n = [UInt8.ofNat n] := rfl

/-- An entry: a key, and until when. -/
abbrev En : Type := ByteArray × Nat
abbrev En.cs (x : En) : Array Value := #[.string x.1, .int .u64 (x.2 : Int)]
/-- A snapshot's four first bytes. -/
abbrev mg : List UInt8 := [84, 76, 82, 49]
def enE (x : En) : List UInt8 := be 1 x.1.size ++ lb x.1 ++ be 8 x.2
def enL (xs : List En) : List UInt8 := xs.flatMap enE
/-- A snapshot's bytes. -/
def enB (c : Nat) (xs : List En) : List UInt8 := mg ++ be 8 c ++ be 4 xs.length ++ enL xs
theorem enE_len (x : En) : (enE x).length = 9 + x.1.size := by
  unfold enE
  rw [List.length_append, List.length_append, be_len, be_len, list_size]; omega
/-- What entries weigh. -/
def wgt : List En → Nat
  | [] => 0
  | x :: r => 9 + x.1.size + wgt r
theorem wgt_app (a b : List En) : wgt (a ++ b) = wgt a + wgt b := by
  induction a with
  | nil => simp [wgt]
  | cons x a ih => rw [List.cons_append, wgt, wgt, ih]; omega
theorem enL_len (xs : List En) : (enL xs).length = wgt xs := by
  induction xs with
  | nil => rfl
  | cons x xs ih => rw [enL, List.flatMap_cons, List.length_append, enE_len, wgt]; rw [enL] at ih; omega
theorem enB_len (c : Nat) (xs : List En) : (enB c xs).length = 16 + wgt xs := by
  unfold enB
  rw [List.length_append, List.length_append, List.length_append, be_len, be_len, enL_len]; rfl
theorem enL_app (a b : List En) : enL (a ++ b) = enL a ++ enL b := List.flatMap_append
theorem wgt_take (xs : List En) (k : Nat) : wgt (xs.take k) ≤ wgt xs := by
  have h : wgt xs = wgt (xs.take k) + wgt (xs.drop k) := by rw [← wgt_app, List.take_append_drop]
  omega
theorem wgt_len (xs : List En) : 9 * xs.length ≤ wgt xs := by
  induction xs with
  | nil => exact Nat.le_refl _
  | cons x xs ih => rw [wgt, List.length_cons]; omega
theorem wgt_mem {xs : List En} {x : En} (h : x ∈ xs) : 9 + x.1.size ≤ wgt xs := by
  induction xs with
  | nil => cases h
  | cons y xs ih =>
    rw [wgt]
    rcases List.mem_cons.1 h with rfl | h
    · omega
    · have := ih h; omega

/-- Entries that rise behind a key, each right. -/
def up (ah : List UInt8) : List En → Bool
  | [] => true
  | x :: r => rtB (lb x.1) && (ls ah (lb x.1) && up (lb x.1) r)
def allR (xs : List En) : Bool := xs.all fun x => rtB (lb x.1)
abbrev ksE (xs : List En) : List ByteArray := xs.map Prod.fst
/-- What is wrong with entries. -/
def rgE (xs : List En) : Nat := if allR xs = true then (if soB (ksE xs) = true then 0 else 42) else 12
theorem rt_ne {l : List UInt8} (h : rtB l = true) : 1 ≤ l.length ∧ l.length ≤ 128 := by
  unfold rtB at h
  rw [Bool.and_eq_true, decide_eq_true_eq] at h
  exact h.1
theorem ls_none {l : List UInt8} (h : 1 ≤ l.length) : ls [] l = true := by
  cases l with
  | nil => simp at h
  | cons a l => rfl
theorem up_so : ∀ (xs : List En) (x : En), up (lb x.1) xs = (allR xs && soB (ksE (x :: xs)))
  | [], x => rfl
  | y :: xs, x => by
    show (rtB (lb y.1) && (ls (lb x.1) (lb y.1) && up (lb y.1) xs)) = ((rtB (lb y.1) && allR xs) && (ls (lb x.1) (lb y.1) && soB (ksE (y :: xs))))
    rw [up_so xs y]
    cases rtB (lb y.1) <;> cases ls (lb x.1) (lb y.1) <;> cases allR xs <;> rfl
theorem up_iff (xs : List En) : up [] xs = (allR xs && soB (ksE xs)) := by
  cases xs with
  | nil => rfl
  | cons y xs =>
    show (rtB (lb y.1) && (ls [] (lb y.1) && up (lb y.1) xs)) = ((rtB (lb y.1) && allR xs) && soB (ksE (y :: xs)))
    rw [up_so xs y]
    cases h : rtB (lb y.1) with
    | false => rfl
    | true => rw [ls_none (rt_ne h).1]; cases allR xs <;> rfl
theorem rg_zero (xs : List En) : rgE xs = 0 ↔ up [] xs = true := by
  rw [up_iff]
  unfold rgE
  cases allR xs <;> cases soB (ksE xs) <;> simp
theorem up_take : ∀ (xs : List En) (ah : List UInt8) (k : Nat), up ah xs = true → up ah (xs.take k) = true
  | [], ah, k, _ => by rw [List.take_nil]; rfl
  | x :: xs, ah, 0, _ => rfl
  | x :: xs, ah, k + 1, h => by
    rw [List.take_succ_cons]
    simp only [up, Bool.and_eq_true] at h ⊢
    exact ⟨h.1, h.2.1, up_take xs _ k h.2.2⟩

/-- One entry off the front of bytes. -/
def stp : List UInt8 → Option (List UInt8 × Nat × List UInt8)
  | [] => none
  | c :: t => if t.length < c.toNat + 8 then none else some (t.take c.toNat, vl ((t.drop c.toNat).take 8), t.drop (c.toNat + 8))
/-- So many entries off the front of bytes. -/
def rdA : Nat → List UInt8 → List UInt8 → List En → Nat × List En × List UInt8
  | 0, _, l, acc => (0, acc, l)
  | n + 1, ah, l, acc => match stp l with
    | none => (41, [], [])
    | some (k, u, r) => if rtB k = true then (if ls ah k = true then rdA n k r (acc ++ [(str k, u)]) else (42, [], [])) else (12, [], [])
/-- What bytes tell: the error, the clock, the entries. -/
def dcA (l : List UInt8) : Nat × Nat × List En :=
  if l.take 4 = mg then (if 16 ≤ l.length then (match rdA (vl ((l.drop 12).take 4)) [] (l.drop 16) [] with
    | (e, xs, r) => if e = 0 then (if r = [] then (0, vl ((l.drop 4).take 8), xs) else (43, 0, [])) else (e, 0, [])) else (41, 0, [])) else (40, 0, [])

theorem u8_of {n : Nat} (h : n < 256) : (UInt8.ofNat n).toNat = n := by show n % 256 = n; omega
theorem stp_enE (x : En) (r : List UInt8) (hk : x.1.size < 256) (hu : x.2 < 18446744073709551616) : stp (enE x ++ r) = some (lb x.1, x.2, r) := by
  have e : enE x ++ r = UInt8.ofNat x.1.size :: (lb x.1 ++ (be 8 x.2 ++ r)) := by simp [enE, be_one]
  rw [e, stp, u8_of hk, if_neg (by simp [be_len])]
  have h1 : (lb x.1 ++ (be 8 x.2 ++ r)).take x.1.size = lb x.1 := by rw [← list_size x.1]; exact List.take_left
  have h2 : (lb x.1 ++ (be 8 x.2 ++ r)).drop x.1.size = be 8 x.2 ++ r := by rw [← list_size x.1]; exact List.drop_left
  have h3 : (be 8 x.2 ++ r).take 8 = be 8 x.2 := by have := be_len 8 x.2; rw [← this]; exact this ▸ List.take_left' this
  have h4 : (be 8 x.2 ++ r).drop 8 = r := List.drop_left' (be_len 8 x.2)
  rw [h1, h2, h3, ← List.drop_drop, h2, h4, vl_be, Nat.mod_eq_of_lt (by exact hu)]
/-- What is encoded is decoded. -/
theorem rd_back : ∀ (xs : List En) (ah r : List UInt8) (acc : List En), up ah xs = true → (∀ x ∈ xs, x.2 < 18446744073709551616) → rdA xs.length ah (enL xs ++ r) acc = (0, acc ++ xs, r)
  | [], ah, r, acc, _, _ => by simp [rdA, enL]
  | x :: xs, ah, r, acc, h, hu => by
    simp only [up, Bool.and_eq_true] at h
    have hk := rt_ne h.1
    rw [list_size] at hk
    rw [show enL (x :: xs) ++ r = enE x ++ (enL xs ++ r) by simp [enL], List.length_cons, rdA, stp_enE x _ (by omega) (hu x (List.mem_cons_self ..))]
    simp only [h.1, h.2.1, if_true]
    rw [str_lb, rd_back xs _ r _ h.2.2 (fun y hy => hu y (List.mem_cons_of_mem _ hy))]
    simp
/-- A proper front is short. -/
theorem rd_front : ∀ (xs : List En) (ah : List UInt8) (m : Nat) (acc : List En), up ah xs = true → (∀ x ∈ xs, x.2 < 18446744073709551616) → m < (enL xs).length → rdA xs.length ah ((enL xs).take m) acc = (41, [], [])
  | [], ah, m, acc, _, _, h => by simp [enL] at h
  | x :: xs, ah, m, acc, h, hu, hm => by
    simp only [up, Bool.and_eq_true] at h
    have hk := rt_ne h.1
    rw [list_size] at hk
    have e : enL (x :: xs) = enE x ++ enL xs := by simp [enL]
    rw [e] at hm ⊢
    rw [List.length_append, enE_len] at hm
    by_cases hc : m < 9 + x.1.size
    · have hs : stp ((enE x ++ enL xs).take m) = none := by
        rw [List.take_append_of_le_length (by rw [enE_len]; omega)]
        cases m with
        | zero => rfl
        | succ m =>
          have e2 : enE x = UInt8.ofNat x.1.size :: (lb x.1 ++ be 8 x.2) := by simp [enE, be_one]
          rw [e2, List.take_succ_cons, stp, u8_of (by omega), if_pos (by rw [List.length_take, List.length_append, be_len, list_size]; omega)]
      rw [List.length_cons, rdA, hs]
    · have e3 : (enE x ++ enL xs).take m = enE x ++ (enL xs).take (m - (9 + x.1.size)) := by
        rw [List.take_append, enE_len, List.take_of_length_le (by rw [enE_len]; omega)]
      rw [e3, List.length_cons, rdA, stp_enE x _ (by omega) (hu x (List.mem_cons_self ..))]
      simp only [h.1, h.2.1, if_true]
      exact rd_front xs _ _ _ h.2.2 (fun y hy => hu y (List.mem_cons_of_mem _ hy)) (by omega)
theorem stp_some {l k r : List UInt8} {u : Nat} (h : stp l = some (k, u, r)) : k.length < 256 ∧ u < 18446744073709551616 ∧ l = enE (str k, u) ++ r := by
  cases l with
  | nil => cases h
  | cons c t =>
    rw [stp] at h
    have hc := c.toNat_lt
    by_cases hl : t.length < c.toNat + 8
    · rw [if_pos hl] at h; cases h
    · rw [if_neg hl] at h
      simp only [Option.some.injEq, Prod.mk.injEq] at h
      obtain ⟨h1, h2, h3⟩ := h
      have hk : k.length = c.toNat := by rw [← h1, List.length_take]; omega
      have hl8 : ((t.drop c.toNat).take 8).length = 8 := by rw [List.length_take, List.length_drop]; omega
      refine ⟨by omega, by rw [← h2]; exact vl_lt 8 _ hl8, ?_⟩
      have e : enE (str k, u) = c :: (k ++ (t.drop c.toNat).take 8) := by
        have e1 : (str k).size = c.toNat := by rw [← list_size]; exact hk
        have e2 : UInt8.ofNat c.toNat = c := by simp
        show be 1 (str k).size ++ lb (str k) ++ be 8 u = _
        rw [be_one, e1, e2, lb_str, ← h2, be_vl 8 _ hl8]; simp
      rw [e, ← h1, ← h3, List.cons_append, List.append_assoc, ← List.drop_drop]
      rw [List.take_append_drop, List.take_append_drop]
/-- What is decoded is encoded to the same bytes. -/
theorem rd_some : ∀ (n : Nat) (ah l : List UInt8) (acc ys : List En) (r : List UInt8), rdA n ah l acc = (0, ys, r) → ∃ zs, ys = acc ++ zs ∧ zs.length = n ∧ up ah zs = true ∧ (∀ x ∈ zs, x.2 < 18446744073709551616) ∧ l = enL zs ++ r
  | 0, ah, l, acc, ys, r, h => by
    simp only [rdA, Prod.mk.injEq, true_and] at h
    exact ⟨[], by simp [h.1], rfl, rfl, (fun x hx => by cases hx), by simp [enL, h.2]⟩
  | n + 1, ah, l, acc, ys, r, h => by
    rw [rdA] at h
    cases hs : stp l with
    | none => rw [hs] at h; simp at h
    | some v =>
      obtain ⟨k, u, t⟩ := v
      rw [hs] at h
      obtain ⟨g1, g2, g3⟩ := stp_some hs
      by_cases c1 : rtB k = true
      · by_cases c2 : ls ah k = true
        · simp only [c1, c2, if_true] at h
          obtain ⟨zs, e1, e2, e3, e4, e5⟩ := rd_some n k t _ ys r h
          refine ⟨(str k, u) :: zs, by rw [e1]; simp, by rw [List.length_cons, e2], ?_, ?_, ?_⟩
          · simp only [up, lb_str, c1, c2, e3, Bool.and_self]
          · intro x hx
            rcases List.mem_cons.1 hx with rfl | hx
            · exact g2
            · exact e4 x hx
          · rw [g3, e5]; simp [enL]
        · simp [c1, c2] at h
      · simp [c1] at h
theorem rd_er : ∀ (n : Nat) (ah l : List UInt8) (acc : List En), (rdA n ah l acc).1 = 0 ∨ (rdA n ah l acc).1 = 41 ∨ (rdA n ah l acc).1 = 12 ∨ (rdA n ah l acc).1 = 42
  | 0, ah, l, acc => .inl rfl
  | n + 1, ah, l, acc => by
    rw [rdA]
    cases hs : stp l with
    | none => exact .inr (.inl rfl)
    | some v =>
      obtain ⟨k, u, t⟩ := v
      simp only
      split
      · split
        · exact rd_er n _ _ _
        · exact .inr (.inr (.inr rfl))
      · exact .inr (.inr (.inl rfl))
/-! ### Whole snapshots -/
theorem enB_parts (c : Nat) (xs : List En) (r : List UInt8) : (enB c xs ++ r).take 4 = mg ∧ ((enB c xs ++ r).drop 4).take 8 = be 8 c ∧ ((enB c xs ++ r).drop 12).take 4 = be 4 xs.length ∧ (enB c xs ++ r).drop 16 = enL xs ++ r := by
  have l8 := be_len 8 c
  have l4 := be_len 4 xs.length
  have e : enB c xs ++ r = mg ++ (be 8 c ++ (be 4 xs.length ++ (enL xs ++ r))) := by simp [enB]
  rw [e]
  have d4 : (mg ++ (be 8 c ++ (be 4 xs.length ++ (enL xs ++ r)))).drop 4 = be 8 c ++ (be 4 xs.length ++ (enL xs ++ r)) := rfl
  refine ⟨rfl, by rw [d4]; exact List.take_left' l8, ?_, ?_⟩
  · rw [show (12 : Nat) = 4 + 8 from rfl, ← List.drop_drop, d4, List.drop_left' l8]; exact List.take_left' l4
  · rw [show (16 : Nat) = 4 + (8 + 4) from rfl, ← List.drop_drop, d4, ← List.drop_drop, List.drop_left' l8, List.drop_left' l4]
theorem dc_more (c : Nat) (xs : List En) (r : List UInt8) (hc : c < 18446744073709551616) (hn : xs.length < 4294967296) (h : up [] xs = true) (hu : ∀ x ∈ xs, x.2 < 18446744073709551616) : dcA (enB c xs ++ r) = if r = [] then (0, c, xs) else (43, 0, []) := by
  obtain ⟨h1, h2, h3, h4⟩ := enB_parts c xs r
  unfold dcA
  rw [if_pos h1, if_pos (by rw [List.length_append, enB_len]; omega), h2, h3, h4, vl_be, vl_be, Nat.mod_eq_of_lt (show xs.length < 256 ^ 4 from hn), Nat.mod_eq_of_lt (show c < 256 ^ 8 from hc), rd_back xs [] r [] h hu]
  simp
theorem dc_back (c : Nat) (xs : List En) (hc : c < 18446744073709551616) (hn : xs.length < 4294967296) (h : up [] xs = true) (hu : ∀ x ∈ xs, x.2 < 18446744073709551616) : dcA (enB c xs) = (0, c, xs) := by
  have := dc_more c xs [] hc hn h hu
  rwa [List.append_nil, if_pos rfl] at this
theorem dc_front (c : Nat) (xs : List En) (m : Nat) (hc : c < 18446744073709551616) (hn : xs.length < 4294967296) (h : up [] xs = true) (hu : ∀ x ∈ xs, x.2 < 18446744073709551616) (hm : m < (enB c xs).length) : dcA ((enB c xs).take m) = (if m < 4 then 40 else 41, 0, []) := by
  obtain ⟨h1, h2, h3, h4⟩ := enB_parts c xs []
  rw [List.append_nil] at h1 h2 h3 h4
  rw [List.append_nil] at h4
  rw [enB_len] at hm
  unfold dcA
  by_cases c4 : m < 4
  · have : ¬ ((enB c xs).take m).take 4 = mg := fun e => by
      have := congrArg List.length e
      rw [List.length_take, List.length_take, enB_len] at this
      simp at this; omega
    rw [if_neg this, if_pos c4]
  · have e1 : ((enB c xs).take m).take 4 = mg := by rw [List.take_take, Nat.min_eq_left (by omega), h1]
    rw [if_pos e1, if_neg c4]
    by_cases c16 : m < 16
    · rw [if_neg (by rw [List.length_take, enB_len]; omega)]
    · rw [if_pos (by rw [List.length_take, enB_len]; omega)]
      have e3 : ((((enB c xs).take m).drop 12).take 4) = be 4 xs.length := by rw [List.drop_take, List.take_take, Nat.min_eq_left (by omega), h3]
      have e4 : ((enB c xs).take m).drop 16 = (enL xs).take (m - 16) := by rw [List.drop_take, h4]
      rw [e3, e4, vl_be, Nat.mod_eq_of_lt (show xs.length < 256 ^ 4 from hn), rd_front xs [] (m - 16) [] h hu (by rw [enL_len]; omega)]
      simp
theorem dc_some {l : List UInt8} {c : Nat} {xs : List En} (h : dcA l = (0, c, xs)) : c < 18446744073709551616 ∧ xs.length < 4294967296 ∧ up [] xs = true ∧ (∀ x ∈ xs, x.2 < 18446744073709551616) ∧ enB c xs = l := by
  unfold dcA at h
  by_cases h4 : l.take 4 = mg
  · rw [if_pos h4] at h
    by_cases h16 : 16 ≤ l.length
    · rw [if_pos h16] at h
      have l8 : ((l.drop 4).take 8).length = 8 := by rw [List.length_take, List.length_drop]; omega
      have l4 : ((l.drop 12).take 4).length = 4 := by rw [List.length_take, List.length_drop]; omega
      generalize hv : rdA (vl ((l.drop 12).take 4)) [] (l.drop 16) [] = v at h
      obtain ⟨e, ys, r⟩ := v
      simp only at h
      by_cases he : e = 0
      · subst he
        rw [if_pos rfl] at h
        by_cases hr : r = []
        · subst hr
          rw [if_pos rfl] at h
          simp only [Prod.mk.injEq, true_and] at h
          obtain ⟨h1, rfl⟩ := h
          obtain ⟨zs, e1, e2, e3, e4, e5⟩ := rd_some _ _ _ _ _ _ hv
          rw [List.nil_append] at e1
          subst e1
          refine ⟨by rw [← h1]; exact vl_lt 8 _ l8, by rw [e2]; exact vl_lt 4 _ l4, e3, e4, ?_⟩
          rw [List.append_nil] at e5
          unfold enB
          rw [e2, ← h1, be_vl 8 _ l8, be_vl 4 _ l4, ← e5, ← h4]
          rw [show (16 : Nat) = 12 + 4 from rfl, ← List.drop_drop, List.append_assoc, List.take_append_drop, show (12 : Nat) = 4 + 8 from rfl, ← List.drop_drop, List.append_assoc, List.take_append_drop, List.take_append_drop]
        · rw [if_neg hr] at h; simp at h
      · rw [if_neg he] at h; simp at h; exact absurd h.1 he
    · rw [if_neg h16] at h; simp at h
  · rw [if_neg h4] at h; simp at h
/-- What is told with an error is nothing. -/
theorem dc_bad (l : List UInt8) (h : (dcA l).1 ≠ 0) : (dcA l).2 = (0, []) := by
  unfold dcA at h ⊢
  split at h
  · rw [if_pos (by assumption)]
    split at h
    · rw [if_pos (by assumption)]
      generalize rdA (vl ((l.drop 12).take 4)) [] (l.drop 16) [] = v at h ⊢
      obtain ⟨e, ys, r⟩ := v
      simp only at h ⊢
      by_cases he : e = 0
      · rw [if_pos he] at h ⊢
        by_cases hr : r = []
        · rw [if_pos hr] at h; simp at h
        · rw [if_neg hr]
      · rw [if_neg he]
    · rw [if_neg (by assumption)]
  · rw [if_neg (by assumption)]
end Go.Proofs.Ytbejkcdaefkibaa.Wd
