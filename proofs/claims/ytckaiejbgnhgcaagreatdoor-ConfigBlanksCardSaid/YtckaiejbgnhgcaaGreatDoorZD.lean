/- The parts of a line, and what rule.Parse answers of a line that is none; no conditions but those that each names. What rule.Parse answers of a line of four words, or of five, that begins as it has to; no conditions but those that each names. What rule.Print answers, for any rule; no conditions but those that each names. What rule.Parse answers, for any words; and the document's answers of chapter 11 but Parse (tollerref11.Name, Kind, Right, Cap, Print, Strings); no conditions but those that each names. The document's answers of chapter 11: Right, Cap, Strings, number; no conditions but those that each names. The document's answers of chapter 11: Strings, number and Parse; no conditions but those that each names. -/
import Derived.Test.YtckaiejbgnhgcaaGreatDoorZC
import Derived.LoopTactic
import Derived.StillTailTactics
import Derived.Test.YtckaiejbgnhgcaaGreatDoorZB
import Derived.BigQuiet
import Derived.Deep.QuietTactic
namespace Go.Proofs.YtckaiejbgnhgcaaGreatDoor.Wd
open Go Go.RowKit
set_option linter.unusedVariables false

theorem Nam.below {w w' : World} (h : Nam w) (k : Below w.heap.size w w') : Nam w' := ⟨celln k h.1, celln k h.2.1, celln k h.2.2.1, celln k h.2.2.2⟩

abbrev defS : ByteArray := ⟨#[100, 101, 102, 97, 117, 108, 116]⟩
abbrev rulS : ByteArray := ⟨#[114, 117, 108, 101]⟩
abbrev defL : List UInt8 := [100, 101, 102, 97, 117, 108, 116]
abbrev rulL : List UInt8 := [114, 117, 108, 101]

theorem parts_def (b off cap : Nat) (x : ByteArray) (w : World) (hc : w.cell? ⟨b, off, none⟩ = some (.string x)) (hx : x.toList = defL) :
    Calls Tryz.prog 117 #[.slice (some ⟨b, off, none⟩) 4 cap] w fun r w' => r = .returned (.slice (some ⟨w.heap.size, 0, none⟩) 3 3) ∧ w' = w.alloc (.cells #[.int .u8 1, .int .u8 2, .int .u8 3] 119) := by
  go_enter Tryz.func117, Tryz.ntmps117
  go_wp2
  go_ret
  exact ⟨rfl, rfl⟩
theorem parts_rule (b off cap : Nat) (x : ByteArray) (w : World) (hc : w.cell? ⟨b, off, none⟩ = some (.string x)) (hx : x.toList = rulL) :
    Calls Tryz.prog 117 #[.slice (some ⟨b, off, none⟩) 5 cap] w fun r w' => r = .returned (.slice (some ⟨w.heap.size, 0, none⟩) 4 4) ∧ w' = w.alloc (.cells #[.int .u8 0, .int .u8 1, .int .u8 2, .int .u8 3] 119) := by
  go_enter Tryz.func117, Tryz.ntmps117
  go_wp2
  go_ret
  exact ⟨rfl, rfl⟩
theorem parts_none (A : Option Addr) (n cap : Nat) (xs : List ByteArray) (w : World) (h : Sts w A n xs) (h4 : ¬ (n = 4 ∧ (xs.getD 0 nob).toList = defL)) (h5 : ¬ (n = 5 ∧ (xs.getD 0 nob).toList = rulL)) :
    Calls Tryz.prog 117 #[.slice A n cap] w fun r w' => r = .returned (.slice none 0 0) ∧ w = w' := by
  by_cases c4 : n = 4
  · subst c4
    obtain ⟨b, off, rfl, hb, hc⟩ := h.2.2 (by omega)
    have c := hc 0 (by omega)
    rw [Nat.add_zero] at c
    have hx : ((xs.getD 0 nob).toList == [100, 101, 102, 97, 117, 108, 116]) = false := by
      rw [← Bool.not_eq_true, beq_iff_eq]; exact fun e => h4 ⟨rfl, e⟩
    generalize xs.getD 0 nob = x at *
    clear h4 h5 hc h
    go_enter Tryz.func117, Tryz.ntmps117
    go_wp2
    go_ret
    exact ⟨rfl, rfl⟩
  · by_cases c5 : n = 5
    · subst c5
      obtain ⟨b, off, rfl, hb, hc⟩ := h.2.2 (by omega)
      have c := hc 0 (by omega)
      rw [Nat.add_zero] at c
      have hx : ((xs.getD 0 nob).toList == [114, 117, 108, 101]) = false := by
        rw [← Bool.not_eq_true, beq_iff_eq]; exact fun e => h5 ⟨rfl, e⟩
      generalize xs.getD 0 nob = x at *
      clear h4 h5 hc h c4
      go_enter Tryz.func117, Tryz.ntmps117
      go_wp2
      go_ret
      exact ⟨rfl, rfl⟩
    · have e4 : ((n : Int) == 4) = false := by simp; omega
      have e5 : ((n : Int) == 5) = false := by simp; omega
      clear h4 h5 h c4 c5
      go_enter Tryz.func117, Tryz.ntmps117
      go_wp2
      go_ret
      exact ⟨rfl, rfl⟩

/-! ### What is read of a line -/
def eEv (x : ByteArray) : Int := if paE (lb x) ≠ 0 then paE (lb x) else if paN (lb x) = 0 then 24 else 0
def eBu (x y : ByteArray) : Int := if paE (lb y) ≠ 0 then paE (lb y) else if paN (lb y) = 0 then 25 else if sat (paN (lb x) * paN (lb y)) ≤ 4611686018427387904 then 0 else 26
def eKi (z : ByteArray) : Int := if kinB z then 0 else 27
def ePr (p : ByteArray) : Int := if rtB (lb p) then 0 else 23
structure Ans where
  p : ByteArray
  e : Int
  b : Int
  k : Int
  err : Int
  at_ : Int
abbrev zeroA (err at_ : Int) : Ans := ⟨⟨#[]⟩, 0, 0, 0, err, at_⟩
def numA (p : ByteArray) (o : Int) (x y z : ByteArray) : Ans :=
  if eEv x ≠ 0 then zeroA (eEv x) o else if eBu x y ≠ 0 then zeroA (eBu x y) (o + 1) else if eKi z ≠ 0 then zeroA (eKi z) (o + 2) else ⟨p, paN (lb x), paN (lb y), kinI z, 0, 0⟩
def ansA (xs : List ByteArray) : Ans :=
  if xs.length = 4 ∧ (xs.getD 0 nob).toList = defL then numA ⟨#[]⟩ 1 (xs.getD 1 nob) (xs.getD 2 nob) (xs.getD 3 nob)
  else if xs.length = 5 ∧ (xs.getD 0 nob).toList = rulL then (if ePr (xs.getD 1 nob) ≠ 0 then zeroA 23 1 else numA (xs.getD 1 nob) 2 (xs.getD 2 nob) (xs.getD 3 nob) (xs.getD 4 nob))
  else zeroA 22 0
abbrev Ans.rule (a : Ans) : Value := rul a.p a.e a.b a.k

theorem parse_none (A : Option Addr) (n cap : Nat) (xs : List ByteArray) (w : World) (h : Sts w A n xs) (h4 : ¬ (n = 4 ∧ (xs.getD 0 nob).toList = defL)) (h5 : ¬ (n = 5 ∧ (xs.getD 0 nob).toList = rulL)) :
    Calls Tryz.prog 102 #[.slice A n cap] w fun r w' => r = .returned (.tuple #[rul ⟨#[]⟩ 0 0 0, .int .u16 22, .int .i64 0]) ∧ Below w.heap.size w w' := by
  have C (o : Obj) := parts_none A n cap xs (w.alloc o) (h.below ((Below.refl _ w).alloc (Nat.le_refl _) o)) h4 h5
  clear h h4 h5
  go_enter Tryz.func102, Tryz.ntmps102
  go_wp2_with (go_at_call 117; refine (C _).mono ?_; rintro r w1 ⟨rfl, rfl⟩)
  exact bodyPost_ret (v := .tuple #[rul ⟨#[]⟩ 0 0 0, .int .u16 22, .int .i64 0]) (by simp [results, Tryz.results102, go_sem]) rfl ⟨rfl, (Below.refl _ w).alloc (Nat.le_refl _) _⟩
end Go.Proofs.YtckaiejbgnhgcaaGreatDoor.Wd
namespace Go.Proofs.YtckaiejbgnhgcaaGreatDoor.Wd
open Go Go.RowKit
set_option linter.unusedVariables false

/-- What stands behind k rounds of reading: the answer's block Z (all noughts), the rule's block R, the parts T, the map M and its two closures' cells. -/
structure PI (w wr : World) (d n T M q1 q2 Z R : Nat) (p : ByteArray) (e b k : Int) : Prop where
  bel : Below w.heap.size w wr
  z : Bx wr Z ⟨#[]⟩ 0 0 0
  r : Bx wr R p e b k
  told : ∀ i, i < n → wr.cell? ⟨T, i, none⟩ = some (.int .u8 ((i + d : Nat) : Int))
  map : wr.heap[M]? = some (rdMap q1 q2)
  c1 : wr.cell? ⟨q1, 0, none⟩ = some (fnV 125)
  c2 : wr.cell? ⟨q2, 0, none⟩ = some (fnV 126)
  low : w.heap.size ≤ R
  zR : Z ≠ R
  tR : T ≠ R
  mR : M ≠ R
  q1R : q1 ≠ R
  q2R : q2 ≠ R
theorem PI.later {w wr w2 : World} {d n T M q1 q2 Z R : Nat} {p : ByteArray} {e b k : Int} (h : PI w wr d n T M q1 q2 Z R p e b k) (g : Below wr.heap.size wr w2) : PI w w2 d n T M q1 q2 Z R p e b k :=
  ⟨h.bel.trans (g.mono h.bel.size), h.z.below g, h.r.below g, fun i hi => celln g (h.told i hi), (g.block _ (lt_heap h.map)).trans h.map, celln g h.c1, celln g h.c2, h.low, h.zR, h.tR, h.mR, h.q1R, h.q2R⟩
theorem cell_other {w : World} {R o b o2 : Nat} {v x : Value} (hn : b ≠ R) (h : w.cell? ⟨b, o2, none⟩ = some v) : (w.setCell ⟨R, o, none⟩ x).cell? ⟨b, o2, none⟩ = some v :=
  (World.cell?_of_block (Below.heap_setCell _ _ _ _ hn)).trans h
theorem PI.put {w wr : World} {d n T M q1 q2 Z R : Nat} {p : ByteArray} {e b k : Int} (h : PI w wr d n T M q1 q2 Z R p e b k) (o : Nat) (x : Value) {p' : ByteArray} {e' b' k' : Int} (hx : Bx (wr.setCell ⟨R, o, none⟩ x) R p' e' b' k') : PI w (wr.setCell ⟨R, o, none⟩ x) d n T M q1 q2 Z R p' e' b' k' :=
  ⟨h.bel.setCell h.low x, h.z.other _ _ h.zR.symm, hx, fun i hi => cell_other h.tR (h.told i hi), (Below.heap_setCell _ _ _ _ h.mR).trans h.map, cell_other h.q1R h.c1, cell_other h.q2R h.c2, h.low, h.zR, h.tR, h.mR, h.q1R, h.q2R⟩
theorem PI.drew {w wr : World} {d n T M q1 q2 Z R : Nat} {p : ByteArray} {e b k : Int} (h : PI w wr d n T M q1 q2 Z R p e b k) : PI w wr.drew d n T M q1 q2 Z R p e b k := h.later (Below.refl _ _).drew

/-! ### The readers, by what stands -/
section
variable {w : World} {d n T M q1 q2 Z R : Nat} {p : ByteArray} {e b k : Int}
theorem rd0_none (s : ByteArray) (W : World) (h : PI w W d n T M q1 q2 Z R p e b k) (hs : s.size = 0) :
    Calls Tryz.prog 123 #[.pointer (some ⟨R, 0, none⟩), .string s] W fun r w' => r = .returned (.int .u16 23) ∧ PI w w' d n T M q1 q2 Z R p e b k := by
  refine (readPrefix_none R s W hs).mono ?_
  rintro r w' ⟨rfl, rfl⟩
  exact ⟨rfl, h⟩
theorem rd0_some (s : ByteArray) (W : World) (h : PI w W d n T M q1 q2 Z R p e b k) (hs : 0 < s.size) (hs2 : s.size ≤ 281474976710656) :
    Calls Tryz.prog 123 #[.pointer (some ⟨R, 0, none⟩), .string s] W fun r w' => r = .returned (.int .u16 0) ∧ PI w w' d n T M q1 q2 Z R s e b k := by
  refine (readPrefix_some R s p e b k W h.r hs hs2).mono ?_
  rintro r w' ⟨rfl, w1, b1, rfl⟩
  exact ⟨rfl, (h.later b1).put _ _ ((h.later b1).r.put0 s)⟩
theorem rd1_any (s : ByteArray) (W : World) (h : PI w W d n T M q1 q2 Z R p e b k) (hs : s.size ≤ 9223372036854775807) :
    Calls Tryz.prog 139 #[.pointer (some ⟨R, 0, none⟩), .string s, .pointer (some ⟨q1, 0, none⟩)] W fun r w' => r = .returned (.int .u16 (paE (lb s))) ∧ PI w w' d n T M q1 q2 Z R p (paN (lb s)) b k := by
  refine (number1_any R q1 s p e b k W h.r h.c1 hs).mono ?_
  rintro r w' ⟨rfl, w1, b1, rfl⟩
  exact ⟨rfl, (h.later b1).put _ _ ((h.later b1).r.put1 _)⟩
theorem rd2_any (s : ByteArray) (W : World) (h : PI w W d n T M q1 q2 Z R p e b k) (hs : s.size ≤ 9223372036854775807) :
    Calls Tryz.prog 139 #[.pointer (some ⟨R, 0, none⟩), .string s, .pointer (some ⟨q2, 0, none⟩)] W fun r w' => r = .returned (.int .u16 (paE (lb s))) ∧ PI w w' d n T M q1 q2 Z R p e (paN (lb s)) k := by
  refine (number2_any R q2 s p e b k W h.r h.c2 hs).mono ?_
  rintro r w' ⟨rfl, w1, b1, rfl⟩
  exact ⟨rfl, (h.later b1).put _ _ ((h.later b1).r.put2 _)⟩
theorem rd3_any (s : ByteArray) (W : World) (h : PI w W d n T M q1 q2 Z R p e b k) (hN : Nam w) :
    Calls Tryz.prog 127 #[.pointer (some ⟨R, 0, none⟩), .string s] W fun r w' => r = .returned (.int .u16 0) ∧ PI w w' d n T M q1 q2 Z R p e b (kinI s) := by
  refine (readKind_any R s p e b k W h.r (hN.below h.bel)).mono ?_
  rintro r w' ⟨rfl, rfl⟩
  exact ⟨rfl, h.put _ _ (h.r.put3 _)⟩
/-- What is asked of one part alone. -/
theorem wrong_one (x : Nat) (B : Nat) (W : World) (hc : W.cell? ⟨B, 0, none⟩ = some (.int .u8 (x : Int))) (hs : p.size ≤ 9223372036854775807) (he : U e) (hb : U b) :
    Calls Tryz.prog 64 #[rul p e b k, .slice (some ⟨B, 0, none⟩) 1 1] W fun r w' => r = .returned (.int .u16 (wrE [x] p e b k)) ∧ Kept W w' :=
  wrong_any (some ⟨B, 0, none⟩) 1 1 [x] p e b k W (fun _ => ⟨B, 0, rfl, fun j hj => by
    match j, hj with
    | 0, _ => simpa using hc⟩) rfl (by omega) hs he hb
end

theorem ePr_none (s : ByteArray) (h : s.size = 0) : ePr s = 23 := by
  unfold ePr rtB; rw [list_size, decide_eq_false (by omega)]; rfl
theorem ePr_some (s : ByteArray) (e b k : Int) (h : 0 < s.size) : wrE [0] s e b k = ePr s := by
  unfold wrE badB pfB ePr
  rw [decide_eq_false (show ¬ s.size = 0 by omega)]
  simp
  cases rtB (lb s) <;> simp
theorem eEv_no (s : ByteArray) (h : paE (lb s) ≠ 0) : eEv s = paE (lb s) := by unfold eEv; rw [if_pos h]
theorem eEv_yes (s p : ByteArray) (b k : Int) (h : paE (lb s) = 0) : wrE [1] p (paN (lb s)) b k = eEv s := by
  have hu := paN_U (lb s)
  rw [show eEv s = (if paN (lb s) = 0 then 24 else 0) from by unfold eEv; rw [if_neg (by simp [h])]]
  unfold wrE badB
  simp
  by_cases c : paN (lb s) = 0
  · rw [if_pos c, if_pos (by omega)]
  · rw [if_neg c, if_neg (by omega)]
theorem eBu_no (x s : ByteArray) (h : paE (lb s) ≠ 0) : eBu x s = paE (lb s) := by unfold eBu; rw [if_pos h]
theorem eBu_yes (x s p : ByteArray) (k : Int) (h : paE (lb s) = 0) : wrE [2] p (paN (lb x)) (paN (lb s)) k = eBu x s := by
  have hu := paN_U (lb s)
  rw [show eBu x s = (if paN (lb s) = 0 then 25 else if sat (paN (lb x) * paN (lb s)) ≤ 4611686018427387904 then 0 else 26) from by unfold eBu; rw [if_neg (by simp [h])]]
  unfold wrE badB
  simp
  by_cases c : paN (lb s) = 0
  · rw [if_pos c, if_pos (by omega)]
  · rw [if_neg c, if_neg (by omega)]
    by_cases g : sat (paN (lb x) * paN (lb s)) ≤ 4611686018427387904
    · rw [if_pos g, if_neg (by omega)]
    · rw [if_neg g, if_pos (by omega)]
theorem isK_kin (z : ByteArray) : isK (kinI z) = kinB z := by
  unfold isK kinI kinB
  by_cases h1 : z = gcraS
  · simp [h1]
  · by_cases h2 : z = bucketS
    · simp [h2]
    · by_cases h3 : z = leakyS
      · simp [h3]
      · simp [h1, h2, h3]
theorem eKi_is (z p : ByteArray) (e b : Int) : wrE [3] p e b (kinI z) = eKi z := by
  unfold wrE badB eKi
  rw [isK_kin]
  simp
  cases kinB z <;> simp
theorem numA_1 (p x y z : ByteArray) (o : Int) (h : eEv x ≠ 0) : numA p o x y z = zeroA (eEv x) o := by unfold numA; rw [if_pos h]
theorem numA_2 (p x y z : ByteArray) (o : Int) (h1 : eEv x = 0) (h : eBu x y ≠ 0) : numA p o x y z = zeroA (eBu x y) (o + 1) := by unfold numA; rw [if_neg (by simp [h1]), if_pos h]
theorem numA_3 (p x y z : ByteArray) (o : Int) (h1 : eEv x = 0) (h2 : eBu x y = 0) (h : eKi z ≠ 0) : numA p o x y z = zeroA (eKi z) (o + 2) := by unfold numA; rw [if_neg (by simp [h1]), if_neg (by simp [h2]), if_pos h]
theorem numA_4 (p x y z : ByteArray) (o : Int) (h1 : eEv x = 0) (h2 : eBu x y = 0) (h : eKi z = 0) : numA p o x y z = ⟨p, paN (lb x), paN (lb y), kinI z, 0, 0⟩ := by unfold numA; rw [if_neg (by simp [h1]), if_neg (by simp [h2]), if_neg (by simp [h])]

theorem hp_size (w : World) (o : Obj) : (w.alloc o).heap.size = w.heap.size + 1 := by simp
theorem start_PI (w : World) (d n : Nat) (ps : Array Value) (ht : ∀ i, i < n → ps[i]? = some (.int .u8 ((i + d : Nat) : Int))) :
    PI w ((((((w.alloc (.cells #[.string ⟨#[]⟩, .int .u64 0, .int .u64 0, .int .u8 0] 37)).alloc (.cells ps 119)).alloc (rdMap (w.heap.size + 1 + 1 + 1) (w.heap.size + 1 + 1 + 1 + 1))).alloc (.cells #[fnV 125] 186)).alloc (.cells #[fnV 126] 186)).alloc (.cells #[.string ⟨#[]⟩, .int .u64 0, .int .u64 0, .int .u8 0] 37))
      d n (w.heap.size + 1) (w.heap.size + 1 + 1) (w.heap.size + 1 + 1 + 1) (w.heap.size + 1 + 1 + 1 + 1) w.heap.size (w.heap.size + 1 + 1 + 1 + 1 + 1) ⟨#[]⟩ 0 0 0 := by
  generalize ho1 : Obj.cells #[.string ⟨#[]⟩, .int .u64 0, .int .u64 0, .int .u8 0] 37 = o1
  generalize ho2 : Obj.cells ps 119 = o2
  generalize ho3 : rdMap (w.heap.size + 1 + 1 + 1) (w.heap.size + 1 + 1 + 1 + 1) = o3
  generalize ho4 : Obj.cells #[fnV 125] 186 = o4
  generalize ho5 : Obj.cells #[fnV 126] 186 = o5
  obtain ⟨W1, h1⟩ : ∃ W1, W1 = w.alloc o1 := ⟨_, rfl⟩
  obtain ⟨W2, h2⟩ : ∃ W2, W2 = W1.alloc o2 := ⟨_, rfl⟩
  obtain ⟨W3, h3⟩ : ∃ W3, W3 = W2.alloc o3 := ⟨_, rfl⟩
  obtain ⟨W4, h4⟩ : ∃ W4, W4 = W3.alloc o4 := ⟨_, rfl⟩
  obtain ⟨W5, h5⟩ : ∃ W5, W5 = W4.alloc o5 := ⟨_, rfl⟩
  obtain ⟨W6, h6⟩ : ∃ W6, W6 = W5.alloc o1 := ⟨_, rfl⟩
  have z1 : W1.heap.size = w.heap.size + 1 := by rw [h1, hp_size]
  have z2 : W2.heap.size = w.heap.size + 1 + 1 := by rw [h2, hp_size, z1]
  have z3 : W3.heap.size = w.heap.size + 1 + 1 + 1 := by rw [h3, hp_size, z2]
  have z4 : W4.heap.size = w.heap.size + 1 + 1 + 1 + 1 := by rw [h4, hp_size, z3]
  have z5 : W5.heap.size = w.heap.size + 1 + 1 + 1 + 1 + 1 := by rw [h5, hp_size, z4]
  have b0 : Below w.heap.size w W1 := by rw [h1]; exact (Below.refl _ _).alloc (by omega) _
  have b1 : Below W1.heap.size W1 W2 := by rw [h2]; exact (Below.refl _ _).alloc (by omega) _
  have b2 : Below W2.heap.size W2 W3 := by rw [h3]; exact (Below.refl _ _).alloc (by omega) _
  have b3 : Below W3.heap.size W3 W4 := by rw [h4]; exact (Below.refl _ _).alloc (by omega) _
  have b4 : Below W4.heap.size W4 W5 := by rw [h5]; exact (Below.refl _ _).alloc (by omega) _
  have b5 : Below W5.heap.size W5 W6 := by rw [h6]; exact (Below.refl _ _).alloc (by omega) _
  have e1 : W1.heap[w.heap.size]? = some o1 := by rw [h1]; exact (MapKept.heap_alloc w _).1
  have e2 : W2.heap[w.heap.size + 1]? = some o2 := by rw [h2, ← z1]; exact (MapKept.heap_alloc W1 _).1
  have e3 : W3.heap[w.heap.size + 1 + 1]? = some o3 := by rw [h3, ← z2]; exact (MapKept.heap_alloc W2 _).1
  have e4 : W4.heap[w.heap.size + 1 + 1 + 1]? = some o4 := by rw [h4, ← z3]; exact (MapKept.heap_alloc W3 _).1
  have e5 : W5.heap[w.heap.size + 1 + 1 + 1 + 1]? = some o5 := by rw [h5, ← z4]; exact (MapKept.heap_alloc W4 _).1
  have e6 : W6.heap[w.heap.size + 1 + 1 + 1 + 1 + 1]? = some o1 := by rw [h6, ← z5]; exact (MapKept.heap_alloc W5 _).1
  rw [← h1, ← h2, ← h3, ← h4, ← h5, ← h6]
  have k4 := kbq b4 b5
  have k3 := kbq b3 k4
  have k2 := kbq b2 k3
  have k1 := kbq b1 k2
  have k0 := kbq b0 k1
  refine ⟨k0, (Bx.below (w := W1) ⟨_, by rw [e1, ← ho1]⟩ k1), ⟨_, by rw [e6, ← ho1]⟩, fun i hi => ?_, ?_, ?_, ?_, by omega, by omega, by omega, by omega, by omega, by omega⟩
  · refine celln k2 ?_
    unfold World.cell?
    simp [e2, ← ho2, ht i hi]
  · exact (k3.block _ (lt_heap e3)).trans (by rw [e3, ho3])
  · refine celln k4 ?_
    unfold World.cell?
    simp [e4, ← ho4]
  · refine celln b5 ?_
    unfold World.cell?
    simp [e5, ← ho5]

set_option maxRecDepth 100000 in
set_option maxHeartbeats 4000000 in
theorem parse_def (b off cap : Nat) (x0 x1 x2 x3 : ByteArray) (A : Ans) (w : World) (hA : A = numA ⟨#[]⟩ 1 x1 x2 x3) (hN : Nam w)
    (c0 : w.cell? ⟨b, off, none⟩ = some (.string x0)) (c1 : w.cell? ⟨b, off + 1, none⟩ = some (.string x1)) (c2 : w.cell? ⟨b, off + 2, none⟩ = some (.string x2)) (c3 : w.cell? ⟨b, off + 3, none⟩ = some (.string x3))
    (hx : x0.toList = defL) (s1 : x1.size ≤ 281474976710656) (s2 : x2.size ≤ 281474976710656) (s3 : x3.size ≤ 281474976710656) :
    Calls Tryz.prog 102 #[.slice (some ⟨b, off, none⟩) 4 cap] w fun r w' => r = .returned (.tuple #[A.rule, .int .u16 A.err, .int .i64 A.at_]) ∧ Below w.heap.size w w' := by
  have HA := Lib.hid hA
  clear hA
  have hb := lt_of_cell c0
  have PA (o : Obj) := parts_def b off cap x0 (w.alloc o) (celln ((Below.refl _ w).alloc (Nat.le_refl _) o) c0) hx
  go_enter Tryz.func102, Tryz.ntmps102
  go_wp2_with (first
    | (go_at_call 117; refine (PA _).mono ?_; rintro r w1 ⟨rfl, rfl⟩)
    | (go_at_call 118; refine (readers_any _).mono ?_; rintro r w1 ⟨rfl, rfl⟩))
  clear PA
  have P0 := start_PI w 1 3 #[.int .u8 1, .int .u8 2, .int .u8 3] (fun i hi => by
    match i, hi with
    | 0, _ => rfl
    | 1, _ => rfl
    | 2, _ => rfl)
  generalize hW : World.alloc _ _ = W0 at *
  clear hW
  generalize w.heap.size + 1 + 1 + 1 + 1 + 1 = R at *
  generalize w.heap.size + 1 + 1 + 1 + 1 = q2 at *
  generalize w.heap.size + 1 + 1 + 1 = q1 at *
  generalize w.heap.size + 1 + 1 = M at *
  generalize w.heap.size + 1 = T at *
  go_loopw [20] (fun i wr => Hid ((i = .int .i64 0 ∧ PI w wr 1 3 T M q1 q2 w.heap.size R ⟨#[]⟩ 0 0 0) ∨ (i = .int .i64 1 ∧ PI w wr 1 3 T M q1 q2 w.heap.size R ⟨#[]⟩ (paN (lb x1)) 0 0 ∧ eEv x1 = 0) ∨ (i = .int .i64 2 ∧ PI w wr 1 3 T M q1 q2 w.heap.size R ⟨#[]⟩ (paN (lb x1)) (paN (lb x2)) 0 ∧ eEv x1 = 0 ∧ eBu x1 x2 = 0) ∨ (i = .int .i64 3 ∧ PI w wr 1 3 T M q1 q2 w.heap.size R ⟨#[]⟩ (paN (lb x1)) (paN (lb x2)) (kinI x3) ∧ eEv x1 = 0 ∧ eBu x1 x2 = 0 ∧ eKi x3 = 0))) (fun i _ => 3 - (intOf i).toNat)
  case atStart => exact Lib.hid (.inl ⟨rfl, P0⟩)
  case round =>
    clear P0
    obtain ⟨rfl, I⟩ | ⟨rfl, I, z1⟩ | ⟨rfl, I, z1, z2⟩ | ⟨rfl, I, z1, z2, z3⟩ := hrel.out
    · have t0 : wr.cell? ⟨T, 0, none⟩ = some (.int .u8 1) := by simpa using I.told 0 (by omega)
      have lk := (run_read wr.drew M q1 q2 I.map).2.1
      have cw : wr.cell? ⟨b, off + 1, none⟩ = some (.string x1) := celln I.bel c1
      have hw : IntKind.i64.wrap 1 = 1 := rfl
      clear c0 hx hrel hb
      go_wp2
      go_region_held3 (fun w' => (Instr.lookup 172 (.map (some M)) (.int .u8 1) false).run Tryz.prog w' = .ok (numV q1) w' ∧ w'.cell? ⟨b, off + 1, none⟩ = some (.string x1))
        (first | with_reducible exact ⟨lk, dcell cw⟩ | with_reducible exact ⟨lk, cw⟩)
        (first | (go_at_call 139; refine (rd1_any _ _ I.drew (by omega)).mono ?_; rintro r w2 ⟨rfl, I2⟩; replace lk := (run_read w2 M q1 q2 I2.map).2.1; replace cw := celln I2.bel c1))
      by_cases hE : paE (lb x1) = 0
      · obtain ⟨r0, r1, r2, r3⟩ := I2.r.cells
        by_cases hV : eEv x1 = 0
        · have g1 := hV
          go_wp2_with (go_at_call 64; refine (wrong_one 1 _ _ (by simp) (by decide) (paN_U _) U_zero).mono ?_; rintro r w3 ⟨rfl, k3⟩; rw [eEv_yes x1 _ _ _ hE]; have I3 := (I2.later ((Below.refl _ _).alloc (Nat.le_refl _) _)).later k3.2; obtain ⟨a0, a1, a2, a3⟩ := I3.z.cells; have y0 := I3.z.soft 0; have y1 := I3.z.soft 1; have y2 := I3.z.soft 2; have y3 := I3.z.soft 3)
          go_roundw
          case rel => exact Lib.hid (.inr (.inl ⟨rfl, I3, hV⟩))
          case measure => simp [intOf]
        · have g1 : (eEv x1 == 0) = false := by simpa using hV
          have g2 : (eEv x1 != 0) = true := by simpa using hV
          go_wp2_with (go_at_call 64; refine (wrong_one 1 _ _ (by simp) (by decide) (paN_U _) U_zero).mono ?_; rintro r w3 ⟨rfl, k3⟩; rw [eEv_yes x1 _ _ _ hE]; have I3 := (I2.later ((Below.refl _ _).alloc (Nat.le_refl _) _)).later k3.2; obtain ⟨a0, a1, a2, a3⟩ := I3.z.cells; have y0 := I3.z.soft 0; have y1 := I3.z.soft 1; have y2 := I3.z.soft 2; have y3 := I3.z.soft 3)
          obtain rfl : A = zeroA (eEv x1) 1 := by (rw [HA.out, numA_1 _ _ _ _ _ hV] <;> rfl)
          obtain ⟨f0, f1, f2, f3⟩ := ((((I3.z.put0 ⟨#[]⟩).put1 0).put2 0).put3 0).cells
          exact bodyPost_ret (v := .tuple #[rul ⟨#[]⟩ 0 0 0, .int .u16 (eEv x1), .int .i64 1]) (by simp [results, Tryz.results102, go_sem, f0, f1, f2, f3]) rfl ⟨rfl, (((I3.bel.setCell (Nat.le_refl _) _).setCell (Nat.le_refl _) _).setCell (Nat.le_refl _) _).setCell (Nat.le_refl _) _⟩
      · have hV : eEv x1 ≠ 0 := by rw [eEv_no x1 hE]; exact hE
        have hV2 := eEv_no x1 hE
        have g1 : (paE (lb x1) == 0) = false := by simpa using hE
        have g2 : (paE (lb x1) != 0) = true := by simpa using hE
        obtain ⟨a0, a1, a2, a3⟩ := I2.z.cells
        have y0 := I2.z.soft 0
        have y1 := I2.z.soft 1
        have y2 := I2.z.soft 2
        have y3 := I2.z.soft 3
        go_wp2
        rw [← hV2]
        obtain rfl : A = zeroA (eEv x1) 1 := by (rw [HA.out, numA_1 _ _ _ _ _ hV] <;> rfl)
        obtain ⟨f0, f1, f2, f3⟩ := ((((I2.z.put0 ⟨#[]⟩).put1 0).put2 0).put3 0).cells
        exact bodyPost_ret (v := .tuple #[rul ⟨#[]⟩ 0 0 0, .int .u16 (eEv x1), .int .i64 1]) (by simp [results, Tryz.results102, go_sem, f0, f1, f2, f3]) rfl ⟨rfl, (((I2.bel.setCell (Nat.le_refl _) _).setCell (Nat.le_refl _) _).setCell (Nat.le_refl _) _).setCell (Nat.le_refl _) _⟩
    · have t0 : wr.cell? ⟨T, 1, none⟩ = some (.int .u8 2) := by simpa using I.told 1 (by omega)
      have lk := (run_read wr.drew M q1 q2 I.map).2.2.1
      have cw : wr.cell? ⟨b, off + 2, none⟩ = some (.string x2) := celln I.bel c2
      have hw : IntKind.i64.wrap 2 = 2 := rfl
      clear c0 hx hrel hb
      go_wp2
      go_region_held3 (fun w' => (Instr.lookup 172 (.map (some M)) (.int .u8 2) false).run Tryz.prog w' = .ok (numV q2) w' ∧ w'.cell? ⟨b, off + 2, none⟩ = some (.string x2))
        (first | with_reducible exact ⟨lk, dcell cw⟩ | with_reducible exact ⟨lk, cw⟩)
        (first | (go_at_call 139; refine (rd2_any _ _ I.drew (by omega)).mono ?_; rintro r w2 ⟨rfl, I2⟩; replace lk := (run_read w2 M q1 q2 I2.map).2.2.1; replace cw := celln I2.bel c2))
      by_cases hE : paE (lb x2) = 0
      · obtain ⟨r0, r1, r2, r3⟩ := I2.r.cells
        by_cases hV : eBu x1 x2 = 0
        · have g1 := hV
          go_wp2_with (go_at_call 64; refine (wrong_one 2 _ _ (by simp) (by decide) (paN_U _) (paN_U _)).mono ?_; rintro r w3 ⟨rfl, k3⟩; rw [eBu_yes _ x2 _ _ hE]; have I3 := (I2.later ((Below.refl _ _).alloc (Nat.le_refl _) _)).later k3.2; obtain ⟨a0, a1, a2, a3⟩ := I3.z.cells; have y0 := I3.z.soft 0; have y1 := I3.z.soft 1; have y2 := I3.z.soft 2; have y3 := I3.z.soft 3)
          go_roundw
          case rel => exact Lib.hid (.inr (.inr (.inl ⟨rfl, I3, z1, hV⟩)))
          case measure => simp [intOf]
        · have g1 : (eBu x1 x2 == 0) = false := by simpa using hV
          have g2 : (eBu x1 x2 != 0) = true := by simpa using hV
          go_wp2_with (go_at_call 64; refine (wrong_one 2 _ _ (by simp) (by decide) (paN_U _) (paN_U _)).mono ?_; rintro r w3 ⟨rfl, k3⟩; rw [eBu_yes _ x2 _ _ hE]; have I3 := (I2.later ((Below.refl _ _).alloc (Nat.le_refl _) _)).later k3.2; obtain ⟨a0, a1, a2, a3⟩ := I3.z.cells; have y0 := I3.z.soft 0; have y1 := I3.z.soft 1; have y2 := I3.z.soft 2; have y3 := I3.z.soft 3)
          obtain rfl : A = zeroA (eBu x1 x2) 2 := by (rw [HA.out, numA_2 _ _ _ _ _ z1 hV] <;> rfl)
          obtain ⟨f0, f1, f2, f3⟩ := ((((I3.z.put0 ⟨#[]⟩).put1 0).put2 0).put3 0).cells
          exact bodyPost_ret (v := .tuple #[rul ⟨#[]⟩ 0 0 0, .int .u16 (eBu x1 x2), .int .i64 2]) (by simp [results, Tryz.results102, go_sem, f0, f1, f2, f3]) rfl ⟨rfl, (((I3.bel.setCell (Nat.le_refl _) _).setCell (Nat.le_refl _) _).setCell (Nat.le_refl _) _).setCell (Nat.le_refl _) _⟩
      · have hV : eBu x1 x2 ≠ 0 := by rw [eBu_no _ x2 hE]; exact hE
        have hV2 := eBu_no x1 x2 hE
        have g1 : (paE (lb x2) == 0) = false := by simpa using hE
        have g2 : (paE (lb x2) != 0) = true := by simpa using hE
        obtain ⟨a0, a1, a2, a3⟩ := I2.z.cells
        have y0 := I2.z.soft 0
        have y1 := I2.z.soft 1
        have y2 := I2.z.soft 2
        have y3 := I2.z.soft 3
        go_wp2
        rw [← hV2]
        obtain rfl : A = zeroA (eBu x1 x2) 2 := by (rw [HA.out, numA_2 _ _ _ _ _ z1 hV] <;> rfl)
        obtain ⟨f0, f1, f2, f3⟩ := ((((I2.z.put0 ⟨#[]⟩).put1 0).put2 0).put3 0).cells
        exact bodyPost_ret (v := .tuple #[rul ⟨#[]⟩ 0 0 0, .int .u16 (eBu x1 x2), .int .i64 2]) (by simp [results, Tryz.results102, go_sem, f0, f1, f2, f3]) rfl ⟨rfl, (((I2.bel.setCell (Nat.le_refl _) _).setCell (Nat.le_refl _) _).setCell (Nat.le_refl _) _).setCell (Nat.le_refl _) _⟩
    · have t0 : wr.cell? ⟨T, 2, none⟩ = some (.int .u8 3) := by simpa using I.told 2 (by omega)
      have lk := (run_read wr.drew M q1 q2 I.map).2.2.2
      have cw : wr.cell? ⟨b, off + 3, none⟩ = some (.string x3) := celln I.bel c3
      have hw : IntKind.i64.wrap 3 = 3 := rfl
      clear c0 hx hrel hb
      go_wp2
      go_region_held3 (fun w' => (Instr.lookup 172 (.map (some M)) (.int .u8 3) false).run Tryz.prog w' = .ok (fnV 127) w' ∧ w'.cell? ⟨b, off + 3, none⟩ = some (.string x3))
        (first | with_reducible exact ⟨lk, dcell cw⟩ | with_reducible exact ⟨lk, cw⟩)
        (first | (go_at_call 127; refine (rd3_any _ _ I.drew hN).mono ?_; rintro r w2 ⟨rfl, I2⟩; replace lk := (run_read w2 M q1 q2 I2.map).2.2.2; replace cw := celln I2.bel c3))
      obtain ⟨r0, r1, r2, r3⟩ := I2.r.cells
      by_cases hV : eKi x3 = 0
      · have g1 := hV
        go_wp2_with (go_at_call 64; refine (wrong_one 3 _ _ (by simp) (by decide) (paN_U _) (paN_U _)).mono ?_; rintro r w3 ⟨rfl, k3⟩; rw [eKi_is x3 _ _ _]; have I3 := (I2.later ((Below.refl _ _).alloc (Nat.le_refl _) _)).later k3.2; obtain ⟨a0, a1, a2, a3⟩ := I3.z.cells; have y0 := I3.z.soft 0; have y1 := I3.z.soft 1; have y2 := I3.z.soft 2; have y3 := I3.z.soft 3)
        go_roundw
        case rel => exact Lib.hid (.inr (.inr (.inr (⟨rfl, I3, z1, z2, hV⟩))))
        case measure => simp [intOf]
      · have g1 : (eKi x3 == 0) = false := by simpa using hV
        have g2 : (eKi x3 != 0) = true := by simpa using hV
        go_wp2_with (go_at_call 64; refine (wrong_one 3 _ _ (by simp) (by decide) (paN_U _) (paN_U _)).mono ?_; rintro r w3 ⟨rfl, k3⟩; rw [eKi_is x3 _ _ _]; have I3 := (I2.later ((Below.refl _ _).alloc (Nat.le_refl _) _)).later k3.2; obtain ⟨a0, a1, a2, a3⟩ := I3.z.cells; have y0 := I3.z.soft 0; have y1 := I3.z.soft 1; have y2 := I3.z.soft 2; have y3 := I3.z.soft 3)
        obtain rfl : A = zeroA (eKi x3) 3 := by (rw [HA.out, numA_3 _ _ _ _ _ z1 z2 hV] <;> rfl)
        obtain ⟨f0, f1, f2, f3⟩ := ((((I3.z.put0 ⟨#[]⟩).put1 0).put2 0).put3 0).cells
        exact bodyPost_ret (v := .tuple #[rul ⟨#[]⟩ 0 0 0, .int .u16 (eKi x3), .int .i64 3]) (by simp [results, Tryz.results102, go_sem, f0, f1, f2, f3]) rfl ⟨rfl, (((I3.bel.setCell (Nat.le_refl _) _).setCell (Nat.le_refl _) _).setCell (Nat.le_refl _) _).setCell (Nat.le_refl _) _⟩
    · obtain ⟨r0, r1, r2, r3⟩ := I.r.cells
      obtain ⟨a0, a1, a2, a3⟩ := I.z.cells
      have y0 := I.z.soft 0
      have y1 := I.z.soft 1
      have y2 := I.z.soft 2
      have y3 := I.z.soft 3
      clear hrel
      go_wp2
      obtain rfl : A = ⟨⟨#[]⟩, (paN (lb x1)), (paN (lb x2)), (kinI x3), 0, 0⟩ := by rw [HA.out, numA_4 _ _ _ _ _ z1 z2 z3]
      obtain ⟨f0, f1, f2, f3⟩ := ((((I.z.put0 ⟨#[]⟩).put1 (paN (lb x1))).put2 (paN (lb x2))).put3 (kinI x3)).cells
      exact bodyPost_ret (v := .tuple #[rul ⟨#[]⟩ (paN (lb x1)) (paN (lb x2)) (kinI x3), .int .u16 0, .int .i64 0]) (by simp [results, Tryz.results102, go_sem, f0, f1, f2, f3]) rfl ⟨rfl, (((I.bel.setCell (Nat.le_refl _) _).setCell (Nat.le_refl _) _).setCell (Nat.le_refl _) _).setCell (Nat.le_refl _) _⟩

set_option maxRecDepth 100000 in
set_option maxHeartbeats 4000000 in
theorem parse_rule (b off cap : Nat) (x0 x1 x2 x3 x4 : ByteArray) (A : Ans) (w : World) (hA : A = (if ePr x1 ≠ 0 then zeroA 23 1 else numA x1 2 x2 x3 x4)) (hN : Nam w)
    (c0 : w.cell? ⟨b, off, none⟩ = some (.string x0)) (c1 : w.cell? ⟨b, off + 1, none⟩ = some (.string x1)) (c2 : w.cell? ⟨b, off + 2, none⟩ = some (.string x2)) (c3 : w.cell? ⟨b, off + 3, none⟩ = some (.string x3)) (c4 : w.cell? ⟨b, off + 4, none⟩ = some (.string x4))
    (hx : x0.toList = rulL) (s1 : x1.size ≤ 281474976710656) (s2 : x2.size ≤ 281474976710656) (s3 : x3.size ≤ 281474976710656) (s4 : x4.size ≤ 281474976710656) :
    Calls Tryz.prog 102 #[.slice (some ⟨b, off, none⟩) 5 cap] w fun r w' => r = .returned (.tuple #[A.rule, .int .u16 A.err, .int .i64 A.at_]) ∧ Below w.heap.size w w' := by
  have HA := Lib.hid hA
  clear hA
  have hb := lt_of_cell c0
  have PA (o : Obj) := parts_rule b off cap x0 (w.alloc o) (celln ((Below.refl _ w).alloc (Nat.le_refl _) o) c0) hx
  go_enter Tryz.func102, Tryz.ntmps102
  go_wp2_with (first
    | (go_at_call 117; refine (PA _).mono ?_; rintro r w1 ⟨rfl, rfl⟩)
    | (go_at_call 118; refine (readers_any _).mono ?_; rintro r w1 ⟨rfl, rfl⟩))
  clear PA
  have P0 := start_PI w 0 4 #[.int .u8 0, .int .u8 1, .int .u8 2, .int .u8 3] (fun i hi => by
    match i, hi with
    | 0, _ => rfl
    | 1, _ => rfl
    | 2, _ => rfl
    | 3, _ => rfl)
  generalize hW : World.alloc _ _ = W0 at *
  clear hW
  generalize w.heap.size + 1 + 1 + 1 + 1 + 1 = R at *
  generalize w.heap.size + 1 + 1 + 1 + 1 = q2 at *
  generalize w.heap.size + 1 + 1 + 1 = q1 at *
  generalize w.heap.size + 1 + 1 = M at *
  generalize w.heap.size + 1 = T at *
  go_loopw [20] (fun i wr => Hid ((i = .int .i64 0 ∧ PI w wr 0 4 T M q1 q2 w.heap.size R ⟨#[]⟩ 0 0 0) ∨ (i = .int .i64 1 ∧ PI w wr 0 4 T M q1 q2 w.heap.size R x1 0 0 0 ∧ ePr x1 = 0) ∨ (i = .int .i64 2 ∧ PI w wr 0 4 T M q1 q2 w.heap.size R x1 (paN (lb x2)) 0 0 ∧ ePr x1 = 0 ∧ eEv x2 = 0) ∨ (i = .int .i64 3 ∧ PI w wr 0 4 T M q1 q2 w.heap.size R x1 (paN (lb x2)) (paN (lb x3)) 0 ∧ ePr x1 = 0 ∧ eEv x2 = 0 ∧ eBu x2 x3 = 0) ∨ (i = .int .i64 4 ∧ PI w wr 0 4 T M q1 q2 w.heap.size R x1 (paN (lb x2)) (paN (lb x3)) (kinI x4) ∧ ePr x1 = 0 ∧ eEv x2 = 0 ∧ eBu x2 x3 = 0 ∧ eKi x4 = 0))) (fun i _ => 4 - (intOf i).toNat)
  case atStart => exact Lib.hid (.inl ⟨rfl, P0⟩)
  case round =>
    clear P0
    obtain ⟨rfl, I⟩ | ⟨rfl, I, z0⟩ | ⟨rfl, I, z0, z1⟩ | ⟨rfl, I, z0, z1, z2⟩ | ⟨rfl, I, z0, z1, z2, z3⟩ := hrel.out
    · have t0 : wr.cell? ⟨T, 0, none⟩ = some (.int .u8 0) := by simpa using I.told 0 (by omega)
      have lk := (run_read wr.drew M q1 q2 I.map).1
      have cw : wr.cell? ⟨b, off + 1, none⟩ = some (.string x1) := celln I.bel c1
      have hw : IntKind.i64.wrap 1 = 1 := rfl
      clear c0 hx hrel hb
      by_cases hp : 0 < x1.size
      · go_wp2
        go_region_held3 (fun w' => (Instr.lookup 172 (.map (some M)) (.int .u8 0) false).run Tryz.prog w' = .ok (fnV 123) w' ∧ w'.cell? ⟨b, off + 1, none⟩ = some (.string x1))
          (first | with_reducible exact ⟨lk, dcell cw⟩ | with_reducible exact ⟨lk, cw⟩)
          (first | (go_at_call 123; refine (rd0_some _ _ I.drew hp (by omega)).mono ?_; rintro r w2 ⟨rfl, I2⟩; replace lk := (run_read w2 M q1 q2 I2.map).1; replace cw := celln I2.bel c1))
        obtain ⟨r0, r1, r2, r3⟩ := I2.r.cells
        by_cases hV : ePr x1 = 0
        · have g1 := hV
          go_wp2_with (go_at_call 64; refine (wrong_one 0 _ _ (by simp) (by omega) U_zero U_zero).mono ?_; rintro r w3 ⟨rfl, k3⟩; rw [ePr_some x1 _ _ _ hp]; have I3 := (I2.later ((Below.refl _ _).alloc (Nat.le_refl _) _)).later k3.2; obtain ⟨a0, a1, a2, a3⟩ := I3.z.cells; have y0 := I3.z.soft 0; have y1 := I3.z.soft 1; have y2 := I3.z.soft 2; have y3 := I3.z.soft 3)
          go_roundw
          case rel => exact Lib.hid (.inr (.inl ⟨rfl, I3, hV⟩))
          case measure => simp [intOf]
        · have g1 : (ePr x1 == 0) = false := by simpa using hV
          have g2 : (ePr x1 != 0) = true := by simpa using hV
          go_wp2_with (go_at_call 64; refine (wrong_one 0 _ _ (by simp) (by omega) U_zero U_zero).mono ?_; rintro r w3 ⟨rfl, k3⟩; rw [ePr_some x1 _ _ _ hp]; have I3 := (I2.later ((Below.refl _ _).alloc (Nat.le_refl _) _)).later k3.2; obtain ⟨a0, a1, a2, a3⟩ := I3.z.cells; have y0 := I3.z.soft 0; have y1 := I3.z.soft 1; have y2 := I3.z.soft 2; have y3 := I3.z.soft 3)
          have hV2 : ePr x1 = 23 := by unfold ePr at hV ⊢; split at hV <;> simp_all
          rw [hV2]
          obtain rfl : A = zeroA (23) 1 := by (rw [HA.out, if_pos hV] <;> rfl)
          obtain ⟨f0, f1, f2, f3⟩ := ((((I3.z.put0 ⟨#[]⟩).put1 0).put2 0).put3 0).cells
          exact bodyPost_ret (v := .tuple #[rul ⟨#[]⟩ 0 0 0, .int .u16 (23), .int .i64 1]) (by simp [results, Tryz.results102, go_sem, f0, f1, f2, f3]) rfl ⟨rfl, (((I3.bel.setCell (Nat.le_refl _) _).setCell (Nat.le_refl _) _).setCell (Nat.le_refl _) _).setCell (Nat.le_refl _) _⟩
      · have hV : ePr x1 ≠ 0 := by rw [ePr_none x1 (by omega)]; decide
        go_wp2
        go_region_held3 (fun w' => (Instr.lookup 172 (.map (some M)) (.int .u8 0) false).run Tryz.prog w' = .ok (fnV 123) w' ∧ w'.cell? ⟨b, off + 1, none⟩ = some (.string x1))
          (first | with_reducible exact ⟨lk, dcell cw⟩ | with_reducible exact ⟨lk, cw⟩)
          (first | (go_at_call 123; refine (rd0_none _ _ I.drew (by omega)).mono ?_; rintro r w2 ⟨rfl, I2⟩; replace lk := (run_read w2 M q1 q2 I2.map).1; replace cw := celln I2.bel c1))
        obtain ⟨a0, a1, a2, a3⟩ := I2.z.cells
        have y0 := I2.z.soft 0
        have y1 := I2.z.soft 1
        have y2 := I2.z.soft 2
        have y3 := I2.z.soft 3
        go_wp2
        obtain rfl : A = zeroA (23) 1 := by (rw [HA.out, if_pos hV] <;> rfl)
        obtain ⟨f0, f1, f2, f3⟩ := ((((I2.z.put0 ⟨#[]⟩).put1 0).put2 0).put3 0).cells
        exact bodyPost_ret (v := .tuple #[rul ⟨#[]⟩ 0 0 0, .int .u16 (23), .int .i64 1]) (by simp [results, Tryz.results102, go_sem, f0, f1, f2, f3]) rfl ⟨rfl, (((I2.bel.setCell (Nat.le_refl _) _).setCell (Nat.le_refl _) _).setCell (Nat.le_refl _) _).setCell (Nat.le_refl _) _⟩
    · have t0 : wr.cell? ⟨T, 1, none⟩ = some (.int .u8 1) := by simpa using I.told 1 (by omega)
      have lk := (run_read wr.drew M q1 q2 I.map).2.1
      have cw : wr.cell? ⟨b, off + 2, none⟩ = some (.string x2) := celln I.bel c2
      have hw : IntKind.i64.wrap 2 = 2 := rfl
      clear c0 hx hrel hb
      go_wp2
      go_region_held3 (fun w' => (Instr.lookup 172 (.map (some M)) (.int .u8 1) false).run Tryz.prog w' = .ok (numV q1) w' ∧ w'.cell? ⟨b, off + 2, none⟩ = some (.string x2))
        (first | with_reducible exact ⟨lk, dcell cw⟩ | with_reducible exact ⟨lk, cw⟩)
        (first | (go_at_call 139; refine (rd1_any _ _ I.drew (by omega)).mono ?_; rintro r w2 ⟨rfl, I2⟩; replace lk := (run_read w2 M q1 q2 I2.map).2.1; replace cw := celln I2.bel c2))
      by_cases hE : paE (lb x2) = 0
      · obtain ⟨r0, r1, r2, r3⟩ := I2.r.cells
        by_cases hV : eEv x2 = 0
        · have g1 := hV
          go_wp2_with (go_at_call 64; refine (wrong_one 1 _ _ (by simp) (by omega) (paN_U _) U_zero).mono ?_; rintro r w3 ⟨rfl, k3⟩; rw [eEv_yes x2 _ _ _ hE]; have I3 := (I2.later ((Below.refl _ _).alloc (Nat.le_refl _) _)).later k3.2; obtain ⟨a0, a1, a2, a3⟩ := I3.z.cells; have y0 := I3.z.soft 0; have y1 := I3.z.soft 1; have y2 := I3.z.soft 2; have y3 := I3.z.soft 3)
          go_roundw
          case rel => exact Lib.hid (.inr (.inr (.inl ⟨rfl, I3, z0, hV⟩)))
          case measure => simp [intOf]
        · have g1 : (eEv x2 == 0) = false := by simpa using hV
          have g2 : (eEv x2 != 0) = true := by simpa using hV
          go_wp2_with (go_at_call 64; refine (wrong_one 1 _ _ (by simp) (by omega) (paN_U _) U_zero).mono ?_; rintro r w3 ⟨rfl, k3⟩; rw [eEv_yes x2 _ _ _ hE]; have I3 := (I2.later ((Below.refl _ _).alloc (Nat.le_refl _) _)).later k3.2; obtain ⟨a0, a1, a2, a3⟩ := I3.z.cells; have y0 := I3.z.soft 0; have y1 := I3.z.soft 1; have y2 := I3.z.soft 2; have y3 := I3.z.soft 3)
          obtain rfl : A = zeroA (eEv x2) 2 := by (rw [HA.out, if_neg (by simp [z0]), numA_1 _ _ _ _ _ hV] <;> rfl)
          obtain ⟨f0, f1, f2, f3⟩ := ((((I3.z.put0 ⟨#[]⟩).put1 0).put2 0).put3 0).cells
          exact bodyPost_ret (v := .tuple #[rul ⟨#[]⟩ 0 0 0, .int .u16 (eEv x2), .int .i64 2]) (by simp [results, Tryz.results102, go_sem, f0, f1, f2, f3]) rfl ⟨rfl, (((I3.bel.setCell (Nat.le_refl _) _).setCell (Nat.le_refl _) _).setCell (Nat.le_refl _) _).setCell (Nat.le_refl _) _⟩
      · have hV : eEv x2 ≠ 0 := by rw [eEv_no x2 hE]; exact hE
        have hV2 := eEv_no x2 hE
        have g1 : (paE (lb x2) == 0) = false := by simpa using hE
        have g2 : (paE (lb x2) != 0) = true := by simpa using hE
        obtain ⟨a0, a1, a2, a3⟩ := I2.z.cells
        have y0 := I2.z.soft 0
        have y1 := I2.z.soft 1
        have y2 := I2.z.soft 2
        have y3 := I2.z.soft 3
        go_wp2
        rw [← hV2]
        obtain rfl : A = zeroA (eEv x2) 2 := by (rw [HA.out, if_neg (by simp [z0]), numA_1 _ _ _ _ _ hV] <;> rfl)
        obtain ⟨f0, f1, f2, f3⟩ := ((((I2.z.put0 ⟨#[]⟩).put1 0).put2 0).put3 0).cells
        exact bodyPost_ret (v := .tuple #[rul ⟨#[]⟩ 0 0 0, .int .u16 (eEv x2), .int .i64 2]) (by simp [results, Tryz.results102, go_sem, f0, f1, f2, f3]) rfl ⟨rfl, (((I2.bel.setCell (Nat.le_refl _) _).setCell (Nat.le_refl _) _).setCell (Nat.le_refl _) _).setCell (Nat.le_refl _) _⟩
    · have t0 : wr.cell? ⟨T, 2, none⟩ = some (.int .u8 2) := by simpa using I.told 2 (by omega)
      have lk := (run_read wr.drew M q1 q2 I.map).2.2.1
      have cw : wr.cell? ⟨b, off + 3, none⟩ = some (.string x3) := celln I.bel c3
      have hw : IntKind.i64.wrap 3 = 3 := rfl
      clear c0 hx hrel hb
      go_wp2
      go_region_held3 (fun w' => (Instr.lookup 172 (.map (some M)) (.int .u8 2) false).run Tryz.prog w' = .ok (numV q2) w' ∧ w'.cell? ⟨b, off + 3, none⟩ = some (.string x3))
        (first | with_reducible exact ⟨lk, dcell cw⟩ | with_reducible exact ⟨lk, cw⟩)
        (first | (go_at_call 139; refine (rd2_any _ _ I.drew (by omega)).mono ?_; rintro r w2 ⟨rfl, I2⟩; replace lk := (run_read w2 M q1 q2 I2.map).2.2.1; replace cw := celln I2.bel c3))
      by_cases hE : paE (lb x3) = 0
      · obtain ⟨r0, r1, r2, r3⟩ := I2.r.cells
        by_cases hV : eBu x2 x3 = 0
        · have g1 := hV
          go_wp2_with (go_at_call 64; refine (wrong_one 2 _ _ (by simp) (by omega) (paN_U _) (paN_U _)).mono ?_; rintro r w3 ⟨rfl, k3⟩; rw [eBu_yes _ x3 _ _ hE]; have I3 := (I2.later ((Below.refl _ _).alloc (Nat.le_refl _) _)).later k3.2; obtain ⟨a0, a1, a2, a3⟩ := I3.z.cells; have y0 := I3.z.soft 0; have y1 := I3.z.soft 1; have y2 := I3.z.soft 2; have y3 := I3.z.soft 3)
          go_roundw
          case rel => exact Lib.hid (.inr (.inr (.inr (.inl ⟨rfl, I3, z0, z1, hV⟩))))
          case measure => simp [intOf]
        · have g1 : (eBu x2 x3 == 0) = false := by simpa using hV
          have g2 : (eBu x2 x3 != 0) = true := by simpa using hV
          go_wp2_with (go_at_call 64; refine (wrong_one 2 _ _ (by simp) (by omega) (paN_U _) (paN_U _)).mono ?_; rintro r w3 ⟨rfl, k3⟩; rw [eBu_yes _ x3 _ _ hE]; have I3 := (I2.later ((Below.refl _ _).alloc (Nat.le_refl _) _)).later k3.2; obtain ⟨a0, a1, a2, a3⟩ := I3.z.cells; have y0 := I3.z.soft 0; have y1 := I3.z.soft 1; have y2 := I3.z.soft 2; have y3 := I3.z.soft 3)
          obtain rfl : A = zeroA (eBu x2 x3) 3 := by (rw [HA.out, if_neg (by simp [z0]), numA_2 _ _ _ _ _ z1 hV] <;> rfl)
          obtain ⟨f0, f1, f2, f3⟩ := ((((I3.z.put0 ⟨#[]⟩).put1 0).put2 0).put3 0).cells
          exact bodyPost_ret (v := .tuple #[rul ⟨#[]⟩ 0 0 0, .int .u16 (eBu x2 x3), .int .i64 3]) (by simp [results, Tryz.results102, go_sem, f0, f1, f2, f3]) rfl ⟨rfl, (((I3.bel.setCell (Nat.le_refl _) _).setCell (Nat.le_refl _) _).setCell (Nat.le_refl _) _).setCell (Nat.le_refl _) _⟩
      · have hV : eBu x2 x3 ≠ 0 := by rw [eBu_no _ x3 hE]; exact hE
        have hV2 := eBu_no x2 x3 hE
        have g1 : (paE (lb x3) == 0) = false := by simpa using hE
        have g2 : (paE (lb x3) != 0) = true := by simpa using hE
        obtain ⟨a0, a1, a2, a3⟩ := I2.z.cells
        have y0 := I2.z.soft 0
        have y1 := I2.z.soft 1
        have y2 := I2.z.soft 2
        have y3 := I2.z.soft 3
        go_wp2
        rw [← hV2]
        obtain rfl : A = zeroA (eBu x2 x3) 3 := by (rw [HA.out, if_neg (by simp [z0]), numA_2 _ _ _ _ _ z1 hV] <;> rfl)
        obtain ⟨f0, f1, f2, f3⟩ := ((((I2.z.put0 ⟨#[]⟩).put1 0).put2 0).put3 0).cells
        exact bodyPost_ret (v := .tuple #[rul ⟨#[]⟩ 0 0 0, .int .u16 (eBu x2 x3), .int .i64 3]) (by simp [results, Tryz.results102, go_sem, f0, f1, f2, f3]) rfl ⟨rfl, (((I2.bel.setCell (Nat.le_refl _) _).setCell (Nat.le_refl _) _).setCell (Nat.le_refl _) _).setCell (Nat.le_refl _) _⟩
    · have t0 : wr.cell? ⟨T, 3, none⟩ = some (.int .u8 3) := by simpa using I.told 3 (by omega)
      have lk := (run_read wr.drew M q1 q2 I.map).2.2.2
      have cw : wr.cell? ⟨b, off + 4, none⟩ = some (.string x4) := celln I.bel c4
      have hw : IntKind.i64.wrap 4 = 4 := rfl
      clear c0 hx hrel hb
      go_wp2
      go_region_held3 (fun w' => (Instr.lookup 172 (.map (some M)) (.int .u8 3) false).run Tryz.prog w' = .ok (fnV 127) w' ∧ w'.cell? ⟨b, off + 4, none⟩ = some (.string x4))
        (first | with_reducible exact ⟨lk, dcell cw⟩ | with_reducible exact ⟨lk, cw⟩)
        (first | (go_at_call 127; refine (rd3_any _ _ I.drew hN).mono ?_; rintro r w2 ⟨rfl, I2⟩; replace lk := (run_read w2 M q1 q2 I2.map).2.2.2; replace cw := celln I2.bel c4))
      obtain ⟨r0, r1, r2, r3⟩ := I2.r.cells
      by_cases hV : eKi x4 = 0
      · have g1 := hV
        go_wp2_with (go_at_call 64; refine (wrong_one 3 _ _ (by simp) (by omega) (paN_U _) (paN_U _)).mono ?_; rintro r w3 ⟨rfl, k3⟩; rw [eKi_is x4 _ _ _]; have I3 := (I2.later ((Below.refl _ _).alloc (Nat.le_refl _) _)).later k3.2; obtain ⟨a0, a1, a2, a3⟩ := I3.z.cells; have y0 := I3.z.soft 0; have y1 := I3.z.soft 1; have y2 := I3.z.soft 2; have y3 := I3.z.soft 3)
        go_roundw
        case rel => exact Lib.hid (.inr (.inr (.inr (.inr (⟨rfl, I3, z0, z1, z2, hV⟩)))))
        case measure => simp [intOf]
      · have g1 : (eKi x4 == 0) = false := by simpa using hV
        have g2 : (eKi x4 != 0) = true := by simpa using hV
        go_wp2_with (go_at_call 64; refine (wrong_one 3 _ _ (by simp) (by omega) (paN_U _) (paN_U _)).mono ?_; rintro r w3 ⟨rfl, k3⟩; rw [eKi_is x4 _ _ _]; have I3 := (I2.later ((Below.refl _ _).alloc (Nat.le_refl _) _)).later k3.2; obtain ⟨a0, a1, a2, a3⟩ := I3.z.cells; have y0 := I3.z.soft 0; have y1 := I3.z.soft 1; have y2 := I3.z.soft 2; have y3 := I3.z.soft 3)
        obtain rfl : A = zeroA (eKi x4) 4 := by (rw [HA.out, if_neg (by simp [z0]), numA_3 _ _ _ _ _ z1 z2 hV] <;> rfl)
        obtain ⟨f0, f1, f2, f3⟩ := ((((I3.z.put0 ⟨#[]⟩).put1 0).put2 0).put3 0).cells
        exact bodyPost_ret (v := .tuple #[rul ⟨#[]⟩ 0 0 0, .int .u16 (eKi x4), .int .i64 4]) (by simp [results, Tryz.results102, go_sem, f0, f1, f2, f3]) rfl ⟨rfl, (((I3.bel.setCell (Nat.le_refl _) _).setCell (Nat.le_refl _) _).setCell (Nat.le_refl _) _).setCell (Nat.le_refl _) _⟩
    · obtain ⟨r0, r1, r2, r3⟩ := I.r.cells
      obtain ⟨a0, a1, a2, a3⟩ := I.z.cells
      have y0 := I.z.soft 0
      have y1 := I.z.soft 1
      have y2 := I.z.soft 2
      have y3 := I.z.soft 3
      clear hrel
      go_wp2
      obtain rfl : A = ⟨x1, (paN (lb x2)), (paN (lb x3)), (kinI x4), 0, 0⟩ := by rw [HA.out, if_neg (by simp [z0]), numA_4 _ _ _ _ _ z1 z2 z3]
      obtain ⟨f0, f1, f2, f3⟩ := ((((I.z.put0 x1).put1 (paN (lb x2))).put2 (paN (lb x3))).put3 (kinI x4)).cells
      exact bodyPost_ret (v := .tuple #[rul x1 (paN (lb x2)) (paN (lb x3)) (kinI x4), .int .u16 0, .int .i64 0]) (by simp [results, Tryz.results102, go_sem, f0, f1, f2, f3]) rfl ⟨rfl, (((I.bel.setCell (Nat.le_refl _) _).setCell (Nat.le_refl _) _).setCell (Nat.le_refl _) _).setCell (Nat.le_refl _) _⟩
end Go.Proofs.YtckaiejbgnhgcaaGreatDoor.Wd
namespace Go.Proofs.YtckaiejbgnhgcaaGreatDoor.Wd
open Go Go.RowKit
set_option linter.unusedVariables false

/-- A number's digits, as a text. -/
def dig (n : Nat) : ByteArray := str (Lib.decDigits n)
/-- The words that tell a rule. -/
def prW (p : ByteArray) (e b : Nat) (k : Int) : List ByteArray :=
  if ruE p e b k ≠ 0 then [] else if p.size = 0 then [defS, dig e, dig b, namS k] else [rulS, p, dig e, dig b, namS k]
theorem dig_size (n : Nat) (h : n < 18446744073709551616) : (dig n).size ≤ 20 := by
  unfold dig; rw [str_size]; exact dec_len20 n h
theorem nam_size (k : Int) : (namS k).size ≤ 6 := by unfold namS; (repeat' split) <;> decide
theorem UN (n : Nat) (h : n < 18446744073709551616) : U (n : Int) := ⟨by omega, by omega⟩
/-- Four cells of a rule that is boxed. -/
def Bo (w : World) (B : Nat) (p : ByteArray) (e b k : Int) : Prop :=
  w.cell? ⟨B, 0, none⟩ = some (.string p) ∧ w.cell? ⟨B, 1, none⟩ = some (.int .u64 e) ∧ w.cell? ⟨B, 2, none⟩ = some (.int .u64 b) ∧ w.cell? ⟨B, 3, none⟩ = some (.int .u8 k)
theorem Bo.below {w w' : World} {B : Nat} {p : ByteArray} {e b k : Int} (h : Bo w B p e b k) (g : Below w.heap.size w w') : Bo w' B p e b k := ⟨celln g h.1, celln g h.2.1, celln g h.2.2.1, celln g h.2.2.2⟩
theorem Bo.kept {w w' : World} {B : Nat} {p : ByteArray} {e b k : Int} (h : Bo w B p e b k) (g : Kept w w') : Bo w' B p e b k := h.below g.2

/-- A row of texts that has just been laid. -/
theorem sts_alloc (W : World) (xs : List ByteArray) (t : TypeId) (hx : ∀ x ∈ xs, x.size ≤ 9223372036854775807) :
    Sts (W.alloc (.cells (xs.map Value.string).toArray t)) (some ⟨W.heap.size, 0, none⟩) xs.length xs := by
  refine ⟨rfl, hx, fun _ => ⟨W.heap.size, 0, rfl, by simp, fun k hk => ?_⟩⟩
  unfold World.cell?
  rw [show (W.alloc (.cells (xs.map Value.string).toArray t)).heap[W.heap.size]? = some (.cells (xs.map Value.string).toArray t (0, 0)) from (MapKept.heap_alloc W _).1]
  simp [List.getD_eq_getElem?_getD, List.getElem?_eq_getElem hk]
theorem small_words {xs : List ByteArray} (h : ∀ x ∈ xs, x.size ≤ 281474976710656) : ∀ x ∈ xs, x.size ≤ 9223372036854775807 := fun x hx => Nat.le_trans (h x hx) (by omega)

set_option maxRecDepth 100000 in
set_option maxHeartbeats 1000000 in
theorem rprint_any (p : ByteArray) (e b : Nat) (k : Int) (w : World) (hN : Nam w) (hs : p.size ≤ 281474976710656) (he : e < 18446744073709551616) (hb : b < 18446744073709551616) (hk : 0 ≤ k ∧ k ≤ 255) :
    Calls Tryz.prog 30 #[rul p e b k] w fun r w' => (∃ (A : Option Addr) (n : Nat), r = .returned (.slice A n n) ∧ n ≤ 5 ∧ Sts w' A n (prW p e b k)) ∧ Below w.heap.size w w' := by
  have RA := fun W => right_any p e b k W (by omega) (UN e he) (UN b hb)
  by_cases h : ruE p e b k = 0
  · have e0 : prW p e b k = if p.size = 0 then [defS, dig e, dig b, namS k] else [rulS, p, dig e, dig b, namS k] := by unfold prW; rw [if_neg (by simp [h])]
    rw [e0]
    rw [h] at RA
    clear e0 h
    go_enter Tryz.func30, Tryz.ntmps30
    go_wp2_with (go_at_call 41; refine (RA _).mono ?_; rintro r w1 ⟨rfl, k1⟩)
    have kW : Kept w w1 := ((Kept.refl w).alloc _ _).trans k1
    have b0 : w1.cell? ⟨w.heap.size, 0, none⟩ = some (.string p) := k1.cell (by simp)
    have b1 : w1.cell? ⟨w.heap.size, 1, none⟩ = some (.int .u64 e) := k1.cell (by simp)
    have b2 : w1.cell? ⟨w.heap.size, 2, none⟩ = some (.int .u64 b) := k1.cell (by simp)
    have b3 : w1.cell? ⟨w.heap.size, 3, none⟩ = some (.int .u8 k) := k1.cell (by simp)
    clear k1
    go_region_held3 (fun w' => Kept w w' ∧ w'.cell? ⟨w.heap.size, 0, none⟩ = some (.string p) ∧ w'.cell? ⟨w.heap.size, 1, none⟩ = some (.int .u64 e) ∧ w'.cell? ⟨w.heap.size, 2, none⟩ = some (.int .u64 b) ∧ w'.cell? ⟨w.heap.size, 3, none⟩ = some (.int .u8 k))
      (first | with_reducible exact ⟨kW, b0, b1, b2, b3⟩ | with_reducible exact ⟨kW.drew, dcell b0, dcell b1, dcell b2, dcell b3⟩)
      (first
      | (go_at_call 29; ((with_reducible refine (print_any _ _ (by first | exact he | exact hb)).mono ?_); rintro r w2 ⟨rfl, g⟩; (first | with_reducible (replace kW := kW.trans g; replace b0 := g.cell b0; replace b1 := g.cell b1; replace b2 := g.cell b2; replace b3 := g.cell b3) | with_reducible (replace kW := kW.drew.trans g; replace b0 := g.cell (dcell b0); replace b1 := g.cell (dcell b1); replace b2 := g.cell (dcell b2); replace b3 := g.cell (dcell b3))); clear g))
      | (go_at_call 51; ((with_reducible refine (name_any _ _ (hN.kept (by first | exact kW | exact kW.drew)) hk).mono ?_); rintro r w2 ⟨rfl, rfl⟩)))
    all_goals
      rename_i hH
      obtain ⟨kF, f0, f1, f2, f3⟩ := hH
      have dz1 := dig_size e he
      have dz2 := dig_size b hb
      have dz3 := nam_size k
      by_cases hp : p.size = 0
      · have hz := toList_none p hp
        have HP := Lib.hid hp
        clear hp
        go_wp2
        go_ret
        refine ⟨⟨_, 4, rfl, by omega, ?_⟩, (kF.alloc _ _).2⟩
        try rw [if_pos HP.out]
        refine sts_alloc _ [defS, dig e, dig b, namS k] 9 ?_
        intro x hx
        simp only [List.mem_cons, List.not_mem_nil, or_false] at hx
        rcases hx with rfl | rfl | rfl | rfl
        · decide
        · omega
        · omega
        · omega
      · have hz := toList_ne p (by omega)
        have HP := Lib.hid hp
        clear hp
        go_wp2_with (go_at_call 34; refine (clone_any _ _ hs).mono ?_; rintro r w3 ⟨rfl, g3⟩)
        go_ret
        refine ⟨⟨_, 5, rfl, by omega, ?_⟩, (kbq kF.2 g3).alloc (kbq kF.2 g3).size _⟩
        try rw [if_neg HP.out]
        refine sts_alloc _ [rulS, p, dig e, dig b, namS k] 9 ?_
        intro x hx
        simp only [List.mem_cons, List.not_mem_nil, or_false] at hx
        rcases hx with rfl | rfl | rfl | rfl | rfl
        · decide
        · omega
        · omega
        · omega
        · omega
  · have e0 : prW p e b k = [] := by unfold prW; rw [if_pos (by simpa using h)]
    rw [e0]
    have c1 : (ruE p e b k != 0) = true := by simpa using h
    have c2 : (ruE p e b k == 0) = false := by simpa using h
    generalize ruE p e b k = E at *
    clear e0 h
    go_enter Tryz.func30, Tryz.ntmps30
    go_wp2_with (go_at_call 41; refine (RA _).mono ?_; rintro r w1 ⟨rfl, k1⟩)
    go_ret
    exact ⟨⟨none, 0, rfl, by omega, Sts.nil _ _⟩, (((Kept.refl w).alloc _ _).trans k1).2⟩
end Go.Proofs.YtckaiejbgnhgcaaGreatDoor.Wd
namespace Go.Proofs.YtckaiejbgnhgcaaGreatDoor.Wd
open Go Go.RowKit
set_option linter.unusedVariables false

/-- Texts of 2^48 bytes at most. -/
def Lim (xs : List ByteArray) : Prop := ∀ x ∈ xs, x.size ≤ 281474976710656
theorem Lim.at {xs : List ByteArray} (h : Lim xs) (k : Nat) : (xs.getD k nob).size ≤ 281474976710656 := by
  by_cases hk : k < xs.length
  · rw [List.getD_eq_getElem?_getD, List.getElem?_eq_getElem hk]; exact h _ (List.getElem_mem hk)
  · rw [List.getD_eq_getElem?_getD, List.getElem?_eq_none (by omega)]; decide

theorem rparse_any (A : Option Addr) (n cap : Nat) (xs : List ByteArray) (w : World) (h : Sts w A n xs) (hf : Lim xs) (hN : Nam w) :
    Calls Tryz.prog 102 #[.slice A n cap] w fun r w' => r = .returned (.tuple #[(ansA xs).rule, .int .u16 (ansA xs).err, .int .i64 (ansA xs).at_]) ∧ Below w.heap.size w w' := by
  have hl := h.1
  by_cases h4 : n = 4 ∧ (xs.getD 0 nob).toList = defL
  · obtain ⟨rfl, hx⟩ := h4
    obtain ⟨b, off, rfl, hb, hc⟩ := h.2.2 (by omega)
    exact parse_def b off cap _ _ _ _ (ansA xs) w (by unfold ansA; rw [if_pos ⟨hl, hx⟩]) hN (hc 0 (by omega)) (hc 1 (by omega)) (hc 2 (by omega)) (hc 3 (by omega)) hx (hf.at 1) (hf.at 2) (hf.at 3)
  · by_cases h5 : n = 5 ∧ (xs.getD 0 nob).toList = rulL
    · obtain ⟨rfl, hx⟩ := h5
      obtain ⟨b, off, rfl, hb, hc⟩ := h.2.2 (by omega)
      exact parse_rule b off cap _ _ _ _ _ (ansA xs) w (by unfold ansA; rw [if_neg (by omega), if_pos ⟨hl, hx⟩]) hN (hc 0 (by omega)) (hc 1 (by omega)) (hc 2 (by omega)) (hc 3 (by omega)) (hc 4 (by omega)) hx (hf.at 1) (hf.at 2) (hf.at 3) (hf.at 4)
    · have e : ansA xs = zeroA 22 0 := by unfold ansA; rw [hl, if_neg h4, if_neg h5]
      rw [e]
      exact parse_none A n cap xs w h h4 h5

/-! ### The document -/
theorem refName_any (k : Int) (w : World) :
    Calls Tryz.prog 39 #[.int .u8 k] w fun r w' => r = .returned (.string (namS k)) ∧ w = w' := by
  by_cases h1 : k = 1
  · subst h1
    go_enter Tryz.func39, Tryz.ntmps39
    go_wp2
    go_ret
    exact ⟨rfl, rfl⟩
  by_cases h2 : k = 2
  · subst h2
    go_enter Tryz.func39, Tryz.ntmps39
    go_wp2
    go_ret
    exact ⟨rfl, rfl⟩
  by_cases h3 : k = 3
  · subst h3
    go_enter Tryz.func39, Tryz.ntmps39
    go_wp2
    go_ret
    exact ⟨rfl, rfl⟩
  have e : namS k = ⟨#[]⟩ := by unfold namS; rw [if_neg h1, if_neg h2, if_neg h3]
  rw [e]
  have e1 : (k == 1) = false := by simpa using h1
  have e2 : (k == 2) = false := by simpa using h2
  have e3 : (k == 3) = false := by simpa using h3
  clear e h1 h2 h3
  go_enter Tryz.func39, Tryz.ntmps39
  go_wp2
  go_ret
  exact ⟨rfl, rfl⟩

theorem refKright_any (k : Int) (w : World) (hk : 0 ≤ k ∧ k ≤ 255) :
    Calls Tryz.prog 63 #[.int .u8 k] w fun r w' => r = .returned (.bool (isK k)) ∧ w = w' := by
  unfold isK
  by_cases h1 : 1 ≤ k
  · by_cases h2 : k ≤ 3
    · rw [decide_eq_true ⟨h1, h2⟩]
      go_enter Tryz.func63, Tryz.ntmps63
      go_wp2
      go_ret
      exact ⟨rfl, rfl⟩
    · rw [decide_eq_false (fun g => h2 g.2)]
      go_enter Tryz.func63, Tryz.ntmps63
      go_wp2
      go_ret
      exact ⟨rfl, rfl⟩
  · rw [decide_eq_false (fun g => h1 g.1)]
    go_enter Tryz.func63, Tryz.ntmps63
    go_wp2
    go_ret
    exact ⟨rfl, rfl⟩

set_option maxRecDepth 100000 in
theorem refKind_any (s : ByteArray) (w : World) :
    Calls Tryz.prog 98 #[.string s] w fun r w' => r = .returned (.tuple #[.int .u8 (kinI s), .bool (kinB s)]) ∧ w = w' := by
  have KA := Lib.hid (fun (m : Nat) (hm : m < 4) => kin_at (s := s) m hm)
  have KE := Lib.hid (kin_end (s := s))
  generalize kinI s = R at *
  generalize kinB s = Q at *
  go_enter Tryz.func98, Tryz.ntmps98
  go_wp2
  go_loop [4] (fun i => ∃ m : Nat, i = .int .u8 m ∧ 1 ≤ m ∧ m ≤ 4 ∧ Hid (∀ j : Nat, j < m → j ≠ 0 → namS j ≠ s)) (fun i => 4 - (intOf i).toNat)
  case atStart => exact ⟨1, rfl, by omega, by omega, Lib.hid (fun j hj g => absurd hj (by omega))⟩
  case round =>
    obtain ⟨m, rfl, h1, hm, D⟩ := hrel
    rcases (by omega : m = 1 ∨ m = 2 ∨ m = 3 ∨ m = 4) with rfl | rfl | rfl | rfl
    · have C : ∀ W, Calls Tryz.prog 39 #[.int .u8 1] W fun r w' => r = .returned (.string gcraS) ∧ W = w' := fun W => refName_any 1 W
      by_cases ht : ([103, 99, 114, 97] : List UInt8) = s.toList
      · obtain ⟨e1, e2⟩ := KA.out 1 (by omega) (text_is ht) (by omega)
        subst e1 e2
        clear KA KE
        go_wp2_with (go_at_call 39; refine (C _).mono ?_; rintro r w1 ⟨rfl, rfl⟩)
        go_ret2
        exact ⟨rfl, rfl⟩
      · have T := Lib.hid ht
        have hb : (([103, 99, 114, 97] : List UInt8) == s.toList) = false := by rw [← Bool.not_eq_true, beq_iff_eq]; exact ht
        clear KA KE ht
        go_wp2_with (go_at_call 39; refine (C _).mono ?_; rintro r w1 ⟨rfl, rfl⟩)
        go_round
        case rel => exact ⟨2, by go_num, by omega, by omega, Lib.hid (fun j hj g => by
          by_cases e : j = 1
          · subst e; exact fun g => T.out (by rw [← g, ByteArray.toList_eq]; rfl)
          · exact D.out j (by omega) g)⟩
        case measure => simp [intOf]
    · have C : ∀ W, Calls Tryz.prog 39 #[.int .u8 2] W fun r w' => r = .returned (.string bucketS) ∧ W = w' := fun W => refName_any 2 W
      by_cases ht : ([98, 117, 99, 107, 101, 116] : List UInt8) = s.toList
      · obtain ⟨e1, e2⟩ := KA.out 2 (by omega) (text_is ht) (by omega)
        subst e1 e2
        clear KA KE
        go_wp2_with (go_at_call 39; refine (C _).mono ?_; rintro r w1 ⟨rfl, rfl⟩)
        go_ret2
        exact ⟨rfl, rfl⟩
      · have T := Lib.hid ht
        have hb : (([98, 117, 99, 107, 101, 116] : List UInt8) == s.toList) = false := by rw [← Bool.not_eq_true, beq_iff_eq]; exact ht
        clear KA KE ht
        go_wp2_with (go_at_call 39; refine (C _).mono ?_; rintro r w1 ⟨rfl, rfl⟩)
        go_round
        case rel => exact ⟨3, by go_num, by omega, by omega, Lib.hid (fun j hj g => by
          by_cases e : j = 2
          · subst e; exact fun g => T.out (by rw [← g, ByteArray.toList_eq]; rfl)
          · exact D.out j (by omega) g)⟩
        case measure => simp [intOf]
    · have C : ∀ W, Calls Tryz.prog 39 #[.int .u8 3] W fun r w' => r = .returned (.string leakyS) ∧ W = w' := fun W => refName_any 3 W
      by_cases ht : ([108, 101, 97, 107, 121] : List UInt8) = s.toList
      · obtain ⟨e1, e2⟩ := KA.out 3 (by omega) (text_is ht) (by omega)
        subst e1 e2
        clear KA KE
        go_wp2_with (go_at_call 39; refine (C _).mono ?_; rintro r w1 ⟨rfl, rfl⟩)
        go_ret2
        exact ⟨rfl, rfl⟩
      · have T := Lib.hid ht
        have hb : (([108, 101, 97, 107, 121] : List UInt8) == s.toList) = false := by rw [← Bool.not_eq_true, beq_iff_eq]; exact ht
        clear KA KE ht
        go_wp2_with (go_at_call 39; refine (C _).mono ?_; rintro r w1 ⟨rfl, rfl⟩)
        go_round
        case rel => exact ⟨4, by go_num, by omega, by omega, Lib.hid (fun j hj g => by
          by_cases e : j = 3
          · subst e; exact fun g => T.out (by rw [← g, ByteArray.toList_eq]; rfl)
          · exact D.out j (by omega) g)⟩
        case measure => simp [intOf]
    · obtain ⟨e1, e2⟩ := KE.out (fun j hj g => D.out j hj g)
      subst e1 e2
      clear KA KE
      go_wp2
      go_ret2
      exact ⟨rfl, rfl⟩
end Go.Proofs.YtckaiejbgnhgcaaGreatDoor.Wd
namespace Go.Proofs.YtckaiejbgnhgcaaGreatDoor.Wd
open Go Go.RowKit
set_option linter.unusedVariables false

theorem refRight_any (p : ByteArray) (e b k : Int) (w : World) (hs : p.size ≤ 9223372036854775807) (he : U e) (hb : U b) (hk : 0 ≤ k ∧ k ≤ 255) :
    Calls Tryz.prog 38 #[rul p e b k] w fun r w' => r = .returned (.int .i64 (ruE p e b k)) ∧ Kept w w' := by
  have RR := fun W => rright_any p W hs
  have MM := fun W => ref_mul e b W he hb
  have KK := fun W => refKright_any k W hk
  have P : (p.toList.isEmpty = true ∧ pfB p = true) ∨ (p.toList.isEmpty = false ∧ pfB p = rtB (lb p)) := by
    by_cases h : p.size = 0
    · exact .inl ⟨toList_none p h, by unfold pfB; rw [decide_eq_true h]; rfl⟩
    · exact .inr ⟨toList_ne p (by omega), by unfold pfB; rw [decide_eq_false h]; rfl⟩
  rw [ru_is]
  have he0 := he.1
  have hb0 := hb.1
  clear he hb hs
  generalize rtB (lb p) = t at *
  generalize sat (e * b) = s at *
  generalize isK k = q at *
  rcases P with ⟨hz, hp⟩ | ⟨hz, hp⟩
  all_goals
    rw [hp]
    clear hp
  · rw [if_neg (by decide)]
    by_cases h1 : e = 0
    · rw [if_pos (by omega)]
      subst h1
      go_enter Tryz.func38, Tryz.ntmps38
      go_wp2
      go_ret
      exact ⟨rfl, (Kept.refl w).alloc _ _⟩
    have e1 : (e == 0) = false := by simpa using h1
    rw [if_neg (by omega)]
    by_cases h2 : b = 0
    · rw [if_pos (by omega)]
      subst h2
      clear h1
      go_enter Tryz.func38, Tryz.ntmps38
      go_wp2
      go_ret
      exact ⟨rfl, (Kept.refl w).alloc _ _⟩
    have e2 : (b == 0) = false := by simpa using h2
    rw [if_neg (by omega)]
    clear h1 h2
    by_cases h3 : s ≤ 4611686018427387904
    · rw [if_neg (by omega)]
      cases q
      all_goals
        go_enter Tryz.func38, Tryz.ntmps38
        go_wp2_with (first
          | (go_at_call 62; refine (MM _).mono ?_; rintro r w1 ⟨rfl, rfl⟩)
          | (go_at_call 63; refine (KK _).mono ?_; rintro r w1 ⟨rfl, rfl⟩))
        go_ret
        exact ⟨rfl, (Kept.refl w).alloc _ _⟩
    · rw [if_pos h3]
      go_enter Tryz.func38, Tryz.ntmps38
      go_wp2_with (go_at_call 62; refine (MM _).mono ?_; rintro r w1 ⟨rfl, rfl⟩)
      go_ret
      exact ⟨rfl, (Kept.refl w).alloc _ _⟩
  · cases t
    · rw [if_pos rfl]
      go_enter Tryz.func38, Tryz.ntmps38
      go_wp2_with (go_at_call 61; refine (RR _).mono ?_; rintro r w1 ⟨rfl, rfl⟩)
      go_ret
      exact ⟨rfl, (Kept.refl w).alloc _ _⟩
    rw [if_neg (by decide)]
    by_cases h1 : e = 0
    · rw [if_pos (by omega)]
      subst h1
      go_enter Tryz.func38, Tryz.ntmps38
      go_wp2_with (go_at_call 61; refine (RR _).mono ?_; rintro r w1 ⟨rfl, rfl⟩)
      go_ret
      exact ⟨rfl, (Kept.refl w).alloc _ _⟩
    have e1 : (e == 0) = false := by simpa using h1
    rw [if_neg (by omega)]
    by_cases h2 : b = 0
    · rw [if_pos (by omega)]
      subst h2
      clear h1
      go_enter Tryz.func38, Tryz.ntmps38
      go_wp2_with (go_at_call 61; refine (RR _).mono ?_; rintro r w1 ⟨rfl, rfl⟩)
      go_ret
      exact ⟨rfl, (Kept.refl w).alloc _ _⟩
    have e2 : (b == 0) = false := by simpa using h2
    rw [if_neg (by omega)]
    clear h1 h2
    by_cases h3 : s ≤ 4611686018427387904
    · rw [if_neg (by omega)]
      cases q
      all_goals
        go_enter Tryz.func38, Tryz.ntmps38
        go_wp2_with (first
          | (go_at_call 61; refine (RR _).mono ?_; rintro r w1 ⟨rfl, rfl⟩)
          | (go_at_call 62; refine (MM _).mono ?_; rintro r w1 ⟨rfl, rfl⟩)
          | (go_at_call 63; refine (KK _).mono ?_; rintro r w1 ⟨rfl, rfl⟩))
        go_ret
        exact ⟨rfl, (Kept.refl w).alloc _ _⟩
    · rw [if_pos h3]
      go_enter Tryz.func38, Tryz.ntmps38
      go_wp2_with (first
        | (go_at_call 61; refine (RR _).mono ?_; rintro r w1 ⟨rfl, rfl⟩)
        | (go_at_call 62; refine (MM _).mono ?_; rintro r w1 ⟨rfl, rfl⟩))
      go_ret
      exact ⟨rfl, (Kept.refl w).alloc _ _⟩

theorem ru_fit (p : ByteArray) (e b k : Int) (he : U e) (hb : U b) (h : ruE p e b k = 0) : sat (e * b) = e * b ∧ 0 < e * b ∧ e * b ≤ 4611686018427387904 := by
  rw [ru_is] at h
  by_cases c0 : pfB p = false
  · rw [if_pos c0] at h; cases h
  rw [if_neg c0] at h
  by_cases c1 : 0 < e
  · rw [if_neg (by omega)] at h
    by_cases c2 : 0 < b
    · rw [if_neg (by omega)] at h
      by_cases c3 : sat (e * b) ≤ 4611686018427387904
      · have hm : 0 < e * b := Int.mul_pos c1 c2
        unfold sat at c3 ⊢
        split at c3
        · rename_i g; rw [if_pos g]; exact ⟨rfl, hm, c3⟩
        · omega
      · rw [if_pos c3] at h; cases h
    · rw [if_pos c2] at h; cases h
  · rw [if_pos c1] at h; cases h

end Go.Proofs.YtckaiejbgnhgcaaGreatDoor.Wd
namespace Go.Proofs.YtckaiejbgnhgcaaGreatDoor.Wd
open Go Go.RowKit
set_option linter.unusedVariables false

theorem text_same {a b : ByteArray} : (a.toList == b.toList) = decide (a = b) := by
  by_cases h : a = b
  · subst h; simp
  · rw [decide_eq_false h, ← Bool.not_eq_true, beq_iff_eq]
    intro g
    rw [ByteArray.toList_eq, ByteArray.toList_eq] at g
    exact h (by cases a; cases b; simpa using g)
theorem getD_same {xs ys : List ByteArray} (hl : xs.length = ys.length) (h : ∀ j, j < xs.length → xs.getD j nob = ys.getD j nob) : xs = ys := by
  refine List.ext_getElem hl fun i h1 h2 => ?_
  have := h i h1
  simpa [List.getD_eq_getElem?_getD, List.getElem?_eq_getElem h1, List.getElem?_eq_getElem h2] using this

/-- A number that is not 0, or what is told of none. -/
def nuE (l : List UInt8) (none_ : Int) : Int := if paE l ≠ 0 then paE l else if paN l = 0 then none_ else 0
theorem number_is (s : ByteArray) (c : Int) (w : World) (hs : s.size ≤ 9223372036854775807) :
    Calls Tryz.prog 97 #[.string s, .int .i64 c] w fun r w' => r = .returned (.tuple #[.int .u64 (paN (lb s)), .int .i64 (nuE (lb s) c)]) ∧ w = w' := by
  have P := fun W => refParse_any s W hs
  by_cases h1 : paE (lb s) = 0
  · by_cases h2 : paN (lb s) = 0
    · have e : nuE (lb s) c = c := by unfold nuE; rw [if_neg (by simp [h1]), if_pos h2]
      rw [e, h2]
      rw [h1, h2] at P
      clear e h1 h2
      go_enter Tryz.func97, Tryz.ntmps97
      go_wp2_with (go_at_call 96; refine (P _).mono ?_; rintro r w1 ⟨rfl, rfl⟩)
      go_ret2
      exact ⟨rfl, rfl⟩
    · have e : nuE (lb s) c = 0 := by unfold nuE; rw [if_neg (by simp [h1]), if_neg h2]
      rw [e]
      rw [h1] at P
      have e1 : (paN (lb s) == 0) = false := by simpa using h2
      generalize paN (lb s) = v at *
      clear e h1 h2
      go_enter Tryz.func97, Tryz.ntmps97
      go_wp2_with (go_at_call 96; refine (P _).mono ?_; rintro r w1 ⟨rfl, rfl⟩)
      go_ret2
      exact ⟨rfl, rfl⟩
  · have e : nuE (lb s) c = paE (lb s) := by unfold nuE; rw [if_pos h1]
    rw [e]
    have e1 : (paE (lb s) == 0) = false := by simpa using h1
    generalize paN (lb s) = v at *
    generalize paE (lb s) = u at *
    clear e h1
    go_enter Tryz.func97, Tryz.ntmps97
    go_wp2_with (go_at_call 96; refine (P _).mono ?_; rintro r w1 ⟨rfl, rfl⟩)
    go_ret2
    exact ⟨rfl, rfl⟩
end Go.Proofs.YtckaiejbgnhgcaaGreatDoor.Wd
