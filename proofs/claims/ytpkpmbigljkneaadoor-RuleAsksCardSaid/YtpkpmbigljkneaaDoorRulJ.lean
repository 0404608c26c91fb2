/- The document's answers of chapter 11: Strings, number and Parse; no conditions but those that each names. -/
import Derived.Test.YtpkpmbigljkneaaDoorRulI
namespace Go.Proofs.YtpkpmbigljkneaaDoor.Wd
open Go Go.RowKit
set_option linter.unusedVariables false

theorem text_same {a b : ByteArray} : (a.toList == b.toList) = decide (a = b) := by
  by_cases h : a = b
  · subst h; simp
  · rw [decide_eq_false h, ← Bool.not_eq_true, beq_iff_eq]
    intro g
    rw [ByteArray.toList_eq, ByteArray.toList_eq] at g
    exact h (by cases a; cases b; simpa using g)
theorem getD_same {xs ys : List ByteArray} (hl : xs.length = ys.length) (h : ∀ j, j < xs.length → xs.getD j nob = ys.getD j nob) : xs = ys := by
  refine List.ext_getElem hl fun i h1 h2 => ?_
  have := h i h1
  simpa [List.getD_eq_getElem?_getD, List.getElem?_eq_getElem h1, List.getElem?_eq_getElem h2] using this

set_option maxHeartbeats 1000000 in
theorem strings_any (A B : Option Addr) (n m c d : Nat) (xs ys : List ByteArray) (w : World) (hx : Sts w A n xs) (hy : Sts w B m ys) (hn : n ≤ 9223372036854775807) (hm : m ≤ 9223372036854775807) :
    Calls Tryd.prog 22 #[.slice A n c, .slice B m d] w fun r w' => r = .returned (.bool (decide (xs = ys))) ∧ Drew w w' := by
  have l1 := hx.1
  have l2 := hy.1
  by_cases hl : n = m
  · have Y : Hid ((∀ j, j < n → xs.getD j nob = ys.getD j nob) → decide (xs = ys) = true) := Lib.hid (fun g => decide_eq_true (getD_same (by omega) (fun j hj => g j (by omega))))
    have N : Hid (∀ j, j < n → xs.getD j nob ≠ ys.getD j nob → decide (xs = ys) = false) := Lib.hid (fun j hj g => decide_eq_false (fun e => g (by rw [e])))
    generalize decide (xs = ys) = R at *
    subst hl
    have HX := Lib.hid hx
    have HY := Lib.hid hy
    clear hx hy l1 l2
    go_enter Tryd.func22, Tryd.ntmps22
    go_wp2
    go_loopw [5] (fun i wr => ∃ k : Nat, i = .int .i64 k ∧ k ≤ n ∧ Hid (∀ j, j < k → xs.getD j nob = ys.getD j nob) ∧ Drew w wr) (fun i _ => n - (intOf i).toNat)
    case atStart => exact ⟨0, rfl, by omega, Lib.hid (fun j hj => absurd hj (by omega)), Drew.refl _⟩
    case round =>
      obtain ⟨k, rfl, hk, D, hB⟩ := hrel
      by_cases hlt : k < n
      · obtain ⟨b1, o1, rfl, hb1, hc1⟩ := (HX.out.drew hB).2.2 (by omega)
        obtain ⟨b2, o2, rfl, hb2, hc2⟩ := (HY.out.drew hB).2.2 (by omega)
        have c1 := hc1 k hlt
        have c2 := hc2 k hlt
        have k0 : (0 : Int) ≤ (k : Int) := by omega
        have kn : (k : Int) < (n : Int) := by omega
        have Nk := N.out k hlt
        clear hc1 hc2
        by_cases e : xs.getD k nob = ys.getD k nob
        · have E := Lib.hid e
          have t1 : ((xs.getD k nob).toList == (ys.getD k nob).toList) = true := by rw [text_same, decide_eq_true e]
          have t2 : ((xs.getD k nob).toList != (ys.getD k nob).toList) = false := by rw [bne, t1]; rfl
          clear e Nk
          generalize hxa : xs.getD k nob = xa at *
          generalize hxb : ys.getD k nob = xb at *
          go_wp2_with fail
          go_quiet (fail)
          subst hxa hxb
          go_wp2
          go_roundw
          case rel =>
            refine ⟨k + 1, by go_num, by omega, Lib.hid (fun j hj => ?_), hB.trans ⟨_, rfl⟩⟩
            by_cases g : j = k
            · subst g; exact E.out
            · exact D.out j (by omega)
          case measure => simp [intOf]; omega
        · have e1 := Nk e
          subst e1
          have t1 : ((xs.getD k nob).toList == (ys.getD k nob).toList) = false := by rw [text_same, decide_eq_false e]
          have t2 : ((xs.getD k nob).toList != (ys.getD k nob).toList) = true := by rw [bne, t1]; rfl
          clear e Nk
          generalize hxa : xs.getD k nob = xa at *
          generalize hxb : ys.getD k nob = xb at *
          go_wp2_with fail
          go_quiet (fail)
          subst hxa hxb
          go_wp2
          go_ret
          exact ⟨rfl, hB.trans ⟨_, rfl⟩⟩
      · obtain rfl : k = n := by omega
        have e := Y.out (fun j hj => D.out j hj)
        subst e
        go_wp2
        go_ret
        exact ⟨rfl, hB⟩
  · have e : decide (xs = ys) = false := decide_eq_false (fun g => hl (by rw [← l1, ← l2, g]))
    rw [e]
    have c1 : ((n : Int) == (m : Int)) = false := by simp; omega
    have c2 : ((n : Int) != (m : Int)) = true := by simp; omega
    clear e hx hy l1 l2 hl
    go_enter Tryd.func22, Tryd.ntmps22
    go_wp2
    go_ret
    exact ⟨rfl, Drew.refl _⟩

/-- A number that is not 0, or what is told of none. -/
def nuE (l : List UInt8) (none_ : Int) : Int := if paE l ≠ 0 then paE l else if paN l = 0 then none_ else 0
theorem number_is (s : ByteArray) (c : Int) (w : World) (hs : s.size ≤ 9223372036854775807) :
    Calls Tryd.prog 38 #[.string s, .int .i64 c] w fun r w' => r = .returned (.tuple #[.int .u64 (paN (lb s)), .int .i64 (nuE (lb s) c)]) ∧ w = w' := by
  have P := fun W => refParse_any s W hs
  by_cases h1 : paE (lb s) = 0
  · by_cases h2 : paN (lb s) = 0
    · have e : nuE (lb s) c = c := by unfold nuE; rw [if_neg (by simp [h1]), if_pos h2]
      rw [e, h2]
      rw [h1, h2] at P
      clear e h1 h2
      go_enter Tryd.func38, Tryd.ntmps38
      go_wp2_with (go_at_call 49; refine (P _).mono ?_; rintro r w1 ⟨rfl, rfl⟩)
      go_ret2
      exact ⟨rfl, rfl⟩
    · have e : nuE (lb s) c = 0 := by unfold nuE; rw [if_neg (by simp [h1]), if_neg h2]
      rw [e]
      rw [h1] at P
      have e1 : (paN (lb s) == 0) = false := by simpa using h2
      generalize paN (lb s) = v at *
      clear e h1 h2
      go_enter Tryd.func38, Tryd.ntmps38
      go_wp2_with (go_at_call 49; refine (P _).mono ?_; rintro r w1 ⟨rfl, rfl⟩)
      go_ret2
      exact ⟨rfl, rfl⟩
  · have e : nuE (lb s) c = paE (lb s) := by unfold nuE; rw [if_pos h1]
    rw [e]
    have e1 : (paE (lb s) == 0) = false := by simpa using h1
    generalize paN (lb s) = v at *
    generalize paE (lb s) = u at *
    clear e h1
    go_enter Tryd.func38, Tryd.ntmps38
    go_wp2_with (go_at_call 49; refine (P _).mono ?_; rintro r w1 ⟨rfl, rfl⟩)
    go_ret2
    exact ⟨rfl, rfl⟩
end Go.Proofs.YtpkpmbigljkneaaDoor.Wd
