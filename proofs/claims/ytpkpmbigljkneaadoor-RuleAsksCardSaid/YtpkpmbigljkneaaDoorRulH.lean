/- What rule.Parse answers, for any words; and the document's answers of chapter 11 but Parse (tollerref11.Name, Kind, Right, Cap, Print, Strings); no conditions but those that each names. -/
import Derived.Test.YtpkpmbigljkneaaDoorRulD
import Derived.Test.YtpkpmbigljkneaaDoorRulE
namespace Go.Proofs.YtpkpmbigljkneaaDoor.Wd
open Go Go.RowKit
set_option linter.unusedVariables false

/-- Texts of 2^48 bytes at most. -/
def Lim (xs : List ByteArray) : Prop := ∀ x ∈ xs, x.size ≤ 281474976710656
theorem Lim.at {xs : List ByteArray} (h : Lim xs) (k : Nat) : (xs.getD k nob).size ≤ 281474976710656 := by
  by_cases hk : k < xs.length
  · rw [List.getD_eq_getElem?_getD, List.getElem?_eq_getElem hk]; exact h _ (List.getElem_mem hk)
  · rw [List.getD_eq_getElem?_getD, List.getElem?_eq_none (by omega)]; decide

theorem rparse_any (A : Option Addr) (n cap : Nat) (xs : List ByteArray) (w : World) (h : Sts w A n xs) (hf : Lim xs) (hN : Nam w) :
    Calls Tryd.prog 19 #[.slice A n cap] w fun r w' => r = .returned (.tuple #[(ansA xs).rule, .int .u16 (ansA xs).err, .int .i64 (ansA xs).at_]) ∧ Below w.heap.size w w' := by
  have hl := h.1
  by_cases h4 : n = 4 ∧ (xs.getD 0 nob).toList = defL
  · obtain ⟨rfl, hx⟩ := h4
    obtain ⟨b, off, rfl, hb, hc⟩ := h.2.2 (by omega)
    exact parse_def b off cap _ _ _ _ (ansA xs) w (by unfold ansA; rw [if_pos ⟨hl, hx⟩]) hN (hc 0 (by omega)) (hc 1 (by omega)) (hc 2 (by omega)) (hc 3 (by omega)) hx (hf.at 1) (hf.at 2) (hf.at 3)
  · by_cases h5 : n = 5 ∧ (xs.getD 0 nob).toList = rulL
    · obtain ⟨rfl, hx⟩ := h5
      obtain ⟨b, off, rfl, hb, hc⟩ := h.2.2 (by omega)
      exact parse_rule b off cap _ _ _ _ _ (ansA xs) w (by unfold ansA; rw [if_neg (by omega), if_pos ⟨hl, hx⟩]) hN (hc 0 (by omega)) (hc 1 (by omega)) (hc 2 (by omega)) (hc 3 (by omega)) (hc 4 (by omega)) hx (hf.at 1) (hf.at 2) (hf.at 3) (hf.at 4)
    · have e : ansA xs = zeroA 22 0 := by unfold ansA; rw [hl, if_neg h4, if_neg h5]
      rw [e]
      exact parse_none A n cap xs w h h4 h5

/-! ### The document -/
theorem refName_any (k : Int) (w : World) :
    Calls Tryd.prog 18 #[.int .u8 k] w fun r w' => r = .returned (.string (namS k)) ∧ w = w' := by
  by_cases h1 : k = 1
  · subst h1
    go_enter Tryd.func18, Tryd.ntmps18
    go_wp2
    go_ret
    exact ⟨rfl, rfl⟩
  by_cases h2 : k = 2
  · subst h2
    go_enter Tryd.func18, Tryd.ntmps18
    go_wp2
    go_ret
    exact ⟨rfl, rfl⟩
  by_cases h3 : k = 3
  · subst h3
    go_enter Tryd.func18, Tryd.ntmps18
    go_wp2
    go_ret
    exact ⟨rfl, rfl⟩
  have e : namS k = ⟨#[]⟩ := by unfold namS; rw [if_neg h1, if_neg h2, if_neg h3]
  rw [e]
  have e1 : (k == 1) = false := by simpa using h1
  have e2 : (k == 2) = false := by simpa using h2
  have e3 : (k == 3) = false := by simpa using h3
  clear e h1 h2 h3
  go_enter Tryd.func18, Tryd.ntmps18
  go_wp2
  go_ret
  exact ⟨rfl, rfl⟩

theorem refKright_any (k : Int) (w : World) (hk : 0 ≤ k ∧ k ≤ 255) :
    Calls Tryd.prog 37 #[.int .u8 k] w fun r w' => r = .returned (.bool (isK k)) ∧ w = w' := by
  unfold isK
  by_cases h1 : 1 ≤ k
  · by_cases h2 : k ≤ 3
    · rw [decide_eq_true ⟨h1, h2⟩]
      go_enter Tryd.func37, Tryd.ntmps37
      go_wp2
      go_ret
      exact ⟨rfl, rfl⟩
    · rw [decide_eq_false (fun g => h2 g.2)]
      go_enter Tryd.func37, Tryd.ntmps37
      go_wp2
      go_ret
      exact ⟨rfl, rfl⟩
  · rw [decide_eq_false (fun g => h1 g.1)]
    go_enter Tryd.func37, Tryd.ntmps37
    go_wp2
    go_ret
    exact ⟨rfl, rfl⟩

set_option maxRecDepth 100000 in
theorem refKind_any (s : ByteArray) (w : World) :
    Calls Tryd.prog 14 #[.string s] w fun r w' => r = .returned (.tuple #[.int .u8 (kinI s), .bool (kinB s)]) ∧ w = w' := by
  have KA := Lib.hid (fun (m : Nat) (hm : m < 4) => kin_at (s := s) m hm)
  have KE := Lib.hid (kin_end (s := s))
  generalize kinI s = R at *
  generalize kinB s = Q at *
  go_enter Tryd.func14, Tryd.ntmps14
  go_wp2
  go_loop [4] (fun i => ∃ m : Nat, i = .int .u8 m ∧ 1 ≤ m ∧ m ≤ 4 ∧ Hid (∀ j : Nat, j < m → j ≠ 0 → namS j ≠ s)) (fun i => 4 - (intOf i).toNat)
  case atStart => exact ⟨1, rfl, by omega, by omega, Lib.hid (fun j hj g => absurd hj (by omega))⟩
  case round =>
    obtain ⟨m, rfl, h1, hm, D⟩ := hrel
    rcases (by omega : m = 1 ∨ m = 2 ∨ m = 3 ∨ m = 4) with rfl | rfl | rfl | rfl
    · have C : ∀ W, Calls Tryd.prog 18 #[.int .u8 1] W fun r w' => r = .returned (.string gcraS) ∧ W = w' := fun W => refName_any 1 W
      by_cases ht : ([103, 99, 114, 97] : List UInt8) = s.toList
      · obtain ⟨e1, e2⟩ := KA.out 1 (by omega) (text_is ht) (by omega)
        subst e1 e2
        clear KA KE
        go_wp2_with (go_at_call 18; refine (C _).mono ?_; rintro r w1 ⟨rfl, rfl⟩)
        go_ret2
        exact ⟨rfl, rfl⟩
      · have T := Lib.hid ht
        have hb : (([103, 99, 114, 97] : List UInt8) == s.toList) = false := by rw [← Bool.not_eq_true, beq_iff_eq]; exact ht
        clear KA KE ht
        go_wp2_with (go_at_call 18; refine (C _).mono ?_; rintro r w1 ⟨rfl, rfl⟩)
        go_round
        case rel => exact ⟨2, by go_num, by omega, by omega, Lib.hid (fun j hj g => by
          by_cases e : j = 1
          · subst e; exact fun g => T.out (by rw [← g, ByteArray.toList_eq]; rfl)
          · exact D.out j (by omega) g)⟩
        case measure => simp [intOf]
    · have C : ∀ W, Calls Tryd.prog 18 #[.int .u8 2] W fun r w' => r = .returned (.string bucketS) ∧ W = w' := fun W => refName_any 2 W
      by_cases ht : ([98, 117, 99, 107, 101, 116] : List UInt8) = s.toList
      · obtain ⟨e1, e2⟩ := KA.out 2 (by omega) (text_is ht) (by omega)
        subst e1 e2
        clear KA KE
        go_wp2_with (go_at_call 18; refine (C _).mono ?_; rintro r w1 ⟨rfl, rfl⟩)
        go_ret2
        exact ⟨rfl, rfl⟩
      · have T := Lib.hid ht
        have hb : (([98, 117, 99, 107, 101, 116] : List UInt8) == s.toList) = false := by rw [← Bool.not_eq_true, beq_iff_eq]; exact ht
        clear KA KE ht
        go_wp2_with (go_at_call 18; refine (C _).mono ?_; rintro r w1 ⟨rfl, rfl⟩)
        go_round
        case rel => exact ⟨3, by go_num, by omega, by omega, Lib.hid (fun j hj g => by
          by_cases e : j = 2
          · subst e; exact fun g => T.out (by rw [← g, ByteArray.toList_eq]; rfl)
          · exact D.out j (by omega) g)⟩
        case measure => simp [intOf]
    · have C : ∀ W, Calls Tryd.prog 18 #[.int .u8 3] W fun r w' => r = .returned (.string leakyS) ∧ W = w' := fun W => refName_any 3 W
      by_cases ht : ([108, 101, 97, 107, 121] : List UInt8) = s.toList
      · obtain ⟨e1, e2⟩ := KA.out 3 (by omega) (text_is ht) (by omega)
        subst e1 e2
        clear KA KE
        go_wp2_with (go_at_call 18; refine (C _).mono ?_; rintro r w1 ⟨rfl, rfl⟩)
        go_ret2
        exact ⟨rfl, rfl⟩
      · have T := Lib.hid ht
        have hb : (([108, 101, 97, 107, 121] : List UInt8) == s.toList) = false := by rw [← Bool.not_eq_true, beq_iff_eq]; exact ht
        clear KA KE ht
        go_wp2_with (go_at_call 18; refine (C _).mono ?_; rintro r w1 ⟨rfl, rfl⟩)
        go_round
        case rel => exact ⟨4, by go_num, by omega, by omega, Lib.hid (fun j hj g => by
          by_cases e : j = 3
          · subst e; exact fun g => T.out (by rw [← g, ByteArray.toList_eq]; rfl)
          · exact D.out j (by omega) g)⟩
        case measure => simp [intOf]
    · obtain ⟨e1, e2⟩ := KE.out (fun j hj g => D.out j hj g)
      subst e1 e2
      clear KA KE
      go_wp2
      go_ret2
      exact ⟨rfl, rfl⟩
end Go.Proofs.YtpkpmbigljkneaaDoor.Wd
