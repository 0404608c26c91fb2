/- What rule.Right, Cap, Name and Kind answer, for any rule, kind and text; the kernels' names lie in the program's table; no other conditions but those that each names. -/
import Derived.Test.YtpkpmbigljkneaaDoorRulU
namespace Go.Proofs.YtpkpmbigljkneaaDoor.Wd
open Go Go.RowKit
set_option linter.unusedVariables false

/-- The first fault of a rule. -/
def ruE (p : ByteArray) (e b k : Int) : Int := wrE [0, 1, 2, 3] p e b k
/-- How full a key may be. -/
def caI (p : ByteArray) (e b k : Int) : Int := if ruE p e b k = 0 then sat (e * b) else 0
theorem wr_U (os : List Nat) (p : ByteArray) (e b k : Int) : 0 ≤ wrE os p e b k ∧ wrE os p e b k ≤ 27 := by unfold wrE; (repeat' split) <;> omega
theorem ru_is (p : ByteArray) (e b k : Int) : ruE p e b k = if pfB p = false then 23 else if ¬ 0 < e then 24 else if ¬ 0 < b then 25 else if ¬ sat (e * b) ≤ 4611686018427387904 then 26 else if isK k = false then 27 else 0 := by
  unfold ruE wrE badB
  simp only [show ([0, 1, 2, 3] : List Nat).contains 0 = true from rfl, show ([0, 1, 2, 3] : List Nat).contains 1 = true from rfl, show ([0, 1, 2, 3] : List Nat).contains 2 = true from rfl, show ([0, 1, 2, 3] : List Nat).contains 3 = true from rfl, Bool.true_and, Bool.not_eq_true', decide_eq_false_iff_not]

theorem right_any (p : ByteArray) (e b k : Int) (w : World) (hs : p.size ≤ 9223372036854775807) (he : U e) (hb : U b) :
    Calls Tryd.prog 21 #[rul p e b k] w fun r w' => r = .returned (.int .u16 (ruE p e b k)) ∧ Kept w w' := by
  unfold ruE
  have W (W : World) (B : Nat) (h : W.cell? ⟨B, 0, none⟩ = some (.int .u8 0) ∧ W.cell? ⟨B, 1, none⟩ = some (.int .u8 1) ∧ W.cell? ⟨B, 2, none⟩ = some (.int .u8 2) ∧ W.cell? ⟨B, 3, none⟩ = some (.int .u8 3)) := wrong_any (some ⟨B, 0, none⟩) 4 4 [0, 1, 2, 3] p e b k W (fun _ => ⟨B, 0, rfl, fun j hj => by
    obtain ⟨h0, h1, h2, h3⟩ := h
    match j, hj with
    | 0, _ => simpa using h0
    | 1, _ => simpa using h1
    | 2, _ => simpa using h2
    | 3, _ => simpa using h3⟩) rfl (by omega) hs he hb
  generalize wrE [0, 1, 2, 3] p e b k = R at *
  go_enter Tryd.func21, Tryd.ntmps21
  go_wp2_with (go_at_call 31; refine (W _ _ (by simp)).mono ?_; rintro r w1 ⟨rfl, k1⟩)
  go_ret
  exact ⟨rfl, (((Kept.refl w).alloc _ _).alloc _ _).trans k1⟩

theorem cap_any (p : ByteArray) (e b k : Int) (w : World) (hs : p.size ≤ 9223372036854775807) (he : U e) (hb : U b) :
    Calls Tryd.prog 24 #[rul p e b k] w fun r w' => r = .returned (.int .u64 (caI p e b k)) ∧ Kept w w' := by
  have RA := fun W => right_any p e b k W hs he hb
  by_cases h : ruE p e b k = 0
  · have e0 : caI p e b k = sat (e * b) := by unfold caI; rw [if_pos h]
    rw [e0]
    rw [h] at RA
    clear e0 h
    go_enter Tryd.func24, Tryd.ntmps24
    go_wp2_with (first
      | (go_at_call 21; refine (RA _).mono ?_; rintro r w1 ⟨rfl, k1⟩; have f0 : w1.cell? ⟨w.heap.size, 0, none⟩ = some (.string p) := k1.cell (by simp); have f1 : w1.cell? ⟨w.heap.size, 1, none⟩ = some (.int .u64 e) := k1.cell (by simp); have f2 : w1.cell? ⟨w.heap.size, 2, none⟩ = some (.int .u64 b) := k1.cell (by simp); have f3 : w1.cell? ⟨w.heap.size, 3, none⟩ = some (.int .u8 k) := k1.cell (by simp))
      | (go_at_call 35; refine (product_any _ _ _ _ _ he hb).mono ?_; rintro r w2 ⟨rfl, k2⟩))
    go_ret
    exact ⟨rfl, (((Kept.refl w).alloc _ _).trans k1).trans k2⟩
  · have e0 : caI p e b k = 0 := by unfold caI; rw [if_neg h]
    rw [e0]
    have c1 : (ruE p e b k != 0) = true := by simpa using h
    have c2 : (ruE p e b k == 0) = false := by simpa using h
    generalize ruE p e b k = R at *
    clear e0 h
    go_enter Tryd.func24, Tryd.ntmps24
    go_wp2_with (go_at_call 21; refine (RA _).mono ?_; rintro r w1 ⟨rfl, k1⟩)
    go_ret
    exact ⟨rfl, ((Kept.refl w).alloc _ _).trans k1⟩

/-! ### Names -/
abbrev gcraS : ByteArray := ⟨#[103, 99, 114, 97]⟩
abbrev bucketS : ByteArray := ⟨#[98, 117, 99, 107, 101, 116]⟩
abbrev leakyS : ByteArray := ⟨#[108, 101, 97, 107, 121]⟩
/-- The table of names lies in block 0. -/
def Nam (w : World) : Prop := w.cell? ⟨0, 0, none⟩ = some (.string ⟨#[]⟩) ∧ w.cell? ⟨0, 1, none⟩ = some (.string gcraS) ∧ w.cell? ⟨0, 2, none⟩ = some (.string bucketS) ∧ w.cell? ⟨0, 3, none⟩ = some (.string leakyS)
theorem Nam.kept {w w' : World} (h : Nam w) (k : Kept w w') : Nam w' := ⟨k.cell h.1, k.cell h.2.1, k.cell h.2.2.1, k.cell h.2.2.2⟩
/-- A kind's name. -/
def namS (k : Int) : ByteArray := if k = 1 then gcraS else if k = 2 then bucketS else if k = 3 then leakyS else ⟨#[]⟩

theorem name_any (k : Int) (w : World) (h : Nam w) (hk : 0 ≤ k ∧ k ≤ 255) :
    Calls Tryd.prog 17 #[.int .u8 k] w fun r w' => r = .returned (.string (namS k)) ∧ w = w' := by
  obtain ⟨n0, n1, n2, n3⟩ := h
  by_cases h4 : 4 ≤ k
  · have e : namS k = ⟨#[]⟩ := by unfold namS; rw [if_neg (by omega), if_neg (by omega), if_neg (by omega)]
    rw [e]
    clear e
    go_enter Tryd.func17, Tryd.ntmps17
    go_wp2
    go_ret
    exact ⟨rfl, rfl⟩
  · rcases (by omega : k = 0 ∨ k = 1 ∨ k = 2 ∨ k = 3) with rfl | rfl | rfl | rfl
    all_goals
      go_enter Tryd.func17, Tryd.ntmps17
      go_wp2
      go_ret
      exact ⟨rfl, rfl⟩

/-- A name's kind, or 0. -/
def kinI (s : ByteArray) : Int := if s = gcraS then 1 else if s = bucketS then 2 else if s = leakyS then 3 else 0
def kinB (s : ByteArray) : Bool := decide (s = gcraS ∨ s = bucketS ∨ s = leakyS)
theorem kin_at {s : ByteArray} (m : Nat) (hm : m < 4) (e : namS m = s) (g : m ≠ 0) : kinI s = m ∧ kinB s = true := by
  subst e
  match m, hm, g with
  | 1, _, _ => exact ⟨rfl, by decide⟩
  | 2, _, _ => exact ⟨by decide, by decide⟩
  | 3, _, _ => exact ⟨by decide, by decide⟩
theorem kin_end {s : ByteArray} (h : ∀ m : Nat, m < 4 → m ≠ 0 → namS m ≠ s) : kinI s = 0 ∧ kinB s = false := by
  have h1 : s ≠ gcraS := fun e => h 1 (by omega) (by omega) e.symm
  have h2 : s ≠ bucketS := fun e => h 2 (by omega) (by omega) e.symm
  have h3 : s ≠ leakyS := fun e => h 3 (by omega) (by omega) e.symm
  unfold kinI kinB
  rw [if_neg h1, if_neg h2, if_neg h3]
  exact ⟨rfl, by simp [h1, h2, h3]⟩

theorem text_is {s : ByteArray} {l : List UInt8} (h : l = s.toList) : (⟨l.toArray⟩ : ByteArray) = s := by
  rw [h, ByteArray.toList_eq]
abbrev namesV : Value := .agg #[.string ⟨#[]⟩, .string gcraS, .string bucketS, .string leakyS]
theorem names_at (w : World) : (Instr.index 54 namesV (.int .i64 0)).run Tryd.prog w = .ok (.string ⟨#[]⟩) w ∧ (Instr.index 54 namesV (.int .i64 1)).run Tryd.prog w = .ok (.string gcraS) w ∧
    (Instr.index 54 namesV (.int .i64 2)).run Tryd.prog w = .ok (.string bucketS) w ∧ (Instr.index 54 namesV (.int .i64 3)).run Tryd.prog w = .ok (.string leakyS) w :=
  ⟨by kernel_rfl, by kernel_rfl, by kernel_rfl, by kernel_rfl⟩
set_option maxRecDepth 100000 in
theorem kind_any (s : ByteArray) (w : World) (h : Nam w) :
    Calls Tryd.prog 13 #[.string s] w fun r w' => r = .returned (.tuple #[.int .u8 (kinI s), .bool (kinB s)]) ∧ w = w' := by
  obtain ⟨n0, n1, n2, n3⟩ := h
  obtain ⟨i0, i1, i2, i3⟩ := names_at w
  have KA := Lib.hid (fun (m : Nat) (hm : m < 4) => kin_at (s := s) m hm)
  have KE := Lib.hid (kin_end (s := s))
  generalize kinI s = R at *
  generalize kinB s = Q at *
  go_enter Tryd.func13, Tryd.ntmps13
  go_wp2
  go_loop [7] (fun i => ∃ m : Nat, i = .int .i64 m ∧ m ≤ 4 ∧ Hid (∀ j : Nat, j < m → j ≠ 0 → namS j ≠ s)) (fun i => 4 - (intOf i).toNat)
  case atStart => exact ⟨0, rfl, by omega, Lib.hid (fun j hj => absurd hj (by omega))⟩
  case round =>
    obtain ⟨m, rfl, hm, D⟩ := hrel
    rcases (by omega : m = 0 ∨ m = 1 ∨ m = 2 ∨ m = 3 ∨ m = 4) with rfl | rfl | rfl | rfl | rfl
    · go_wp2
      all_goals exact ⟨⟨1, rfl, by omega, Lib.hid (fun j hj g => absurd hj (by omega))⟩, by simp [intOf]⟩
    · by_cases ht : ([103, 99, 114, 97] : List UInt8) = s.toList
      · have hz : s.toList.isEmpty = false := by rw [← ht]; rfl
        obtain ⟨e1, e2⟩ := KA.out 1 (by omega) (text_is ht) (by omega)
        subst e1 e2
        clear KA KE
        go_wp2
        go_ret2
        exact ⟨rfl, rfl⟩
      · have T := Lib.hid ht
        clear KA KE
        go_wp2
        exact ⟨⟨2, rfl, by omega, Lib.hid (fun j hj g => by
          by_cases e : j = 1
          · subst e; exact fun g => T.out (by rw [← g, ByteArray.toList_eq]; rfl)
          · exact D.out j (by omega) g)⟩, by simp [intOf]⟩
    · by_cases ht : ([98, 117, 99, 107, 101, 116] : List UInt8) = s.toList
      · have hz : s.toList.isEmpty = false := by rw [← ht]; rfl
        obtain ⟨e1, e2⟩ := KA.out 2 (by omega) (text_is ht) (by omega)
        subst e1 e2
        clear KA KE
        go_wp2
        go_ret2
        exact ⟨rfl, rfl⟩
      · have T := Lib.hid ht
        clear KA KE
        go_wp2
        exact ⟨⟨3, rfl, by omega, Lib.hid (fun j hj g => by
          by_cases e : j = 2
          · subst e; exact fun g => T.out (by rw [← g, ByteArray.toList_eq]; rfl)
          · exact D.out j (by omega) g)⟩, by simp [intOf]⟩
    · by_cases ht : ([108, 101, 97, 107, 121] : List UInt8) = s.toList
      · have hz : s.toList.isEmpty = false := by rw [← ht]; rfl
        obtain ⟨e1, e2⟩ := KA.out 3 (by omega) (text_is ht) (by omega)
        subst e1 e2
        clear KA KE
        go_wp2
        go_ret2
        exact ⟨rfl, rfl⟩
      · have T := Lib.hid ht
        clear KA KE
        go_wp2
        exact ⟨⟨4, rfl, by omega, Lib.hid (fun j hj g => by
          by_cases e : j = 3
          · subst e; exact fun g => T.out (by rw [← g, ByteArray.toList_eq]; rfl)
          · exact D.out j (by omega) g)⟩, by simp [intOf]⟩
    · obtain ⟨e1, e2⟩ := KE.out (fun j hj g => D.out j hj g)
      subst e1 e2
      clear KA KE
      go_wp2
      go_ret2
      exact ⟨rfl, rfl⟩
end Go.Proofs.YtpkpmbigljkneaaDoor.Wd
