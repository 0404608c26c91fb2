/- Deeds of choices in memory, how heavy they are, their keys and rules; no conditions but those that each names. -/
import Derived.Test.YtkfncanfgpmgaaaGreatTabG2
namespace Go.Proofs.YtkfncanfgpmgaaaGreat.Wd
open Go Go.RowKit Go.Shelf Go.Deep
set_option linter.unusedVariables false
set_option maxRecDepth 100000

/-- A row of bytes that are known. -/
def Txt (w : World) (A : Option Addr) (n : Nat) (bs : List UInt8) : Prop :=
  bs.length = n ∧ (0 < n → ∃ b off, A = some ⟨b, off, none⟩ ∧ b < w.heap.size ∧ ∀ k, k < n → w.cell? ⟨b, off + k, none⟩ = some (.int .u8 ((bs.getD k 0).toNat : Int)))
theorem Txt.below {w w' : World} {A : Option Addr} {n : Nat} {bs : List UInt8} (h : Txt w A n bs) (k : Below w.heap.size w w') : Txt w' A n bs :=
  ⟨h.1, fun hn => by
    obtain ⟨b, off, e, hb, hc⟩ := h.2 hn
    exact ⟨b, off, e, Nat.lt_of_lt_of_le hb k.size, fun j hj => (k.cell (p := ⟨b, off + j, none⟩) hb).trans (hc j hj)⟩⟩
/-- Which text a byte of choices is. -/
def pk : Nat → List UInt8
  | 0 => [97]
  | 1 => [98]
  | 2 => [97, 47]
  | 3 => [98, 47]
  | 4 => [99]
  | 5 => [122]
  | 6 => [126]
  | _ => [33]
def keyL (kb : List UInt8) (k : Nat) : List UInt8 := (kb.take k).flatMap (fun c => pk (c.toNat % 8))
def keyB (kb : List UInt8) (k : Nat) : ByteArray := ⟨(keyL kb k).toArray⟩
/-- A key of choices. -/
def keyT (kb : List UInt8) : ByteArray := if (keyB kb 6).size = 0 then ⟨#[107]⟩ else keyB kb 6
theorem keyL_step {kb : List UInt8} {k : Nat} (h : k < kb.length) : keyL kb (k + 1) = keyL kb k ++ pk ((kb.getD k 0).toNat % 8) := by
  unfold keyL
  rw [List.take_add_one, List.flatMap_append]
  simp [List.getD, h]
theorem keyB_step {kb : List UInt8} {k j : Nat} (h : k < kb.length) (e : (kb.getD k 0).toNat % 8 = j) : keyB kb k ++ ⟨(pk j).toArray⟩ = keyB kb (k + 1) := by
  unfold keyB
  rw [keyL_step h, e]
  exact ByteArray.mk_append_mk _ _
theorem keyB_all {kb : List UInt8} {k : Nat} (h : kb.length ≤ k) : keyB kb k = keyB kb kb.length := by
  unfold keyB keyL
  rw [List.take_of_length_le h, List.take_length]
theorem pk_len (v : Nat) : 1 ≤ (pk v).length ∧ (pk v).length ≤ 2 := by unfold pk; split <;> simp
theorem pk_vis (v : Nat) : (pk v).all (fun c => visB (c.toNat : Int)) = true := by unfold pk; split <;> decide
theorem keyL_len : ∀ (kb : List UInt8), kb.length ≤ (keyL kb kb.length).length ∧ (keyL kb kb.length).length ≤ 2 * kb.length := by
  intro kb
  unfold keyL
  rw [List.take_length]
  induction kb with
  | nil => exact ⟨Nat.le_refl _, Nat.le_refl _⟩
  | cons x xs ih =>
    have := pk_len (x.toNat % 8)
    simp only [List.flatMap_cons, List.length_append, List.length_cons]
    omega
theorem keyL_take (kb : List UInt8) (k : Nat) : keyL kb k = keyL (kb.take k) (kb.take k).length := by
  unfold keyL; rw [List.take_length]
theorem keyB_size (kb : List UInt8) (k : Nat) : min k kb.length ≤ (keyB kb k).size ∧ (keyB kb k).size ≤ 2 * k := by
  have h := keyL_len (kb.take k)
  rw [← keyL_take, List.length_take] at h
  have : (keyB kb k).size = (keyL kb k).length := by simp [keyB, ByteArray.size]
  omega
theorem keyL_vis (kb : List UInt8) (k : Nat) : (keyL kb k).all (fun c => visB (c.toNat : Int)) = true := by
  unfold keyL
  rw [List.all_eq_true]
  intro c hc
  obtain ⟨x, _, hx⟩ := List.mem_flatMap.1 hc
  exact List.all_eq_true.1 (pk_vis _) c hx
/-- It is a key, of twelve bytes at most. -/
theorem keyT_ok (kb : List UInt8) : 1 ≤ (keyT kb).size ∧ (keyT kb).size ≤ 12 ∧ (lb (keyT kb)).all (fun c => visB (c.toNat : Int)) = true := by
  unfold keyT
  split
  · exact ⟨by decide, by decide, by decide⟩
  · have := keyB_size kb 6
    refine ⟨by omega, by omega, ?_⟩
    show ((keyL kb 6).toArray.toList).all _ = true
    exact keyL_vis kb 6
theorem lb_len (s : ByteArray) : (lb s).length = s.size := Array.length_toList
theorem rtB_of {s : ByteArray} (h1 : 1 ≤ s.size) (h2 : s.size ≤ 128) (h3 : (lb s).all (fun c => visB (c.toNat : Int)) = true) : rtB (lb s) = true := by
  unfold rtB; rw [lb_len, h3]; simp; omega
theorem toList_ne (t : ByteArray) (h : 0 < t.size) : t.toList.isEmpty = false := by
  rw [ByteArray.toList_eq, List.isEmpty_eq_false_iff]
  intro e
  have := congrArg List.length e
  rw [list_size] at this
  have : t.size = 0 := this
  omega
theorem toList_none (t : ByteArray) (h : t.size = 0) : t.toList.isEmpty = true := by
  rw [ByteArray.toList_eq, List.isEmpty_iff]
  exact List.eq_nil_of_length_eq_zero (by rw [list_size]; exact h)

set_option maxHeartbeats 1000000 in
theorem key_any (A : Option Addr) (n cap : Nat) (kb : List UInt8) (w : World) (h : Txt w A n kb) (hn : n ≤ 9223372036854775807) :
    Calls Tryz.prog 37 #[.slice A n cap] w fun e w' => e = .returned (.string (keyT kb)) ∧ Below w.heap.size w w' := by
  have H := Lib.hid h
  have hlen : Hid (kb.length = n) := Lib.hid h.1
  clear h
  go_enter Tryz.func37, Tryz.ntmps37
  go_wp2
  go_loopw [3, 4] (fun s i wr => ∃ (k : Nat) (t : ByteArray), i = .int .i64 (k : Int) ∧ s = .string t ∧ (k ≤ 6 ∧ k ≤ n) ∧ t.size ≤ 12 ∧ Hid (t = keyB kb k) ∧ Below w.heap.size w wr) (fun _ i _ => 6 - (intOf i).toNat)
  case atStart => exact ⟨0, ⟨#[]⟩, rfl, rfl, by omega, by decide, Lib.hid rfl, Below.refl _ _⟩
  case round =>
    obtain ⟨k, t, rfl, rfl, ⟨hk, hkn⟩, k2, V, hB⟩ := hrel
    by_cases c1 : k < n
    · by_cases c2 : k < 6
      · obtain ⟨b, off, rfl, hb0, hcc⟩ := (H.out.below hB).2 (by omega)
        have hc := hcc k c1
        have hb := lt_of_cell hc
        clear hcc
        have c3 : (k : Int) < 6 := by omega
        have hl : Hid (k < kb.length) := Lib.hid (by have := hlen.out; omega)
        have SZ : Hid (∀ j, (kb.getD k 0).toNat % 8 = j → t ++ ⟨(pk j).toArray⟩ = keyB kb (k + 1) ∧ (t ++ (⟨(pk j).toArray⟩ : ByteArray)).size ≤ 12) := Lib.hid (fun j e => by
          have e1 := keyB_step hl.out e
          rw [← V.out] at e1
          refine ⟨e1, ?_⟩
          rw [e1]
          have := keyB_size kb (k + 1)
          omega)
        have hvm : ((kb.getD k 0).toNat : Int) % 8 = 0 ∨ ((kb.getD k 0).toNat : Int) % 8 = 1 ∨ ((kb.getD k 0).toNat : Int) % 8 = 2 ∨ ((kb.getD k 0).toNat : Int) % 8 = 3 ∨ ((kb.getD k 0).toNat : Int) % 8 = 4 ∨ ((kb.getD k 0).toNat : Int) % 8 = 5 ∨ ((kb.getD k 0).toNat : Int) % 8 = 6 ∨ ((kb.getD k 0).toNat : Int) % 8 = 7 := by omega
        have hu : ((kb.getD k 0).toNat : Int) ≤ 255 := by have := (kb.getD k 0).toNat_lt; omega
        generalize hv : (kb.getD k 0).toNat = v at *
        rcases hvm with hm | hm | hm | hm | hm | hm | hm | hm
        · have S := Lib.hid (SZ.out 0 (by omega))
          clear SZ hu hb0
          go_wp2
          go_roundw
          case rel => exact ⟨k + 1, _, by go_num, rfl, by omega, S.out.2, Lib.hid S.out.1, hB.alloc hB.size _⟩
          case measure => simp [intOf]; omega
        · have S := Lib.hid (SZ.out 1 (by omega))
          clear SZ hu hb0
          go_wp2
          go_roundw
          case rel => exact ⟨k + 1, _, by go_num, rfl, by omega, S.out.2, Lib.hid S.out.1, hB.alloc hB.size _⟩
          case measure => simp [intOf]; omega
        · have S := Lib.hid (SZ.out 2 (by omega))
          clear SZ hu hb0
          go_wp2
          go_roundw
          case rel => exact ⟨k + 1, _, by go_num, rfl, by omega, S.out.2, Lib.hid S.out.1, hB.alloc hB.size _⟩
          case measure => simp [intOf]; omega
        · have S := Lib.hid (SZ.out 3 (by omega))
          clear SZ hu hb0
          go_wp2
          go_roundw
          case rel => exact ⟨k + 1, _, by go_num, rfl, by omega, S.out.2, Lib.hid S.out.1, hB.alloc hB.size _⟩
          case measure => simp [intOf]; omega
        · have S := Lib.hid (SZ.out 4 (by omega))
          clear SZ hu hb0
          go_wp2
          go_roundw
          case rel => exact ⟨k + 1, _, by go_num, rfl, by omega, S.out.2, Lib.hid S.out.1, hB.alloc hB.size _⟩
          case measure => simp [intOf]; omega
        · have S := Lib.hid (SZ.out 5 (by omega))
          clear SZ hu hb0
          go_wp2
          go_roundw
          case rel => exact ⟨k + 1, _, by go_num, rfl, by omega, S.out.2, Lib.hid S.out.1, hB.alloc hB.size _⟩
          case measure => simp [intOf]; omega
        · have S := Lib.hid (SZ.out 6 (by omega))
          clear SZ hu hb0
          go_wp2
          go_roundw
          case rel => exact ⟨k + 1, _, by go_num, rfl, by omega, S.out.2, Lib.hid S.out.1, hB.alloc hB.size _⟩
          case measure => simp [intOf]; omega
        · have S := Lib.hid (SZ.out 7 (by omega))
          clear SZ hu hb0
          go_wp2
          go_roundw
          case rel => exact ⟨k + 1, _, by go_num, rfl, by omega, S.out.2, Lib.hid S.out.1, hB.alloc hB.size _⟩
          case measure => simp [intOf]; omega
      · obtain rfl : k = 6 := by omega
        have c3 : decide (((6 : Nat) : Int) < 6) = false := rfl
        have hz : t.toList.isEmpty = false := toList_ne t (by rw [V.out]; have := keyB_size kb 6; have := hlen.out; omega)
        have F : Hid (keyT kb = t) := Lib.hid (by unfold keyT; rw [if_neg (by have := keyB_size kb 6; have := hlen.out; omega), V.out])
        clear c2 k2 hk
        go_wp2
        go_ret
        exact ⟨by rw [F.out]; rfl, hB⟩
    · obtain rfl : k = n := by omega
      have e6 : Hid (keyB kb 6 = t) := Lib.hid (by rw [V.out, keyB_all (by have := hlen.out; omega), hlen.out])
      by_cases c4 : t.size = 0
      · have hz : t.toList.isEmpty = true := toList_none t c4
        have F : Hid (keyT kb = ⟨#[107]⟩) := Lib.hid (by unfold keyT; rw [e6.out, if_pos c4])
        clear c4
        go_wp2
        go_ret
        exact ⟨by rw [F.out]; rfl, hB⟩
      · have hz : t.toList.isEmpty = false := toList_ne t (by omega)
        have F : Hid (keyT kb = t) := Lib.hid (by unfold keyT; rw [e6.out, if_neg c4])
        clear c4 k2 hk
        go_wp2
        go_ret
        exact ⟨by rw [F.out]; rfl, hB⟩
end Go.Proofs.YtkfncanfgpmgaaaGreat.Wd
