/- The chapter's example stands (tollerlaw09.known), and what a key of choices is (tollerlaw09.Key); no conditions but those that each names. -/
import Derived.Test.YtpkpmbigljkneaaDoorRulQ
namespace Go.Proofs.YtpkpmbigljkneaaDoor.Wd
open Go Go.RowKit
set_option linter.unusedVariables false

theorem lb_append (a b : ByteArray) : lb (a ++ b) = lb a ++ lb b := by simp [lb]

theorem lt_of_cell {w : World} {b o : Nat} {v : Value} (h : w.cell? ⟨b, o, none⟩ = some v) : b < w.heap.size := by
  by_cases hb : b < w.heap.size
  · exact hb
  · simp [World.cell?, hb] at h
/-- A row of bytes that lies in memory. -/
def Byts (w : World) (A : Option Addr) (n : Nat) : Prop :=
  ∀ i, i < n → ∃ b off v, A = some ⟨b, off, none⟩ ∧ w.cell? ⟨b, off + i, none⟩ = some (.int .u8 v) ∧ 0 ≤ v ∧ v ≤ 255
theorem Byts.below {w w' : World} {A : Option Addr} {n : Nat} (h : Byts w A n) (k : Below w.heap.size w w') : Byts w' A n := fun i hi => by
  obtain ⟨b, off, v, e, hc, hv⟩ := h i hi
  exact ⟨b, off, v, e, celln k hc, hv⟩
/-- What a key of choices is: short, of visible bytes. -/
def Short (s : ByteArray) : Prop := (1 ≤ s.size ∧ s.size ≤ 12) ∧ (lb s).all (fun c => visB (c.toNat : Int)) = true

theorem toList_ne (t : ByteArray) (h : 0 < t.size) : t.toList.isEmpty = false := by
  rw [ByteArray.toList_eq, List.isEmpty_eq_false_iff]
  intro e
  have := congrArg List.length e
  rw [list_size] at this
  have : t.size = 0 := this
  omega
theorem toList_none (t : ByteArray) (h : t.size = 0) : t.toList.isEmpty = true := by
  rw [ByteArray.toList_eq, List.isEmpty_iff]
  exact List.eq_nil_of_length_eq_zero (by rw [list_size]; exact h)

set_option maxHeartbeats 1000000 in
theorem key_any (A : Option Addr) (n cap : Nat) (w : World) (h : Byts w A n) (hn : n ≤ 9223372036854775807) :
    Calls Tryd.prog 25 #[.slice A n cap] w fun e w' => ∃ s, e = .returned (.string s) ∧ Hid (Short s) ∧ s.size ≤ 12 ∧ Below w.heap.size w w' := by
  have H := Lib.hid h
  clear h
  go_enter Tryd.func25, Tryd.ntmps25
  go_wp2
  go_loopw [3, 4] (fun s i wr => ∃ (k : Nat) (t : ByteArray), i = .int .i64 (k : Int) ∧ s = .string t ∧ k ≤ 6 ∧ k ≤ t.size ∧ t.size ≤ 2 * k ∧ Hid ((lb t).all (fun c => visB (c.toNat : Int)) = true) ∧ Below w.heap.size w wr) (fun _ i _ => 6 - (intOf i).toNat)
  case atStart => exact ⟨0, ⟨#[]⟩, rfl, rfl, by omega, by decide, by decide, Lib.hid (by decide), Below.refl _ _⟩
  case round =>
    obtain ⟨k, t, rfl, rfl, hk, k1, k2, V, hB⟩ := hrel
    by_cases c1 : k < n
    · by_cases c2 : k < 6
      · obtain ⟨b, off, v, rfl, hc, hv⟩ := (H.out.below hB) k c1
        have hb := lt_of_cell hc
        have c3 : (k : Int) < 6 := by omega
        have hvm : v % 8 = 0 ∨ v % 8 = 1 ∨ v % 8 = 2 ∨ v % 8 = 3 ∨ v % 8 = 4 ∨ v % 8 = 5 ∨ v % 8 = 6 ∨ v % 8 = 7 := by omega
        have VA : Hid (∀ p : ByteArray, (lb p).all (fun c => visB (c.toNat : Int)) = true → (lb (t ++ p)).all (fun c => visB (c.toNat : Int)) = true) := Lib.hid (fun p hp => by rw [lb_append, List.all_append, V.out, hp]; rfl)
        have hs0 : t.size ≤ 12 := by omega
        have SZ : Hid (∀ p : ByteArray, 1 ≤ p.size → p.size ≤ 2 → k + 1 ≤ (t ++ p).size ∧ (t ++ p).size ≤ 2 * (k + 1)) := Lib.hid (fun p h1 h2 => by rw [ByteArray.size_append']; omega)
        rcases hvm with hm | hm | hm | hm | hm | hm | hm | hm
        all_goals
          go_wp2
          go_roundw
          case rel => exact ⟨k + 1, _, by go_num, rfl, by omega, (SZ.out _ (by decide) (by decide)).1, (SZ.out _ (by decide) (by decide)).2, Lib.hid (VA.out _ (by decide)), hB.alloc hB.size _⟩
          case measure => simp [intOf]; omega
      · have c3 : decide ((k : Int) < 6) = false := decide_eq_false (by omega)
        have hz : t.toList.isEmpty = false := toList_ne t (by omega)
        have F : Hid (Short t ∧ t.size ≤ 12) := Lib.hid ⟨⟨⟨by omega, by omega⟩, V.out⟩, by omega⟩
        clear c2 k1 k2 hk
        go_wp2
        go_ret
        exact ⟨t, rfl, Lib.hid F.out.1, F.out.2, hB⟩
    · by_cases c4 : t.size = 0
      · have hz : t.toList.isEmpty = true := toList_none t c4
        clear c4
        go_wp2
        go_ret
        exact ⟨⟨#[107]⟩, rfl, Lib.hid ⟨⟨by decide, by decide⟩, by decide⟩, by decide, hB⟩
      · have hz : t.toList.isEmpty = false := toList_ne t (by omega)
        have F : Hid (Short t ∧ t.size ≤ 12) := Lib.hid ⟨⟨⟨by omega, by omega⟩, V.out⟩, by omega⟩
        clear c4 k1 k2 hk
        go_wp2
        go_ret
        exact ⟨t, rfl, Lib.hid F.out.1, F.out.2, hB⟩
end Go.Proofs.YtpkpmbigljkneaaDoor.Wd
