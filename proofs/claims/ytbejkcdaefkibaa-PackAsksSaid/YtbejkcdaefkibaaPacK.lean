/- The chapter's example stands (tollerlaw16.known); few; no conditions but those that each names. -/
import Derived.Test.YtbejkcdaefkibaaPacD
import Derived.Lib.SlBytesConst
namespace Go.Proofs.Ytbejkcdaefkibaa.Wd
open Go Go.RowKit Go.Shelf Go.Deep Go.Lib
set_option linter.unusedVariables false
set_option maxRecDepth 100000

set_option maxHeartbeats 4000000 in
theorem known_any (w : World) : Calls Try.prog 5 #[] w fun e w' => e = .returned (.bool true) ∧ Below w.heap.size w w' := by
  have CE := Lib.hid (fun W => encode_any 1 none 0 0 [] W (by decide) (Ens.nil W none) (by decide) (fun x hx => nomatch hx))
  have C3 := Lib.hid (fun (W : World) => decode_any (some ⟨W.heap.size, 0, none⟩) 3 3 [84, 76, 82] (W.alloc (.cells #[.int .u8 84, .int .u8 76, .int .u8 82] 5 (3, 4))) (txt_lit [84, 76, 82] _ _ _ rfl) (by decide) (by decide) (fun ad e => by cases e; exact ⟨rfl, by simp⟩) (by decide) 40 0 [] (by decide))
  have C4 := Lib.hid (fun (W : World) => decode_any (some ⟨W.heap.size, 0, none⟩) 4 4 [84, 76, 82, 49] (W.alloc (.cells #[.int .u8 84, .int .u8 76, .int .u8 82, .int .u8 49] 5 (4, 5))) (txt_lit [84, 76, 82, 49] _ _ _ rfl) (by decide) (by decide) (fun ad e => by cases e; exact ⟨rfl, by simp⟩) (by decide) 41 0 [] (by decide))
  have v3 : ∀ W : World, (convert 26 26 (.slice (some ⟨W.heap.size, 0, none⟩) 3 3)).run Try.prog (W.alloc (.cells #[.int .u8 84, .int .u8 76, .int .u8 82] 5)) = .ok (.slice (some ⟨W.heap.size, 0, none⟩) 3 3) (W.alloc (.cells #[.int .u8 84, .int .u8 76, .int .u8 82] 5 (3, 4))) := fun W => Go.Lib.run_convert_bytes_const W 26 5 _ 3 3 Try.underlying26 Try.underlying5
  have v4 : ∀ W : World, (convert 26 26 (.slice (some ⟨W.heap.size, 0, none⟩) 4 4)).run Try.prog (W.alloc (.cells #[.int .u8 84, .int .u8 76, .int .u8 82, .int .u8 49] 5)) = .ok (.slice (some ⟨W.heap.size, 0, none⟩) 4 4) (W.alloc (.cells #[.int .u8 84, .int .u8 76, .int .u8 82, .int .u8 49] 5 (4, 5))) := fun W => Go.Lib.run_convert_bytes_const W 26 5 _ 4 4 Try.underlying26 Try.underlying5
  have CS := Lib.hid (fun W => psize_any 0 none 0 0 [] W (Ens.nil W none) (by decide))
  rw [show rgE [] = 0 from rfl, show enO 1 [] = [84, 76, 82, 49, 0, 0, 0, 0, 0, 0, 0, 1, 0, 0, 0, 0] by decide] at CE
  go_enter Try.func5, Try.ntmps5
  go_upto_region 2 with (go_at_call 11; refine (CE.out _).mono ?_; rintro e w1 ⟨v1, rfl, o1, g1⟩; obtain ⟨A1, c1, rfl, _, _, T1⟩ := o1.txt)
  go_upto_region 3 with (go_at_call 12; refine (C3.out _).mono ?_; rintro e w2 ⟨v2, rfl, o2, g2⟩; obtain ⟨A2, c2, rfl, _, _, _, _⟩ := o2.form)
  have T1' := T1
  have ga : Below w1.heap.size w1 (w2.alloc (.cells #[.int .u64 0, .slice A2 0 c2] Tsn)) := (((Below.refl _ w1).alloc (Nat.le_refl _) _).trans (g2.mono (by simp))).alloc (by have := g2.size; simp at this; omega) _
  have GA := Lib.hid ga
  have TA := Lib.hid (T1'.below ga)
  clear T1 T1' o1 o2 g2 ga
  generalize w2.alloc (.cells #[.int .u64 0, .slice A2 0 c2] Tsn) = W3 at *
  go_upto_region 4 with (go_at_call 12; refine (C4.out _).mono ?_; rintro e w3 ⟨v3, rfl, o3, g3⟩; obtain ⟨A3, c3, rfl, _, _, _, _⟩ := o3.form)
  have gb : Below W3.heap.size W3 (w3.alloc (.cells #[.int .u64 0, .slice A3 0 c3] Tsn)) := (((Below.refl _ W3).alloc (Nat.le_refl _) _).trans (g3.mono (by simp))).alloc (by have := g3.size; simp at this; omega) _
  have GB := Lib.hid gb
  have TB := TA.out.below gb
  have cv : (convert 26 9 (.slice A1 16 c1)).run Try.prog _ = _ := all_str TB c1
  clear gb o3 g3 C3 C4 v4 v3 TA TB
  generalize w3.alloc (.cells #[.int .u64 0, .slice A3 0 c3] Tsn) = W4 at *
  have he : (([84, 76, 82, 49, 0, 0, 0, 0, 0, 0, 0, 1, 0, 0, 0, 0] : List UInt8) == [84, 76, 82, 49, 0, 0, 0, 0, 0, 0, 0, 1, 0, 0, 0, 0]) = true := rfl
  go_wp2_with (go_at_call 13; refine (CS.out _).mono ?_; rintro e w5 ⟨rfl, g5⟩)
  go_ret
  exact ⟨rfl, kbq (kbq (kbq g1 GA.out) GB.out) g5⟩

/-- A row of rows of bytes that lies in memory. -/
def Rws (w : World) (A : Option Addr) (n : Nat) : Prop :=
  ∀ i, i < n → ∃ b off A' n' c', A = some ⟨b, off, none⟩ ∧ w.cell? ⟨b, off + i, none⟩ = some (.slice A' n' c') ∧ n' ≤ 9223372036854775807 ∧ Byts w A' n'
theorem Rws.below {w w' : World} {A : Option Addr} {n : Nat} (h : Rws w A n) (k : Below w.heap.size w w') : Rws w' A n := fun i hi => by
  obtain ⟨b, off, A', n', c', e, hc, hn, hb⟩ := h i hi
  exact ⟨b, off, A', n', c', e, celln k hc, hn, hb.below k⟩
/-- A row of numbers of 16 bits that lies in memory. -/
def U16s (w : World) (A : Option Addr) (n : Nat) : Prop :=
  ∀ i, i < n → ∃ b off, ∃ v : Nat, A = some ⟨b, off, none⟩ ∧ w.cell? ⟨b, off + i, none⟩ = some (.int .u16 (v : Int)) ∧ v < 65536
theorem U16s.below {w w' : World} {A : Option Addr} {n : Nat} (h : U16s w A n) (k : Below w.heap.size w w') : U16s w' A n := fun i hi => by
  obtain ⟨b, off, v, e, hc, hv⟩ := h i hi
  exact ⟨b, off, v, e, celln k hc, hv⟩
theorem wrap_bd (n : Int) : -9223372036854775808 ≤ IntKind.i64.wrap n ∧ IntKind.i64.wrap n ≤ 9223372036854775807 := by rw [IntKind.wrap_i64]; omega
/-- It tells yes or no. -/
def IsB (e : Ending) : Prop := ∃ b : Bool, e = .returned (.bool b)
set_option maxHeartbeats 1000000 in
theorem few_any (A : Option Addr) (n cap : Nat) (w : World) (h : Rws w A n) (hn : n ≤ 9223372036854775807) :
    Calls Try.prog 4 #[.slice A n cap] w fun e w' => IsB e ∧ w = w' := by
  go_enter Try.func4, Try.ntmps4
  go_wp2
  go_loop [3, 4] (fun s3 s4 => ∃ (k : Nat) (x : Int), s3 = .int .i64 x ∧ s4 = .int .i64 (k : Int) ∧ k ≤ n) (fun _ s4 => n - (intOf s4).toNat)
  case atStart => exact ⟨0, (n : Int), rfl, rfl, by omega⟩
  case round =>
    obtain ⟨k, x, rfl, rfl, hk⟩ := hrel
    by_cases hlt : k < n
    · obtain ⟨b, off, A', n', c', rfl, hc, hn', _⟩ := h k hlt
      have d1 : decide ((k : Int) < (n : Int)) = true := decide_eq_true (by omega)
      obtain ⟨y, hy⟩ : ∃ y, IntKind.i64.wrap (x + (n' : Int)) = y := ⟨_, rfl⟩
      clear h
      by_cases hx : x ≤ 300
      · go_wp2
        go_round
        case rel => exact ⟨k + 1, _, rfl, by go_num, by omega⟩
        case measure => simp [intOf]; omega
      · have d2 : decide (x ≤ 300) = false := decide_eq_false hx
        go_wp2
        go_ret
        exact ⟨⟨_, rfl⟩, rfl⟩
    · have d1 : decide ((k : Int) < (n : Int)) = false := decide_eq_false (by omega)
      go_wp2
      go_ret
      exact ⟨⟨_, rfl⟩, rfl⟩
end Go.Proofs.Ytbejkcdaefkibaa.Wd
