/- tollerlaw09.KeyBytes answers true, for any row of bytes and any three numbers of 8 bits; no conditions. -/
import Derived.Test.YtndipebpccdlfaaKeyW3
namespace Go.Proofs.Ytndipebpccdlfaa.Wd
open Go Go.RowKit
set_option linter.unusedVariables false

/-- So many bytes of one kind. -/
def reps (c : UInt8) (k : Nat) : ByteArray := ⟨(List.replicate k c).toArray⟩
theorem reps_lb (c : UInt8) (k : Nat) : lb (reps c k) = List.replicate k c := rfl
theorem reps_size (c : UInt8) (k : Nat) : (reps c k).size = k := by rw [← list_size]; exact List.length_replicate
theorem reps_one (c : UInt8) (k : Nat) : reps c k ++ ⟨#[c]⟩ = reps c (k + 1) := by
  unfold reps
  rw [show (#[c] : Array UInt8) = [c].toArray from rfl, ByteArray.mk_append_mk, List.replicate_succ']
theorem reps_add (P : Program) (W : World) (c : UInt8) (k : Nat) (h : k ≤ 255) : (Op.stringOp .add (reps c k) ⟨#[c]⟩).run P W = .ok (.string (reps c (k + 1))) W := by
  rw [run_string_add_sum W _ _ (by rw [reps_size]; show k + 1 ≤ _; omega), reps_one]
theorem reps_none (c : UInt8) : reps c 0 = ⟨#[]⟩ := rfl

theorem one_byte (W : World) (c : UInt8) (b : Int) (h : (c.toNat : Int) = b) : (convert 23 9 (.slice (some ⟨W.heap.size, 0, none⟩) 1 1)).run Try.prog (W.alloc (.cells #[.int .u8 b] 5)).drew = .ok (.string ⟨#[c]⟩) (W.alloc (.cells #[.int .u8 b] 5)).drew :=
  run_convert_bytes_back _ 23 9 5 _ 1 [c] Try.underlying23 Try.underlying5 Try.underlying9 (fun j hj => by
    obtain rfl : j = 0 := by simpa using hj
    show (W.alloc (.cells #[.int .u8 b] 5)).drew.cell? ⟨W.heap.size, 0, none⟩ = some (.int .u8 (c.toNat : Int))
    rw [h]
    have e : (W.alloc (.cells #[.int .u8 b] 5)).drew.heap[W.heap.size]? = some (.cells #[.int .u8 b] 5) := heap_alloc_new W _
    rw [cell_of_row _ _ _ _ _ _ e]; rfl)

theorem lb_back (a : ByteArray) (m : Nat) : lb (a.extract m a.size) = (lb a).drop m := by
  cases a with | mk d =>
  show (ByteArray.extract ⟨d⟩ m d.size).data.toList = d.toList.drop m
  rw [ByteArray.extract_mk]; simp
  exact List.take_of_length_le (by simp)
theorem slice_back (a : ByteArray) (m : Nat) (h : m ≤ a.size) (W : World) : (Instr.slice 9 (.string a) (some (.int .i64 (m : Int))) none none).run Try.prog W = .ok (.string (a.extract m a.size)) W := by
  rw [run_slice_string_from_if W 9 a .i64 (m : Int) Try.underlying9, if_pos (by omega)]; rfl

/-- The walk halts here. -/
def Stop (p : Prop) : Prop := p
theorem stopHere {p : Prop} (h : Stop p) : p := h

theorem rt_short {s : ByteArray} (h : Short s) : rtB (lb s) = true := by
  obtain ⟨⟨h1, h2⟩, h3⟩ := h
  unfold rtB
  rw [list_size, decide_eq_true ⟨h1, by omega⟩, h3]; rfl
theorem rt_put {s : ByteArray} (h : Short s) (i : Nat) (hi : i ≤ s.size) (c : UInt8) : rtB (lb (s.extract 0 i ++ ⟨#[c]⟩ ++ s.extract i s.size)) = visB (c.toNat : Int) := by
  obtain ⟨⟨h1, h2⟩, h3⟩ := h
  rw [lb_append, lb_append, lb_front, lb_back]
  unfold rtB
  have hl : ((lb s).take i ++ lb ⟨#[c]⟩ ++ (lb s).drop i).length = s.size + 1 := by
    rw [List.length_append, List.length_append, List.length_take, List.length_drop, list_size]
    show min i s.size + 1 + (s.size - i) = _
    omega
  rw [hl, decide_eq_true ⟨by omega, by omega⟩, Bool.true_and, List.all_append, List.all_append]
  rw [List.all_eq_true] at h3
  have e1 : ((lb s).take i).all (fun c => visB (c.toNat : Int)) = true := by rw [List.all_eq_true]; exact fun x hx => h3 x (List.mem_of_mem_take hx)
  have e2 : ((lb s).drop i).all (fun c => visB (c.toNat : Int)) = true := by rw [List.all_eq_true]; exact fun x hx => h3 x (List.mem_of_mem_drop hx)
  rw [e1, e2]
  show ((true && (visB (c.toNat : Int) && true)) && true) = visB (c.toNat : Int)
  simp
theorem rt_reps (k : Nat) : rtB (lb (reps 126 k)) = decide (1 ≤ k ∧ k ≤ 128) := by
  rw [reps_lb]
  unfold rtB
  have e : (List.replicate k (126 : UInt8)).all (fun c => visB (c.toNat : Int)) = true := by
    rw [List.all_eq_true]
    intro x hx
    rw [(List.mem_replicate.1 hx).2]; decide
  rw [e, List.length_replicate, Bool.and_true]

set_option maxHeartbeats 1000000 in
theorem keyBytes_any (X : Option Addr) (n1 c1 : Nat) (b at_ n : Int) (w : World) (hX : Byts w X n1) (hn1 : n1 ≤ 9223372036854775807) (hb : 0 ≤ b ∧ b ≤ 255) (hat : 0 ≤ at_ ∧ at_ ≤ 255) (hn : 0 ≤ n ∧ n ≤ 255) :
    Calls Try.prog 6 #[.slice X n1 c1, .int .u8 b, .int .u8 at_, .int .u8 n] w fun e w' => e = .returned (.bool true) ∧ Below w.heap.size w w' := by
  have K0 := Lib.hid known_any
  have KX := Lib.hid (key_any X n1 c1 w hX hn1)
  obtain ⟨N, rfl⟩ : ∃ N : Nat, n = (N : Int) := ⟨n.toNat, by omega⟩
  obtain ⟨c, hc⟩ : ∃ c : UInt8, (c.toNat : Int) = b := ⟨UInt8.ofNat b.toNat, by simp; omega⟩
  have HC := Lib.hid hc
  clear hX hc
  go_enter Try.func6, Try.ntmps6
  go_wp2_with ((go_at_call 10; (refine KX.out.mono ?_); rintro e w1 ⟨s, rfl, hs, zs, g1⟩; refine stopHere ?_))
  unfold Stop
  have hL1 := hs.out.1.1
  obtain ⟨i, hi⟩ : ∃ i : Nat, at_ % ((s.size : Int) + 1) = (i : Int) := ⟨(at_ % ((s.size : Int) + 1)).toNat, by have := Int.emod_nonneg at_ (b := (s.size : Int) + 1) (by omega); omega⟩
  have hiL : i ≤ s.size := by have := Int.emod_lt_of_pos at_ (b := (s.size : Int) + 1) (by omega); omega
  have s1 := slice_front s i hiL
  have s2 := slice_back s i hiL
  have hcv := fun W => one_byte W c b HC.out
  have R1 := Lib.hid (rt_put hs.out i hiL c)
  have hAs : (s.extract 0 i).size ≤ 12 := by simp; omega
  have hCs : (s.extract i s.size).size ≤ 12 := by simp; omega
  have hBs : (ByteArray.mk #[c]).size = 1 := rfl
  have R0 := Lib.hid (rt_short hs.out)
  generalize s.extract 0 i = A at *
  generalize s.extract i s.size = C at *
  generalize ByteArray.mk #[c] = B at *
  go_wp2_with fail
  go_region
  have kg : Below w.heap.size w (w1.alloc (Obj.cells #[Value.int IntKind.u8 b] 5)).drew := (g1.alloc g1.size _).drew
  generalize (w1.alloc (Obj.cells #[Value.int IntKind.u8 b] 5)).drew = W at *
  have hT : (A ++ B ++ C).size ≤ 100 := by rw [ByteArray.size_append', ByteArray.size_append']; omega
  clear s1 s2 hcv hAs hCs hBs hs hi hiL hL1 g1
  generalize A ++ B ++ C = T at *
  go_wp2_with fail
  go_loop [12, 13] (fun l j => ∃ k : Nat, k ≤ N ∧ j = .int .i64 (k : Int) ∧ l = .string (reps 126 k)) (fun _ j => N - (intOf j).toNat)
  case atStart => exact ⟨0, Nat.zero_le _, rfl, rfl⟩
  case round =>
    obtain ⟨k, hk, rfl, rfl⟩ := hrel
    by_cases hlt : k < N
    · have la := fun W => reps_add Try.prog W 126 k (by omega)
      generalize reps 126 k = L at *
      generalize hL' : reps 126 (k + 1) = L' at *
      have HL := Lib.hid hL'
      clear hL'
      go_wp2
      go_round
      case rel => exact ⟨k + 1, by omega, by go_num, by rw [HL.out]⟩
      case measure => simp [intOf]; omega
    · obtain rfl : k = N := by omega
      have r0 := fun W => right_any s W (by omega)
      rw [R0.out] at r0
      have r1 := fun W => right_any T W (by omega)
      rw [R1.out, HC.out] at r1
      have r2 := fun W => right_any (reps 126 k) W (by rw [reps_size]; omega)
      rw [rt_reps] at r2
      generalize reps 126 k = L at *
      have wb : (decide ((32 : Int) < b) = false ∧ visB b = false) ∨ (decide ((32 : Int) < b) = true ∧ decide (b < 127) = false ∧ visB b = false) ∨ (decide ((32 : Int) < b) = true ∧ decide (b < 127) = true ∧ visB b = true) := by
        by_cases q1 : (32 : Int) < b
        · by_cases q2 : b < 127
          · exact .inr (.inr ⟨decide_eq_true q1, decide_eq_true q2, decide_eq_true ⟨by omega, by omega⟩⟩)
          · exact .inr (.inl ⟨decide_eq_true q1, decide_eq_false q2, decide_eq_false (by omega)⟩)
        · exact .inl ⟨decide_eq_false q1, decide_eq_false (by omega)⟩
      have wn : (k = 0 ∧ decide (1 ≤ k ∧ k ≤ 128) = false) ∨ (0 < k ∧ decide ((k : Int) ≤ 128) = false ∧ decide (1 ≤ k ∧ k ≤ 128) = false) ∨ (0 < k ∧ decide ((k : Int) ≤ 128) = true ∧ decide (1 ≤ k ∧ k ≤ 128) = true) := by
        by_cases q1 : 0 < k
        · by_cases q2 : (k : Int) ≤ 128
          · exact .inr (.inr ⟨q1, decide_eq_true q2, decide_eq_true ⟨by omega, by omega⟩⟩)
          · exact .inr (.inl ⟨q1, decide_eq_false q2, decide_eq_false (by omega)⟩)
        · exact .inl ⟨by omega, decide_eq_false (by omega)⟩
      generalize visB b = vb at *
      generalize decide (1 ≤ k ∧ k ≤ 128) = vn at *
      have H0 := Lib.hid r0
      have H1 := Lib.hid r1
      have H2 := Lib.hid r2
      clear r0 r1 r2 R0 R1 HC KX hk hlt
      rcases wb with ⟨q1, rfl⟩ | ⟨q1, q2, rfl⟩ | ⟨q1, q2, rfl⟩
      all_goals
        rcases wn with ⟨rfl, rfl⟩ | ⟨q3, q4, rfl⟩ | ⟨q3, q4, rfl⟩
        all_goals
          try have Q4 := Lib.hid q4
          go_wp2_with (first
            | (go_at_call 9; refine (K0.out _).mono ?_; rintro e w3 ⟨rfl, g3⟩)
            | (go_at_call 16; first
                | ((with_reducible refine (H0.out _).mono ?_); rintro e w4 ⟨rfl, rfl⟩)
                | ((with_reducible refine (H1.out _).mono ?_); rintro e w4 ⟨rfl, rfl⟩)
                | ((with_reducible refine (H2.out _).mono ?_); rintro e w4 ⟨rfl, rfl⟩)))
          go_ret
          refine ⟨?_, kbq kg g3⟩
          first
          | rfl
          | (show Ending.returned (Value.bool (!decide ((k : Int) ≤ 128))) = _
             rw [Q4.out]; rfl)
end Go.Proofs.Ytndipebpccdlfaa.Wd
