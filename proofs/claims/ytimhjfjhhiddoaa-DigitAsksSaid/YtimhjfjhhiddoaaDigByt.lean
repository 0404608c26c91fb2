/- tollerlaw03.DigitBytes answers true, for any number of 64 bits and any two of 8; no conditions. -/
import Derived.Test.YtimhjfjhhiddoaaDigK
namespace Go.Proofs.Ytimhjfjhhiddoaa.Wd
open Go.RowKit Go.Lib

theorem swap_plain (l : List UInt8) (i : Nat) (b : UInt8) (hl : plainB l = true) (hi : i < l.length) :
    plainB (l.take i ++ [b] ++ l.drop (i + 1)) = (digB b && !(decide (i = 0) && decide (b = 48) && decide (1 < l.length))) := by
  rw [plainB_iff] at hl
  obtain ⟨h1, h2, h3⟩ := hl
  have hlen : (l.take i ++ [b] ++ l.drop (i + 1)).length = l.length := by simp; omega
  have hall : (l.take i ++ [b] ++ l.drop (i + 1)).all digB = digB b := by
    rw [List.all_eq_true] at h3
    rw [List.all_append, List.all_append]
    have e1 : (l.take i).all digB = true := by rw [List.all_eq_true]; exact fun x hx => h3 x (List.mem_of_mem_take hx)
    have e2 : (l.drop (i + 1)).all digB = true := by rw [List.all_eq_true]; exact fun x hx => h3 x (List.mem_of_mem_drop hx)
    rw [e1, e2]; simp
  have hhead : (l.take i ++ [b] ++ l.drop (i + 1)).head? = if i = 0 then some b else l.head? := by
    cases i with
    | zero => simp
    | succ i =>
      cases l with
      | nil => simp at hi
      | cons c l => simp
  have hne : l.take i ++ [b] ++ l.drop (i + 1) ≠ [] := by intro e; rw [e] at hlen; simp at hlen; omega
  rw [Bool.eq_iff_iff, plainB_iff, hlen, hall, hhead]
  simp only [Bool.and_eq_true, Bool.not_eq_true', Bool.and_eq_false_iff, decide_eq_false_iff_not]
  by_cases hi0 : i = 0
  · subst hi0
    simp only [if_true, Option.some.injEq]
    constructor
    · rintro ⟨_, g, g'⟩
      refine ⟨g', ?_⟩
      by_cases hb : b = 48
      · exact Or.inr (fun h => g ⟨h, hb⟩)
      · exact Or.inl (Or.inr hb)
    · rintro ⟨g', g⟩
      refine ⟨hne, ?_, g'⟩
      rintro ⟨k1, k2⟩
      rcases g with (g | g) | g
      · exact g trivial
      · exact g k2
      · exact g k1
  · rw [if_neg hi0]
    exact ⟨fun g => ⟨g.2.2, Or.inl (Or.inl hi0)⟩, fun g => ⟨hne, h2, g.1⟩⟩

theorem pa_ten (l : List UInt8) : (paE l == 10) = !(plainB l) := by
  unfold paE
  by_cases h : plainB l = true
  · rw [if_pos h, h]; split <;> rfl
  · rw [if_neg h]; have h' : plainB l = false := by simpa using h
    rw [h']; rfl

/-- A text of one byte. -/
theorem one_byte (W : World) (c : UInt8) (b : Int) (h : (c.toNat : Int) = b) : (convert 26 9 (.slice (some ⟨W.heap.size, 0, none⟩) 1 1)).run Try.prog (W.alloc (.cells #[.int .u8 b] 5)).drew = .ok (.string (str [c])) (W.alloc (.cells #[.int .u8 b] 5)).drew :=
  run_convert_bytes_back _ 26 9 5 _ 1 [c] Try.underlying26 Try.underlying5 Try.underlying9 (fun j hj => by
    obtain rfl : j = 0 := by simpa using hj
    show (W.alloc (.cells #[.int .u8 b] 5)).drew.cell? ⟨W.heap.size, 0, none⟩ = some (.int .u8 (c.toNat : Int))
    rw [h]
    have e : (W.alloc (.cells #[.int .u8 b] 5)).drew.heap[W.heap.size]? = some (.cells #[.int .u8 b] 5) := heap_alloc_new W _
    rw [cell_of_row _ _ _ _ _ _ e]; rfl)

theorem bytes_any (n b k : Int) (w : World) (hn : 0 ≤ n ∧ n ≤ 18446744073709551615) (hb : 0 ≤ b ∧ b ≤ 255) (hk : 0 ≤ k ∧ k ≤ 255) :
    Calls Try.prog 7 #[.int .u64 n, .int .u8 b, .int .u8 k] w fun e w' => e = .returned (.bool true) ∧ Kept w w' := by
  obtain ⟨m, rfl⟩ : ∃ m : Nat, n = (m : Int) := ⟨n.toNat, by omega⟩
  have c1 := fun W => refPrint_any m W (by omega)
  have hsz := str_size (decDigits m)
  have hL20 := dec_len20 m (by omega)
  have hL1 := dec_len1 m
  obtain ⟨L, hL⟩ : ∃ L, L = (decDigits m).length := ⟨_, rfl⟩
  rw [← hL] at hsz hL20 hL1
  obtain ⟨i, hi⟩ : ∃ i : Nat, k % (L : Int) = (i : Int) := ⟨(k % (L : Int)).toNat, by have := Int.emod_nonneg k (b := (L : Int)) (by omega); omega⟩
  have hiL : i < L := by have := Int.emod_lt_of_pos k (b := (L : Int)) (by omega); omega
  have HL := Lib.hid hL
  clear hL
  generalize hS : str (decDigits m) = S at *
  have HS := Lib.hid hS
  clear hS
  have hs1 : ∀ W : World, (Instr.slice 9 (.string S) none (some (.int .i64 (i : Int))) none).run Try.prog W = .ok (.string (S.extract 0 i)) W := fun W => by
    rw [run_slice_string_to_if W 9 S .i64 (i : Int) Try.underlying9, if_pos (by omega)]; rfl
  have hs2 : ∀ W : World, (Instr.slice 9 (.string S) (some (.int .i64 ((i : Int) + 1))) none none).run Try.prog W = .ok (.string (S.extract (i + 1) S.size)) W := fun W => by
    rw [run_slice_string_from_if W 9 S .i64 ((i : Int) + 1) Try.underlying9, if_pos (by omega)]; rfl
  generalize hA : S.extract 0 i = A at *
  generalize hC : S.extract (i + 1) S.size = C at *
  have hAs : A.size = i := by rw [← hA]; simp; omega
  have hCs : C.size ≤ 20 := by rw [← hC]; simp; omega
  have HA := Lib.hid hA
  have HC := Lib.hid hC
  clear hA hC
  have hi8 : (i : Int) < 20 := by omega
  obtain ⟨c, hc⟩ : ∃ c : UInt8, (c.toNat : Int) = b := ⟨UInt8.ofNat b.toNat, by simp; omega⟩
  have hcv := fun W => one_byte W c b hc
  have hBs := str_size [c]
  rw [show [c].length = 1 from rfl] at hBs
  have DC := Lib.hid hc
  clear hc
  generalize hB : str [c] = B at *
  have HB := Lib.hid hB
  clear hB
  go_enter Try.func7, Try.ntmps7
  go_wp2_with (first
    | (go_at_call 10; (with_reducible refine (c1 _).mono ?_); rintro e w1 ⟨rfl, rfl⟩))
  go_region
  have hT : (A ++ B ++ C).data.toList = (decDigits m).take i ++ [c] ++ (decDigits m).drop (i + 1) := by
    have e1 : A = str ((decDigits m).take i) := by
      rw [← HA.out, ← HS.out]; unfold str; rw [ByteArray.extract_mk]; simp
    have e2 : C = str ((decDigits m).drop (i + 1)) := by
      rw [← HC.out, ← HS.out, str_size]; unfold str; rw [ByteArray.extract_mk]; congr 2
      exact List.take_of_length_le (by simp)
    rw [e1, e2, ← HB.out, str_append, str_append, str_data]
  have hE := pa_ten (A ++ B ++ C).data.toList
  rw [hT, swap_plain _ i c (plain_dec m) (by rw [← HL.out]; exact hiL), ← HL.out, ← hT] at hE
  have cp := fun W => parse_any (A ++ B ++ C) W (by rw [ByteArray.size_append', ByteArray.size_append']; omega)
  generalize paN (A ++ B ++ C).data.toList = xN at *
  generalize paE (A ++ B ++ C).data.toList = xE at *
  have hcn := DC.out
  have hdig : digB c = decide (48 ≤ b ∧ b ≤ 57) := by
    rw [Bool.eq_iff_iff, digB_iff]; simp only [decide_eq_true_eq]; omega
  have h48 : decide (c = 48) = decide (b = 48) := by
    rw [Bool.eq_iff_iff]; simp only [decide_eq_true_eq]
    rw [← UInt8.toNat_inj]
    show c.toNat = 48 ↔ _
    omega
  rw [hdig, h48] at hE
  clear hT hdig h48 hcn hs1 hs2 hcv c1 hAs hBs hCs
  have G := Lib.hid hE
  clear hE
  have kg : Kept w (w.alloc (Obj.cells #[Value.int IntKind.u8 b] 5)).drew := ((Kept.refl w).alloc _ _).drew
  by_cases b1 : b < 48
  · have hE : (xE == 10) = true := by rw [G.out]; simp; omega
    have b48 : (b == 48) = false := beq_eq_false_iff_ne.2 (by omega)
    by_cases i0 : (i : Int) = 0
    · rw [i0] at hi
      go_wp2_with (first
        | (go_at_call 14; (with_reducible refine (cp _).mono ?_); rintro e w2 ⟨rfl, g2⟩)
        | (go_at_call 9; refine (known_any _).mono ?_; rintro e w3 ⟨rfl, g3⟩))
      all_goals
        go_ret
        exact ⟨rfl, (kg.trans g2).trans g3⟩
    · have i0' : ((i : Int) == 0) = false := beq_eq_false_iff_ne.2 i0
      go_wp2_with (first
        | (go_at_call 14; (with_reducible refine (cp _).mono ?_); rintro e w2 ⟨rfl, g2⟩)
        | (go_at_call 9; refine (known_any _).mono ?_; rintro e w3 ⟨rfl, g3⟩))
      all_goals
        go_ret
        exact ⟨rfl, (kg.trans g2).trans g3⟩
  · by_cases b2 : 57 < b
    · have hE : (xE == 10) = true := by rw [G.out]; simp; omega
      have b48 : (b == 48) = false := beq_eq_false_iff_ne.2 (by omega)
      by_cases i0 : (i : Int) = 0
      · rw [i0] at hi
        go_wp2_with (first
          | (go_at_call 14; (with_reducible refine (cp _).mono ?_); rintro e w2 ⟨rfl, g2⟩)
          | (go_at_call 9; refine (known_any _).mono ?_; rintro e w3 ⟨rfl, g3⟩))
        all_goals
          go_ret
          exact ⟨rfl, (kg.trans g2).trans g3⟩
      · have i0' : ((i : Int) == 0) = false := beq_eq_false_iff_ne.2 i0
        go_wp2_with (first
          | (go_at_call 14; (with_reducible refine (cp _).mono ?_); rintro e w2 ⟨rfl, g2⟩)
          | (go_at_call 9; refine (known_any _).mono ?_; rintro e w3 ⟨rfl, g3⟩))
        all_goals
          go_ret
          exact ⟨rfl, (kg.trans g2).trans g3⟩
    · by_cases i0 : i = 0
      · subst i0
        by_cases b0 : b = 48
        · by_cases l1 : 1 < L
          · have hE : (xE == 10) = true := by rw [G.out]; simp; omega
            subst b0
            have l1' : (1 : Int) < (L : Int) := by omega
            go_wp2_with (first
              | (go_at_call 14; (with_reducible refine (cp _).mono ?_); rintro e w2 ⟨rfl, g2⟩)
              | (go_at_call 9; refine (known_any _).mono ?_; rintro e w3 ⟨rfl, g3⟩))
            all_goals
              go_ret
              exact ⟨rfl, (kg.trans g2).trans g3⟩
          · have hE : (xE == 10) = false := by rw [G.out]; simp; omega
            subst b0
            have l1' : decide ((1 : Int) < (L : Int)) = false := decide_eq_false (by omega)
            go_wp2_with (first
              | (go_at_call 14; (with_reducible refine (cp _).mono ?_); rintro e w2 ⟨rfl, g2⟩)
              | (go_at_call 9; refine (known_any _).mono ?_; rintro e w3 ⟨rfl, g3⟩))
            all_goals
              go_ret
              exact ⟨rfl, (kg.trans g2).trans g3⟩
        · have hE : (xE == 10) = false := by rw [G.out]; simp; omega
          have b48 : (b == 48) = false := beq_eq_false_iff_ne.2 b0
          go_wp2_with (first
            | (go_at_call 14; (with_reducible refine (cp _).mono ?_); rintro e w2 ⟨rfl, g2⟩)
            | (go_at_call 9; refine (known_any _).mono ?_; rintro e w3 ⟨rfl, g3⟩))
          all_goals
            go_ret
            exact ⟨rfl, (kg.trans g2).trans g3⟩
      · have hE : (xE == 10) = false := by rw [G.out]; simp; omega
        have i0' : ((i : Int) == 0) = false := beq_eq_false_iff_ne.2 (by omega)
        go_wp2_with (first
          | (go_at_call 14; (with_reducible refine (cp _).mono ?_); rintro e w2 ⟨rfl, g2⟩)
          | (go_at_call 9; refine (known_any _).mono ?_; rintro e w3 ⟨rfl, g3⟩))
        all_goals
          go_ret
          exact ⟨rfl, (kg.trans g2).trans g3⟩
end Go.Proofs.Ytimhjfjhhiddoaa.Wd
