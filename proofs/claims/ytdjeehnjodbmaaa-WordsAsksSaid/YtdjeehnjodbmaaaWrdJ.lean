/- What words.Join answers: the words of each line, a blank between, an end of a line behind each; no conditions but those that each names. -/
import Derived.Test.YtdjeehnjodbmaaaWrdL
import Derived.Lib.AppendStr
namespace Go.Proofs.Ytdjeehnjodbmaaa.Wd
open Go Go.RowKit
set_option linter.unusedVariables false
set_option linter.unusedSimpArgs false

/-! ### Lines of texts -/
def jw (b : Bool) : List (List UInt8) → List UInt8
  | [] => []
  | x :: r => (if b then [32] else []) ++ x ++ jw true r
def jn (lss : List (List (List UInt8))) : List UInt8 := lss.flatMap fun l => jw false l ++ [10]
theorem jw_snoc : ∀ (b : Bool) (a : List (List UInt8)) (x : List UInt8), jw b (a ++ [x]) = jw b a ++ ((if b = true ∨ a ≠ [] then [32] else []) ++ x)
  | b, [], x => by cases b <;> simp [jw]
  | b, y :: a, x => by
    rw [List.cons_append, jw, jw, jw_snoc true a x]
    simp
theorem jw_app : ∀ (b : Bool) (a c : List (List UInt8)), ∃ r, jw b (a ++ c) = jw b a ++ r
  | b, [], c => ⟨_, rfl⟩
  | b, y :: a, c => by
    obtain ⟨r, hr⟩ := jw_app true a c
    exact ⟨r, by rw [List.cons_append, jw, jw, hr]; simp⟩
theorem jw_take (xs : List (List UInt8)) (i : Nat) (h : i < xs.length) : jw false (xs.take (i + 1)) = jw false (xs.take i) ++ ((if 0 < i then [32] else []) ++ xs.getD i []) := by
  rw [List.take_add_one, List.getElem?_eq_getElem h, Option.toList_some, jw_snoc, List.getD_eq_getElem?_getD, List.getElem?_eq_getElem h, Option.getD_some]
  by_cases hi : 0 < i
  · rw [if_pos hi, if_pos (.inr (by intro e; have := congrArg List.length e; rw [List.length_take, List.length_nil] at this; omega))]
  · obtain rfl : i = 0 := by omega
    simp
theorem jn_take (lss : List (List (List UInt8))) (k : Nat) (h : k < lss.length) : jn (lss.take (k + 1)) = jn (lss.take k) ++ (jw false (lss.getD k []) ++ [10]) := by
  unfold jn
  rw [List.take_add_one, List.flatMap_append, List.getD_eq_getElem?_getD, List.getElem?_eq_getElem h]; simp
theorem jn_le (lss : List (List (List UInt8))) (k i : Nat) (h : k < lss.length) (hi : i ≤ (lss.getD k []).length) : (jn (lss.take k)).length + (jw false ((lss.getD k []).take i)).length + 1 ≤ (jn lss).length := by
  have e : jn lss = jn (lss.take (k + 1)) ++ jn (lss.drop (k + 1)) := by
    unfold jn; rw [← List.flatMap_append, List.take_append_drop]
  obtain ⟨r, hr⟩ := jw_app false ((lss.getD k []).take i) ((lss.getD k []).drop i)
  rw [List.take_append_drop] at hr
  rw [e, jn_take lss k h, hr]
  simp only [List.length_append, List.length_cons, List.length_nil]
  omega

/-- A row of texts. -/
def Sts (w : World) (A : Option Addr) (n : Nat) (xs : List (List UInt8)) : Prop :=
  xs.length = n ∧ (∀ x ∈ xs, x.length ≤ 9223372036854775807) ∧ (0 < n → ∃ b off, A = some ⟨b, off, none⟩ ∧ b < w.heap.size ∧ ∀ k, k < n → w.cell? ⟨b, off + k, none⟩ = some (.string (str (xs.getD k []))))
theorem Sts.below {w w' : World} {A : Option Addr} {n : Nat} {xs : List (List UInt8)} (h : Sts w A n xs) (k : Below w.heap.size w w') : Sts w' A n xs :=
  ⟨h.1, h.2.1, fun hn => by
    obtain ⟨b, off, e, hb, hc⟩ := h.2.2 hn
    exact ⟨b, off, e, Nat.lt_of_lt_of_le hb k.size, fun j hj => (k.cell (p := ⟨b, off + j, none⟩) hb).trans (hc j hj)⟩⟩
/-- A row of rows of texts. -/
def LRows (w : World) (A : Option Addr) (n : Nat) (lss : List (List (List UInt8))) : Prop :=
  lss.length = n ∧ (0 < n → ∃ b off, A = some ⟨b, off, none⟩ ∧ b < w.heap.size ∧ ∀ k, k < n → ∃ A' c', w.cell? ⟨b, off + k, none⟩ = some (.slice A' (lss.getD k []).length c') ∧ (lss.getD k []).length ≤ 9223372036854775807 ∧ Sts w A' (lss.getD k []).length (lss.getD k []))
theorem LRows.below {w w' : World} {A : Option Addr} {n : Nat} {lss : List (List (List UInt8))} (h : LRows w A n lss) (k : Below w.heap.size w w') : LRows w' A n lss :=
  ⟨h.1, fun hn => by
    obtain ⟨b, off, e, hb, hc⟩ := h.2 hn
    refine ⟨b, off, e, Nat.lt_of_lt_of_le hb k.size, fun j hj => ?_⟩
    obtain ⟨A', c', h1, h2, h3⟩ := hc j hj
    exact ⟨A', c', (k.cell (p := ⟨b, off + j, none⟩) hb).trans h1, h2, h3.below k⟩⟩
theorem str_cells (x : List UInt8) : Lib.strCells (str x) = bvs x := rfl

/-- A text behind bytes. -/
theorem wpList_app_text (w : World) {ops : Array Oper} {rest : List Oper} {o : Oper} {a : Act} {Q : Exit → Act → World → Prop} (hgd : o.guard = none) (s x : Operand)
    (ho : o.op = .call { callee := .builtin .append, args := #[s, x], argTypes := #[22, 9] })
    (base : Nat) (v : Value) (acc : List UInt8) (hs : a.eval s = v) (hown : BRow w base v acc) (l : List UInt8) (hx : a.eval x = .string (str l)) (hsz : acc.length + l.length ≤ 140737488355328) (hbase : base ≤ w.heap.size)
    (h : ∀ v' w', BRow w' base v' (acc ++ l) → w.grownBy w' v.ownBlock → wpList Try.prog ops Q rest (a.put o.dst v') w') : wpList Try.prog ops Q (o :: rest) a w := by
  obtain ⟨i0, hz, hz0, hz1, hz2⟩ := info_parts infoByte
  have hl : (str l).size = l.length := rfl
  refine Lib.wpList_append_own_string w hgd s x 22 9 ho base 5 i0 Try.underlying22 Try.underlying9 hz hz0 hz1 hz2 v acc.length (bvs acc) hs hown (str l) hx (by rw [hl]; unfold maxLen; omega) (by rw [hl]; omega) hbase ?_
  intro v' w' own grow _
  refine h v' w' ?_ grow
  unfold BRow
  rw [bvs_append, List.length_append]
  exact own

set_option maxRecDepth 100000 in
set_option maxHeartbeats 1000000 in
theorem join_any (A : Option Addr) (n cap : Nat) (lss : List (List (List UInt8))) (w : World) (h : LRows w A n lss) (hn : n ≤ 9223372036854775807) (hsz : (jn lss).length ≤ 1099511627776) :
    Calls Try.prog 12 #[.slice A n cap] w fun e w' => ∃ v, e = .returned v ∧ BRow w' w.heap.size v (jn lss) ∧ Below w.heap.size w w' := by
  have H := Lib.hid h
  have HS := Lib.hid hsz
  clear h
  go_enter Try.func12, Try.ntmps12
  go_wp2
  go_loopw [3, 10] (fun v i wr => ∃ k : Nat, k ≤ n ∧ i = .int .i64 (k : Int) ∧ BRow wr w.heap.size v (jn (lss.take k)) ∧ Below w.heap.size w wr) (fun _ i _ => n - (intOf i).toNat)
  case atStart => exact ⟨0, Nat.zero_le _, rfl, BRow.nil _ _, Below.refl _ _⟩
  case round =>
    obtain ⟨k, hk, rfl, own, hB⟩ := hrel
    by_cases hlt : k < n
    · obtain ⟨b, off, rfl, hb, hrow⟩ := H.out.2 (by omega)
      obtain ⟨A', c', hc, hrl, hst⟩ := hrow k hlt
      have hcw := (hB.cell (p := ⟨b, off + k, none⟩) hb).trans hc
      have HJT := Lib.hid (jn_take lss k (by rw [H.out.1]; exact hlt))
      have HLE := Lib.hid (fun i hi => jn_le lss k i (by rw [H.out.1]; exact hlt) hi)
      have HST := Lib.hid hst
      have HO := Lib.hid own
      clear hrow own hst hc
      generalize lss.getD k [] = row at *
      generalize jn (lss.take k) = acc at *
      go_wp2
      go_loopw [3, 16] (fun v i wr2 => ∃ j : Nat, j ≤ row.length ∧ i = .int .i64 (j : Int) ∧ BRow wr2 w.heap.size v (acc ++ jw false (row.take j)) ∧ Below w.heap.size w wr2) (fun _ i _ => row.length - (intOf i).toNat)
      case atStart => exact ⟨0, Nat.zero_le _, rfl, by rw [List.take_zero]; show BRow _ _ _ (acc ++ []); rw [List.append_nil]; exact HO.out, hB⟩
      case round =>
        obtain ⟨j, hj, rfl, own2, hB2⟩ := hrel
        by_cases hjl : j < row.length
        · obtain ⟨b2, off2, rfl, hb2, hc2⟩ := (HST.out.below hB2).2.2 (by omega)
          have hx := hc2 j hjl
          have hle := HLE.out (j + 1) (by omega)
          have hjt := jw_take row j hjl
          rw [hjt] at hle
          simp only [List.length_append] at hle
          have HJW := Lib.hid hjt
          have HO2 := Lib.hid own2
          have hs := HS.out
          clear hc2 own2 hjt
          generalize row.getD j [] = x at *
          generalize jw false (row.take j) = pre at *
          by_cases hj0 : 0 < j
          · rw [if_pos hj0] at hle
            have hj0' : decide ((0 : Int) < (j : Int)) = true := decide_eq_true (by omega)
            simp only [List.length_cons, List.length_nil] at hle
            go_wp2_with (at_builtin; refine stopHere ?_)
            unfold Stop
            have e0 := (Below.refl _ wr).alloc (Nat.le_refl _) (.cells #[.int .u8 32] 5)
            refine wpList_app_bytes _ rfl _ _ rfl w.heap.size _ (acc ++ pre) rfl (HO2.out.below e0) (some ⟨wr.heap.size, 0, none⟩) 1 1 [32] rfl (txt_one wr 32) (fun e => by cases e) (fun ad e => by cases e; rfl) (by rw [List.length_append]; omega) (kbq hB2 e0).size ?_
            intro v3 w3 own3 grow3
            have hB3 : Below w.heap.size w w3 := (kbq hB2 e0).grown grow3 (kbq hB2 e0).size (own_block HO2.out)
            have HO3 := Lib.hid own3
            clear own3 grow3
            go_wp2_with (at_builtin; refine stopHere ?_)
            unfold Stop
            refine wpList_app_text _ rfl _ _ rfl w.heap.size _ (acc ++ pre ++ [32]) rfl HO3.out x rfl (by simp only [List.length_append, List.length_cons, List.length_nil]; omega) hB3.size ?_
            intro v4 w4 own4 grow4
            have hB4 : Below w.heap.size w w4 := hB3.grown grow4 hB3.size (own_block HO3.out)
            have own5 : BRow w4 w.heap.size v4 (acc ++ jw false (row.take (j + 1))) := by
              rw [HJW.out, if_pos hj0]
              simp only [List.append_assoc] at own4 ⊢
              exact own4
            clear own4 grow4 HO3 HO2
            go_wp2
            go_roundw
            case rel => exact ⟨j + 1, by omega, by go_num, own5, hB4⟩
            case measure => simp [intOf]; omega
          · have hj0' : decide ((0 : Int) < (j : Int)) = false := decide_eq_false (by omega)
            rw [if_neg (by omega)] at hle
            simp only [List.length_nil] at hle
            go_wp2_with (at_builtin; refine stopHere ?_)
            unfold Stop
            refine wpList_app_text _ rfl _ _ rfl w.heap.size _ (acc ++ pre) rfl HO2.out x rfl (by rw [List.length_append]; omega) hB2.size ?_
            intro v4 w4 own4 grow4
            have hB4 : Below w.heap.size w w4 := hB2.grown grow4 hB2.size (own_block HO2.out)
            have own5 : BRow w4 w.heap.size v4 (acc ++ jw false (row.take (j + 1))) := by
              rw [HJW.out, if_neg (by omega), List.nil_append, ← List.append_assoc]
              exact own4
            clear own4 grow4 HO2
            go_wp2
            go_roundw
            case rel => exact ⟨j + 1, by omega, by go_num, own5, hB4⟩
            case measure => simp [intOf]; omega
        · obtain rfl : j = row.length := by omega
          have hle := HLE.out row.length (Nat.le_refl _)
          rw [List.take_length] at own2 hle
          have HO2 := Lib.hid own2
          have hs := HS.out
          clear own2
          have hnl : decide ((row.length : Int) < (row.length : Int)) = false := decide_eq_false (by omega)
          go_wp2_with (at_builtin; refine stopHere ?_)
          unfold Stop
          have e0 := (Below.refl _ wr).alloc (Nat.le_refl _) (.cells #[.int .u8 10] 5)
          refine wpList_app_bytes _ rfl _ _ rfl w.heap.size _ (acc ++ jw false row) rfl (HO2.out.below e0) (some ⟨wr.heap.size, 0, none⟩) 1 1 [10] rfl (txt_one wr 10) (fun e => by cases e) (fun ad e => by cases e; rfl) (by rw [List.length_append]; omega) (kbq hB2 e0).size ?_
          intro v3 w3 own3 grow3
          have hB3 : Below w.heap.size w w3 := (kbq hB2 e0).grown grow3 (kbq hB2 e0).size (own_block HO2.out)
          have own5 : BRow w3 w.heap.size v3 (jn (lss.take (k + 1))) := by
            rw [HJT.out, ← List.append_assoc]
            exact own3
          clear own3 grow3 HO2
          go_wp2
          go_roundw
          case rel => exact ⟨k + 1, by omega, by go_num, own5, hB3⟩
          case measure => simp [intOf]; omega
    · obtain rfl : k = n := by omega
      rw [List.take_of_length_le (by rw [H.out.1]; exact Nat.le_refl _)] at own
      go_wp2
      go_ret
      exact ⟨_, rfl, own, hB⟩
end Go.Proofs.Ytdjeehnjodbmaaa.Wd
