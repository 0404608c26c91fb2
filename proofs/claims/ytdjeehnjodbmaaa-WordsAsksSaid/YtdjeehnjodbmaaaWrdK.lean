/- What a text of choices is (tollerlaw10.Text): its bytes, in memory; no conditions but those that each names. -/
import Derived.Test.YtdjeehnjodbmaaaWrdT
namespace Go.Proofs.Ytdjeehnjodbmaaa.Wd
open Go Go.RowKit
set_option linter.unusedVariables false

theorem split_any (A : Option Addr) (N cap : Nat) (bs : List UInt8) (w : World) (hT : Txt w A N bs) (hcap : N ≤ cap) (hcm : cap ≤ 9223372036854775807) :
    Calls Try.prog 14 #[.slice A N cap] w (SplitPost w (spl bs)) := by
  by_cases h : N ≤ 1048576
  · exact split_short A N cap bs w hT h hcap hcm
  · exact split_long A N cap bs w hT (by omega) (by omega)

/-! ### Rows of bytes that are built -/
/-- The cells of bytes. -/
def bvs (l : List UInt8) : List Value := l.map fun b => Value.int .u8 (b.toNat : Int)
theorem bvs_append (a b : List UInt8) : bvs (a ++ b) = bvs a ++ bvs b := List.map_append
theorem bvs_length (a : List UInt8) : (bvs a).length = a.length := List.length_map _
theorem bvs_one (l : List UInt8) : ∀ u ∈ bvs l, u.oneCell' = true := by
  intro u hu
  obtain ⟨x, _, rfl⟩ := List.mem_map.1 hu
  rfl
/-- A row of bytes that is owned. -/
def BRow (w : World) (base : Nat) (v : Value) (l : List UInt8) : Prop := w.ownsRow base 5 1 v l.length (bvs l)
theorem BRow.nil (w : World) (base : Nat) : BRow w base (.slice none 0 0) [] := World.ownsRow_nil _ _ _ _
theorem BRow.txt {w : World} {base : Nat} {v : Value} {l : List UInt8} (h : BRow w base v l) : ∃ A c, v = .slice A l.length c ∧ l.length ≤ c ∧ c ≤ 9223372036854775807 ∧ Txt w A l.length l := by
  obtain ⟨A, c, rfl⟩ := own_slice h
  have hc := own_caps h
  refine ⟨A, c, rfl, hc.1, hc.2, rfl, fun h0 => ?_⟩
  obtain ⟨g, cap, e, _, hlt⟩ := h.form (by omega)
  simp only [Value.slice.injEq] at e
  obtain ⟨rfl, _, rfl⟩ := e
  refine ⟨g, 0, rfl, hlt, fun k hk => ?_⟩
  have := h.cellAt k (by omega)
  rw [Nat.zero_add, this, bvs, List.getElem?_map, List.getD_eq_getElem?_getD, List.getElem?_eq_getElem hk]; rfl
theorem infoByte : (Try.prog.info? 5).map (fun i => (i.zero, i.size, i.bytes)) = some (some (.int .u8 0), 1, 1) := by kernel_rfl

/-! ### A text of choices -/
def tab : List (List UInt8) := [[97], [98, 99], [32], [9], [10], [35], [120, 49], [10], [32], [32, 32], [115, 105, 122, 101], [100, 101, 102, 97, 117, 108, 116], [114, 117, 108, 101], [55], [127], [13]]
/-- The bytes of a choice. -/
def ch (x : UInt8) : List UInt8 := if x.toNat < 128 ∧ 13 < x.toNat % 16 then [121] else tab.getD (x.toNat % 16) []
/-- The bytes of choices. -/
def tx (cs : List UInt8) : List UInt8 := (cs.take 80).flatMap ch
theorem tab_len (j : Nat) : (tab.getD j []).length ≤ 7 := by
  rw [List.getD_eq_getElem?_getD]
  by_cases h : j < 16
  · match j, h with
    | 0, _ | 1, _ | 2, _ | 3, _ | 4, _ | 5, _ | 6, _ | 7, _ | 8, _ | 9, _ | 10, _ | 11, _ | 12, _ | 13, _ | 14, _ | 15, _ => decide
    | j + 16, h => omega
  · rw [List.getElem?_eq_none (by simp [tab]; omega)]; decide
theorem ch_len (x : UInt8) : (ch x).length ≤ 7 := by
  unfold ch
  split
  · decide
  · exact tab_len _
theorem flat_len (cs : List UInt8) : (cs.flatMap ch).length ≤ 7 * cs.length := by
  induction cs with
  | nil => simp
  | cons x cs ih => have := ch_len x; simp only [List.flatMap_cons, List.length_append, List.length_cons]; omega
theorem tx_len (cs : List UInt8) : (tx cs).length ≤ 560 := by
  have := flat_len (cs.take 80)
  have h : (cs.take 80).length ≤ 80 := List.length_take_le _ _
  unfold tx
  omega
theorem take_flat (cs : List UInt8) (k : Nat) (h : k < cs.length) : (cs.take (k + 1)).flatMap ch = (cs.take k).flatMap ch ++ ch (cs.getD k 0) := by
  rw [List.take_add_one, List.flatMap_append, List.getD_eq_getElem?_getD, List.getElem?_eq_getElem h]; simp

/-- The sixteen texts. -/
def tabV : Array Value := #[.string ⟨#[97]⟩, .string ⟨#[98, 99]⟩, .string ⟨#[32]⟩, .string ⟨#[9]⟩, .string ⟨#[10]⟩, .string ⟨#[35]⟩, .string ⟨#[120, 49]⟩, .string ⟨#[10]⟩, .string ⟨#[32]⟩, .string ⟨#[32, 32]⟩, .string ⟨#[115, 105, 122, 101]⟩, .string ⟨#[100, 101, 102, 97, 117, 108, 116]⟩, .string ⟨#[114, 117, 108, 101]⟩, .string ⟨#[55]⟩, .string ⟨#[127]⟩, .string ⟨#[13]⟩]
theorem tabV_at (W : World) (j : Nat) (h : j < 16) : (W.alloc (.cells tabV 9)).cell? ⟨W.heap.size, j, none⟩ = some (.string (str (tab.getD j []))) := by
  have e : (W.alloc (.cells tabV 9)).heap[W.heap.size]? = some (.cells tabV 9) := heap_alloc_new W _
  rw [cell_of_row _ _ _ _ _ _ e]
  match j, h with
  | 0, _ | 1, _ | 2, _ | 3, _ | 4, _ | 5, _ | 6, _ | 7, _ | 8, _ | 9, _ | 10, _ | 11, _ | 12, _ | 13, _ | 14, _ | 15, _ => rfl
  | j + 16, h => omega

set_option maxRecDepth 100000 in
set_option maxHeartbeats 1000000 in
theorem text_any (A : Option Addr) (N cap : Nat) (cs : List UInt8) (w : World) (hT : Txt w A N cs) (hN : N ≤ 9223372036854775807) :
    Calls Try.prog 11 #[.slice A N cap] w fun e w' => ∃ v, e = .returned v ∧ BRow w' w.heap.size v (tx cs) ∧ Below w.heap.size w w' := by
  obtain ⟨i0, hz, hz0, hz1, hz2⟩ := info_parts infoByte
  have HT := Lib.hid hT
  clear hT
  go_enter Try.func11, Try.ntmps11
  go_wp2
  go_loopw [3, 4] (fun v i wr => ∃ k : Nat, i = .int .i64 (k : Int) ∧ k ≤ 80 ∧ k ≤ N ∧ BRow wr w.heap.size v ((cs.take k).flatMap ch) ∧ Below w.heap.size w wr) (fun _ i _ => 80 - (intOf i).toNat)
  case atStart => exact ⟨0, rfl, by omega, by omega, BRow.nil _ _, Below.refl _ _⟩
  case round =>
    obtain ⟨k, rfl, hk, hkN, own, hB⟩ := hrel
    by_cases c1 : k < N
    · by_cases c2 : k < 80
      · obtain ⟨b, off, rfl, hb, hc⟩ := (HT.out.below hB).2 (by omega)
        have hx := hc k c1
        clear hc
        have HF := Lib.hid (take_flat cs k (by rw [HT.out.1]; exact c1))
        generalize cs.getD k 0 = x at *
        have hxl : x.toNat < 256 := x.toNat_lt
        obtain ⟨j, hj⟩ : ∃ j : Nat, j = x.toNat % 16 := ⟨_, rfl⟩
        have hj16 : j < 16 := by omega
        have hjx : (x.toNat : Int) % 16 = (j : Int) := by omega
        have htab := tabV_at wr j hj16
        have c3 : (k : Int) < 80 := by omega
        have HO := Lib.hid own
        have HJ := Lib.hid hj
        clear own hj
        unfold tabV at htab
        by_cases c3 : x.toNat < 128
        · have d3 : decide ((x.toNat : Int) < 128) = true := decide_eq_true (by omega)
          by_cases c4 : 13 < j
          · have hS0 : ch x = [121] := if_pos ⟨c3, by rw [← HJ.out]; exact c4⟩
            have HS := Lib.hid hS0
            generalize str (tab.getD j []) = S1 at htab
            have d4 : decide ((13 : Int) < (j : Int)) = true := decide_eq_true (by omega)
            go_wp2
            rw [show (⟨#[121]⟩ : ByteArray) = str [121] from rfl]
            generalize ([121] : List UInt8) = S0 at *
            have hsz : S0.length ≤ 7 := by rw [← HS.out]; exact ch_len x
            obtain ⟨sb, hsb⟩ : ∃ sb, sb = str S0 := ⟨_, rfl⟩
            have hsl : sb.size = S0.length := by rw [hsb]; rfl
            have HSB := Lib.hid hsb
            rw [← hsb]
            clear hsb hS0 htab hjx hj16 hxl hx hb
            (try clear d3)
            (try clear c3)
            (try clear c4)
            go_loopw [3, 6] (fun v i wr2 => ∃ m : Nat, i = .int .i64 (m : Int) ∧ m ≤ S0.length ∧ BRow wr2 w.heap.size v ((cs.take k).flatMap ch ++ S0.take m) ∧ Below w.heap.size w wr2) (fun _ i _ => S0.length - (intOf i).toNat)
            case atStart => exact ⟨0, rfl, Nat.zero_le _, by rw [List.take_zero, List.append_nil]; exact own_below HO.out ((Below.refl _ wr).alloc (Nat.le_refl _) _), hB.alloc hB.size _⟩
            case round =>
              obtain ⟨m, rfl, hm, own2, hB2⟩ := hrel
              by_cases c5 : m < S0.length
              · have c6 : m < sb.size := by omega
                have ht : ((cs.take k).flatMap ch ++ S0.take m).length ≤ 1000 := by
                  rw [List.length_append, List.length_take]
                  have := flat_len (cs.take k)
                  have h2 : (cs.take k).length ≤ k := List.length_take_le _ _
                  omega
                have HO2 := Lib.hid own2
                clear own2
                generalize hacc : (cs.take k).flatMap ch ++ S0.take m = acc at *
                have HACC := Lib.hid hacc
                have hbyte : sb[m] = S0[m] := by
                  have := HSB.out
                  subst this
                  rfl
                have HBY := Lib.hid hbyte
                clear hacc hbyte
                go_wp2_with ((at_builtin; refine stopHere ?_))
                unfold Stop
                have g0 := (Below.refl _ wr).alloc (Nat.le_refl _) (.cells #[Value.int .u8 (sb[m].toNat : Int)] 5)
                refine wpList_append_own _ rfl _ _ 22 rfl w.heap.size 5 i0 (.int .u8 0) 1 1 Try.underlying22 hz hz0 hz1 hz2 rfl (by decide) _ acc.length _ rfl (own_below HO2.out g0) ⟨wr.heap.size, 0, none⟩ 1 1 [Value.int .u8 (sb[m].toNat : Int)] rfl rfl (one_cell wr _ _) (by simp [Value.oneCell']) (by unfold maxLen; omega) (by omega) (by have := hB2.size; have := g0.size; omega) ?_
                intro v3 w3 own3 grow3 _
                have hB3 : Below w.heap.size w w3 := (kbq hB2 g0).grown grow3 (by have := hB2.size; have := g0.size; omega) (own_block HO2.out)
                have own4 : BRow w3 w.heap.size v3 ((cs.take k).flatMap ch ++ S0.take (m + 1)) := by
                  unfold BRow
                  rw [List.take_add_one, List.getElem?_eq_getElem c5, ← List.append_assoc, HACC.out, bvs_append, List.length_append]
                  have e1 : bvs (some S0[m]).toList = [Value.int .u8 (sb[m].toNat : Int)] := by rw [HBY.out]; rfl
                  rw [e1]
                  exact own3
                clear own3 grow3 HO2 g0
                go_wp2
                go_roundw
                case rel => exact ⟨m + 1, by go_num, by omega, own4, hB3⟩
                case measure => simp [intOf]; omega
              · obtain rfl : m = S0.length := by omega
                have own4 := own2
                rw [List.take_length, ← HS.out, ← HF.out] at own4
                have c7 : ¬ ((S0.length : Int) < (sb.size : Int)) := by omega
                clear own2
                go_wp2
                go_roundw
                case rel => exact ⟨k + 1, by go_num, by omega, by omega, own4, hB2⟩
                case measure => simp [intOf]; omega
          · have hS0 : ch x = tab.getD j [] := by rw [HJ.out]; exact if_neg (by rw [← HJ.out]; omega)
            have HS := Lib.hid hS0
            generalize tab.getD j [] = S0 at *
            go_wp2
            have hsz : S0.length ≤ 7 := by rw [← HS.out]; exact ch_len x
            obtain ⟨sb, hsb⟩ : ∃ sb, sb = str S0 := ⟨_, rfl⟩
            have hsl : sb.size = S0.length := by rw [hsb]; rfl
            have HSB := Lib.hid hsb
            rw [← hsb]
            clear hsb hS0 htab hjx hj16 hxl hx hb
            (try clear d3)
            (try clear c3)
            (try clear c4)
            go_loopw [3, 6] (fun v i wr2 => ∃ m : Nat, i = .int .i64 (m : Int) ∧ m ≤ S0.length ∧ BRow wr2 w.heap.size v ((cs.take k).flatMap ch ++ S0.take m) ∧ Below w.heap.size w wr2) (fun _ i _ => S0.length - (intOf i).toNat)
            case atStart => exact ⟨0, rfl, Nat.zero_le _, by rw [List.take_zero, List.append_nil]; exact own_below HO.out ((Below.refl _ wr).alloc (Nat.le_refl _) _), hB.alloc hB.size _⟩
            case round =>
              obtain ⟨m, rfl, hm, own2, hB2⟩ := hrel
              by_cases c5 : m < S0.length
              · have c6 : m < sb.size := by omega
                have ht : ((cs.take k).flatMap ch ++ S0.take m).length ≤ 1000 := by
                  rw [List.length_append, List.length_take]
                  have := flat_len (cs.take k)
                  have h2 : (cs.take k).length ≤ k := List.length_take_le _ _
                  omega
                have HO2 := Lib.hid own2
                clear own2
                generalize hacc : (cs.take k).flatMap ch ++ S0.take m = acc at *
                have HACC := Lib.hid hacc
                have hbyte : sb[m] = S0[m] := by
                  have := HSB.out
                  subst this
                  rfl
                have HBY := Lib.hid hbyte
                clear hacc hbyte
                go_wp2_with ((at_builtin; refine stopHere ?_))
                unfold Stop
                have g0 := (Below.refl _ wr).alloc (Nat.le_refl _) (.cells #[Value.int .u8 (sb[m].toNat : Int)] 5)
                refine wpList_append_own _ rfl _ _ 22 rfl w.heap.size 5 i0 (.int .u8 0) 1 1 Try.underlying22 hz hz0 hz1 hz2 rfl (by decide) _ acc.length _ rfl (own_below HO2.out g0) ⟨wr.heap.size, 0, none⟩ 1 1 [Value.int .u8 (sb[m].toNat : Int)] rfl rfl (one_cell wr _ _) (by simp [Value.oneCell']) (by unfold maxLen; omega) (by omega) (by have := hB2.size; have := g0.size; omega) ?_
                intro v3 w3 own3 grow3 _
                have hB3 : Below w.heap.size w w3 := (kbq hB2 g0).grown grow3 (by have := hB2.size; have := g0.size; omega) (own_block HO2.out)
                have own4 : BRow w3 w.heap.size v3 ((cs.take k).flatMap ch ++ S0.take (m + 1)) := by
                  unfold BRow
                  rw [List.take_add_one, List.getElem?_eq_getElem c5, ← List.append_assoc, HACC.out, bvs_append, List.length_append]
                  have e1 : bvs (some S0[m]).toList = [Value.int .u8 (sb[m].toNat : Int)] := by rw [HBY.out]; rfl
                  rw [e1]
                  exact own3
                clear own3 grow3 HO2 g0
                go_wp2
                go_roundw
                case rel => exact ⟨m + 1, by go_num, by omega, own4, hB3⟩
                case measure => simp [intOf]; omega
              · obtain rfl : m = S0.length := by omega
                have own4 := own2
                rw [List.take_length, ← HS.out, ← HF.out] at own4
                have c7 : ¬ ((S0.length : Int) < (sb.size : Int)) := by omega
                clear own2
                go_wp2
                go_roundw
                case rel => exact ⟨k + 1, by go_num, by omega, by omega, own4, hB2⟩
                case measure => simp [intOf]; omega
        · have d3 : decide ((x.toNat : Int) < 128) = false := decide_eq_false (by omega)
          have hS0 : ch x = tab.getD j [] := by rw [HJ.out]; exact if_neg (by omega)
          have HS := Lib.hid hS0
          generalize tab.getD j [] = S0 at *
          go_wp2
          have hsz : S0.length ≤ 7 := by rw [← HS.out]; exact ch_len x
          obtain ⟨sb, hsb⟩ : ∃ sb, sb = str S0 := ⟨_, rfl⟩
          have hsl : sb.size = S0.length := by rw [hsb]; rfl
          have HSB := Lib.hid hsb
          rw [← hsb]
          clear hsb hS0 htab hjx hj16 hxl hx hb
          (try clear d3)
          (try clear c3)
          (try clear c4)
          go_loopw [3, 6] (fun v i wr2 => ∃ m : Nat, i = .int .i64 (m : Int) ∧ m ≤ S0.length ∧ BRow wr2 w.heap.size v ((cs.take k).flatMap ch ++ S0.take m) ∧ Below w.heap.size w wr2) (fun _ i _ => S0.length - (intOf i).toNat)
          case atStart => exact ⟨0, rfl, Nat.zero_le _, by rw [List.take_zero, List.append_nil]; exact own_below HO.out ((Below.refl _ wr).alloc (Nat.le_refl _) _), hB.alloc hB.size _⟩
          case round =>
            obtain ⟨m, rfl, hm, own2, hB2⟩ := hrel
            by_cases c5 : m < S0.length
            · have c6 : m < sb.size := by omega
              have ht : ((cs.take k).flatMap ch ++ S0.take m).length ≤ 1000 := by
                rw [List.length_append, List.length_take]
                have := flat_len (cs.take k)
                have h2 : (cs.take k).length ≤ k := List.length_take_le _ _
                omega
              have HO2 := Lib.hid own2
              clear own2
              generalize hacc : (cs.take k).flatMap ch ++ S0.take m = acc at *
              have HACC := Lib.hid hacc
              have hbyte : sb[m] = S0[m] := by
                have := HSB.out
                subst this
                rfl
              have HBY := Lib.hid hbyte
              clear hacc hbyte
              go_wp2_with ((at_builtin; refine stopHere ?_))
              unfold Stop
              have g0 := (Below.refl _ wr).alloc (Nat.le_refl _) (.cells #[Value.int .u8 (sb[m].toNat : Int)] 5)
              refine wpList_append_own _ rfl _ _ 22 rfl w.heap.size 5 i0 (.int .u8 0) 1 1 Try.underlying22 hz hz0 hz1 hz2 rfl (by decide) _ acc.length _ rfl (own_below HO2.out g0) ⟨wr.heap.size, 0, none⟩ 1 1 [Value.int .u8 (sb[m].toNat : Int)] rfl rfl (one_cell wr _ _) (by simp [Value.oneCell']) (by unfold maxLen; omega) (by omega) (by have := hB2.size; have := g0.size; omega) ?_
              intro v3 w3 own3 grow3 _
              have hB3 : Below w.heap.size w w3 := (kbq hB2 g0).grown grow3 (by have := hB2.size; have := g0.size; omega) (own_block HO2.out)
              have own4 : BRow w3 w.heap.size v3 ((cs.take k).flatMap ch ++ S0.take (m + 1)) := by
                unfold BRow
                rw [List.take_add_one, List.getElem?_eq_getElem c5, ← List.append_assoc, HACC.out, bvs_append, List.length_append]
                have e1 : bvs (some S0[m]).toList = [Value.int .u8 (sb[m].toNat : Int)] := by rw [HBY.out]; rfl
                rw [e1]
                exact own3
              clear own3 grow3 HO2 g0
              go_wp2
              go_roundw
              case rel => exact ⟨m + 1, by go_num, by omega, own4, hB3⟩
              case measure => simp [intOf]; omega
            · obtain rfl : m = S0.length := by omega
              have own4 := own2
              rw [List.take_length, ← HS.out, ← HF.out] at own4
              have c7 : ¬ ((S0.length : Int) < (sb.size : Int)) := by omega
              clear own2
              go_wp2
              go_roundw
              case rel => exact ⟨k + 1, by go_num, by omega, by omega, own4, hB2⟩
              case measure => simp [intOf]; omega
      · obtain rfl : k = 80 := by omega
        go_wp2
        go_ret
        exact ⟨_, rfl, own, hB⟩
    · obtain rfl : k = N := by omega
      have e : tx cs = (cs.take k).flatMap ch := by
        unfold tx
        rw [List.take_of_length_le (by rw [HT.out.1]; exact hk), List.take_of_length_le (by rw [HT.out.1]; exact Nat.le_refl _)]
      have own2 := own
      rw [← e] at own2
      clear own
      go_wp2
      go_ret
      exact ⟨_, rfl, own2, hB⟩
end Go.Proofs.Ytdjeehnjodbmaaa.Wd
