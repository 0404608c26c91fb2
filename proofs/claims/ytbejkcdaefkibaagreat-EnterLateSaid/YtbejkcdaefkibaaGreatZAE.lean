/- siftDown_func, heapSort_func, reverseRange_func of package sort, at keys; no conditions but those that each names. heapSort_func, reverseRange_func of package sort, at keys; no conditions but those that each names. partition_func, partitionEqual_func of package sort, at keys; no conditions but those that each names. partitionEqual_func of package sort, at keys; no conditions but those that each names. partialInsertionSort_func of package sort, at keys; no conditions but those that each names. order2_func, median_func, medianAdjacent_func, choosePivot_func of package sort, at keys: a place within; no conditions but those that each names. choosePivot_func of package sort, at keys: a place within; no conditions but those that each names. breakPatterns_func of package sort, at keys: exchanges within; no conditions but those that each names. pdqsort_func of package sort, at keys; sort.Slice of any number of keys; no conditions but those that each names. key.Sorted; elder words keep: Same, stay; no conditions but those that each names. keep: part, parted; no conditions but those that each names. Rows of texts that a call owns; table's wrongSlot; no conditions but those that each names. table's wrong, Of; no conditions but those that each names. keep: who stays, as data; no conditions but those that each names. keep: Keep, Lost; no conditions but those that each names. keep: Lost; no conditions but those that each names. keep: the chapter's example (known); no conditions but those that each names. What came in: rules by value; no conditions but those that each names. -/
import Derived.Test.YtbejkcdaefkibaaGreatZAC
import Derived.Deep.CutRange
import Derived.Deep.CutBlock
import Derived.BigQuiet
import Derived.Sort.LotB
import Derived.Sort.LotC
import Derived.Sort.LotD3
import Derived.Test.YtbejkcdaefkibaaGreatZAD
import Derived.WalkKit
import Derived.Laws.Bits64b
import Derived.Below
import Derived.Deep.Draws
import Derived.Test.YtbejkcdaefkibaaGreatRows
import Derived.RangeFuncNested
import Derived.RangeFuncBound
import Derived.RangeFuncCalls
import Derived.RangeFuncLeaves
import Derived.Shelf.Abstract
import Derived.Shelf.RegionOpen
import Derived.OwnWalkIn
import Derived.TacticsInMore
import Derived.LoopNIn
import Derived.LoopIn
import Derived.Lib.Hide
import Derived.ProofKit
import Derived.Handy
import Derived.LoopTactic
import Derived.Deep.RegionHeld3
import Derived.Deep.QuietTactic
import Derived.OwnWalk
import Derived.Laws.OwnMore
import Derived.Laws.StructEq
import Derived.Deep.AppendLies
import Derived.Test.YtbejkcdaefkibaaGreatZAB
import Derived.Deep.Slices
import Derived.OpenShut
import Derived.SizedLaws
namespace Go.Proofs.YtbejkcdaefkibaaGreat.Wd
open Go Go.RowKit Go.Deep
set_option linter.unusedVariables false
set_option maxRecDepth 100000

section
variable {α : Type} [Inhabited α] (lt : α → α → Bool) (hi first root : Nat) (d : Array α)
theorem sd_stop (h : hi ≤ 2 * root + 1) : Sort.siftDown lt hi first root d = d := by
  rw [Sort.siftDown, dif_pos h]
theorem sd_r_no (h1 : ¬ hi ≤ 2 * root + 1) (h : 2 * root + 2 < hi ∧ lt d[first + (2 * root + 1)]! d[first + (2 * root + 1) + 1]! = true) (hl : lt d[first + root]! d[first + (2 * root + 2)]! = false) : Sort.siftDown lt hi first root d = d := by
  rw [Sort.siftDown, dif_neg h1]
  simp [h.1, h.2, hl]
theorem sd_r_go (h1 : ¬ hi ≤ 2 * root + 1) (h : 2 * root + 2 < hi ∧ lt d[first + (2 * root + 1)]! d[first + (2 * root + 1) + 1]! = true) (hl : lt d[first + root]! d[first + (2 * root + 2)]! = true) : Sort.siftDown lt hi first root d = Sort.siftDown lt hi first (2 * root + 2) (Sort.swp d (first + root) (first + (2 * root + 2))) := by
  rw [Sort.siftDown, dif_neg h1]
  simp [h.1, h.2, hl]
theorem sd_l_no (h1 : ¬ hi ≤ 2 * root + 1) (h : ¬ (2 * root + 2 < hi ∧ lt d[first + (2 * root + 1)]! d[first + (2 * root + 1) + 1]! = true)) (hl : lt d[first + root]! d[first + (2 * root + 1)]! = false) : Sort.siftDown lt hi first root d = d := by
  have hc : (decide (2 * root + 1 + 1 < hi) && lt d[first + (2 * root + 1)]! d[first + (2 * root + 1) + 1]!) = false := by
    rw [← Bool.not_eq_true]; intro e; rw [Bool.and_eq_true, decide_eq_true_eq] at e; exact h e
  rw [Sort.siftDown, dif_neg h1, if_neg (by rw [hc]; decide), if_pos (by rw [hl]; rfl)]
theorem sd_l_go (h1 : ¬ hi ≤ 2 * root + 1) (h : ¬ (2 * root + 2 < hi ∧ lt d[first + (2 * root + 1)]! d[first + (2 * root + 1) + 1]! = true)) (hl : lt d[first + root]! d[first + (2 * root + 1)]! = true) : Sort.siftDown lt hi first root d = Sort.siftDown lt hi first (2 * root + 1) (Sort.swp d (first + root) (first + (2 * root + 1))) := by
  have hc : (decide (2 * root + 1 + 1 < hi) && lt d[first + (2 * root + 1)]! d[first + (2 * root + 1) + 1]!) = false := by
    rw [← Bool.not_eq_true]; intro e; rw [Bool.and_eq_true, decide_eq_true_eq] at e; exact h e
  rw [Sort.siftDown, dif_neg h1, if_neg (by rw [hc]; decide), if_neg (by rw [hl]; decide)]
end
section
variable {KB RX cap n sf : Nat} {sb : Array Value}
set_option maxHeartbeats 2000000 in
theorem sift_any (hsw : SwapC sf sb KB RX cap n) (hls : LessC KB RX cap n) (hn : n ≤ 1099511627776) (lo hi first : Nat) (hlo : lo ≤ hi) (hbn : first + hi ≤ n) (W : World) (d : Array ByteArray) (hS : SoT W KB RX cap d) (hd : d.size = n) :
    Calls Tryz.prog 249 #[datV RX sf sb, .int .i64 (lo : Int), .int .i64 (hi : Int), .int .i64 (first : Int)] W fun e w' => e = .returned (.tuple #[]) ∧ SoT w' KB RX cap (Sort.siftDown ltK hi first lo d) ∧ Tch (one KB) W w' := by
  have HS := Lib.hid hsw
  have HL := Lib.hid hls
  have hlt := hS.lt
  have S0 := hS.alloc (boxO RX sf sb)
  clear hsw hls hS
  go_enter Tryz.func249, Tryz.ntmps249
  go_wp2
  have b0 : (W.alloc (boxO RX sf sb)).cell? ⟨W.heap.size, 0, none⟩ = some (lesV RX) := by simp
  have b1 : (W.alloc (boxO RX sf sb)).cell? ⟨W.heap.size, 1, none⟩ = some (.func (Fn.func sf) #[] sb) := by simp
  have g0 : Tch (one KB) W (W.alloc (boxO RX sf sb)) := .of ((Below.refl _ W).alloc (Nat.le_refl _) _)
  have nb : ¬ one KB W.heap.size := by show ¬ W.heap.size = KB; omega
  generalize hW : World.alloc _ _ = W1 at *
  clear hW
  go_loopw [8] (fun i wr => ∃ (root : Nat) (e : Array ByteArray), i = .int .i64 (root : Int) ∧ root ≤ hi ∧ e.size = n ∧ SoT wr KB RX cap e ∧ Hid (Sort.siftDown ltK hi first root e = Sort.siftDown ltK hi first lo d) ∧ Tch (one KB) W1 wr) (fun i _ => hi - (intOf i).toNat)
  case atStart => exact ⟨lo, d, rfl, hlo, hd, S0, Lib.hid rfl, .refl _ _⟩
  case round =>
    obtain ⟨root, e, rfl, hr, he, hS, heq, hT⟩ := hrel
    clear S0
    have c0 := tcell hT nb b0
    have c1 := tcell hT nb b1
    have j0 : ((first + root : Nat) : Int) = (first : Int) + (root : Int) := by omega
    by_cases h1 : hi ≤ 2 * root + 1
    · have q1 : (hi : Int) ≤ 2 * (root : Int) + 1 := by omega
      have HN := Lib.hid (heq.out.symm.trans (sd_stop _ _ _ _ _ h1))
      clear heq
      go_wp2
      go_end0
      exact ⟨rfl, by rw [HN.out]; exact hS, g0.trans hT⟩
    · have q1 : ¬ (hi : Int) ≤ 2 * (root : Int) + 1 := by omega
      by_cases h2 : 2 * root + 2 < hi
      · have q2 : 2 * (root : Int) + 1 + 1 < (hi : Int) := by omega
        have k1 : ((first + (2 * root + 1) : Nat) : Int) = (first : Int) + (2 * (root : Int) + 1) := by omega
        have k2 : ((first + (2 * root + 1) + 1 : Nat) : Int) = (first : Int) + (2 * (root : Int) + 1) + 1 := by omega
        have C1 := fun V (g : SoT V KB RX cap e) => HL.out V e (first + (2 * root + 1)) (first + (2 * root + 1) + 1) g he (by omega) (by omega)
        rw [k1, k2] at C1
        cases hl : ltK e[first + (2 * root + 1)]! e[first + (2 * root + 1) + 1]! with
        | true =>
          rw [hl] at C1
          have CC1 := Lib.hid C1
          clear C1 k1 k2
          have j1 : ((first + (2 * root + 2) : Nat) : Int) = (first : Int) + (2 * (root : Int) + 1 + 1) := by omega
          have C2 := fun V (g : SoT V KB RX cap e) => HL.out V e (first + root) (first + (2 * root + 2)) g he (by omega) (by omega)
          rw [j0, j1] at C2
          cases hl2 : ltK e[first + root]! e[first + (2 * root + 2)]! with
          | false =>
            rw [hl2] at C2
            have HN := Lib.hid (heq.out.symm.trans (sd_r_no _ _ _ _ _ h1 ⟨h2, hl⟩ hl2))
            have CC2 := Lib.hid C2
            clear hl2 C2 j0 j1 heq
            go_wp2_with (first
              | (go_at_call 167; (with_reducible refine (CC1.out _ hS).mono ?_); rintro e8 w8 ⟨rfl, kb⟩; replace hT := hT.trans (Tch.of kb); replace hS := hS.below kb; replace c0 := celln kb c0; replace c1 := celln kb c1; clear kb)
              | (go_at_call 167; (with_reducible refine (CC2.out _ hS).mono ?_); rintro e9 w9 ⟨rfl, kb⟩; replace hT := hT.trans (Tch.of kb); replace hS := hS.below kb))
            (try simp only [Exit.inBlock, Exit.then])
            refine bodyPost_ret (results_none rfl _ _ _) rfl ?_
            exact ⟨rfl, by rw [HN.out]; exact hS, g0.trans hT⟩
          | true =>
            rw [hl2] at C2
            have HN := Lib.hid ((sd_r_go _ _ _ _ _ h1 ⟨h2, hl⟩ hl2).symm.trans heq.out)
            have CC2 := Lib.hid C2
            have HW := fun V (g : SoT V KB RX cap e) => HS.out V e (first + root) (first + (2 * root + 2)) g he (by omega) (by omega)
            rw [j0, j1] at HW
            have HSW := Lib.hid HW
            clear hl2 C2 j0 j1 heq HW
            go_wp2_with (first
              | (go_at_call 167; (with_reducible refine (CC1.out _ hS).mono ?_); rintro e8 w8 ⟨rfl, kb⟩; replace hT := hT.trans (Tch.of kb); replace hS := hS.below kb; replace c0 := celln kb c0; replace c1 := celln kb c1; clear kb)
              | (go_at_call 167; (with_reducible refine (CC2.out _ hS).mono ?_); rintro e9 w9 ⟨rfl, kb⟩; replace hT := hT.trans (Tch.of kb); replace hS := hS.below kb; obtain ⟨W', hrun, hS', hg'⟩ := HSW.out _ hS; have d1 := celln kb c1; have G := hT.trans hg'; clear c0 c1))
            go_roundw
            case rel => exact ⟨2 * root + 2, _, by go_num, by omega, (Sort.size_swp _ _ _).trans he, hS', HN, G⟩
            case measure => simp [intOf]; omega
        | false =>
          rw [hl] at C1
          have CC1 := Lib.hid C1
          have hx : ¬ (2 * root + 2 < hi ∧ ltK e[first + (2 * root + 1)]! e[first + (2 * root + 1) + 1]! = true) := fun x => by rw [hl] at x; exact absurd x.2 (by decide)
          clear C1 k1 k2 hl
          have j1 : ((first + (2 * root + 1) : Nat) : Int) = (first : Int) + (2 * (root : Int) + 1) := by omega
          have C2 := fun V (g : SoT V KB RX cap e) => HL.out V e (first + root) (first + (2 * root + 1)) g he (by omega) (by omega)
          rw [j0, j1] at C2
          cases hl2 : ltK e[first + root]! e[first + (2 * root + 1)]! with
          | false =>
            rw [hl2] at C2
            have HN := Lib.hid (heq.out.symm.trans (sd_l_no _ _ _ _ _ h1 hx hl2))
            have CC2 := Lib.hid C2
            clear hl2 C2 j0 j1 heq
            go_wp2_with (first
              | (go_at_call 167; (with_reducible refine (CC1.out _ hS).mono ?_); rintro e8 w8 ⟨rfl, kb⟩; replace hT := hT.trans (Tch.of kb); replace hS := hS.below kb; replace c0 := celln kb c0; replace c1 := celln kb c1; clear kb)
              | (go_at_call 167; (with_reducible refine (CC2.out _ hS).mono ?_); rintro e9 w9 ⟨rfl, kb⟩; replace hT := hT.trans (Tch.of kb); replace hS := hS.below kb))
            (try simp only [Exit.inBlock, Exit.then])
            refine bodyPost_ret (results_none rfl _ _ _) rfl ?_
            exact ⟨rfl, by rw [HN.out]; exact hS, g0.trans hT⟩
          | true =>
            rw [hl2] at C2
            have HN := Lib.hid ((sd_l_go _ _ _ _ _ h1 hx hl2).symm.trans heq.out)
            have CC2 := Lib.hid C2
            have HW := fun V (g : SoT V KB RX cap e) => HS.out V e (first + root) (first + (2 * root + 1)) g he (by omega) (by omega)
            rw [j0, j1] at HW
            have HSW := Lib.hid HW
            clear hl2 C2 j0 j1 heq HW
            go_wp2_with (first
              | (go_at_call 167; (with_reducible refine (CC1.out _ hS).mono ?_); rintro e8 w8 ⟨rfl, kb⟩; replace hT := hT.trans (Tch.of kb); replace hS := hS.below kb; replace c0 := celln kb c0; replace c1 := celln kb c1; clear kb)
              | (go_at_call 167; (with_reducible refine (CC2.out _ hS).mono ?_); rintro e9 w9 ⟨rfl, kb⟩; replace hT := hT.trans (Tch.of kb); replace hS := hS.below kb; obtain ⟨W', hrun, hS', hg'⟩ := HSW.out _ hS; have d1 := celln kb c1; have G := hT.trans hg'; clear c0 c1))
            go_roundw
            case rel => exact ⟨2 * root + 1, _, by go_num, by omega, (Sort.size_swp _ _ _).trans he, hS', HN, G⟩
            case measure => simp [intOf]; omega
      · have q2 : ¬ 2 * (root : Int) + 1 + 1 < (hi : Int) := by omega
        have q2' := decide_eq_false q2
        have hx : ¬ (2 * root + 2 < hi ∧ ltK e[first + (2 * root + 1)]! e[first + (2 * root + 1) + 1]! = true) := fun x => h2 x.1
        have j1 : ((first + (2 * root + 1) : Nat) : Int) = (first : Int) + (2 * (root : Int) + 1) := by omega
        have C2 := fun V (g : SoT V KB RX cap e) => HL.out V e (first + root) (first + (2 * root + 1)) g he (by omega) (by omega)
        rw [j0, j1] at C2
        cases hl2 : ltK e[first + root]! e[first + (2 * root + 1)]! with
        | false =>
          rw [hl2] at C2
          have HN := Lib.hid (heq.out.symm.trans (sd_l_no _ _ _ _ _ h1 hx hl2))
          have CC2 := Lib.hid C2
          clear hl2 C2 j0 j1 heq
          go_wp2_with (first
            | (go_at_call 167; (with_reducible refine (CC2.out _ hS).mono ?_); rintro e9 w9 ⟨rfl, kb⟩; replace hT := hT.trans (Tch.of kb); replace hS := hS.below kb))
          (try simp only [Exit.inBlock, Exit.then])
          refine bodyPost_ret (results_none rfl _ _ _) rfl ?_
          exact ⟨rfl, by rw [HN.out]; exact hS, g0.trans hT⟩
        | true =>
          rw [hl2] at C2
          have HN := Lib.hid ((sd_l_go _ _ _ _ _ h1 hx hl2).symm.trans heq.out)
          have CC2 := Lib.hid C2
          have HW := fun V (g : SoT V KB RX cap e) => HS.out V e (first + root) (first + (2 * root + 1)) g he (by omega) (by omega)
          rw [j0, j1] at HW
          have HSW := Lib.hid HW
          clear hl2 C2 j0 j1 heq HW
          go_wp2_with (first
            | (go_at_call 167; (with_reducible refine (CC2.out _ hS).mono ?_); rintro e9 w9 ⟨rfl, kb⟩; replace hT := hT.trans (Tch.of kb); replace hS := hS.below kb; obtain ⟨W', hrun, hS', hg'⟩ := HSW.out _ hS; have d1 := celln kb c1; have G := hT.trans hg'; clear c0 c1))
          go_roundw
          case rel => exact ⟨2 * root + 1, _, by go_num, by omega, (Sort.size_swp _ _ _).trans he, hS', HN, G⟩
          case measure => simp [intOf]; omega
end
end Go.Proofs.YtbejkcdaefkibaaGreat.Wd
namespace Go.Proofs.YtbejkcdaefkibaaGreat.Wd
open Go Go.RowKit Go.Deep
set_option linter.unusedVariables false
set_option maxRecDepth 100000

theorem size_sd (lt : ByteArray → ByteArray → Bool) (hi first : Nat) : ∀ (m root : Nat) (d : Array ByteArray), hi - root ≤ m → (Sort.siftDown lt hi first root d).size = d.size
  | 0, root, d, h => by rw [sd_stop _ _ _ _ _ (by omega)]
  | m + 1, root, d, h => by
    by_cases h1 : hi ≤ 2 * root + 1
    · rw [sd_stop _ _ _ _ _ h1]
    · by_cases hx : 2 * root + 2 < hi ∧ lt d[first + (2 * root + 1)]! d[first + (2 * root + 1) + 1]! = true
      · cases hl : lt d[first + root]! d[first + (2 * root + 2)]! with
        | false => rw [sd_r_no _ _ _ _ _ h1 hx hl]
        | true => rw [sd_r_go _ _ _ _ _ h1 hx hl, size_sd lt hi first m _ _ (by omega), Sort.size_swp]
      · cases hl : lt d[first + root]! d[first + (2 * root + 1)]! with
        | false => rw [sd_l_no _ _ _ _ _ h1 hx hl]
        | true => rw [sd_l_go _ _ _ _ _ h1 hx hl, size_sd lt hi first m _ _ (by omega), Sort.size_swp]
section
variable {KB RX cap n sf : Nat} {sb : Array Value}
set_option maxHeartbeats 2000000 in
theorem heap_any (hsw : SwapC sf sb KB RX cap n) (hls : LessC KB RX cap n) (hn : n ≤ 1099511627776) (a b : Nat) (hab : a < b) (hbn : b ≤ n) (W : World) (d : Array ByteArray) (hS : SoT W KB RX cap d) (hd : d.size = n) :
    Calls Tryz.prog 238 #[datV RX sf sb, .int .i64 (a : Int), .int .i64 (b : Int)] W fun e w' => e = .returned (.tuple #[]) ∧ SoT w' KB RX cap (Sort.heapSort ltK d a b) ∧ Tch (one KB) W w' := by
  have HS := Lib.hid hsw
  have hba : ((b - a : Nat) : Int) = (b : Int) - (a : Int) := by omega
  have SD := fun (lo hi : Nat) (V : World) (e : Array ByteArray) (g : SoT V KB RX cap e) (he : e.size = n) (hlo : lo ≤ hi) (hh : a + hi ≤ n) => sift_any hsw hls hn lo hi a hlo hh V e g he
  have SB := fun (lo : Nat) (V : World) (e : Array ByteArray) (g : SoT V KB RX cap e) (he : e.size = n) (hlo : lo ≤ b - a) => SD lo (b - a) V e g he hlo (by omega)
  rw [hba] at SB
  have HSD := Lib.hid SD
  have HSB := Lib.hid SB
  have hlt := hS.lt
  have S0 := hS.alloc (boxO RX sf sb)
  clear hsw hls hS SD SB
  have t0 : ((b : Int) - (a : Int) - 1).tdiv 2 = (((b - a - 1) / 2 : Nat) : Int) := by
    rw [Int.tdiv_eq_ediv_of_nonneg (by omega)]; omega
  go_enter Tryz.func238, Tryz.ntmps238
  go_wp2
  have b0 : (W.alloc (boxO RX sf sb)).cell? ⟨W.heap.size, 0, none⟩ = some (lesV RX) := by simp
  have b1 : (W.alloc (boxO RX sf sb)).cell? ⟨W.heap.size, 1, none⟩ = some (.func (Fn.func sf) #[] sb) := by simp
  have g0 : Tch (one KB) W (W.alloc (boxO RX sf sb)) := .of ((Below.refl _ W).alloc (Nat.le_refl _) _)
  have nb : ¬ one KB W.heap.size := by show ¬ W.heap.size = KB; omega
  generalize hW : World.alloc _ _ = W1 at *
  clear hW hba
  go_loopw [9] (fun i wr => ∃ (k : Nat) (z : Int) (e : Array ByteArray), i = .int .i64 z ∧ Hid (z = (k : Int) - 1) ∧ k ≤ (b - a - 1) / 2 + 1 ∧ e.size = n ∧ SoT wr KB RX cap e ∧ Hid (Sort.heapBuild ltK (b - a) a k e = Sort.heapBuild ltK (b - a) a ((b - a - 1) / 2 + 1) d) ∧ Tch (one KB) W1 wr) (fun i _ => (intOf i + 1).toNat)
  case atStart => exact ⟨(b - a - 1) / 2 + 1, _, d, rfl, Lib.hid (by first | omega | (rw [t0]; omega)), Nat.le_refl _, hd, S0, Lib.hid rfl, .refl _ _⟩
  case round =>
    obtain ⟨k, z, e, rfl, hz, hk, he, hS, heq, hT⟩ := hrel
    clear S0 t0
    have c0 := tcell hT nb b0
    have c1 := tcell hT nb b1
    cases k with
    | succ k =>
      obtain rfl : z = (k : Int) := by have := hz.out; omega
      have q0 : (0 : Int) ≤ (k : Int) := by omega
      have C := Lib.hid (HSB.out k wr e hS he (by omega))
      have HN := Lib.hid (show Sort.heapBuild ltK (b - a) a k (Sort.siftDown ltK (b - a) a k e) = Sort.heapBuild ltK (b - a) a ((b - a - 1) / 2 + 1) d from heq.out)
      clear hz heq
      go_wp2_with (go_at_call 249; (with_reducible refine C.out.mono ?_); rintro e9 w9 ⟨rfl, hS9, hg9⟩)
      go_roundw
      case rel => exact ⟨k, _, _, rfl, Lib.hid (by omega), by omega, (size_sd _ _ _ _ _ _ (Nat.le_refl _)).trans he, hS9, HN, hT.trans hg9⟩
      case measure => simp [intOf] <;> omega
    | zero =>
      obtain rfl : z = -1 := by have := hz.out; omega
      have HB := Lib.hid heq.out
      clear heq hz
      go_wp2
      go_loopw [10] (fun i wr2 => ∃ (k : Nat) (z : Int) (f : Array ByteArray), i = .int .i64 z ∧ Hid (z = (k : Int) - 1) ∧ k ≤ b - a ∧ f.size = n ∧ SoT wr2 KB RX cap f ∧ Hid (Sort.heapPop ltK a k f = Sort.heapPop ltK a (b - a) e) ∧ Tch (one KB) W1 wr2) (fun i _ => (intOf i + 1).toNat)
      case atStart => exact ⟨b - a, _, e, rfl, Lib.hid (by omega), Nat.le_refl _, he, hS, Lib.hid rfl, hT⟩
      case round =>
        obtain ⟨k, z, f, rfl, hz, hk, hf, hS2, heq2, hT2⟩ := hrel
        clear hS hT c0 c1
        have c0 := tcell hT2 nb b0
        have c1 := tcell hT2 nb b1
        cases k with
        | succ k =>
          obtain rfl : z = (k : Int) := by have := hz.out; omega
          have q0 : (0 : Int) ≤ (k : Int) := by omega
          have j1 : ((a + k : Nat) : Int) = (a : Int) + (k : Int) := by omega
          have HW := HS.out wr f a (a + k) hS2 hf (by omega) (by omega)
          rw [j1] at HW
          obtain ⟨W', hrun, hS', hg'⟩ := HW
          have d0 := tcell hg' (show ¬ one KB W.heap.size from nb) c0
          have d1 := tcell hg' (show ¬ one KB W.heap.size from nb) c1
          have C := HSD.out 0 k W' _ hS' ((Sort.size_swp _ _ _).trans hf) (Nat.zero_le _) (by omega)
          rw [show ((0 : Nat) : Int) = 0 from rfl] at C
          have HC := Lib.hid C
          have HN := Lib.hid (show Sort.heapPop ltK a k (Sort.siftDown ltK k a 0 (Sort.swp f a (a + k))) = Sort.heapPop ltK a (b - a) e from heq2.out)
          clear hz heq2 C hS2
          go_wp2_with (go_at_call 249; (with_reducible refine HC.out.mono ?_); rintro e9 w9 ⟨rfl, hS9, hg9⟩)
          go_roundw
          case rel => exact ⟨k, _, _, rfl, Lib.hid (by omega), by omega, (size_sd _ _ _ _ _ _ (Nat.le_refl _)).trans ((Sort.size_swp _ _ _).trans hf), hS9, HN, (hT2.trans hg').trans hg9⟩
          case measure => simp [intOf] <;> omega
        | zero =>
          obtain rfl : z = -1 := by have := hz.out; omega
          have HN : Hid (Sort.heapSort ltK d a b = f) := Lib.hid (by
            show Sort.heapPop ltK a (b - a) (Sort.heapBuild ltK (b - a) a ((b - a - 1) / 2 + 1) d) = f
            rw [← HB.out]
            exact heq2.out.symm)
          clear hz heq2
          go_wp2
          go_end0
          exact ⟨rfl, by rw [HN.out]; exact hS2, g0.trans hT2⟩
set_option maxHeartbeats 1000000 in
theorem rev_any (hsw : SwapC sf sb KB RX cap n) (hn : n ≤ 1099511627776) (a b : Nat) (hab : a < b) (hbn : b ≤ n) (W : World) (d : Array ByteArray) (hS : SoT W KB RX cap d) (hd : d.size = n) :
    Calls Tryz.prog 241 #[datV RX sf sb, .int .i64 (a : Int), .int .i64 (b : Int)] W fun e w' => e = .returned (.tuple #[]) ∧ SoT w' KB RX cap (Sort.reverseRange d a b) ∧ Tch (one KB) W w' := by
  have HS := Lib.hid hsw
  have hlt := hS.lt
  have S0 := hS.alloc (boxO RX sf sb)
  clear hsw hS
  go_enter Tryz.func241, Tryz.ntmps241
  go_wp2
  have b0 : (W.alloc (boxO RX sf sb)).cell? ⟨W.heap.size, 0, none⟩ = some (lesV RX) := by simp
  have b1 : (W.alloc (boxO RX sf sb)).cell? ⟨W.heap.size, 1, none⟩ = some (.func (Fn.func sf) #[] sb) := by simp
  have g0 : Tch (one KB) W (W.alloc (boxO RX sf sb)) := .of ((Below.refl _ W).alloc (Nat.le_refl _) _)
  have nb : ¬ one KB W.heap.size := by show ¬ W.heap.size = KB; omega
  generalize hW : World.alloc _ _ = W1 at *
  clear hW
  go_loopw [6, 7] (fun i j wr => ∃ (p q : Nat) (z : Int) (e : Array ByteArray), i = .int .i64 (p : Int) ∧ j = .int .i64 z ∧ Hid (z = (q : Int)) ∧ (p ≤ b ∧ q < b) ∧ e.size = n ∧ SoT wr KB RX cap e ∧ Hid (Sort.reverseLoop p q e = Sort.reverseLoop a (b - 1) d) ∧ Tch (one KB) W1 wr) (fun i _ _ => b - (intOf i).toNat)
  case atStart => exact ⟨a, b - 1, _, d, rfl, rfl, Lib.hid (by omega), ⟨by omega, by omega⟩, hd, S0, Lib.hid rfl, .refl _ _⟩
  case round =>
    obtain ⟨p, q, z, e, rfl, rfl, hz, ⟨hp, hq⟩, he, hS, heq, hT⟩ := hrel
    obtain rfl := hz.out
    clear S0 hz
    have c0 := tcell hT nb b0
    have c1 := tcell hT nb b1
    by_cases h : p < q
    · have q1 : (p : Int) < (q : Int) := by omega
      obtain ⟨W', hrun, hS', hg'⟩ := HS.out wr e p q hS he (by omega) (by omega)
      have HN := Lib.hid (show Sort.reverseLoop (p + 1) (q - 1) (Sort.swp e p q) = Sort.reverseLoop a (b - 1) d from by have z := heq.out; rw [Sort.reverseLoop, if_pos h] at z; exact z)
      clear heq hS
      go_wp2
      go_roundw
      case rel => exact ⟨p + 1, q - 1, _, _, by go_num, rfl, Lib.hid (by omega), ⟨by omega, by omega⟩, (Sort.size_swp _ _ _).trans he, hS', HN, hT.trans hg'⟩
      case measure => simp [intOf] <;> omega
    · have q1 : ¬ (p : Int) < (q : Int) := by omega
      have HN := Lib.hid (show e = Sort.reverseRange d a b from by have z := heq.out; rw [Sort.reverseLoop, if_neg h] at z; exact z)
      clear heq
      go_wp2
      go_end0
      exact ⟨rfl, by rw [← HN.out]; exact hS, g0.trans hT⟩
end
end Go.Proofs.YtbejkcdaefkibaaGreat.Wd
namespace Go.Proofs.YtbejkcdaefkibaaGreat.Wd
open Go Go.RowKit Go.Deep
set_option linter.unusedVariables false
set_option maxRecDepth 100000

section
variable {α : Type} [Inhabited α]
theorem sup_go (p : α → Bool) (d : Array α) (j i : Nat) (h : i ≤ j) (hp : p d[i]! = true) : Sort.scanUp p d j i = Sort.scanUp p d j (i + 1) := by
  rw [Sort.scanUp, if_pos (by rw [decide_eq_true h, hp]; rfl)]
theorem sup_stop (p : α → Bool) (d : Array α) (j i : Nat) (h : ¬ (i ≤ j ∧ p d[i]! = true)) : Sort.scanUp p d j i = i := by
  rw [Sort.scanUp, if_neg (by rw [Bool.and_eq_true, decide_eq_true_eq]; exact h)]
theorem sdn_go (p : α → Bool) (d : Array α) (i j : Nat) (h : i ≤ j) (h0 : 0 < j) (hp : p d[j]! = true) : Sort.scanDown p d i j = Sort.scanDown p d i (j - 1) := by
  cases j with
  | zero => omega
  | succ j => rw [Sort.scanDown, if_pos (by rw [decide_eq_true h, hp]; rfl)]; rfl
theorem sdn_stop (p : α → Bool) (d : Array α) (i j : Nat) (h : ¬ (i ≤ j ∧ p d[j]! = true)) : Sort.scanDown p d i j = j := by
  cases j with
  | zero => rfl
  | succ j => rw [Sort.scanDown, if_neg (by rw [Bool.and_eq_true, decide_eq_true_eq]; exact h)]
theorem part_yes (lt : α → α → Bool) {d e : Array α} {a b pivot I J : Nat} (he : Sort.swp d a pivot = e) (h : Sort.scanUp (fun x => lt x e[a]!) e (b - 1) (a + 1) = I) (h2 : Sort.scanDown (fun x => !lt x e[a]!) e I (b - 1) = J) (h3 : J < I) : Sort.partition lt d a b pivot = (J, true, Sort.swp e J a) := by
  subst he; subst h; subst h2
  unfold Sort.partition
  exact if_pos h3
theorem part_no (lt : α → α → Bool) {d e : Array α} {a b pivot I J : Nat} (he : Sort.swp d a pivot = e) (h : Sort.scanUp (fun x => lt x e[a]!) e (b - 1) (a + 1) = I) (h2 : Sort.scanDown (fun x => !lt x e[a]!) e I (b - 1) = J) (h3 : ¬ J < I) :
    Sort.partition lt d a b pivot = ((Sort.partLoop lt a (I + 1) (J - 1) (Sort.swp e I J)).1, false, Sort.swp (Sort.partLoop lt a (I + 1) (J - 1) (Sort.swp e I J)).2 (Sort.partLoop lt a (I + 1) (J - 1) (Sort.swp e I J)).1 a) := by
  subst he; subst h; subst h2
  unfold Sort.partition
  exact if_neg h3
theorem pl_end (lt : α → α → Bool) {e : Array α} {a i j I J : Nat} (h : Sort.scanUp (fun x => lt x e[a]!) e j i = I) (h2 : Sort.scanDown (fun x => !lt x e[a]!) e I j = J) (h3 : J < I) : Sort.partLoop lt a i j e = (J, e) := by
  subst h; subst h2
  rw [Sort.partLoop_eq]; exact if_pos h3
theorem pl_go (lt : α → α → Bool) {e : Array α} {a i j I J : Nat} (h : Sort.scanUp (fun x => lt x e[a]!) e j i = I) (h2 : Sort.scanDown (fun x => !lt x e[a]!) e I j = J) (h3 : ¬ J < I) : Sort.partLoop lt a i j e = Sort.partLoop lt a (I + 1) (J - 1) (Sort.swp e I J) := by
  subst h; subst h2
  rw [Sort.partLoop_eq]; exact if_neg h3
theorem pe_end (lt : α → α → Bool) {e : Array α} {a i j I J : Nat} (h : Sort.scanUp (fun x => !lt e[a]! x) e j i = I) (h2 : Sort.scanDown (fun x => lt e[a]! x) e I j = J) (h3 : J < I) : Sort.partEqLoop lt a i j e = (I, e) := by
  subst h; subst h2
  rw [Sort.partEqLoop_eq]; exact if_pos h3
theorem pe_go (lt : α → α → Bool) {e : Array α} {a i j I J : Nat} (h : Sort.scanUp (fun x => !lt e[a]! x) e j i = I) (h2 : Sort.scanDown (fun x => lt e[a]! x) e I j = J) (h3 : ¬ J < I) : Sort.partEqLoop lt a i j e = Sort.partEqLoop lt a (I + 1) (J - 1) (Sort.swp e I J) := by
  subst h; subst h2
  rw [Sort.partEqLoop_eq]; exact if_neg h3
end
section
variable {KB RX cap n sf : Nat} {sb : Array Value}
set_option maxHeartbeats 4000000 in
theorem part_any (hsw : SwapC sf sb KB RX cap n) (hls : LessC KB RX cap n) (hn : n ≤ 1099511627776) (a b pivot : Nat) (hap : a ≤ pivot) (hpb : pivot < b) (hbn : b ≤ n) (W : World) (d : Array ByteArray) (hS : SoT W KB RX cap d) (hd : d.size = n) :
    Calls Tryz.prog 244 #[datV RX sf sb, .int .i64 (a : Int), .int .i64 (b : Int), .int .i64 (pivot : Int)] W fun e w' => e = .returned (.tuple #[.int .i64 ((Sort.partition ltK d a b pivot).1 : Int), .bool (Sort.partition ltK d a b pivot).2.1]) ∧ SoT w' KB RX cap ((Sort.partition ltK d a b pivot).2.2) ∧ Tch (one KB) W w' := by
  have HS := Lib.hid hsw
  have HL := Lib.hid hls
  have hlt := hS.lt
  have S0 := hS.alloc (boxO RX sf sb)
  have g0 : Tch (one KB) W (W.alloc (boxO RX sf sb)) := .of ((Below.refl _ W).alloc (Nat.le_refl _) _)
  have b0 : (W.alloc (boxO RX sf sb)).cell? ⟨W.heap.size, 0, none⟩ = some (lesV RX) := by simp
  have b1 : (W.alloc (boxO RX sf sb)).cell? ⟨W.heap.size, 1, none⟩ = some (.func (Fn.func sf) #[] sb) := by simp
  have nb : ¬ one KB W.heap.size := by show ¬ W.heap.size = KB; omega
  clear hsw hls hS
  go_enter Tryz.func244, Tryz.ntmps244
  (try simp only [List.append_eq, List.cons_append, List.nil_append])
  obtain ⟨J, hJ⟩ : ∃ J, b - 1 = J := ⟨_, rfl⟩
  have hJb : (b : Int) - 1 = (J : Int) := by omega
  go_upto_region 1 with fail
  generalize hW : World.alloc _ _ = W1 at *
  clear hW
  obtain ⟨W2, hrun, hS, hT⟩ := HS.out W1 d a pivot S0 hd (by omega) (by omega)
  have he0 : (Sort.swp d a pivot).size = n := (Sort.size_swp _ _ _).trans hd
  obtain ⟨e0, hE0⟩ : ∃ e0, Sort.swp d a pivot = e0 := ⟨_, rfl⟩
  rw [hE0] at hS he0
  have HE0 := Lib.hid hE0
  clear hE0 S0
  go_upto_block 0 with fail
  (try rw [hJb])
  clear hrun
  obtain ⟨I0, hI⟩ : ∃ I0, Sort.scanUp (fun x => ltK x e0[a]!) e0 J (a + 1) = I0 := ⟨_, rfl⟩
  have hI1 : a + 1 ≤ I0 := by rw [← hI]; exact Sort.scanUp_ge _ _ _ _
  have HI0 := Lib.hid hI
  clear hI
  go_cut [10] from 21 to 32 (fun v wx => v = .int .i64 (I0 : Int) ∧ I0 ≤ b + 1 ∧ Hid (SoT wx KB RX cap e0) ∧ Hid (Tch (one KB) W1 wx))
  case first =>
    go_wp2_with fail
    go_loopw [10] (fun v wr => ∃ i : Nat, v = .int .i64 (i : Int) ∧ (a + 1 ≤ i ∧ i ≤ b + 1) ∧ SoT wr KB RX cap e0 ∧ Hid (Sort.scanUp (fun x => ltK x e0[a]!) e0 J i = I0) ∧ Tch (one KB) W1 wr) (fun v _ => b + 2 - (intOf v).toNat)
    case atStart => exact ⟨a + 1, by go_num, ⟨by omega, by omega⟩, hS, HI0, hT⟩
    case round =>
      obtain ⟨i, rfl, ⟨hi1, hi2⟩, hSr, hIr, hTr⟩ := hrel
      clear hS hT
      have c0 := tcell hTr nb b0
      by_cases q : i ≤ J
      · have q' : (i : Int) ≤ (J : Int) := by omega
        have C := HL.out wr e0 i a hSr he0 (by omega) (by omega)
        cases hl : ltK e0[i]! e0[a]! with
        | true =>
          rw [hl] at C
          have HN := Lib.hid ((sup_go (fun x => ltK x e0[a]!) e0 J i q (by simp [hl])).symm.trans hIr.out)
          have CC := Lib.hid C
          clear hl C hIr
          go_wp2_with (go_at_call 167; (with_reducible refine CC.out.mono ?_); rintro e9 w9 ⟨rfl, kb⟩)
          go_roundw
          case rel => exact ⟨i + 1, by go_num, ⟨by omega, by omega⟩, hSr.below kb, HN, hTr.trans (Tch.of kb)⟩
          case measure => simp [intOf] <;> omega
        | false =>
          rw [hl] at C
          have HN := Lib.hid ((sup_stop (fun x => ltK x e0[a]!) e0 J i (fun x => by simp [hl] at x)).symm.trans hIr.out)
          have CC := Lib.hid C
          clear hl C hIr
          go_wp2_with (go_at_call 167; (with_reducible refine CC.out.mono ?_); rintro e9 w9 ⟨rfl, kb⟩)
          go_meet
          case rel => exact ⟨by rw [HN.out], by rw [← HN.out]; exact hi2, Lib.hid (hSr.below kb), Lib.hid (hTr.trans (Tch.of kb))⟩
      · have q' := decide_eq_false (show ¬ (i : Int) ≤ (J : Int) by omega)
        have HN := Lib.hid ((sup_stop (fun x => ltK x e0[a]!) e0 J i (fun x => q x.1)).symm.trans hIr.out)
        clear hIr
        go_wp2
        go_meet
        case rel => exact ⟨by rw [HN.out], by rw [← HN.out]; exact hi2, Lib.hid hSr, Lib.hid hTr⟩
  case rest =>
  clear hS hT
  obtain ⟨rfl, hI2, hS0, hT0⟩ := hcut
  have hS := hS0.out
  have hT := hT0.out
  clear hS0 hT0
  obtain ⟨J0, hJ⟩ : ∃ J0, Sort.scanDown (fun x => !ltK x e0[a]!) e0 I0 J = J0 := ⟨_, rfl⟩
  have hJ1 : J0 ≤ J := by rw [← hJ]; exact Sort.scanDown_le _ _ _ _
  have HJ0 := Lib.hid hJ
  clear hJ
  go_upto_block 2 with fail
  go_cut [11] from 33 to 45 (fun v wx => v = .int .i64 (J0 : Int) ∧ Hid (SoT wx KB RX cap e0) ∧ Hid (Tch (one KB) W1 wx))
  case first =>
    go_wp2_with fail
    go_loopw [11] (fun v wr => ∃ j : Nat, v = .int .i64 (j : Int) ∧ j ≤ J ∧ SoT wr KB RX cap e0 ∧ Hid (Sort.scanDown (fun x => !ltK x e0[a]!) e0 I0 j = J0) ∧ Tch (one KB) W1 wr) (fun v _ => (intOf v).toNat)
    case atStart => exact ⟨J, rfl, Nat.le_refl _, hS, HJ0, hT⟩
    case round =>
      obtain ⟨j, rfl, hj1, hSr, hJr, hTr⟩ := hrel
      clear hS hT
      have c0 := tcell hTr nb b0
      by_cases q : I0 ≤ j
      · have q' : (I0 : Int) ≤ (j : Int) := by omega
        have C := HL.out wr e0 j a hSr he0 (by omega) (by omega)
        cases hl : ltK e0[j]! e0[a]! with
        | false =>
          rw [hl] at C
          have HN := Lib.hid ((sdn_go (fun x => !ltK x e0[a]!) e0 I0 j q (by omega) (by simp [hl])).symm.trans hJr.out)
          have CC := Lib.hid C
          clear hl C hJr
          go_wp2_with (go_at_call 167; (with_reducible refine CC.out.mono ?_); rintro e9 w9 ⟨rfl, kb⟩)
          go_roundw
          case rel => exact ⟨j - 1, congrArg (Value.int .i64) (by omega), by omega, hSr.below kb, HN, hTr.trans (Tch.of kb)⟩
          case measure => simp [intOf] <;> omega
        | true =>
          rw [hl] at C
          have HN := Lib.hid ((sdn_stop (fun x => !ltK x e0[a]!) e0 I0 j (fun x => by simp [hl] at x)).symm.trans hJr.out)
          have CC := Lib.hid C
          clear hl C hJr
          go_wp2_with (go_at_call 167; (with_reducible refine CC.out.mono ?_); rintro e9 w9 ⟨rfl, kb⟩)
          go_meet
          case rel => exact ⟨by rw [HN.out], Lib.hid (hSr.below kb), Lib.hid (hTr.trans (Tch.of kb))⟩
      · have q' := decide_eq_false (show ¬ (I0 : Int) ≤ (j : Int) by omega)
        have HN := Lib.hid ((sdn_stop (fun x => !ltK x e0[a]!) e0 I0 j (fun x => q x.1)).symm.trans hJr.out)
        clear hJr
        go_wp2
        go_meet
        case rel => exact ⟨by rw [HN.out], Lib.hid hSr, Lib.hid hTr⟩
  case rest =>
  clear hS hT
  obtain ⟨rfl, hS0, hT0⟩ := hcut
  have hS := hS0.out
  have hT := hT0.out
  clear hS0 hT0
  have c0 := tcell hT nb b0
  have c1 := tcell hT nb b1
  by_cases h : J0 < I0
  · have h' : (J0 : Int) < (I0 : Int) := by omega
    have HP := Lib.hid (part_yes ltK HE0.out (by rw [hJ]; exact HI0.out) (by rw [hJ]; exact HJ0.out) h)
    obtain ⟨W3, hrun, hS3, hg3⟩ := HS.out _ e0 J0 a hS he0 (by omega) (by omega)
    clear hS
    go_wp2
    go_ret2
    refine ⟨by (rw [HP.out]) <;> rfl, by rw [HP.out]; exact hS3, g0.trans (hT.trans hg3)⟩
  · have h' : ¬ (J0 : Int) < (I0 : Int) := by omega
    have h'' := decide_eq_false h'
    have HP := Lib.hid (part_no ltK HE0.out (by rw [hJ]; exact HI0.out) (by rw [hJ]; exact HJ0.out) h)
    obtain ⟨W3, hrun, hS3, hg3⟩ := HS.out _ e0 I0 J0 hS he0 (by omega) (by omega)
    have he1 : (Sort.swp e0 I0 J0).size = n := (Sort.size_swp _ _ _).trans he0
    have hT3 := hT.trans hg3
    obtain ⟨R, hR⟩ : ∃ R, Sort.partLoop ltK a (I0 + 1) (J0 - 1) (Sort.swp e0 I0 J0) = R := ⟨_, rfl⟩
    rw [hR] at HP
    have HR := Lib.hid hR
    have j1 : (J0 : Int) - 1 = ((J0 - 1 : Nat) : Int) := by omega
    clear hS hT hg3 hR HI0 HJ0
    go_upto_block 4 with fail
    (try rw [j1])
    clear hrun j1 c0 c1 h' h''
    go_wp2_with fail
    go_loopw [10, 11] (fun x y wr => ∃ (i j : Nat) (e : Array ByteArray), x = .int .i64 (i : Int) ∧ y = .int .i64 (j : Int) ∧ (a + 1 ≤ i ∧ i ≤ b + 1) ∧ (a ≤ j ∧ j < b) ∧ e.size = n ∧ Hid (SoT wr KB RX cap e) ∧ Hid (Sort.partLoop ltK a i j e = R) ∧ Hid (Tch (one KB) W1 wr)) (fun x _ _ => b + 2 - (intOf x).toNat)
    case atStart => exact ⟨I0 + 1, J0 - 1, _, by go_num, rfl, ⟨by omega, by omega⟩, ⟨by omega, by omega⟩, he1, Lib.hid hS3, HR, Lib.hid hT3⟩
    case round =>
      obtain ⟨i0, j0, e, rfl, rfl, ⟨hi1, hi2⟩, ⟨hj1, hj2⟩, he, hSe, hPL, hTe⟩ := hrel
      have hS := hSe.out
      have hT := hTe.out
      clear hS3 hT3 hSe hTe HR he1
      obtain ⟨I2, hI⟩ : ∃ I0, Sort.scanUp (fun x => ltK x e[a]!) e j0 (i0) = I0 := ⟨_, rfl⟩
      have hI1 : i0 ≤ I2 := by rw [← hI]; exact Sort.scanUp_ge _ _ _ _
      have HI2 := Lib.hid hI
      clear hI
      go_upto_block 6 with fail
      go_cut [10] from 64 to 75 (fun v wx => v = .int .i64 (I2 : Int) ∧ I2 ≤ b + 1 ∧ Hid (SoT wx KB RX cap e) ∧ Hid (Tch (one KB) W1 wx))
      case first =>
        go_wp2_with fail
        go_loopw [10] (fun v wr => ∃ i : Nat, v = .int .i64 (i : Int) ∧ (a + 1 ≤ i ∧ i ≤ b + 1) ∧ SoT wr KB RX cap e ∧ Hid (Sort.scanUp (fun x => ltK x e[a]!) e j0 i = I2) ∧ Tch (one KB) W1 wr) (fun v _ => b + 2 - (intOf v).toNat)
        case atStart => exact ⟨i0, rfl, ⟨by omega, by omega⟩, hS, HI2, hT⟩
        case round =>
          obtain ⟨i, rfl, ⟨hi1, hi2⟩, hSr, hIr, hTr⟩ := hrel
          clear hS hT
          have c0 := tcell hTr nb b0
          by_cases q : i ≤ j0
          · have q' : (i : Int) ≤ (j0 : Int) := by omega
            have C := HL.out wr e i a hSr he (by omega) (by omega)
            cases hl : ltK e[i]! e[a]! with
            | true =>
              rw [hl] at C
              have HN := Lib.hid ((sup_go (fun x => ltK x e[a]!) e j0 i q (by simp [hl])).symm.trans hIr.out)
              have CC := Lib.hid C
              clear hl C hIr
              go_wp2_with (go_at_call 167; (with_reducible refine CC.out.mono ?_); rintro e9 w9 ⟨rfl, kb⟩)
              go_roundw
              case rel => exact ⟨i + 1, by go_num, ⟨by omega, by omega⟩, hSr.below kb, HN, hTr.trans (Tch.of kb)⟩
              case measure => simp [intOf] <;> omega
            | false =>
              rw [hl] at C
              have HN := Lib.hid ((sup_stop (fun x => ltK x e[a]!) e j0 i (fun x => by simp [hl] at x)).symm.trans hIr.out)
              have CC := Lib.hid C
              clear hl C hIr
              go_wp2_with (go_at_call 167; (with_reducible refine CC.out.mono ?_); rintro e9 w9 ⟨rfl, kb⟩)
              go_meet
              case rel => exact ⟨by rw [HN.out], by rw [← HN.out]; exact hi2, Lib.hid (hSr.below kb), Lib.hid (hTr.trans (Tch.of kb))⟩
          · have q' := decide_eq_false (show ¬ (i : Int) ≤ (j0 : Int) by omega)
            have HN := Lib.hid ((sup_stop (fun x => ltK x e[a]!) e j0 i (fun x => q x.1)).symm.trans hIr.out)
            clear hIr
            go_wp2
            go_meet
            case rel => exact ⟨by rw [HN.out], by rw [← HN.out]; exact hi2, Lib.hid hSr, Lib.hid hTr⟩
      case rest =>
      clear hS hT
      obtain ⟨rfl, hI2, hS0, hT0⟩ := hcut
      have hS := hS0.out
      have hT := hT0.out
      clear hS0 hT0
      obtain ⟨J2, hJ⟩ : ∃ J0, Sort.scanDown (fun x => !ltK x e[a]!) e I2 j0 = J0 := ⟨_, rfl⟩
      have hJ1 : J2 ≤ j0 := by rw [← hJ]; exact Sort.scanDown_le _ _ _ _
      have HJ2 := Lib.hid hJ
      clear hJ
      go_upto_block 8 with fail
      go_cut [11] from 76 to 88 (fun v wx => v = .int .i64 (J2 : Int) ∧ Hid (SoT wx KB RX cap e) ∧ Hid (Tch (one KB) W1 wx))
      case first =>
        go_wp2_with fail
        go_loopw [11] (fun v wr => ∃ j : Nat, v = .int .i64 (j : Int) ∧ j ≤ j0 ∧ SoT wr KB RX cap e ∧ Hid (Sort.scanDown (fun x => !ltK x e[a]!) e I2 j = J2) ∧ Tch (one KB) W1 wr) (fun v _ => (intOf v).toNat)
        case atStart => exact ⟨j0, rfl, Nat.le_refl _, hS, HJ2, hT⟩
        case round =>
          obtain ⟨j, rfl, hj1, hSr, hJr, hTr⟩ := hrel
          clear hS hT
          have c0 := tcell hTr nb b0
          by_cases q : I2 ≤ j
          · have q' : (I2 : Int) ≤ (j : Int) := by omega
            have C := HL.out wr e j a hSr he (by omega) (by omega)
            cases hl : ltK e[j]! e[a]! with
            | false =>
              rw [hl] at C
              have HN := Lib.hid ((sdn_go (fun x => !ltK x e[a]!) e I2 j q (by omega) (by simp [hl])).symm.trans hJr.out)
              have CC := Lib.hid C
              clear hl C hJr
              go_wp2_with (go_at_call 167; (with_reducible refine CC.out.mono ?_); rintro e9 w9 ⟨rfl, kb⟩)
              go_roundw
              case rel => exact ⟨j - 1, congrArg (Value.int .i64) (by omega), by omega, hSr.below kb, HN, hTr.trans (Tch.of kb)⟩
              case measure => simp [intOf] <;> omega
            | true =>
              rw [hl] at C
              have HN := Lib.hid ((sdn_stop (fun x => !ltK x e[a]!) e I2 j (fun x => by simp [hl] at x)).symm.trans hJr.out)
              have CC := Lib.hid C
              clear hl C hJr
              go_wp2_with (go_at_call 167; (with_reducible refine CC.out.mono ?_); rintro e9 w9 ⟨rfl, kb⟩)
              go_meet
              case rel => exact ⟨by rw [HN.out], Lib.hid (hSr.below kb), Lib.hid (hTr.trans (Tch.of kb))⟩
          · have q' := decide_eq_false (show ¬ (I2 : Int) ≤ (j : Int) by omega)
            have HN := Lib.hid ((sdn_stop (fun x => !ltK x e[a]!) e I2 j (fun x => q x.1)).symm.trans hJr.out)
            clear hJr
            go_wp2
            go_meet
            case rel => exact ⟨by rw [HN.out], Lib.hid hSr, Lib.hid hTr⟩
      case rest =>
      clear hS hT
      obtain ⟨rfl, hS0, hT0⟩ := hcut
      have hS := hS0.out
      have hT := hT0.out
      clear hS0 hT0
      have c0 := tcell hT nb b0
      have c1 := tcell hT nb b1
      by_cases h2 : J2 < I2
      · have h' : (J2 : Int) < (I2 : Int) := by omega
        have HQ := Lib.hid ((pl_end ltK HI2.out HJ2.out h2).symm.trans hPL.out)
        obtain ⟨W4, hrun, hS4, hg4⟩ := HS.out _ e J2 a hS he (by omega) (by omega)
        clear hS hPL
        go_wp2
        go_ret2
        refine ⟨by (rw [HP.out, ← HQ.out]) <;> rfl, by rw [HP.out, ← HQ.out]; exact hS4, g0.trans (hT.trans hg4)⟩
      · have h' : ¬ (J2 : Int) < (I2 : Int) := by omega
        have h'' := decide_eq_false h'
        have HQ := Lib.hid ((pl_go ltK HI2.out HJ2.out h2).symm.trans hPL.out)
        obtain ⟨W4, hrun, hS4, hg4⟩ := HS.out _ e I2 J2 hS he (by omega) (by omega)
        have HG := Lib.hid (hT.trans hg4)
        clear hS hPL hT hg4
        go_wp2
        go_roundw
        case rel => exact ⟨I2 + 1, J2 - 1, _, by go_num, congrArg (Value.int .i64) (by omega), ⟨by omega, by omega⟩, ⟨by omega, by omega⟩, (Sort.size_swp _ _ _).trans he, Lib.hid hS4, HQ, HG⟩
        case measure => simp [intOf] <;> omega
end
end Go.Proofs.YtbejkcdaefkibaaGreat.Wd
namespace Go.Proofs.YtbejkcdaefkibaaGreat.Wd
open Go Go.RowKit Go.Deep
set_option linter.unusedVariables false
set_option maxRecDepth 100000

section
variable {KB RX cap n sf : Nat} {sb : Array Value}
set_option maxHeartbeats 4000000 in
theorem parteq_any (hsw : SwapC sf sb KB RX cap n) (hls : LessC KB RX cap n) (hn : n ≤ 1099511627776) (a b pivot : Nat) (hap : a ≤ pivot) (hpb : pivot < b) (hbn : b ≤ n) (W : World) (d : Array ByteArray) (hS : SoT W KB RX cap d) (hd : d.size = n) :
    Calls Tryz.prog 243 #[datV RX sf sb, .int .i64 (a : Int), .int .i64 (b : Int), .int .i64 (pivot : Int)] W fun e w' => e = .returned (.int .i64 ((Sort.partitionEqual ltK d a b pivot).1 : Int)) ∧ SoT w' KB RX cap ((Sort.partitionEqual ltK d a b pivot).2) ∧ Tch (one KB) W w' := by
  have HS := Lib.hid hsw
  have HL := Lib.hid hls
  have hlt := hS.lt
  have S0 := hS.alloc (boxO RX sf sb)
  have g0 : Tch (one KB) W (W.alloc (boxO RX sf sb)) := .of ((Below.refl _ W).alloc (Nat.le_refl _) _)
  have b0 : (W.alloc (boxO RX sf sb)).cell? ⟨W.heap.size, 0, none⟩ = some (lesV RX) := by simp
  have b1 : (W.alloc (boxO RX sf sb)).cell? ⟨W.heap.size, 1, none⟩ = some (.func (Fn.func sf) #[] sb) := by simp
  have nb : ¬ one KB W.heap.size := by show ¬ W.heap.size = KB; omega
  clear hsw hls hS
  go_enter Tryz.func243, Tryz.ntmps243
  (try simp only [List.append_eq, List.cons_append, List.nil_append])
  obtain ⟨J, hJ⟩ : ∃ J, b - 1 = J := ⟨_, rfl⟩
  have hJb : (b : Int) - 1 = (J : Int) := by omega
  go_upto_region 1 with fail
  generalize hW : World.alloc _ _ = W1 at *
  clear hW
  obtain ⟨W2, hrun, hS2, hT2⟩ := HS.out W1 d a pivot S0 hd (by omega) (by omega)
  have he0 : (Sort.swp d a pivot).size = n := (Sort.size_swp _ _ _).trans hd
  obtain ⟨R, hR⟩ : ∃ R, Sort.partitionEqual ltK d a b pivot = R := ⟨_, rfl⟩
  have HRR := Lib.hid hR
  have HR : Hid (Sort.partEqLoop ltK a (a + 1) J (Sort.swp d a pivot) = R) := Lib.hid (by rw [← hR, ← hJ]; rfl)
  clear S0 hR
  go_upto_block 0 with fail
  (try rw [hJb])
  clear hrun
  go_wp2_with fail
  go_loopw [9, 10] (fun x y wr => ∃ (i j : Nat) (e : Array ByteArray), x = .int .i64 (i : Int) ∧ y = .int .i64 (j : Int) ∧ (a + 1 ≤ i ∧ i ≤ b + 1) ∧ (a ≤ j ∧ j < b) ∧ e.size = n ∧ Hid (SoT wr KB RX cap e) ∧ Hid (Sort.partEqLoop ltK a i j e = R) ∧ Hid (Tch (one KB) W1 wr)) (fun x _ _ => b + 2 - (intOf x).toNat)
  case atStart => exact ⟨a + 1, J, _, by go_num, rfl, ⟨by omega, by omega⟩, ⟨by omega, by omega⟩, he0, Lib.hid hS2, HR, Lib.hid hT2⟩
  case round =>
    obtain ⟨i0, j0, e, rfl, rfl, ⟨hi1, hi2⟩, ⟨hj1, hj2⟩, he, hSe, hPL, hTe⟩ := hrel
    have hS := hSe.out
    have hT := hTe.out
    clear hS2 hT2 hSe hTe HR he0
    obtain ⟨I2, hI⟩ : ∃ I0, Sort.scanUp (fun x => !ltK e[a]! x) e j0 (i0) = I0 := ⟨_, rfl⟩
    have hI1 : i0 ≤ I2 := by rw [← hI]; exact Sort.scanUp_ge _ _ _ _
    have HI2 := Lib.hid hI
    clear hI
    go_upto_block 2 with fail
    go_cut [9] from 20 to 32 (fun v wx => v = .int .i64 (I2 : Int) ∧ I2 ≤ b + 1 ∧ Hid (SoT wx KB RX cap e) ∧ Hid (Tch (one KB) W1 wx))
    case first =>
      go_wp2_with fail
      go_loopw [9] (fun v wr => ∃ i : Nat, v = .int .i64 (i : Int) ∧ (a + 1 ≤ i ∧ i ≤ b + 1) ∧ SoT wr KB RX cap e ∧ Hid (Sort.scanUp (fun x => !ltK e[a]! x) e j0 i = I2) ∧ Tch (one KB) W1 wr) (fun v _ => b + 2 - (intOf v).toNat)
      case atStart => exact ⟨i0, rfl, ⟨by omega, by omega⟩, hS, HI2, hT⟩
      case round =>
        obtain ⟨i, rfl, ⟨hi1, hi2⟩, hSr, hIr, hTr⟩ := hrel
        clear hS hT
        have c0 := tcell hTr nb b0
        by_cases q : i ≤ j0
        · have q' : (i : Int) ≤ (j0 : Int) := by omega
          have C := HL.out wr e a i hSr he (by omega) (by omega)
          cases hl : ltK e[a]! e[i]! with
          | false =>
            rw [hl] at C
            have HN := Lib.hid ((sup_go (fun x => !ltK e[a]! x) e j0 i q (by simp [hl])).symm.trans hIr.out)
            have CC := Lib.hid C
            clear hl C hIr
            go_wp2_with (go_at_call 167; (with_reducible refine CC.out.mono ?_); rintro e9 w9 ⟨rfl, kb⟩)
            go_roundw
            case rel => exact ⟨i + 1, by go_num, ⟨by omega, by omega⟩, hSr.below kb, HN, hTr.trans (Tch.of kb)⟩
            case measure => simp [intOf] <;> omega
          | true =>
            rw [hl] at C
            have HN := Lib.hid ((sup_stop (fun x => !ltK e[a]! x) e j0 i (fun x => by simp [hl] at x)).symm.trans hIr.out)
            have CC := Lib.hid C
            clear hl C hIr
            go_wp2_with (go_at_call 167; (with_reducible refine CC.out.mono ?_); rintro e9 w9 ⟨rfl, kb⟩)
            go_meet
            case rel => exact ⟨by rw [HN.out], by rw [← HN.out]; exact hi2, Lib.hid (hSr.below kb), Lib.hid (hTr.trans (Tch.of kb))⟩
        · have q' := decide_eq_false (show ¬ (i : Int) ≤ (j0 : Int) by omega)
          have HN := Lib.hid ((sup_stop (fun x => !ltK e[a]! x) e j0 i (fun x => q x.1)).symm.trans hIr.out)
          clear hIr
          go_wp2
          go_meet
          case rel => exact ⟨by rw [HN.out], by rw [← HN.out]; exact hi2, Lib.hid hSr, Lib.hid hTr⟩
    case rest =>
    clear hS hT
    obtain ⟨rfl, hI2, hS0, hT0⟩ := hcut
    have hS := hS0.out
    have hT := hT0.out
    clear hS0 hT0
    obtain ⟨J2, hJ⟩ : ∃ J0, Sort.scanDown (fun x => ltK e[a]! x) e I2 j0 = J0 := ⟨_, rfl⟩
    have hJ1 : J2 ≤ j0 := by rw [← hJ]; exact Sort.scanDown_le _ _ _ _
    have HJ2 := Lib.hid hJ
    clear hJ
    go_upto_block 4 with fail
    go_cut [10] from 33 to 44 (fun v wx => v = .int .i64 (J2 : Int) ∧ Hid (SoT wx KB RX cap e) ∧ Hid (Tch (one KB) W1 wx))
    case first =>
      go_wp2_with fail
      go_loopw [10] (fun v wr => ∃ j : Nat, v = .int .i64 (j : Int) ∧ j ≤ j0 ∧ SoT wr KB RX cap e ∧ Hid (Sort.scanDown (fun x => ltK e[a]! x) e I2 j = J2) ∧ Tch (one KB) W1 wr) (fun v _ => (intOf v).toNat)
      case atStart => exact ⟨j0, rfl, Nat.le_refl _, hS, HJ2, hT⟩
      case round =>
        obtain ⟨j, rfl, hj1, hSr, hJr, hTr⟩ := hrel
        clear hS hT
        have c0 := tcell hTr nb b0
        by_cases q : I2 ≤ j
        · have q' : (I2 : Int) ≤ (j : Int) := by omega
          have C := HL.out wr e a j hSr he (by omega) (by omega)
          cases hl : ltK e[a]! e[j]! with
          | true =>
            rw [hl] at C
            have HN := Lib.hid ((sdn_go (fun x => ltK e[a]! x) e I2 j q (by omega) (by simp [hl])).symm.trans hJr.out)
            have CC := Lib.hid C
            clear hl C hJr
            go_wp2_with (go_at_call 167; (with_reducible refine CC.out.mono ?_); rintro e9 w9 ⟨rfl, kb⟩)
            go_roundw
            case rel => exact ⟨j - 1, congrArg (Value.int .i64) (by omega), by omega, hSr.below kb, HN, hTr.trans (Tch.of kb)⟩
            case measure => simp [intOf] <;> omega
          | false =>
            rw [hl] at C
            have HN := Lib.hid ((sdn_stop (fun x => ltK e[a]! x) e I2 j (fun x => by simp [hl] at x)).symm.trans hJr.out)
            have CC := Lib.hid C
            clear hl C hJr
            go_wp2_with (go_at_call 167; (with_reducible refine CC.out.mono ?_); rintro e9 w9 ⟨rfl, kb⟩)
            go_meet
            case rel => exact ⟨by rw [HN.out], Lib.hid (hSr.below kb), Lib.hid (hTr.trans (Tch.of kb))⟩
        · have q' := decide_eq_false (show ¬ (I2 : Int) ≤ (j : Int) by omega)
          have HN := Lib.hid ((sdn_stop (fun x => ltK e[a]! x) e I2 j (fun x => q x.1)).symm.trans hJr.out)
          clear hJr
          go_wp2
          go_meet
          case rel => exact ⟨by rw [HN.out], Lib.hid hSr, Lib.hid hTr⟩
    case rest =>
    clear hS hT
    obtain ⟨rfl, hS0, hT0⟩ := hcut
    have hS := hS0.out
    have hT := hT0.out
    clear hS0 hT0
    have c0 := tcell hT nb b0
    have c1 := tcell hT nb b1
    by_cases h2 : J2 < I2
    · have h' : (J2 : Int) < (I2 : Int) := by omega
      have HQ := Lib.hid ((pe_end ltK HI2.out HJ2.out h2).symm.trans hPL.out)
      have HST := Lib.hid hS
      clear hS hPL
      go_wp2
      go_ret
      refine ⟨by (rw [HRR.out, ← HQ.out]) <;> rfl, by rw [HRR.out, ← HQ.out]; exact HST.out, g0.trans hT⟩
    · have h' : ¬ (J2 : Int) < (I2 : Int) := by omega
      have h'' := decide_eq_false h'
      have HQ := Lib.hid ((pe_go ltK HI2.out HJ2.out h2).symm.trans hPL.out)
      obtain ⟨W4, hrun, hS4, hg4⟩ := HS.out _ e I2 J2 hS he (by omega) (by omega)
      have HG := Lib.hid (hT.trans hg4)
      clear hS hPL hT hg4
      go_wp2
      go_roundw
      case rel => exact ⟨I2 + 1, J2 - 1, _, by go_num, congrArg (Value.int .i64) (by omega), ⟨by omega, by omega⟩, ⟨by omega, by omega⟩, (Sort.size_swp _ _ _).trans he, Lib.hid hS4, HQ, HG⟩
      case measure => simp [intOf] <;> omega
end
end Go.Proofs.YtbejkcdaefkibaaGreat.Wd
namespace Go.Proofs.YtbejkcdaefkibaaGreat.Wd
open Go Go.RowKit Go.Deep
set_option linter.unusedVariables false
set_option maxRecDepth 100000
section
variable {α : Type} [Inhabited α] (lt : α → α → Bool)
theorem ss_go (d : Array α) (b i : Nat) (h : i < b) (hp : lt d[i]! d[i - 1]! = false) : Sort.scanSorted lt d b i = Sort.scanSorted lt d b (i + 1) := by
  rw [Sort.scanSorted, if_pos (by rw [decide_eq_true h, hp]; rfl)]
theorem ss_stop (d : Array α) (b i : Nat) (h : ¬ (i < b ∧ lt d[i]! d[i - 1]! = false)) : Sort.scanSorted lt d b i = i := by
  rw [Sort.scanSorted, if_neg (by
    rw [Bool.and_eq_true, decide_eq_true_eq]
    rintro ⟨h1, h2⟩
    exact h ⟨h1, by simpa using h2⟩)]
theorem sdw_stop (d : Array α) (j : Nat) (h : ¬ (1 ≤ j ∧ lt d[j]! d[j - 1]! = true)) : Sort.shiftDown lt j d = d := by
  cases j with
  | zero => rfl
  | succ j =>
    rw [Sort.shiftDown, if_pos]
    have : ¬ lt d[j + 1]! d[j]! = true := fun x => h ⟨by omega, x⟩
    simpa using this
theorem sdw_go (d : Array α) (j : Nat) (h1 : 1 ≤ j) (h : lt d[j]! d[j - 1]! = true) : Sort.shiftDown lt j d = Sort.shiftDown lt (j - 1) (Sort.swp d j (j - 1)) := by
  cases j with
  | zero => omega
  | succ j =>
    have h : lt d[j + 1]! d[j]! = true := h
    rw [Sort.shiftDown, if_neg (by simp [h])]; rfl
theorem sup2_stop (d : Array α) (b j : Nat) (h : ¬ (j < b ∧ lt d[j]! d[j - 1]! = true)) : Sort.shiftUp lt b j d = d := by
  rw [Sort.shiftUp]
  by_cases c : j < b
  · rw [if_pos c, if_pos]
    have : ¬ lt d[j]! d[j - 1]! = true := fun x => h ⟨c, x⟩
    simpa using this
  · rw [if_neg c]
theorem sup2_go (d : Array α) (b j : Nat) (h1 : j < b) (h : lt d[j]! d[j - 1]! = true) : Sort.shiftUp lt b j d = Sort.shiftUp lt b (j + 1) (Sort.swp d j (j - 1)) := by
  rw [Sort.shiftUp, if_pos h1, if_neg (by simp [h])]
theorem pi_sorted {d : Array α} {a b s i : Nat} (h : Sort.scanSorted lt d b i = b) : Sort.partialIns lt a b (s + 1) i d = (d, true) := by
  rw [Sort.partialIns]; simp [h]
theorem pi_short {d : Array α} {a b s i I : Nat} (h : Sort.scanSorted lt d b i = I) (h1 : I ≠ b) (h2 : b - a < 50) : Sort.partialIns lt a b (s + 1) i d = (d, false) := by
  rw [Sort.partialIns]; simp [h, h1, h2]
/-- What a pair out of order is turned to. -/
def pinS (a b I : Nat) (d : Array α) : Array α := if I - a ≥ 2 then Sort.shiftDown lt (I - 1) (Sort.swp d I (I - 1)) else Sort.swp d I (I - 1)
def pinU (b I : Nat) (d : Array α) : Array α := if b - I ≥ 2 then Sort.shiftUp lt b (I + 1) d else d
theorem pi_go {d : Array α} {a b s i I : Nat} (h : Sort.scanSorted lt d b i = I) (h1 : I ≠ b) (h2 : ¬ b - a < 50) : Sort.partialIns lt a b (s + 1) i d = Sort.partialIns lt a b s I (pinU lt b I (pinS lt a b I d)) := by
  rw [Sort.partialIns]; simp only [h, if_neg h1, if_neg h2]; rfl
end
section
variable {KB RX cap n sf : Nat} {sb : Array Value}
set_option maxHeartbeats 4000000 in
theorem partins_any (hsw : SwapC sf sb KB RX cap n) (hls : LessC KB RX cap n) (hn : n ≤ 1099511627776) (a b : Nat) (hab : a < b) (hbn : b ≤ n) (W : World) (d : Array ByteArray) (hS : SoT W KB RX cap d) (hd : d.size = n) :
    Calls Tryz.prog 242 #[datV RX sf sb, .int .i64 (a : Int), .int .i64 (b : Int)] W fun e w' => e = .returned (.bool (Sort.partialInsertionSort ltK d a b).2) ∧ SoT w' KB RX cap (Sort.partialInsertionSort ltK d a b).1 ∧ Tch (one KB) W w' := by
  have HS := Lib.hid hsw
  have HL := Lib.hid hls
  have hlt := hS.lt
  have S0 := hS.alloc (boxO RX sf sb)
  have g0 : Tch (one KB) W (W.alloc (boxO RX sf sb)) := .of ((Below.refl _ W).alloc (Nat.le_refl _) _)
  have b0 : (W.alloc (boxO RX sf sb)).cell? ⟨W.heap.size, 0, none⟩ = some (lesV RX) := by simp
  have b1 : (W.alloc (boxO RX sf sb)).cell? ⟨W.heap.size, 1, none⟩ = some (.func (Fn.func sf) #[] sb) := by simp
  have nb : ¬ one KB W.heap.size := by show ¬ W.heap.size = KB; omega
  obtain ⟨R, hR⟩ : ∃ R, Sort.partialInsertionSort ltK d a b = R := ⟨_, rfl⟩
  rw [hR]
  have HR : Hid (Sort.partialIns ltK a b (5 - 0) (a + 1) d = R) := Lib.hid hR
  clear hsw hls hS hR
  go_enter Tryz.func242, Tryz.ntmps242
  (try simp only [List.append_eq, List.cons_append, List.nil_append])
  go_wp2
  generalize hW : World.alloc _ _ = W1 at *
  clear hW
  go_loopw [7, 8] (fun x y wr => ∃ (i j : Nat) (e : Array ByteArray), x = .int .i64 (i : Int) ∧ y = .int .i64 (j : Int) ∧ j ≤ 5 ∧ (a + 1 ≤ i ∧ i ≤ b) ∧ e.size = n ∧ Hid (SoT wr KB RX cap e) ∧ Hid (Sort.partialIns ltK a b (5 - j) i e = R) ∧ Hid (Tch (one KB) W1 wr)) (fun _ y _ => 5 - (intOf y).toNat)
  case atStart => exact ⟨a + 1, 0, d, by go_num, rfl, by omega, ⟨by omega, by omega⟩, hd, Lib.hid S0, HR, Lib.hid (.refl _ _)⟩
  case round =>
    obtain ⟨i0, j, e, rfl, rfl, hj5, ⟨hi1, hi2⟩, he, hSe, hPI, hTe⟩ := hrel
    have hS := hSe.out
    have hT := hTe.out
    clear S0 hSe hTe HR
    by_cases hj : j < 5
    · have hj' : (j : Int) < 5 := by omega
      obtain ⟨I0, hI⟩ : ∃ I0, Sort.scanSorted ltK e b i0 = I0 := ⟨_, rfl⟩
      have HI := Lib.hid hI
      have hs5 : ∃ s, 5 - j = s + 1 ∧ 5 - (j + 1) = s := ⟨4 - j, by omega, by omega⟩
      obtain ⟨s, hs1, hs2⟩ := hs5
      rw [hs1] at hPI
      clear hI hs1
      go_upto_block 2 with fail
      go_cut [7] from 17 to 30 (fun v wx => v = .int .i64 (I0 : Int) ∧ (a + 1 ≤ I0 ∧ I0 ≤ b) ∧ Hid (SoT wx KB RX cap e) ∧ Hid (Tch (one KB) W1 wx))
      case first =>
        go_wp2_with fail
        go_loopw [7] (fun v wr => ∃ i : Nat, v = .int .i64 (i : Int) ∧ (a + 1 ≤ i ∧ i ≤ b) ∧ SoT wr KB RX cap e ∧ Hid (Sort.scanSorted ltK e b i = I0) ∧ Tch (one KB) W1 wr) (fun v _ => b + 2 - (intOf v).toNat)
        case atStart => exact ⟨i0, rfl, ⟨by omega, by omega⟩, hS, HI, hT⟩
        case round =>
          obtain ⟨i, rfl, ⟨hk1, hk2⟩, hSr, hIr, hTr⟩ := hrel
          clear hS hT
          have c0 := tcell hTr nb b0
          by_cases q : i < b
          · have q' : (i : Int) < (b : Int) := by omega
            have C := HL.out wr e i (i - 1) hSr he (by omega) (by omega)
            rw [show ((i - 1 : Nat) : Int) = (i : Int) - 1 by omega] at C
            cases hl : ltK e[i]! e[i - 1]! with
            | false =>
              rw [hl] at C
              have HN := Lib.hid ((ss_go ltK e b i q hl).symm.trans hIr.out)
              have CC := Lib.hid C
              clear hl C hIr
              go_wp2_with (go_at_call 167; (with_reducible refine CC.out.mono ?_); rintro e9 w9 ⟨rfl, kb⟩)
              go_roundw
              case rel => exact ⟨i + 1, by go_num, ⟨by omega, by omega⟩, hSr.below kb, HN, hTr.trans (Tch.of kb)⟩
              case measure => simp [intOf] <;> omega
            | true =>
              rw [hl] at C
              have HN := Lib.hid ((ss_stop ltK e b i (fun x => by rw [hl] at x; exact absurd x.2 (by decide))).symm.trans hIr.out)
              have CC := Lib.hid C
              clear hl C hIr
              go_wp2_with (go_at_call 167; (with_reducible refine CC.out.mono ?_); rintro e9 w9 ⟨rfl, kb⟩)
              go_meet
              case rel => exact ⟨by rw [HN.out], by rw [← HN.out]; exact ⟨hk1, hk2⟩, Lib.hid (hSr.below kb), Lib.hid (hTr.trans (Tch.of kb))⟩
          · have q' : ¬ (i : Int) < (b : Int) := by omega
            have q'' := decide_eq_false q'
            have HN := Lib.hid ((ss_stop ltK e b i (fun x => q x.1)).symm.trans hIr.out)
            clear hIr
            go_wp2
            go_meet
            case rel => exact ⟨by rw [HN.out], by rw [← HN.out]; exact ⟨hk1, hk2⟩, Lib.hid hSr, Lib.hid hTr⟩
      case rest =>
      clear hS hT
      obtain ⟨rfl, ⟨hI1, hI2⟩, hS0, hT0⟩ := hcut
      have hS := hS0.out
      have hT := hT0.out
      clear hS0 hT0
      by_cases hib : I0 = b
      · have hib' : ((I0 : Int) == (b : Int)) = true := by simp [hib]
        have HQ := Lib.hid ((pi_sorted ltK (s := s) (a := a) (HI.out.trans hib)).symm.trans hPI.out)
        have HST := Lib.hid hS
        clear hS hPI hib HI
        go_wp2
        go_ret
        refine ⟨by (rw [← HQ.out]) <;> rfl, by rw [← HQ.out]; exact HST.out, g0.trans hT⟩
      · have hib' : ((I0 : Int) == (b : Int)) = false := by rw [beq_eq_false_iff_ne]; omega
        by_cases h50 : b - a < 50
        · have h50' : (b : Int) - (a : Int) < 50 := by omega
          have HQ := Lib.hid ((pi_short ltK (s := s) HI.out hib h50).symm.trans hPI.out)
          have HST := Lib.hid hS
          clear hS hPI hib HI
          go_wp2
          go_ret
          refine ⟨by (rw [← HQ.out]) <;> rfl, by rw [← HQ.out]; exact HST.out, g0.trans hT⟩
        · have h50' : ¬ (b : Int) - (a : Int) < 50 := by omega
          have h50'' := decide_eq_false h50'
          have HQ := Lib.hid ((pi_go ltK (s := s) HI.out hib h50).symm.trans hPI.out)
          have HW := HS.out _ e I0 (I0 - 1) hS he (by omega) (by omega)
          rw [show ((I0 - 1 : Nat) : Int) = (I0 : Int) - 1 by omega] at HW
          obtain ⟨W3, hrun, hS3, hg3⟩ := HW
          have he1 : (Sort.swp e I0 (I0 - 1)).size = n := (Sort.size_swp _ _ _).trans he
          have hT3 := hT.trans hg3
          have c1 := tcell hT nb b1
          have c13 := tcell hg3 nb c1
          clear hS hPI hT hg3 HI
          obtain ⟨e1, hE1⟩ : ∃ e1, Sort.swp e I0 (I0 - 1) = e1 := ⟨_, rfl⟩
          obtain ⟨e2, hE2⟩ : ∃ e2, pinS ltK a b I0 e = e2 := ⟨_, rfl⟩
          obtain ⟨e3, hE3⟩ : ∃ e3, pinU ltK b I0 e2 = e3 := ⟨_, rfl⟩
          rw [hE2, hE3] at HQ
          rw [hE1] at hS3 he1
          have HE2 : Hid ((if I0 - a ≥ 2 then Sort.shiftDown ltK (I0 - 1) e1 else e1) = e2) := Lib.hid (by rw [← hE2, ← hE1]; rfl)
          have HE3 : Hid ((if b - I0 ≥ 2 then Sort.shiftUp ltK b (I0 + 1) e2 else e2) = e3) := Lib.hid (by rw [← hE3]; rfl)
          have S3 := Lib.hid hS3
          have T3 := Lib.hid hT3
          clear hE1 hE2 hE3 hS3 hT3
          go_upto_if 47 with fail
          clear hrun c1 hib' h50' h50''
          go_cut [9] from 47 to 66 (fun _ wx => e2.size = n ∧ Hid (SoT wx KB RX cap e2) ∧ Hid (Tch (one KB) W1 wx))
          case first =>
            by_cases h2 : I0 - a ≥ 2
            · have h2' : (2 : Int) ≤ (I0 : Int) - (a : Int) := by omega
              have h2'' := decide_eq_true h2'
              (try rw [h2''])
              have HE := HE2.out
              rw [if_pos h2] at HE
              have HE4 := Lib.hid HE
              clear HE
              have hS3 := S3.out
              have hT3 := T3.out
              go_wp2_with fail
              go_loopw [9] (fun v wr => ∃ (p : Nat) (f : Array ByteArray), v = .int .i64 (p : Int) ∧ p ≤ I0 - 1 ∧ f.size = n ∧ SoT wr KB RX cap f ∧ Hid (Sort.shiftDown ltK p f = e2) ∧ Tch (one KB) W1 wr) (fun v _ => (intOf v).toNat)
              case atStart => exact ⟨I0 - 1, e1, congrArg (Value.int .i64) (by omega), Nat.le_refl _, he1, hS3, HE4, hT3⟩
              case round =>
                obtain ⟨p, f, rfl, hp, hf, hSr, hEr, hTr⟩ := hrel
                clear hS3 hT3
                have c0 := tcell hTr nb b0
                have c1 := tcell hTr nb b1
                by_cases q : 1 ≤ p
                · have q' : (1 : Int) ≤ (p : Int) := by omega
                  have j1 : ((p - 1 : Nat) : Int) = (p : Int) - 1 := by omega
                  have C := HL.out wr f p (p - 1) hSr hf (by omega) (by omega)
                  rw [j1] at C
                  cases hl : ltK f[p]! f[p - 1]! with
                  | true =>
                    rw [hl] at C
                    have HN := Lib.hid ((sdw_go ltK f p q hl).symm.trans hEr.out)
                    have CC := Lib.hid C
                    have HW := fun V (g : SoT V KB RX cap f) => HS.out V f p (p - 1) g hf (by omega) (by omega)
                    rw [j1] at HW
                    have HSW := Lib.hid HW
                    clear hl C hEr HW j1
                    go_wp2_with (go_at_call 167; (with_reducible refine CC.out.mono ?_); rintro e9 w9 ⟨rfl, kb⟩; obtain ⟨W', hrun, hS', hg'⟩ := HSW.out _ (hSr.below kb); have d1 := celln kb c1; have G := (hTr.trans (Tch.of kb)).trans hg'; clear c0 c1)
                    go_roundw
                    case rel => exact ⟨p - 1, _, congrArg (Value.int .i64) (by omega), by omega, (Sort.size_swp _ _ _).trans hf, hS', HN, G⟩
                    case measure => simp [intOf] <;> omega
                  | false =>
                    rw [hl] at C
                    have HN := Lib.hid ((sdw_stop ltK f p (fun x => by rw [hl] at x; exact absurd x.2 (by decide))).symm.trans hEr.out)
                    have CC := Lib.hid C
                    clear hl C hEr j1
                    go_wp2_with (go_at_call 167; (with_reducible refine CC.out.mono ?_); rintro e9 w9 ⟨rfl, kb⟩)
                    go_meet
                    case rel => exact ⟨by rw [← HN.out]; exact hf, Lib.hid (by rw [← HN.out]; exact hSr.below kb), Lib.hid (hTr.trans (Tch.of kb))⟩
                · have q' : ¬ (1 : Int) ≤ (p : Int) := by omega
                  have q'' := decide_eq_false q'
                  have HN := Lib.hid ((sdw_stop ltK f p (fun x => q x.1)).symm.trans hEr.out)
                  clear hEr
                  go_wp2
                  go_meet
                  case rel => exact ⟨by rw [← HN.out]; exact hf, Lib.hid (by rw [← HN.out]; exact hSr), Lib.hid hTr⟩
            · have h2' : ¬ (2 : Int) ≤ (I0 : Int) - (a : Int) := by omega
              have h2'' := decide_eq_false h2'
              have HE := HE2.out
              rw [if_neg h2] at HE
              have HE4 := Lib.hid HE
              clear HE
              go_wp2
              go_meet
              case rel => exact ⟨by rw [← HE4.out]; exact he1, by rw [← HE4.out]; exact S3, T3⟩
          case rest =>
          clear S3 T3 c13
          obtain ⟨he2, S4, T4⟩ := hcut
          by_cases h2 : b - I0 ≥ 2
          · have h2' : (2 : Int) ≤ (b : Int) - (I0 : Int) := by omega
            have HE := HE3.out
            rw [if_pos h2] at HE
            have HE4 := Lib.hid HE
            clear HE
            have hS3 := S4.out
            have hT3 := T4.out
            go_wp2_with fail
            go_loopw [10] (fun v wr => ∃ (p : Nat) (f : Array ByteArray), v = .int .i64 (p : Int) ∧ (a + 1 ≤ p ∧ p ≤ b + 1) ∧ f.size = n ∧ SoT wr KB RX cap f ∧ Hid (Sort.shiftUp ltK b p f = e3) ∧ Tch (one KB) W1 wr) (fun v _ => b + 2 - (intOf v).toNat)
            case atStart => exact ⟨I0 + 1, e2, by go_num, ⟨by omega, by omega⟩, he2, hS3, HE4, hT3⟩
            case round =>
              obtain ⟨p, f, rfl, ⟨hp1, hp2⟩, hf, hSr, hEr, hTr⟩ := hrel
              clear hS3 hT3
              have c0 := tcell hTr nb b0
              have c1 := tcell hTr nb b1
              by_cases q : p < b
              · have q' : (p : Int) < (b : Int) := by omega
                have j1 : ((p - 1 : Nat) : Int) = (p : Int) - 1 := by omega
                have C := HL.out wr f p (p - 1) hSr hf (by omega) (by omega)
                rw [j1] at C
                cases hl : ltK f[p]! f[p - 1]! with
                | true =>
                  rw [hl] at C
                  have HN := Lib.hid ((sup2_go ltK f b p q hl).symm.trans hEr.out)
                  have CC := Lib.hid C
                  have HW := fun V (g : SoT V KB RX cap f) => HS.out V f p (p - 1) g hf (by omega) (by omega)
                  rw [j1] at HW
                  have HSW := Lib.hid HW
                  clear hl C hEr HW j1
                  go_wp2_with (go_at_call 167; (with_reducible refine CC.out.mono ?_); rintro e9 w9 ⟨rfl, kb⟩; obtain ⟨W', hrun, hS', hg'⟩ := HSW.out _ (hSr.below kb); have d1 := celln kb c1; have G := (hTr.trans (Tch.of kb)).trans hg'; clear c0 c1)
                  go_roundw
                  case rel => exact ⟨p + 1, _, by go_num, ⟨by omega, by omega⟩, (Sort.size_swp _ _ _).trans hf, hS', HN, G⟩
                  case measure => simp [intOf] <;> omega
                | false =>
                  rw [hl] at C
                  have HN := Lib.hid ((sup2_stop ltK f b p (fun x => by rw [hl] at x; exact absurd x.2 (by decide))).symm.trans hEr.out)
                  have CC := Lib.hid C
                  clear hl C hEr j1
                  go_wp2_with (go_at_call 167; (with_reducible refine CC.out.mono ?_); rintro e9 w9 ⟨rfl, kb⟩)
                  go_roundw
                  case rel => exact ⟨I0, j + 1, e3, rfl, by go_num, by omega, ⟨hI1, hI2⟩, by rw [← HN.out]; exact hf, Lib.hid (by rw [← HN.out]; exact hSr.below kb), by rw [hs2]; exact HQ, Lib.hid (hTr.trans (Tch.of kb))⟩
                  case measure => simp [intOf] <;> omega
              · have q' : ¬ (p : Int) < (b : Int) := by omega
                have q'' := decide_eq_false q'
                have HN := Lib.hid ((sup2_stop ltK f b p (fun x => q x.1)).symm.trans hEr.out)
                clear hEr
                go_wp2
                go_roundw
                case rel => exact ⟨I0, j + 1, e3, rfl, by go_num, by omega, ⟨hI1, hI2⟩, by rw [← HN.out]; exact hf, Lib.hid (by rw [← HN.out]; exact hSr), by rw [hs2]; exact HQ, Lib.hid hTr⟩
                case measure => simp [intOf] <;> omega
          · have h2' : ¬ (2 : Int) ≤ (b : Int) - (I0 : Int) := by omega
            have h2'' := decide_eq_false h2'
            have HE := HE3.out
            rw [if_neg h2] at HE
            have HE4 := Lib.hid HE
            clear HE
            go_wp2
            go_roundw
            case rel => exact ⟨I0, j + 1, e3, rfl, by go_num, by omega, ⟨hI1, hI2⟩, by rw [← HE4.out]; exact he2, by rw [← HE4.out]; exact S4, by rw [hs2]; exact HQ, T4⟩
            case measure => simp [intOf] <;> omega
    · have hj' : ¬ (j : Int) < 5 := by omega
      have HQ := Lib.hid (show (e, false) = R from by rw [← hPI.out, show 5 - j = 0 by omega]; rfl)
      have HST := Lib.hid hS
      clear hS hPI
      go_wp2
      go_ret
      refine ⟨by (rw [← HQ.out]) <;> rfl, by rw [← HQ.out]; exact HST.out, g0.trans hT⟩
end
end Go.Proofs.YtbejkcdaefkibaaGreat.Wd
namespace Go.Proofs.YtbejkcdaefkibaaGreat.Wd
open Go Go.RowKit Go.Deep
set_option linter.unusedVariables false
set_option maxRecDepth 100000

abbrev Tnt : TypeId := 3
/-- A variable of one number lies in block X. -/
def Cnt (w : World) (X : Nat) : Prop := ∃ s : Int, Blk w X #[.int .i64 s] Tnt
theorem Cnt.below {w w' : World} {X : Nat} (h : Cnt w X) (g : Below w.heap.size w w') : Cnt w' X := by obtain ⟨s, hs⟩ := h; exact ⟨s, hs.below g⟩
theorem Cnt.lt {w : World} {X : Nat} (h : Cnt w X) : X < w.heap.size := by obtain ⟨s, hs⟩ := h; exact hs.lt
theorem SoT.tch {W W' : World} {KB RX cap X : Nat} {d : Array ByteArray} (h : SoT W KB RX cap d) (g : Tch (one X) W W') (h1 : X ≠ KB) (h2 : X ≠ RX) : SoT W' KB RX cap d := by
  have e1 : W'.heap[KB]? = W.heap[KB]? := g.block KB h.lt (fun e => h1 (show KB = X from e).symm)
  refine ⟨Nat.lt_of_lt_of_le h.lt g.size, h.ne, h.fit, tcell g (fun e => h2 (show RX = X from e).symm) h.var, fun k hk => ⟨(World.cell?_of_block (w := W) e1).trans (h.rows k hk).1, (World.frozen?_of_block (w := W) e1).trans (h.rows k hk).2⟩, ?_⟩
  obtain ⟨cur, hb⟩ := h.typ
  exact ⟨cur, e1.trans hb⟩
section
variable {KB RX cap n sf : Nat} {sb : Array Value}
theorem order2_any (hls : LessC KB RX cap n) (hn : n ≤ 1099511627776) (a b X : Nat) (ha : a < n) (hb : b < n) (W : World) (d : Array ByteArray) (hS : SoT W KB RX cap d) (hd : d.size = n) (hX : Cnt W X) :
    Calls Tryz.prog 257 #[datV RX sf sb, .int .i64 (a : Int), .int .i64 (b : Int), ptr X] W fun e w' => (∃ x y : Nat, e = .returned (.tuple #[.int .i64 (x : Int), .int .i64 (y : Int)]) ∧ ((x = a ∧ y = b) ∨ (x = b ∧ y = a))) ∧ Cnt w' X ∧ Tch (one X) W w' := by
  have S0 := hS.alloc (boxO RX sf sb)
  have b0 : (W.alloc (boxO RX sf sb)).cell? ⟨W.heap.size, 0, none⟩ = some (lesV RX) := by simp
  have g0 := (Below.refl _ W).alloc (Nat.le_refl _) (boxO RX sf sb)
  have X0 := Lib.hid (hX.below g0)
  have C := hls _ d b a S0 hd hb ha
  cases hl : ltK d[b]! d[a]! with
  | true =>
    rw [hl] at C
    have CC := Lib.hid C
    clear C hl hls hS S0 hX
    go_enter Tryz.func257, Tryz.ntmps257
    go_wp2_with (go_at_call 167; (with_reducible refine CC.out.mono ?_); rintro e9 w9 ⟨rfl, kb⟩; refine stopHere ?_)
    unfold Stop
    obtain ⟨s, hs⟩ := X0.out.below kb
    have c0 := hs.cell 0
    have f0 := hs.fz 0
    have G := Lib.hid (kbq g0 kb)
    have HX := Lib.hid hs
    clear CC kb g0 b0 X0
    simp at c0
    go_wp2
    go_ret2
    exact ⟨⟨b, a, rfl, .inr ⟨rfl, rfl⟩⟩, ⟨_, HX.out.set 0 _⟩, (Tch.of G.out).trans (Tch.set (S := one X) _ X 0 _ rfl)⟩
  | false =>
    rw [hl] at C
    have CC := Lib.hid C
    clear C hl hls hS S0 hX
    go_enter Tryz.func257, Tryz.ntmps257
    go_wp2_with (go_at_call 167; (with_reducible refine CC.out.mono ?_); rintro e9 w9 ⟨rfl, kb⟩)
    go_ret2
    exact ⟨⟨a, b, rfl, .inl ⟨rfl, rfl⟩⟩, X0.out.below kb, Tch.of (kbq g0 kb)⟩
theorem median_any (hls : LessC KB RX cap n) (hn : n ≤ 1099511627776) (a b c X : Nat) (ha : a < n) (hb : b < n) (hc : c < n) (W : World) (d : Array ByteArray) (hS : SoT W KB RX cap d) (hd : d.size = n) (hX : Cnt W X) (h1 : X ≠ KB) (h2 : X ≠ RX) :
    Calls Tryz.prog 253 #[datV RX sf sb, .int .i64 (a : Int), .int .i64 (b : Int), .int .i64 (c : Int), ptr X] W fun e w' => (∃ x : Nat, e = .returned (.int .i64 (x : Int)) ∧ (x = a ∨ x = b ∨ x = c)) ∧ Cnt w' X ∧ Tch (one X) W w' := by
  have g0 := (Below.refl _ W).alloc (Nat.le_refl _) (boxO RX sf sb)
  have hXl := hX.lt
  have C1 := Lib.hid (order2_any (sf := sf) (sb := sb) hls hn a b X ha hb _ d (hS.below g0) hd (hX.below g0))
  have O := Lib.hid (fun V x y hx hy (g : SoT V KB RX cap d) (hh : Cnt V X) => order2_any (sf := sf) (sb := sb) hls hn x y X hx hy V d g hd hh)
  have S0 := Lib.hid (hS.below g0)
  have b0 : (W.alloc (boxO RX sf sb)).cell? ⟨W.heap.size, 0, none⟩ = some (lesV RX) := by simp
  have b1 : (W.alloc (boxO RX sf sb)).cell? ⟨W.heap.size, 1, none⟩ = some (.func (Fn.func sf) #[] sb) := by simp
  have nb : ¬ one X W.heap.size := by show ¬ W.heap.size = X; omega
  clear hls hS hX
  go_enter Tryz.func253, Tryz.ntmps253
  go_wp2_with (go_at_call 257; (with_reducible refine C1.out.mono ?_); rintro e1 w1 ⟨⟨x, y, rfl, hxy⟩, hX1, g1⟩; refine stopHere ?_)
  unfold Stop
  have S1 := Lib.hid (S0.out.tch g1 h1 h2)
  replace b0 := tcell g1 nb b0
  replace b1 := tcell g1 nb b1
  have C2 := Lib.hid (O.out w1 y c (by omega) hc S1.out hX1)
  have G1 := Lib.hid ((Tch.of (S := one X) g0).trans g1)
  clear C1 hX1 g1 S0 g0
  go_wp2_with (go_at_call 257; (with_reducible refine C2.out.mono ?_); rintro e2 w2 ⟨⟨y2, z2, rfl, hyz⟩, hX2, g2⟩; refine stopHere ?_)
  unfold Stop
  have S2 := Lib.hid (S1.out.tch g2 h1 h2)
  replace b0 := tcell g2 nb b0
  replace b1 := tcell g2 nb b1
  have C3 := Lib.hid (O.out w2 x y2 (by omega) (by omega) S2.out hX2)
  have G2 := Lib.hid (G1.out.trans g2)
  clear C2 hX2 g2 S1 G1
  go_wp2_with (go_at_call 257; (with_reducible refine C3.out.mono ?_); rintro e3 w3 ⟨⟨x3, y3, rfl, hx3⟩, hX3, g3⟩)
  go_ret
  exact ⟨⟨y3, rfl, by omega⟩, hX3, G2.out.trans g3⟩
theorem medadj_any (hls : LessC KB RX cap n) (hn : n ≤ 1099511627776) (a X : Nat) (ha : 1 ≤ a) (ha2 : a + 1 < n) (W : World) (d : Array ByteArray) (hS : SoT W KB RX cap d) (hd : d.size = n) (hX : Cnt W X) (h1 : X ≠ KB) (h2 : X ≠ RX) :
    Calls Tryz.prog 252 #[datV RX sf sb, .int .i64 (a : Int), ptr X] W fun e w' => (∃ x : Nat, e = .returned (.int .i64 (x : Int)) ∧ (x + 1 = a ∨ x = a ∨ x = a + 1)) ∧ Cnt w' X ∧ Tch (one X) W w' := by
  have g0 := (Below.refl _ W).alloc (Nat.le_refl _) (boxO RX sf sb)
  have C1 := median_any (sf := sf) (sb := sb) hls hn (a - 1) a (a + 1) X (by omega) (by omega) (by omega) _ d (hS.below g0) hd (hX.below g0) h1 h2
  rw [show ((a - 1 : Nat) : Int) = (a : Int) - 1 by omega, show ((a + 1 : Nat) : Int) = (a : Int) + 1 by omega] at C1
  have CC := Lib.hid C1
  have b0 : (W.alloc (boxO RX sf sb)).cell? ⟨W.heap.size, 0, none⟩ = some (lesV RX) := by simp
  have b1 : (W.alloc (boxO RX sf sb)).cell? ⟨W.heap.size, 1, none⟩ = some (.func (Fn.func sf) #[] sb) := by simp
  clear hls hS hX C1
  go_enter Tryz.func252, Tryz.ntmps252
  go_wp2_with (go_at_call 253; (with_reducible refine CC.out.mono ?_); rintro e1 w1 ⟨⟨x, rfl, hx⟩, hX1, g1⟩)
  go_ret
  exact ⟨⟨x, rfl, by omega⟩, hX1, (Tch.of g0).trans g1⟩
end
end Go.Proofs.YtbejkcdaefkibaaGreat.Wd
namespace Go.Proofs.YtbejkcdaefkibaaGreat.Wd
open Go Go.RowKit Go.Deep
set_option linter.unusedVariables false
set_option maxRecDepth 100000
section
variable {KB RX cap n sf : Nat} {sb : Array Value}
set_option maxHeartbeats 2000000 in
theorem pivot_any (hls : LessC KB RX cap n) (hn : n ≤ 1099511627776) (a b : Nat) (h12 : 12 < b - a) (hbn : b ≤ n) (W : World) (d : Array ByteArray) (hS : SoT W KB RX cap d) (hd : d.size = n) :
    Calls Tryz.prog 240 #[datV RX sf sb, .int .i64 (a : Int), .int .i64 (b : Int)] W fun e w' => (∃ (p : Nat) (h : Int), e = .returned (.tuple #[.int .i64 (p : Int), .int .i64 h]) ∧ (a ≤ p ∧ p < b) ∧ (h = 0 ∨ h = 1 ∨ h = 2)) ∧ Below W.heap.size W w' := by
  have HL := Lib.hid hls
  have hlt := hS.lt
  have hrx := cell_lt hS.var
  have S0 := Lib.hid ((hS.alloc (boxO RX sf sb)).alloc (.cells #[.int .i64 0] Tnt))
  have g0 := Lib.hid (((Below.refl _ W).alloc (Nat.le_refl _) (boxO RX sf sb)).alloc (by simp) (.cells #[.int .i64 0] Tnt))
  have b0 : ((W.alloc (boxO RX sf sb)).alloc (.cells #[.int .i64 0] Tnt)).cell? ⟨W.heap.size, 0, none⟩ = some (lesV RX) := acell (by simp)
  have b1 : ((W.alloc (boxO RX sf sb)).alloc (.cells #[.int .i64 0] Tnt)).cell? ⟨W.heap.size, 1, none⟩ = some (.func (Fn.func sf) #[] sb) := acell (by simp)
  have X0 : Hid (Cnt ((W.alloc (boxO RX sf sb)).alloc (.cells #[.int .i64 0] Tnt)) (W.heap.size + 1)) := Lib.hid ⟨0, by have := Blk.new (W.alloc (boxO RX sf sb)) #[.int .i64 0] Tnt; simpa using this⟩
  obtain ⟨q, hq⟩ : ∃ q, (b - a) / 4 = q := ⟨_, rfl⟩
  have t4 : ((b : Int) - (a : Int)).tdiv 4 = (q : Int) := by rw [Int.tdiv_eq_ediv_of_nonneg (by omega)]; omega
  have q1 : 4 * q ≤ b - a ∧ b - a < 4 * q + 4 := by omega
  have l8 : (8 : Int) ≤ (b : Int) - (a : Int) := by omega
  have nb : ¬ one (W.heap.size + 1) W.heap.size := by show ¬ W.heap.size = W.heap.size + 1; omega
  have hz1 : W.heap.size + 1 ≠ KB := by omega
  have hz2 : W.heap.size + 1 ≠ RX := by omega
  clear hls hS hq
  go_enter Tryz.func240, Tryz.ntmps240
  by_cases h50 : b - a < 50
  · have l50 := decide_eq_false (show ¬ (50 : Int) ≤ (b : Int) - (a : Int) by omega)
    have C := median_any (sf := sf) (sb := sb) HL.out hn (a + q) (a + q * 2) (a + q * 3) (W.heap.size + 1) (by omega) (by omega) (by omega) _ d S0.out hd X0.out hz1 hz2
    rw [show ((a + q : Nat) : Int) = (a : Int) + (q : Int) by omega, show ((a + q * 2 : Nat) : Int) = (a : Int) + (q : Int) * 2 by omega, show ((a + q * 3 : Nat) : Int) = (a : Int) + (q : Int) * 3 by omega] at C
    have CC := Lib.hid C
    clear C
    go_wp2_with (go_at_call 253; (with_reducible refine CC.out.mono ?_); rintro e9 w9 ⟨⟨x, rfl, hx⟩, hX9, GG⟩; refine stopHere ?_)
    unfold Stop
    obtain ⟨s, hs⟩ := hX9
    have c0 := hs.cell 0
    simp at c0
    have G := Lib.hid (g0.out.trans (GG.lo (n := W.heap.size) (fun k hk => by have hk : k = W.heap.size + 1 := hk; omega) g0.out.size))
    clear hs b0 b1 S0 X0 GG
    by_cases e0 : s = 0
    · subst e0
      go_wp2
      go_ret2
      exact ⟨⟨x, 1, rfl, by omega, by omega⟩, G.out⟩
    · have e0' : (s == 0) = false := by simpa using e0
      by_cases e1 : s = 12
      · subst e1
        go_wp2
        go_ret2
        exact ⟨⟨x, 2, rfl, by omega, by omega⟩, G.out⟩
      · have e1' : (s == 12) = false := by simpa using e1
        go_wp2
        go_ret2
        exact ⟨⟨x, 0, rfl, by omega, by omega⟩, G.out⟩
  · have l50 := decide_eq_true (show (50 : Int) ≤ (b : Int) - (a : Int) by omega)
    have MA := Lib.hid (fun V (i : Nat) (h1 : 1 ≤ i) (h2 : i + 1 < n) (g : SoT V KB RX cap d) (hh : Cnt V (W.heap.size + 1)) => medadj_any (sf := sf) (sb := sb) HL.out hn i (W.heap.size + 1) h1 h2 V d g hd hh hz1 hz2)
    have C1 := MA.out _ (a + q) (by omega) (by omega) S0.out X0.out
    rw [show ((a + q : Nat) : Int) = (a : Int) + (q : Int) by omega] at C1
    have D1 := Lib.hid C1
    clear C1
    go_wp2_with (go_at_call 252; (with_reducible refine D1.out.mono ?_); rintro e1 w1 ⟨⟨i1, rfl, hi1⟩, hX1, g1⟩; refine stopHere ?_)
    unfold Stop
    have S1 := Lib.hid (S0.out.tch g1 hz1 hz2)
    replace b0 := tcell g1 nb b0
    replace b1 := tcell g1 nb b1
    have C2 := MA.out w1 (a + q * 2) (by omega) (by omega) S1.out hX1
    rw [show ((a + q * 2 : Nat) : Int) = (a : Int) + (q : Int) * 2 by omega] at C2
    have D2 := Lib.hid C2
    have G1 := Lib.hid g1
    clear C2 D1 g1 hX1
    go_wp2_with (go_at_call 252; (with_reducible refine D2.out.mono ?_); rintro e2 w2 ⟨⟨i2, rfl, hi2⟩, hX2, g2⟩; refine stopHere ?_)
    unfold Stop
    have S2 := Lib.hid (S1.out.tch g2 hz1 hz2)
    replace b0 := tcell g2 nb b0
    replace b1 := tcell g2 nb b1
    have C3 := MA.out w2 (a + q * 3) (by omega) (by omega) S2.out hX2
    rw [show ((a + q * 3 : Nat) : Int) = (a : Int) + (q : Int) * 3 by omega] at C3
    have D3 := Lib.hid C3
    have G2 := Lib.hid (G1.out.trans g2)
    clear C3 D2 g2 hX2 G1
    go_wp2_with (go_at_call 252; (with_reducible refine D3.out.mono ?_); rintro e3 w3 ⟨⟨i3, rfl, hi3⟩, hX3, g3⟩; refine stopHere ?_)
    unfold Stop
    have S3 := Lib.hid (S2.out.tch g3 hz1 hz2)
    replace b0 := tcell g3 nb b0
    replace b1 := tcell g3 nb b1
    have CC := Lib.hid (median_any (sf := sf) (sb := sb) HL.out hn i1 i2 i3 (W.heap.size + 1) (by omega) (by omega) (by omega) w3 d S3.out hd hX3 hz1 hz2)
    have G3 := Lib.hid (G2.out.trans g3)
    clear D3 g3 hX3 G2 S1 S2 MA
    go_wp2_with (go_at_call 253; (with_reducible refine CC.out.mono ?_); rintro e9 w9 ⟨⟨x, rfl, hx⟩, hX9, g9⟩; refine stopHere ?_)
    have GG := G3.out.trans g9
    unfold Stop
    obtain ⟨s, hs⟩ := hX9
    have c0 := hs.cell 0
    simp at c0
    have G := Lib.hid (g0.out.trans (GG.lo (n := W.heap.size) (fun k hk => by have hk : k = W.heap.size + 1 := hk; omega) g0.out.size))
    clear hs b0 b1 S0 X0 GG
    by_cases e0 : s = 0
    · subst e0
      go_wp2
      go_ret2
      exact ⟨⟨x, 1, rfl, by omega, by omega⟩, G.out⟩
    · have e0' : (s == 0) = false := by simpa using e0
      by_cases e1 : s = 12
      · subst e1
        go_wp2
        go_ret2
        exact ⟨⟨x, 2, rfl, by omega, by omega⟩, G.out⟩
      · have e1' : (s == 12) = false := by simpa using e1
        go_wp2
        go_ret2
        exact ⟨⟨x, 0, rfl, by omega, by omega⟩, G.out⟩
end
end Go.Proofs.YtbejkcdaefkibaaGreat.Wd
namespace Go.Proofs.YtbejkcdaefkibaaGreat.Wd
open Go Go.RowKit Go.Deep
set_option linter.unusedVariables false
set_option maxRecDepth 100000
theorem bits_in (op : BinOp) (x y : Int) : U (bits op .u64 x y) := by
  unfold bits
  dsimp only
  rw [IntKind.wrap_u64]
  unfold U
  omega
theorem two_bitLen : ∀ (m x : Nat), x ≤ m → 1 ≤ x → x < 18446744073709551616 → 2 ^ Lib.bitLen x ≤ 2 * x
  | 0, x, h, h1, _ => by omega
  | m + 1, x, h, h1, h2 => by
    rw [Lib.bitLen_half x (by omega) h2, Nat.pow_add, Nat.pow_one]
    by_cases z : x / 2 = 0
    · rw [z]
      have : Lib.bitLen 0 = 0 := by decide
      rw [this]; omega
    · have := two_bitLen m (x / 2) (by omega) (by omega) (by omega)
      omega
abbrev Txs : TypeId := 299
/-- A number of 64 bits lies in block X. -/
def Rnd (w : World) (X : Nat) : Prop := ∃ r : Int, U r ∧ Blk w X #[.int .u64 r] Txs
theorem Rnd.below {w w' : World} {X : Nat} (h : Rnd w X) (g : Below w.heap.size w w') : Rnd w' X := by obtain ⟨r, hr, hs⟩ := h; exact ⟨r, hr, hs.below g⟩
theorem npot_any (x : Nat) (h1 : 1 ≤ x) (h2 : x ≤ 1099511627776) (w : World) : Calls Tryz.prog 250 #[.int .i64 (x : Int)] w fun e w' => (∃ P : Nat, e = .returned (.int .u64 (P : Int)) ∧ 1 ≤ P ∧ P ≤ 2 * x) ∧ w' = w := by
  have C := Lib.hid (blen_any x w (by omega))
  have hb := bitLen_64 x h2
  have hp := two_bitLen x x (Nat.le_refl _) h1 (by omega)
  have hp1 : 1 ≤ 2 ^ Lib.bitLen x := Nat.one_le_two_pow
  obtain ⟨P, hP⟩ : ∃ P, 2 ^ Lib.bitLen x = P := ⟨_, rfl⟩
  have hk : Lib.bitLen x < 64 := by
    by_cases z : Lib.bitLen x < 64
    · exact z
    · have : 2 ^ 64 ≤ 2 ^ Lib.bitLen x := Nat.pow_le_pow_right (by decide) (by omega)
      omega
  rw [hP] at hp hp1
  have hPI : (2 : Int) ^ Lib.bitLen x = (P : Int) := by rw [← hP]; simp
  clear hP
  generalize Lib.bitLen x = k at *
  have w1 : IntKind.u64.wrap (x : Int) = (x : Int) := by rw [IntKind.wrap_u64]; omega
  have w2 : IntKind.u64.wrap (k : Int) = (k : Int) := by rw [IntKind.wrap_u64]; omega
  have w3 : IntKind.u64.wrap (P : Int) = (P : Int) := by rw [IntKind.wrap_u64]; omega
  have km : (k : Int) % 64 = (k : Int) := by omega
  go_enter Tryz.func250, Tryz.ntmps250
  go_wp2_with (go_at_call 199; (with_reducible refine C.out.mono ?_); rintro e9 w9 ⟨rfl, rfl⟩)
  go_ret
  exact ⟨⟨P, rfl, hp1, hp⟩, rfl⟩
set_option maxHeartbeats 1000000 in
theorem next_any (X : Nat) (w : World) (h : Rnd w X) : Calls Tryz.prog 251 #[ptr X] w fun e w' => (∃ r : Int, e = .returned (.int .u64 r) ∧ U r) ∧ Rnd w' X ∧ Tch (one X) w w' := by
  obtain ⟨r, hr, hb⟩ := h
  have c0 := hb.cell 0
  have f0 := hb.fz 0
  simp at c0
  have HB := Lib.hid hb
  clear hb
  go_enter Tryz.func251, Tryz.ntmps251
  have T0 := Lib.hid (Tch.refl (one X) w)
  go_wp2_with fail
  go_region
  have u1 := bits_in .xor r (IntKind.u64.wrap (r * 8192))
  have B1 := Lib.hid ((HB.out.set 0 (.int .u64 (bits .xor .u64 r (IntKind.u64.wrap (r * 8192))))).dr)
  have T1 := Lib.hid ((T0.out.trans (Tch.set (S := one X) w X 0 (.int .u64 (bits .xor .u64 r (IntKind.u64.wrap (r * 8192)))) rfl)).trans (Drew.tch (S := one X) (Drew.one _)))
  clear HB T0 c0 f0
  generalize bits .xor .u64 r (IntKind.u64.wrap (r * 8192)) = v1 at *
  generalize World.drew _ = V1 at *
  have HB1 : Hid (Blk V1 X #[.int .u64 v1] Txs) := B1
  have c0 := HB1.out.cell 0
  have f0 := HB1.out.fz 0
  simp at c0
  clear B1
  go_wp2_with fail
  go_region
  have u2 := bits_in .xor v1 (v1 / 128)
  have B2 := Lib.hid ((HB1.out.set 0 (.int .u64 (bits .xor .u64 v1 (v1 / 128)))).dr)
  have T2 := Lib.hid ((T1.out.trans (Tch.set (S := one X) V1 X 0 (.int .u64 (bits .xor .u64 v1 (v1 / 128))) rfl)).trans (Drew.tch (S := one X) (Drew.one _)))
  clear HB1 T1 c0 f0
  generalize bits .xor .u64 v1 (v1 / 128) = v2 at *
  generalize World.drew _ = V2 at *
  have HB2 : Hid (Blk V2 X #[.int .u64 v2] Txs) := B2
  have c0 := HB2.out.cell 0
  have f0 := HB2.out.fz 0
  simp at c0
  clear B2
  go_wp2_with fail
  go_region
  have u3 := bits_in .xor v2 (IntKind.u64.wrap (v2 * 131072))
  have B3 := Lib.hid ((HB2.out.set 0 (.int .u64 (bits .xor .u64 v2 (IntKind.u64.wrap (v2 * 131072))))).dr)
  have T3 := Lib.hid ((T2.out.trans (Tch.set (S := one X) V2 X 0 (.int .u64 (bits .xor .u64 v2 (IntKind.u64.wrap (v2 * 131072)))) rfl)).trans (Drew.tch (S := one X) (Drew.one _)))
  clear HB2 T2 c0 f0
  generalize bits .xor .u64 v2 (IntKind.u64.wrap (v2 * 131072)) = v3 at *
  generalize World.drew _ = V3 at *
  have HB3 : Hid (Blk V3 X #[.int .u64 v3] Txs) := B3
  have c0 := HB3.out.cell 0
  have f0 := HB3.out.fz 0
  simp at c0
  clear B3
  go_wp2
  go_ret
  exact ⟨⟨v3, rfl, u3⟩, ⟨v3, u3, HB3.out⟩, T3.out⟩
theorem and_small (r : Int) (P : Nat) (hr : U r) (h1 : 1 ≤ P) (h2 : P ≤ 2199023255552) : ∃ o : Nat, bits .and .u64 r ((P : Int) - 1) = (o : Int) ∧ o ≤ P - 1 := by
  unfold U at hr
  have h := bits_and_u64_nat r.toNat (P - 1) (by omega) (by omega)
  have e1 : ((r.toNat : Nat) : Int) = r := by omega
  have e2 : ((P - 1 : Nat) : Int) = (P : Int) - 1 := by omega
  rw [e1, e2] at h
  exact ⟨_, h, Nat.and_le_right⟩
/-- Two blocks. -/
abbrev two (A B : Nat) : Nat → Prop := fun k => k = A ∨ k = B
section
variable {KB RX cap n sf : Nat} {sb : Array Value}
set_option maxHeartbeats 2000000 in
theorem break_any (hsw : SwapC sf sb KB RX cap n) (hn : n ≤ 1099511627776) (a b : Nat) (h12 : 12 < b - a) (hbn : b ≤ n) (W : World) (d : Array ByteArray) (hS : SoT W KB RX cap d) (hd : d.size = n) :
    Calls Tryz.prog 239 #[datV RX sf sb, .int .i64 (a : Int), .int .i64 (b : Int)] W fun e w' => e = .returned (.tuple #[]) ∧ (∃ g, SoT w' KB RX cap g ∧ Sort.PermIn a b d g) ∧ Tch (one KB) W w' := by
  have HS := Lib.hid hsw
  have hlt := hS.lt
  have hrx := cell_lt hS.var
  have hx4 : (0 : Int) ≤ (b : Int) - (a : Int) ∧ (b : Int) - (a : Int) ≤ 1099511627776 := by omega
  have wl : IntKind.u64.wrap ((b : Int) - (a : Int)) = (b : Int) - (a : Int) := by rw [IntKind.wrap_u64]; omega
  have g0 := Lib.hid (((Below.refl _ W).alloc (Nat.le_refl _) (boxO RX sf sb)).alloc (by simp) (.cells #[.int .u64 ((b : Int) - (a : Int))] Txs))
  have S0 := Lib.hid (hS.below g0.out)
  have b0 : ((W.alloc (boxO RX sf sb)).alloc (.cells #[.int .u64 ((b : Int) - (a : Int))] Txs)).cell? ⟨W.heap.size, 1, none⟩ = some (.func (Fn.func sf) #[] sb) := acell (by simp)
  have X0 : Hid (Rnd ((W.alloc (boxO RX sf sb)).alloc (.cells #[.int .u64 ((b : Int) - (a : Int))] Txs)) (W.heap.size + 1)) := Lib.hid ⟨(b : Int) - (a : Int), (by unfold U; omega), by have := Blk.new (W.alloc (boxO RX sf sb)) #[.int .u64 ((b : Int) - (a : Int))] Txs; simpa using this⟩
  have C := npot_any (b - a) (by omega) (by omega) ((W.alloc (boxO RX sf sb)).alloc (.cells #[.int .u64 ((b : Int) - (a : Int))] Txs))
  rw [show ((b - a : Nat) : Int) = (b : Int) - (a : Int) by omega] at C
  have CC := Lib.hid C
  obtain ⟨q, hq⟩ : ∃ q, (b - a) / 4 = q := ⟨_, rfl⟩
  have t4 : ((b : Int) - (a : Int)).tdiv 4 = (q : Int) := by rw [Int.tdiv_eq_ediv_of_nonneg (by omega)]; omega
  have q1 : 4 * q ≤ b - a ∧ b - a < 4 * q + 4 := by omega
  have l8 : (8 : Int) ≤ (b : Int) - (a : Int) := by omega
  clear hsw hS hq C
  go_enter Tryz.func239, Tryz.ntmps239
  go_wp2_with (go_at_call 250; (with_reducible refine CC.out.mono ?_); rintro e9 w9 ⟨⟨P, rfl, hP1, hP2⟩, rfl⟩; refine stopHere ?_)
  unfold Stop
  generalize ((W.alloc (boxO RX sf sb)).alloc (.cells #[.int .u64 ((b : Int) - (a : Int))] Txs)) = W1 at *
  obtain ⟨X, hX⟩ : ∃ X, W.heap.size + 1 = X := ⟨_, rfl⟩
  rw [hX] at X0 ⊢
  have nb : ¬ two KB X W.heap.size := by intro h; rcases h with h | h <;> omega
  have hz1 : X ≠ KB := by omega
  have hz2 : X ≠ RX := by omega
  have wp1 : IntKind.u64.wrap ((P : Int) - 1) = (P : Int) - 1 := by rw [IntKind.wrap_u64]; omega
  clear CC
  go_wp2_with fail
  go_loopw [9] (fun i wr => ∃ (p : Nat) (e : Array ByteArray), i = .int .i64 (p : Int) ∧ (a + 1 ≤ p ∧ p ≤ a + q * 2 + 2) ∧ e.size = n ∧ Hid (SoT wr KB RX cap e) ∧ Hid (Sort.PermIn a b d e) ∧ Hid (Rnd wr X) ∧ Hid (Tch (two KB X) W1 wr)) (fun i _ => b + 2 - (intOf i).toNat)
  case atStart => exact ⟨a + q * 2 - 1, d, congrArg (Value.int .i64) (by omega), ⟨by omega, by omega⟩, hd, S0, Lib.hid (Sort.permIn_refl d a b), X0, Lib.hid (Tch.refl _ _)⟩
  case round =>
    obtain ⟨p, e, rfl, ⟨hp1, hp2⟩, he, hS, hP, hR, hT⟩ := hrel
    clear S0 X0
    by_cases hpq : p ≤ a + q * 2 + 1
    · have hpq' : (p : Int) ≤ (a : Int) + (q : Int) * 2 + 1 := by omega
      have CN := Lib.hid (next_any X wr hR.out)
      have k0 := tcell hT.out nb b0
      have hnX : ¬ one X W.heap.size := by show ¬ W.heap.size = X; omega
      go_wp2_with (go_at_call 251; (with_reducible refine CN.out.mono ?_); rintro e9 w9 ⟨⟨r, rfl, hr⟩, hR2, g2⟩; refine stopHere ?_)
      unfold Stop
      obtain ⟨o, ho, hol⟩ := and_small r P hr hP1 (by omega)
      have wo : IntKind.i64.wrap (o : Int) = (o : Int) := by rw [IntKind.wrap_i64]; omega
      replace k0 := tcell g2 hnX k0
      have hS2 := hS.out.tch g2 hz1 hz2
      have HT2 := Lib.hid (hT.out.trans (g2.mono (S' := two KB X) (fun k _ hk => .inr hk)))
      have HR2 := Lib.hid hR2
      have HP2 := Lib.hid hP.out
      clear CN hR hS hT hP g2 hR2
      by_cases hol2 : (b : Int) - (a : Int) ≤ (o : Int)
      · have j1 : ((a + (o - (b - a)) : Nat) : Int) = (a : Int) + ((o : Int) - ((b : Int) - (a : Int))) := by omega
        have ob : a + (o - (b - a)) < b := by omega
        have eb : b ≤ e.size := by rw [he]; exact hbn
        have HW := HS.out w9 e p (a + (o - (b - a))) hS2 he (by omega) (by omega)
        rw [j1] at HW
        obtain ⟨W', hrun, hS', hg'⟩ := HW
        have HPM := Lib.hid (Sort.permIn_trans _ _ _ a b HP2.out (Sort.swp_permIn e a b p (a + (o - (b - a))) (by omega) (by omega) (by omega) ob eb))
        have HR3 := Lib.hid (show Rnd W' X from by obtain ⟨r', h1, h2⟩ := HR2.out; exact ⟨r', h1, hg'.blk h2 (fun h => hz1 h)⟩)
        have HT3 := Lib.hid (HT2.out.trans (hg'.mono (S' := two KB X) (fun k _ hk => .inl hk)))
        have HS3 := Lib.hid hS'
        clear hS2 hS' hg' HR2 HT2 HP2 hr
        go_wp2
        go_roundw
        case rel => exact ⟨p + 1, _, by go_num, ⟨by omega, by omega⟩, (Sort.size_swp _ _ _).trans he, HS3, HPM, HR3, HT3⟩
        case measure => simp [intOf] <;> omega
      · have j1 : ((a + o : Nat) : Int) = (a : Int) + (o : Int) := by omega
        have ob : a + o < b := by omega
        have eb : b ≤ e.size := by rw [he]; exact hbn
        have HW := HS.out w9 e p (a + o) hS2 he (by omega) (by omega)
        rw [j1] at HW
        obtain ⟨W', hrun, hS', hg'⟩ := HW
        have HPM := Lib.hid (Sort.permIn_trans _ _ _ a b HP2.out (Sort.swp_permIn e a b p (a + o) (by omega) (by omega) (by omega) ob eb))
        have HR3 := Lib.hid (show Rnd W' X from by obtain ⟨r', h1, h2⟩ := HR2.out; exact ⟨r', h1, hg'.blk h2 (fun h => hz1 h)⟩)
        have HT3 := Lib.hid (HT2.out.trans (hg'.mono (S' := two KB X) (fun k _ hk => .inl hk)))
        have HS3 := Lib.hid hS'
        clear hS2 hS' hg' HR2 HT2 HP2 hr
        go_wp2
        go_roundw
        case rel => exact ⟨p + 1, _, by go_num, ⟨by omega, by omega⟩, (Sort.size_swp _ _ _).trans he, HS3, HPM, HR3, HT3⟩
        case measure => simp [intOf] <;> omega
    · have hpq' : ¬ (p : Int) ≤ (a : Int) + (q : Int) * 2 + 1 := by omega
      go_wp2
      go_end0
      exact ⟨rfl, ⟨e, hS.out, hP.out⟩, ((Tch.of (S := two KB X) g0.out).trans hT.out).mono (fun k hk h => h.elim id (fun h => by omega))⟩
end
end Go.Proofs.YtbejkcdaefkibaaGreat.Wd
namespace Go.Proofs.YtbejkcdaefkibaaGreat.Wd
open Go Go.RowKit Go.Deep
set_option linter.unusedVariables false
set_option maxRecDepth 100000
section
variable {KB RX cap n sf : Nat} {sb : Array Value}
set_option maxHeartbeats 8000000 in
theorem pdq_any (hsw : SwapC sf sb KB RX cap n) (hls : LessC KB RX cap n) (hn : n ≤ 1099511627776) : ∀ (N a0 b0 : Nat), b0 - a0 ≤ N → a0 ≤ b0 → b0 ≤ n → ∀ (lim : Nat) (W : World) (d : Array ByteArray), lim ≤ 64 → SoT W KB RX cap d → d.size = n → Sort.Below ltK a0 b0 d →
    Calls Tryz.prog 200 #[datV RX sf sb, .int .i64 (a0 : Int), .int .i64 (b0 : Int), .int .i64 (lim : Int)] W fun e w' => e = .returned (.tuple #[]) ∧ (∃ g, SoT w' KB RX cap g ∧ Sort.PermIn a0 b0 d g ∧ Sort.SortedIn ltK a0 b0 g) ∧ Tch (one KB) W w' := by
  intro N
  induction N using Nat.strongRecOn with
  | _ N ih =>
  intro a0 b0 hN hab0 hb0 lim0 W d hlim0 hS hd hB
  have HS := Lib.hid hsw
  have HL := Lib.hid hls
  have hlt := hS.lt
  have S0 := Lib.hid (hS.alloc (boxO RX sf sb))
  have HB0 := Lib.hid hB
  have g0 : Tch (one KB) W (W.alloc (boxO RX sf sb)) := .of ((Below.refl _ W).alloc (Nat.le_refl _) _)
  have b0' : (W.alloc (boxO RX sf sb)).cell? ⟨W.heap.size, 0, none⟩ = some (lesV RX) := by simp
  have b1' : (W.alloc (boxO RX sf sb)).cell? ⟨W.heap.size, 1, none⟩ = some (.func (Fn.func sf) #[] sb) := by simp
  have nb : ¬ one KB W.heap.size := by show ¬ W.heap.size = KB; omega
  clear hsw hls hS hB
  go_enter Tryz.func200, Tryz.ntmps200
  (try simp only [List.append_eq, List.cons_append, List.nil_append])
  go_wp2
  generalize hW : World.alloc _ _ = W1 at *
  clear hW
  go_loopw [1, 2, 3, 8, 9] (fun x y l u v wr => ∃ (a b lim : Nat) (wb wp : Bool) (e : Array ByteArray), x = .int .i64 (a : Int) ∧ y = .int .i64 (b : Int) ∧ l = .int .i64 (lim : Int) ∧ u = .bool wb ∧ v = .bool wp ∧ (a0 ≤ a ∧ a ≤ b ∧ b ≤ b0) ∧ lim ≤ 64 ∧ e.size = n ∧ Hid (SoT wr KB RX cap e) ∧ Hid (Sort.Below ltK a b e) ∧ Hid (∀ R, Sort.PermIn a b e R → Sort.SortedIn ltK a b R → Sort.PermIn a0 b0 d R ∧ Sort.SortedIn ltK a0 b0 R) ∧ Hid (Tch (one KB) W1 wr)) (fun x y _ _ _ _ => (intOf y - intOf x).toNat)
  case atStart => exact ⟨a0, b0, lim0, true, true, d, rfl, rfl, rfl, rfl, rfl, ⟨Nat.le_refl _, hab0, Nat.le_refl _⟩, hlim0, hd, S0, HB0, Lib.hid (fun R h1 h2 => ⟨h1, h2⟩), Lib.hid (.refl _ _)⟩
  case round =>
    obtain ⟨a, b, lim, wb, wp, e, rfl, rfl, rfl, rfl, rfl, ⟨ha, hab, hb⟩, hlim, he, hS, hB, HC, hT⟩ := hrel
    clear S0 HB0
    have b0 := b0'
    have b1 := b1'
    have hbn : b ≤ n := by omega
    have c0 := tcell hT.out nb b0
    have c1 := tcell hT.out nb b1
    by_cases s12 : b - a ≤ 12
    · have e12 : (b : Int) - (a : Int) ≤ 12 := by omega
      have C := Lib.hid (ins_any HS.out HL.out hn a b hab hbn _ e hS.out he)
      have HP := Lib.hid (Sort.insertionSort_holds ltK_swo e a b hab (by rw [he]; exact hbn))
      go_wp2_with (go_at_call 234; (with_reducible refine C.out.mono ?_); rintro e9 w9 ⟨rfl, hR, hg⟩)
      (try simp only [Exit.inBlock, Exit.then])
      refine bodyPost_ret (results_none rfl _ _ _) rfl ?_
      have z := HC.out _ HP.out.1 HP.out.2
      exact ⟨rfl, ⟨_, hR, z.1, z.2⟩, g0.trans (hT.out.trans hg)⟩
    have e12 : ¬ (b : Int) - (a : Int) ≤ 12 := by omega
    by_cases hl0 : lim = 0
    · subst hl0
      have C := Lib.hid (heap_any HS.out HL.out hn a b (by omega) hbn _ e hS.out he)
      have HP := Lib.hid (Sort.heapSort_holds ltK_swo e a b hab (by rw [he]; exact hbn))
      go_wp2_with (go_at_call 238; (with_reducible refine C.out.mono ?_); rintro e9 w9 ⟨rfl, hR, hg⟩)
      (try simp only [Exit.inBlock, Exit.then])
      refine bodyPost_ret (results_none rfl _ _ _) rfl ?_
      have z := HC.out _ HP.out.1 HP.out.2
      exact ⟨rfl, ⟨_, hR, z.1, z.2⟩, g0.trans (hT.out.trans hg)⟩
    have hl0' : ((lim : Int) == 0) = false := by rw [beq_eq_false_iff_ne]; omega
    go_upto_if 35 with fail
    clear hl0'
    go_cut [3] from 35 to 41 (fun l wx => ∃ (lim2 : Nat) (e1 : Array ByteArray), l = .int .i64 (lim2 : Int) ∧ lim2 ≤ 64 ∧ e1.size = n ∧ Hid (SoT wx KB RX cap e1) ∧ Hid (Sort.PermIn a b e e1) ∧ Hid (Tch (one KB) W1 wx))
    case first =>
      cases wb with
      | false =>
        have C := Lib.hid (break_any (sf := sf) (sb := sb) HS.out hn a b (by omega) hbn _ e hS.out he)
        go_wp2_with (go_at_call 239; (with_reducible refine C.out.mono ?_); rintro e9 w9 ⟨rfl, ⟨g9, hS9, hP9⟩, hg⟩)
        go_meet
        case rel => exact ⟨lim - 1, g9, congrArg (Value.int .i64) (by omega), by omega, hP9.1.trans he, Lib.hid hS9, Lib.hid hP9, Lib.hid (hT.out.trans hg)⟩
      | true =>
        go_wp2
        go_meet
        case rel => exact ⟨lim, e, rfl, hlim, he, hS, Lib.hid (Sort.permIn_refl e a b), hT⟩
    case rest =>
    clear hT hS c0 c1
    obtain ⟨lim2, e1, rfl, hlim2, he1, S1, P1, T1⟩ := hcut
    have c0 := tcell T1.out nb b0
    have c1 := tcell T1.out nb b1
    have C := Lib.hid (pivot_any (sf := sf) (sb := sb) HL.out hn a b (by omega) hbn _ e1 S1.out he1)
    go_wp2_with (go_at_call 240; (with_reducible refine C.out.mono ?_); rintro e9 w9 ⟨⟨p, hh, rfl, ⟨hp1, hp2⟩, hhh⟩, hg⟩; refine stopHere ?_)
    unfold Stop
    have S1' := Lib.hid (S1.out.below hg)
    have T1' := Lib.hid (T1.out.trans (Tch.of hg))
    have c0 := tcell T1'.out nb b0
    have c1 := tcell T1'.out nb b1
    clear C hg S1 T1
    go_upto_if 50 with fail
    go_cut [11, 12] from 50 to 60 (fun x y wx => ∃ (p2 : Nat) (h2 : Int) (e2 : Array ByteArray), x = .int .i64 (p2 : Int) ∧ y = .int .i64 h2 ∧ (a ≤ p2 ∧ p2 < b) ∧ (h2 = 0 ∨ h2 = 1) ∧ e2.size = n ∧ Hid (SoT wx KB RX cap e2) ∧ Hid (Sort.PermIn a b e e2) ∧ Hid (Tch (one KB) W1 wx))
    case first =>
      rcases hhh with rfl | rfl | rfl
      · go_wp2
        go_meet
        case rel => exact ⟨p, 0, e1, rfl, rfl, ⟨hp1, hp2⟩, .inl rfl, he1, S1', P1, T1'⟩
      · go_wp2
        go_meet
        case rel => exact ⟨p, 1, e1, rfl, rfl, ⟨hp1, hp2⟩, .inr rfl, he1, S1', P1, T1'⟩
      · have C := Lib.hid (rev_any (sf := sf) (sb := sb) HS.out hn a b (by omega) hbn _ e1 S1'.out he1)
        have HP := Lib.hid (Sort.reverseRange_holds e1 a b hab (by rw [he1]; exact hbn))
        go_wp2_with (go_at_call 241; (with_reducible refine C.out.mono ?_); rintro e9 w9 ⟨rfl, hR, hg⟩)
        go_meet
        case rel => exact ⟨b - 1 - (p - a), 1, _, congrArg (Value.int .i64) (by omega), rfl, ⟨by omega, by omega⟩, .inr rfl, HP.out.1.trans he1, Lib.hid hR, Lib.hid (Sort.permIn_trans _ _ _ a b P1.out HP.out), Lib.hid (T1'.out.trans hg)⟩
    case rest =>
    clear S1' T1' P1 c0 c1
    obtain ⟨p2, h2, e2, rfl, rfl, ⟨hp21, hp22⟩, hh2, he2, S2, P2, T2⟩ := hcut
    have c0 := tcell T2.out nb b0
    have c1 := tcell T2.out nb b1
    have B2 := Lib.hid (hB.out.perm (by rw [he]; exact hbn) P2.out)
    go_upto_region 16 with fail
    obtain ⟨wr2, hwr2⟩ : ∃ wr2 : World, wr2 = wc := ⟨_, rfl⟩
    go_cut [68] from 61 to 68 (fun v wx => ∃ t : Bool, v = .bool t ∧ Hid (wx = wr2))
    case first =>
      rcases hh2 with rfl | rfl <;> cases wb <;> cases wp
      all_goals
        go_wp2
        go_meet
        case rel => exact ⟨_, rfl, Lib.hid hwr2.symm⟩
    case rest =>
    obtain ⟨t, rfl, hwx⟩ := hcut
    have hwx := hwx.out
    rw [hwr2] at hwx
    subst hwx
    cases t
    · have P3 := P2
      have S3 := S2
      have T3 := T2
      have B3 := B2
      have he3 := he2
      generalize e2 = e3 at *
      clear S2 T2 P2 B2 he2 c0 c1 hwr2
      go_upto_region 18 with fail
      go_cut [83] from 73 to 83 (fun v wx => ∃ t : Bool, v = .bool t ∧ Hid (SoT wx KB RX cap e3) ∧ Hid (Tch (one KB) W1 wx) ∧ Hid (t = true → 0 < a ∧ ltK e3[a - 1]! e3[p2]! = false))
      case first =>
        by_cases ha0 : 0 < a
        · have ha0' : (0 : Int) < (a : Int) := by omega
          have C := HL.out _ e3 (a - 1) p2 S3.out he3 (by omega) (by omega)
          rw [show ((a - 1 : Nat) : Int) = (a : Int) - 1 by omega] at C
          have c0 := tcell T3.out nb b0
          cases hl : ltK e3[a - 1]! e3[p2]! with
          | true =>
            rw [hl] at C
            have CC := Lib.hid C
            clear hl C
            go_wp2_with (go_at_call 167; (with_reducible refine CC.out.mono ?_); rintro e9 w9 ⟨rfl, kb⟩)
            go_meet
            case rel => exact ⟨false, rfl, Lib.hid (S3.out.below kb), Lib.hid (T3.out.trans (Tch.of kb)), Lib.hid (fun h => nomatch h)⟩
          | false =>
            have HLL := Lib.hid hl
            rw [hl] at C
            have CC := Lib.hid C
            clear hl C
            go_wp2_with (go_at_call 167; (with_reducible refine CC.out.mono ?_); rintro e9 w9 ⟨rfl, kb⟩)
            go_meet
            case rel => exact ⟨true, rfl, Lib.hid (S3.out.below kb), Lib.hid (T3.out.trans (Tch.of kb)), Lib.hid (fun _ => ⟨ha0, by rw [HLL.out]⟩)⟩
        · have ha0' : ¬ (0 : Int) < (a : Int) := by omega
          have ha0'' := decide_eq_false ha0'
          go_wp2
          go_meet
          case rel => exact ⟨false, rfl, S3, T3, Lib.hid (fun h => nomatch h)⟩
      case rest =>
      clear S3 T3
      obtain ⟨t, rfl, S4, T4, ht⟩ := hcut
      have c0 := tcell T4.out nb b0
      have c1 := tcell T4.out nb b1
      cases t
      · clear ht
        have C := part_any (sf := sf) (sb := sb) HS.out HL.out hn a b p2 hp21 hp22 hbn _ e3 S4.out he3
        obtain ⟨mid, ap, e4, hx⟩ : ∃ mid ap e4, Sort.partition ltK e3 a b p2 = (mid, ap, e4) := ⟨_, _, _, rfl⟩
        obtain ⟨r1, r2, r3, r4, r5, r6, r7⟩ := Sort.round_part ltK_swo (Sort.partition_holds ltK) hp21 hp22 (by rw [he3]; exact hbn) B3.out hx
        rw [hx] at C
        dsimp only at C
        have CC := Lib.hid C
        have R4 := Lib.hid r4
        have R5 := Lib.hid r5
        have R6 := Lib.hid r6
        have R7 := Lib.hid r7
        have he4 : e4.size = n := r3.trans he3
        have t8 : ((b : Int) - (a : Int)).tdiv 8 = (((b - a) / 8 : Nat) : Int) := by rw [Int.tdiv_eq_ediv_of_nonneg (by omega)]; omega
        clear C hx r3 r4 r5 r6 r7 S4
        go_wp2_with (go_at_call 244; (with_reducible refine CC.out.mono ?_); rintro e9 w9 ⟨rfl, hS4, hg4⟩; refine stopHere ?_)
        unfold Stop
        have T5 := Lib.hid (T4.out.trans hg4)
        have c0 := tcell T5.out nb b0
        have c1 := tcell T5.out nb b1
        by_cases hl : mid - a < b - mid
        · have hl' : (mid : Int) - (a : Int) < (b : Int) - (mid : Int) := by omega
          have hl'' := decide_eq_true hl'
          have D := Lib.hid (ih (mid - a) (by omega) a mid (Nat.le_refl _) r1 (by omega) lim2 w9 e4 hlim2 hS4 he4 R4.out)
          clear CC hS4 hg4 T4
          go_wp2_with (go_at_call 200; (with_reducible refine D.out.mono ?_); rintro e8 w8 ⟨rfl, ⟨g8, hS8, hP8, hQ8⟩, hg8⟩)
          obtain ⟨hB8, hfin⟩ := R6.out g8 hP8 hQ8
          go_roundw
          case rel => exact ⟨mid + 1, b, lim2, _, ap, g8, by go_num, rfl, rfl, rfl, rfl, ⟨by omega, by omega, by omega⟩, hlim2, hP8.1.trans he4, Lib.hid hS8, Lib.hid hB8, Lib.hid (fun R hp hs => by
            obtain ⟨z1, z2⟩ := hfin R hp hs
            exact HC.out R (Sort.permIn_trans _ _ _ a b P3.out z1) z2), Lib.hid (T5.out.trans hg8)⟩
          case measure => simp [intOf] <;> omega
        · have hl' : ¬ (mid : Int) - (a : Int) < (b : Int) - (mid : Int) := by omega
          have hl'' := decide_eq_false hl'
          have D := ih (b - (mid + 1)) (by omega) (mid + 1) b (Nat.le_refl _) (by omega) hbn lim2 w9 e4 hlim2 hS4 he4 R5.out
          rw [show ((mid + 1 : Nat) : Int) = (mid : Int) + 1 by omega] at D
          have DD := Lib.hid D
          clear CC hS4 hg4 T4 D
          go_wp2_with (go_at_call 200; (with_reducible refine DD.out.mono ?_); rintro e8 w8 ⟨rfl, ⟨g8, hS8, hP8, hQ8⟩, hg8⟩)
          obtain ⟨hB8, hfin⟩ := R7.out g8 hP8 hQ8
          go_roundw
          case rel => exact ⟨a, mid, lim2, _, ap, g8, rfl, rfl, rfl, rfl, rfl, ⟨by omega, by omega, by omega⟩, hlim2, hP8.1.trans he4, Lib.hid hS8, Lib.hid hB8, Lib.hid (fun R hp hs => by
            obtain ⟨z1, z2⟩ := hfin R hp hs
            exact HC.out R (Sort.permIn_trans _ _ _ a b P3.out z1) z2), Lib.hid (T5.out.trans hg8)⟩
          case measure => simp [intOf] <;> omega
      · obtain ⟨ha0, hnl⟩ := ht.out rfl
        clear ht
        have C := parteq_any (sf := sf) (sb := sb) HS.out HL.out hn a b p2 hp21 hp22 hbn _ e3 S4.out he3
        obtain ⟨mid, e4, hx⟩ : ∃ mid e4, Sort.partitionEqual ltK e3 a b p2 = (mid, e4) := ⟨_, _, rfl⟩
        obtain ⟨r1, r2, r3, r4, r5⟩ := Sort.round_eq ltK_swo (Sort.partitionEqual_holds ltK) ha0 hp21 hp22 (by rw [he3]; exact hbn) B3.out hnl hx
        rw [hx] at C
        dsimp only at C
        have CC := Lib.hid C
        have R4 := Lib.hid r4
        have R5 := Lib.hid r5
        clear C hx r4 r5 S4 hnl
        go_wp2_with (go_at_call 243; (with_reducible refine CC.out.mono ?_); rintro e9 w9 ⟨rfl, hS4, hg4⟩)
        go_roundw
        case rel => exact ⟨mid, b, lim2, _, _, e4, rfl, rfl, rfl, rfl, rfl, ⟨by omega, by omega, by omega⟩, hlim2, r3.trans he3, Lib.hid hS4, R4, Lib.hid (fun R hp hs => by
          obtain ⟨z1, z2⟩ := R5.out R hp hs
          exact HC.out R (Sort.permIn_trans _ _ _ a b P3.out z1) z2), Lib.hid (T4.out.trans hg4)⟩
        case measure => simp [intOf] <;> omega
    · have C := Lib.hid (partins_any (sf := sf) (sb := sb) HS.out HL.out hn a b (by omega) hbn _ e2 S2.out he2)
      have HP := Lib.hid (Sort.partialInsertionSort_holds ltK_swo e2 a b (by omega) (by rw [he2]; exact hbn) B2.out)
      obtain ⟨e3, tt, hx⟩ : ∃ e3 tt, Sort.partialInsertionSort ltK e2 a b = (e3, tt) := ⟨_, _, rfl⟩
      rw [hx] at C HP
      dsimp only at C HP
      go_wp2_with (go_at_call 242; (with_reducible refine C.out.mono ?_); rintro e9 w9 ⟨rfl, hS3, hg3⟩; refine stopHere ?_)
      unfold Stop
      have P3 := Lib.hid (Sort.permIn_trans _ _ _ a b P2.out HP.out.1)
      have S3 := Lib.hid hS3
      have T3 := Lib.hid (T2.out.trans hg3)
      have B3 := Lib.hid (B2.out.perm (by rw [he2]; exact hbn) HP.out.1)
      have he3 : e3.size = n := HP.out.1.1.trans he2
      clear C hx hS3 hg3 S2 T2 P2 B2 c0 c1
      have c0 := tcell T3.out nb b0
      have c1 := tcell T3.out nb b1
      cases tt
      · clear HP c0 c1
        go_upto_region 18 with fail
        go_cut [83] from 73 to 83 (fun v wx => ∃ t : Bool, v = .bool t ∧ Hid (SoT wx KB RX cap e3) ∧ Hid (Tch (one KB) W1 wx) ∧ Hid (t = true → 0 < a ∧ ltK e3[a - 1]! e3[p2]! = false))
        case first =>
          by_cases ha0 : 0 < a
          · have ha0' : (0 : Int) < (a : Int) := by omega
            have C := HL.out _ e3 (a - 1) p2 S3.out he3 (by omega) (by omega)
            rw [show ((a - 1 : Nat) : Int) = (a : Int) - 1 by omega] at C
            have c0 := tcell T3.out nb b0
            cases hl : ltK e3[a - 1]! e3[p2]! with
            | true =>
              rw [hl] at C
              have CC := Lib.hid C
              clear hl C
              go_wp2_with (go_at_call 167; (with_reducible refine CC.out.mono ?_); rintro e9 w9 ⟨rfl, kb⟩)
              go_meet
              case rel => exact ⟨false, rfl, Lib.hid (S3.out.below kb), Lib.hid (T3.out.trans (Tch.of kb)), Lib.hid (fun h => nomatch h)⟩
            | false =>
              have HLL := Lib.hid hl
              rw [hl] at C
              have CC := Lib.hid C
              clear hl C
              go_wp2_with (go_at_call 167; (with_reducible refine CC.out.mono ?_); rintro e9 w9 ⟨rfl, kb⟩)
              go_meet
              case rel => exact ⟨true, rfl, Lib.hid (S3.out.below kb), Lib.hid (T3.out.trans (Tch.of kb)), Lib.hid (fun _ => ⟨ha0, by rw [HLL.out]⟩)⟩
          · have ha0' : ¬ (0 : Int) < (a : Int) := by omega
            have ha0'' := decide_eq_false ha0'
            go_wp2
            go_meet
            case rel => exact ⟨false, rfl, S3, T3, Lib.hid (fun h => nomatch h)⟩
        case rest =>
        clear S3 T3
        obtain ⟨t, rfl, S4, T4, ht⟩ := hcut
        have c0 := tcell T4.out nb b0
        have c1 := tcell T4.out nb b1
        cases t
        · clear ht
          have C := part_any (sf := sf) (sb := sb) HS.out HL.out hn a b p2 hp21 hp22 hbn _ e3 S4.out he3
          obtain ⟨mid, ap, e4, hx⟩ : ∃ mid ap e4, Sort.partition ltK e3 a b p2 = (mid, ap, e4) := ⟨_, _, _, rfl⟩
          obtain ⟨r1, r2, r3, r4, r5, r6, r7⟩ := Sort.round_part ltK_swo (Sort.partition_holds ltK) hp21 hp22 (by rw [he3]; exact hbn) B3.out hx
          rw [hx] at C
          dsimp only at C
          have CC := Lib.hid C
          have R4 := Lib.hid r4
          have R5 := Lib.hid r5
          have R6 := Lib.hid r6
          have R7 := Lib.hid r7
          have he4 : e4.size = n := r3.trans he3
          have t8 : ((b : Int) - (a : Int)).tdiv 8 = (((b - a) / 8 : Nat) : Int) := by rw [Int.tdiv_eq_ediv_of_nonneg (by omega)]; omega
          clear C hx r3 r4 r5 r6 r7 S4
          go_wp2_with (go_at_call 244; (with_reducible refine CC.out.mono ?_); rintro e9 w9 ⟨rfl, hS4, hg4⟩; refine stopHere ?_)
          unfold Stop
          have T5 := Lib.hid (T4.out.trans hg4)
          have c0 := tcell T5.out nb b0
          have c1 := tcell T5.out nb b1
          by_cases hl : mid - a < b - mid
          · have hl' : (mid : Int) - (a : Int) < (b : Int) - (mid : Int) := by omega
            have hl'' := decide_eq_true hl'
            have D := Lib.hid (ih (mid - a) (by omega) a mid (Nat.le_refl _) r1 (by omega) lim2 w9 e4 hlim2 hS4 he4 R4.out)
            clear CC hS4 hg4 T4
            go_wp2_with (go_at_call 200; (with_reducible refine D.out.mono ?_); rintro e8 w8 ⟨rfl, ⟨g8, hS8, hP8, hQ8⟩, hg8⟩)
            obtain ⟨hB8, hfin⟩ := R6.out g8 hP8 hQ8
            go_roundw
            case rel => exact ⟨mid + 1, b, lim2, _, ap, g8, by go_num, rfl, rfl, rfl, rfl, ⟨by omega, by omega, by omega⟩, hlim2, hP8.1.trans he4, Lib.hid hS8, Lib.hid hB8, Lib.hid (fun R hp hs => by
              obtain ⟨z1, z2⟩ := hfin R hp hs
              exact HC.out R (Sort.permIn_trans _ _ _ a b P3.out z1) z2), Lib.hid (T5.out.trans hg8)⟩
            case measure => simp [intOf] <;> omega
          · have hl' : ¬ (mid : Int) - (a : Int) < (b : Int) - (mid : Int) := by omega
            have hl'' := decide_eq_false hl'
            have D := ih (b - (mid + 1)) (by omega) (mid + 1) b (Nat.le_refl _) (by omega) hbn lim2 w9 e4 hlim2 hS4 he4 R5.out
            rw [show ((mid + 1 : Nat) : Int) = (mid : Int) + 1 by omega] at D
            have DD := Lib.hid D
            clear CC hS4 hg4 T4 D
            go_wp2_with (go_at_call 200; (with_reducible refine DD.out.mono ?_); rintro e8 w8 ⟨rfl, ⟨g8, hS8, hP8, hQ8⟩, hg8⟩)
            obtain ⟨hB8, hfin⟩ := R7.out g8 hP8 hQ8
            go_roundw
            case rel => exact ⟨a, mid, lim2, _, ap, g8, rfl, rfl, rfl, rfl, rfl, ⟨by omega, by omega, by omega⟩, hlim2, hP8.1.trans he4, Lib.hid hS8, Lib.hid hB8, Lib.hid (fun R hp hs => by
              obtain ⟨z1, z2⟩ := hfin R hp hs
              exact HC.out R (Sort.permIn_trans _ _ _ a b P3.out z1) z2), Lib.hid (T5.out.trans hg8)⟩
            case measure => simp [intOf] <;> omega
        · obtain ⟨ha0, hnl⟩ := ht.out rfl
          clear ht
          have C := parteq_any (sf := sf) (sb := sb) HS.out HL.out hn a b p2 hp21 hp22 hbn _ e3 S4.out he3
          obtain ⟨mid, e4, hx⟩ : ∃ mid e4, Sort.partitionEqual ltK e3 a b p2 = (mid, e4) := ⟨_, _, rfl⟩
          obtain ⟨r1, r2, r3, r4, r5⟩ := Sort.round_eq ltK_swo (Sort.partitionEqual_holds ltK) ha0 hp21 hp22 (by rw [he3]; exact hbn) B3.out hnl hx
          rw [hx] at C
          dsimp only at C
          have CC := Lib.hid C
          have R4 := Lib.hid r4
          have R5 := Lib.hid r5
          clear C hx r4 r5 S4 hnl
          go_wp2_with (go_at_call 243; (with_reducible refine CC.out.mono ?_); rintro e9 w9 ⟨rfl, hS4, hg4⟩)
          go_roundw
          case rel => exact ⟨mid, b, lim2, _, _, e4, rfl, rfl, rfl, rfl, rfl, ⟨by omega, by omega, by omega⟩, hlim2, r3.trans he3, Lib.hid hS4, R4, Lib.hid (fun R hp hs => by
            obtain ⟨z1, z2⟩ := R5.out R hp hs
            exact HC.out R (Sort.permIn_trans _ _ _ a b P3.out z1) z2), Lib.hid (T4.out.trans hg4)⟩
          case measure => simp [intOf] <;> omega
      · go_wp2
        (try simp only [Exit.inBlock, Exit.then])
        refine bodyPost_ret (results_none rfl _ _ _) rfl ?_
        have z := HC.out _ P3.out (HP.out.2 (by first | exact trivial | rfl))
        exact ⟨rfl, ⟨_, S3.out, z.1, z.2⟩, g0.trans T3.out⟩
end
theorem sort_all (n : Nat) (h : n ≤ 1099511627776) : SortC n := sort_of n h (fun h2 KB RX cap W d lim hS hd hlim _ => pdq_any (swapC_any KB RX cap n h2) (less1_any KB RX cap n h) h n 0 n (by omega) (Nat.zero_le _) (Nat.le_refl _) lim W d hlim hS hd (.inl rfl))
end Go.Proofs.YtbejkcdaefkibaaGreat.Wd
namespace Go.Proofs.YtbejkcdaefkibaaGreat.Wd
open Go Go.RowKit Go.Shelf Go.Deep
set_option linter.unusedVariables false
set_option maxRecDepth 100000
/-- No byte. -/
abbrev nob : ByteArray := ⟨#[]⟩
/-- A row of texts that lies in memory. -/
def Sts (w : World) (A : Option Addr) (n : Nat) (xs : List ByteArray) : Prop :=
  xs.length = n ∧ (∀ x ∈ xs, x.size ≤ 9223372036854775807) ∧ (0 < n → ∃ b off, A = some ⟨b, off, none⟩ ∧ b < w.heap.size ∧ ∀ k, k < n → w.cell? ⟨b, off + k, none⟩ = some (.string (xs.getD k nob)))
theorem Sts.below {w w' : World} {A : Option Addr} {n : Nat} {xs : List ByteArray} (h : Sts w A n xs) (k : Below w.heap.size w w') : Sts w' A n xs :=
  ⟨h.1, h.2.1, fun hn => by
    obtain ⟨b, off, e, hb, hc⟩ := h.2.2 hn
    exact ⟨b, off, e, Nat.lt_of_lt_of_le hb k.size, fun j hj => (k.cell (p := ⟨b, off + j, none⟩) hb).trans (hc j hj)⟩⟩
theorem Sts.at {w : World} {A : Option Addr} {n : Nat} {xs : List ByteArray} (h : Sts w A n xs) (k : Nat) : (xs.getD k nob).size ≤ 9223372036854775807 := by
  by_cases hk : k < xs.length
  · rw [List.getD_eq_getElem?_getD, List.getElem?_eq_getElem hk]; exact h.2.1 _ (List.getElem_mem hk)
  · rw [List.getD_eq_getElem?_getD, List.getElem?_eq_none (by omega)]; exact Nat.zero_le _
def soB : List ByteArray → Bool
  | a :: b :: r => ls (lb a) (lb b) && soB (b :: r)
  | _ => true
theorem soB_iff : ∀ xs : List ByteArray, soB xs = true ↔ ∀ i, i + 1 < xs.length → ls (lb (xs.getD i nob)) (lb (xs.getD (i + 1) nob)) = true
  | [] => ⟨fun _ i h => by simp at h, fun _ => rfl⟩
  | [a] => ⟨fun _ i h => by simp at h, fun _ => rfl⟩
  | a :: b :: r => by
    rw [soB, Bool.and_eq_true, soB_iff (b :: r)]
    constructor
    · rintro ⟨h, g⟩ i hi
      cases i with
      | zero => simpa using h
      | succ i => have := g i (by simpa using hi); simpa using this
    · intro h
      refine ⟨by simpa using h 0 (by simp), fun i hi => ?_⟩
      have := h (i + 1) (by simpa using hi)
      simpa using this
theorem soB_no {xs : List ByteArray} (i : Nat) (hi : i + 1 < xs.length) (h : ls (lb (xs.getD i nob)) (lb (xs.getD (i + 1) nob)) = false) : soB xs = false := by
  rw [← Bool.not_eq_true, soB_iff]
  intro g
  rw [g i hi] at h; cases h
set_option maxHeartbeats 1000000 in
theorem sorted_any (A : Option Addr) (n cap : Nat) (xs : List ByteArray) (w : World) (h : Sts w A n xs) (hn : n ≤ 9223372036854775807) :
    Calls Tryz.prog 61 #[.slice A n cap] w fun e w' => e = .returned (.bool (soB xs)) ∧ Below w.heap.size w w' := by
  have Y := Lib.hid ((soB_iff xs).2)
  have N := Lib.hid (@soB_no xs)
  generalize soB xs = r at *
  have H := Lib.hid h
  have HL := Lib.hid h.1
  clear h
  go_enter Tryz.func61, Tryz.ntmps61
  go_wp2
  go_loopw [3] (fun i wr => ∃ k : Nat, i = .int .i64 ((k : Int) + 1) ∧ Hid (k < n ∨ k = 0) ∧ Hid (∀ j, j < k → ls (lb (xs.getD j nob)) (lb (xs.getD (j + 1) nob)) = true) ∧ Below w.heap.size w wr) (fun i _ => n - (intOf i).toNat)
  case atStart => exact ⟨0, rfl, Lib.hid (.inr rfl), Lib.hid (fun j hj => absurd hj (by omega)), Below.refl _ _⟩
  case round =>
    obtain ⟨p, rfl, Q, D, hB⟩ := hrel
    by_cases hlt : p + 1 < n
    · have hS := H.out.below hB
      have l1 := fun W => kless_any (xs.getD p nob) (xs.getD (p + 1) nob) W (hS.at p) (hS.at (p + 1))
      obtain ⟨b, off, rfl, hb, hc⟩ := hS.2.2 (by omega)
      have c0 := hc p (by omega)
      have c1 := hc (p + 1) hlt
      have hw1 : IntKind.i64.wrap (p : Int) = (p : Int) := by rw [IntKind.wrap_i64]; omega
      have hp0 : (0 : Int) ≤ (p : Int) := by omega
      have hpn : p < n := by omega
      have hpn' : (p : Int) < (n : Int) := by omega
      have hqn' : (p : Int) + 1 < (n : Int) := by omega
      have hq0 : (0 : Int) ≤ (p : Int) + 1 := by omega
      have kW := Below.refl wr.heap.size wr
      obtain ⟨o, hx⟩ : ∃ o, o = ls (lb (xs.getD p nob)) (lb (xs.getD (p + 1) nob)) := ⟨_, rfl⟩
      rw [← hx] at l1
      have HX := Lib.hid hx
      have L1 := Lib.hid l1
      clear hc hS hx l1
      generalize hxa : xs.getD p nob = xa at *
      generalize hxb : xs.getD (p + 1) nob = xb at *
      go_wp2_with fail
      go_region_held3 (fun w' => Below wr.heap.size wr w' ∧ w'.cell? ⟨b, off + p, none⟩ = some (.string xa) ∧ w'.cell? ⟨b, off + (p + 1), none⟩ = some (.string xb))
        (first | with_reducible exact ⟨kW, c0, c1⟩ | with_reducible exact ⟨kW.drew, dcell c0, dcell c1⟩)
        ((go_at_call 110; ((with_reducible refine (L1.out _).mono ?_); rintro e w' ⟨rfl, g⟩; replace c0 := celln g (by first | exact c0 | exact dcell c0); replace c1 := celln g (by first | exact c1 | exact dcell c1); (first | with_reducible (replace kW := kbq kW g) | with_reducible (replace kW := kbq kW.drew g)); clear g)))
      rename_i hH
      have gF := hH.1
      clear hH
      subst hxa hxb
      rcases o with _ | _
      · have e := N.out p (by rw [HL.out]; omega) HX.out.symm
        subst e
        go_wp2
        go_ret
        exact ⟨rfl, kbq hB gF⟩
      · go_wp2
        go_roundw
        case rel =>
          refine ⟨p + 1, by go_num, Lib.hid (.inl hlt), Lib.hid (fun j hj => ?_), kbq hB gF⟩
          by_cases e : j = p
          · subst e; exact HX.out.symm
          · exact D.out j (by omega)
        case measure => simp [intOf]; omega
    · have e := Y.out (fun i hi => D.out i (by rw [HL.out] at hi; omega))
      subst e
      go_wp2
      go_ret
      exact ⟨rfl, hB⟩
end Go.Proofs.YtbejkcdaefkibaaGreat.Wd
namespace Go.Proofs.YtbejkcdaefkibaaGreat.Wd
open Go Go.RowKit Go.Deep Go.Shelf
set_option linter.unusedVariables false
set_option maxRecDepth 100000
attribute [local go_sem] Oper.semAt_some
abbrev zsl : Array Value := #[.string ⟨#[]⟩, .string ⟨#[]⟩, .int .u64 0, .int .u64 0, .int .u8 0, .int .u8 0, .int .u64 0, .int .u64 0]
/-- Two rules count alike. -/
def smB (a b : Rl) : Bool := (a.e == b.e) && (a.b == b.b)
theorem ksame_any (a b : Rl) (w : World) : Calls Tryz.prog 36 #[a.v, b.v] w fun e w' => e = .returned (.bool (smB a b)) ∧ Below w.heap.size w w' := by
  have kb := ((Below.refl _ w).alloc (Nat.le_refl _) (.cells #[.string a.p, .int .u64 a.e, .int .u64 a.b, .int .u8 a.k] 79)).alloc (by simp) (.cells #[.string b.p, .int .u64 b.e, .int .u64 b.b, .int .u8 b.k] 79)
  unfold smB
  obtain ⟨q, hq⟩ : ∃ q, (a.e == b.e) = q := ⟨_, rfl⟩
  obtain ⟨p, hp⟩ : ∃ p, (a.b == b.b) = p := ⟨_, rfl⟩
  rw [hq, hp]
  cases q <;> cases p
  all_goals
    go_enter Tryz.func36, Tryz.ntmps36
    go_wp2
    go_ret
    exact ⟨rfl, kb⟩
/-- Who stays, as he does. -/
def stayS (rs : List Rl) (c : Int) (s : Sl) : Option Sl := match findR rs s.key with
  | some r => if smB r s.r = true ∧ ruE r.p r.e r.b r.k = 0 then some ⟨s.key, r, kmK s.k r.k, kmA s.k s.a s.b r.k c (capR r), kmB s.k r.k c⟩ else none
  | none => none
/-- Eight cells are set. -/
theorem bset8 {w : World} {X : Nat} {c0 c1 c2 c3 c4 c5 c6 c7 : Value} {t : TypeId} (h : Blk w X #[c0, c1, c2, c3, c4, c5, c6, c7] t) (y : Sl) : Blk ((((((((w.setCell ⟨X, 0, none⟩ (.string y.key)).setCell ⟨X, 1, none⟩ (.string y.r.p)).setCell ⟨X, 2, none⟩ (.int .u64 y.r.e)).setCell ⟨X, 3, none⟩ (.int .u64 y.r.b)).setCell ⟨X, 4, none⟩ (.int .u8 y.r.k)).setCell ⟨X, 5, none⟩ (.int .u8 y.k)).setCell ⟨X, 6, none⟩ (.int .u64 y.a)).setCell ⟨X, 7, none⟩ (.int .u64 y.b)) X y.cs t := by
  have z := ((((((((h.set 0 (.string y.key)).set 1 (.string y.r.p)).set 2 (.int .u64 y.r.e)).set 3 (.int .u64 y.r.b)).set 4 (.int .u8 y.r.k)).set 5 (.int .u8 y.k)).set 6 (.int .u64 y.a)).set 7 (.int .u64 y.b))
  simp only [List.setIfInBounds_toArray, List.set_cons_zero, List.set_cons_succ] at z
  exact z
theorem ts8 {Q : Nat → Prop} {W w : World} {X : Nat} {p0 p1 p2 p3 p4 p5 p6 p7 : Value} (kr : Tch Q W w) (h : Q X ∨ W.heap.size ≤ X) : Tch Q W ((((((((w.setCell ⟨X, 0, none⟩ p0).setCell ⟨X, 1, none⟩ p1).setCell ⟨X, 2, none⟩ p2).setCell ⟨X, 3, none⟩ p3).setCell ⟨X, 4, none⟩ p4).setCell ⟨X, 5, none⟩ p5).setCell ⟨X, 6, none⟩ p6).setCell ⟨X, 7, none⟩ p7) := tset (tset (tset (tset (tset (tset (tset (tset kr h) h) h) h) h) h) h) h
theorem blk8 {w : World} {b : Nat} {p0 p1 p2 p3 p4 p5 p6 p7 : Value} {t : TypeId} (h : Blk w b #[p0, p1, p2, p3, p4, p5, p6, p7] t) : w.cell? ⟨b, 0, none⟩ = some p0 ∧ w.cell? ⟨b, 1, none⟩ = some p1 ∧ w.cell? ⟨b, 2, none⟩ = some p2 ∧ w.cell? ⟨b, 3, none⟩ = some p3 ∧ w.cell? ⟨b, 4, none⟩ = some p4 ∧ w.cell? ⟨b, 5, none⟩ = some p5 ∧ w.cell? ⟨b, 6, none⟩ = some p6 ∧ w.cell? ⟨b, 7, none⟩ = some p7 ∧ w.frozen? ⟨b, 0, none⟩ = false ∧ w.frozen? ⟨b, 1, none⟩ = false ∧ w.frozen? ⟨b, 2, none⟩ = false ∧ w.frozen? ⟨b, 3, none⟩ = false ∧ w.frozen? ⟨b, 4, none⟩ = false ∧ w.frozen? ⟨b, 5, none⟩ = false ∧ w.frozen? ⟨b, 6, none⟩ = false ∧ w.frozen? ⟨b, 7, none⟩ = false :=
  ⟨h.cell 0, h.cell 1, h.cell 2, h.cell 3, h.cell 4, h.cell 5, h.cell 6, h.cell 7, h.fz 0, h.fz 1, h.fz 2, h.fz 3, h.fz 4, h.fz 5, h.fz 6, h.fz 7⟩
/-- A slot by another rule that counts alike. -/
abbrev stK (c : Int) (s : Sl) (r : Rl) : Sl := ⟨s.key, r, kmK s.k r.k, kmA s.k s.a s.b r.k c (capR r), kmB s.k r.k c⟩
theorem stay_none {rs : List Rl} {c : Int} {s : Sl} (h : findR rs s.key = none) : stayS rs c s = none := by unfold stayS; rw [h]
theorem stay_yes {rs : List Rl} {c : Int} {s : Sl} {r : Rl} (h : findR rs s.key = some r) (h1 : smB r s.r = true) (h2 : ruE r.p r.e r.b r.k = 0) : stayS rs c s = some (stK c s r) := by unfold stayS; rw [h]; exact if_pos ⟨h1, h2⟩
theorem stay_no {rs : List Rl} {c : Int} {s : Sl} {r : Rl} (h : findR rs s.key = some r) (h1 : ¬ (smB r s.r = true ∧ ruE r.p r.e r.b r.k = 0)) : stayS rs c s = none := by unfold stayS; rw [h]; exact if_neg h1
set_option maxHeartbeats 8000000 in
theorem stay_any (T : Nat) (c : Int) (rs : List Rl) (s : Sl) (w : World) (hs : Oks s) (hc : U c) (hT : TreeAt w T rs) (hok : ∀ r, findR rs s.key = some r → Okr r) :
    Calls Tryz.prog 133 #[.agg #[.pointer (some ⟨T, 0, none⟩), .int .u64 c], s.v] w fun e w' => e = .returned (.tuple #[((stayS rs c s).getD sl0).v, .bool (stayS rs c s).isSome]) ∧ Below w.heap.size w w' := by
  have CF := Lib.hid (fun W (g : TreeAt W T rs) => find_any T s.key rs W hs.key g)
  have b0 := Lib.hid (show Blk (((w.alloc (.cells #[.pointer (some ⟨T, 0, none⟩), .int .u64 c] 199)).alloc (.cells s.cs Tas)).alloc (.cells zsl Tas)) (w.heap.size) #[.pointer (some ⟨T, 0, none⟩), .int .u64 c] 199 from (((Blk.new w #[.pointer (some ⟨T, 0, none⟩), .int .u64 c] 199).alloc (.cells s.cs Tas)).alloc (.cells zsl Tas)))
  have b1 := Lib.hid (show Blk (((w.alloc (.cells #[.pointer (some ⟨T, 0, none⟩), .int .u64 c] 199)).alloc (.cells s.cs Tas)).alloc (.cells zsl Tas)) (w.heap.size + 1) s.cs Tas by have z := ((Blk.new (w.alloc (.cells #[.pointer (some ⟨T, 0, none⟩), .int .u64 c] 199)) s.cs Tas).alloc (.cells zsl Tas)); rwa [show (w.alloc (.cells #[.pointer (some ⟨T, 0, none⟩), .int .u64 c] 199)).heap.size = w.heap.size + 1 by simp] at z)
  have b2 := Lib.hid (show Blk (((w.alloc (.cells #[.pointer (some ⟨T, 0, none⟩), .int .u64 c] 199)).alloc (.cells s.cs Tas)).alloc (.cells zsl Tas)) (w.heap.size + 2) zsl Tas by have z := (Blk.new ((w.alloc (.cells #[.pointer (some ⟨T, 0, none⟩), .int .u64 c] 199)).alloc (.cells s.cs Tas)) zsl Tas); rwa [show ((w.alloc (.cells #[.pointer (some ⟨T, 0, none⟩), .int .u64 c] 199)).alloc (.cells s.cs Tas)).heap.size = w.heap.size + 2 by simp] at z)
  have k0 := Lib.hid (show Below w.heap.size w (((w.alloc (.cells #[.pointer (some ⟨T, 0, none⟩), .int .u64 c] 199)).alloc (.cells s.cs Tas)).alloc (.cells zsl Tas)) from ((((Below.refl w.heap.size w).alloc (Nat.le_refl _) (.cells #[.pointer (some ⟨T, 0, none⟩), .int .u64 c] 199)).alloc (by simp) (.cells s.cs Tas)).alloc (by simp; omega) (.cells zsl Tas)))
  have z0 := Lib.hid (show w.heap.size + 3 ≤ (((w.alloc (.cells #[.pointer (some ⟨T, 0, none⟩), .int .u64 c] 199)).alloc (.cells s.cs Tas)).alloc (.cells zsl Tas)).heap.size by simp)
  have HT := Lib.hid (hT.below k0.out)
  clear hT
  cases e : findR rs s.key with
  | none =>
    rw [stay_none e]
    rw [e] at CF
    clear e hok
    go_enter Tryz.func133, Tryz.ntmps133
    go_wp2_with fail
    generalize (((w.alloc (.cells #[.pointer (some ⟨T, 0, none⟩), .int .u64 c] 199)).alloc (.cells s.cs Tas)).alloc (.cells zsl Tas)) = W at *
    obtain ⟨x0, x1, x2, x3, x4, x5, x6, x7⟩ := b1.out.eight
    have j0 : W.cell? ⟨w.heap.size, 0, none⟩ = some (.pointer (some ⟨T, 0, none⟩)) := b0.out.cell 0
    go_wp2_with (go_at_call 113; (refine (CF.out _ HT.out).mono ?_; rintro e w1 ⟨rfl, g⟩; refine stopHere ?_))
    unfold Stop
    have k1 := Lib.hid (kbq k0.out ((g).alloc g.size (.cells #[.string ⟨#[]⟩, .int .u64 0, .int .u64 0, .int .u8 0] 79)))
    have d0 := Lib.hid ((b0.out.below g).alloc (.cells #[.string ⟨#[]⟩, .int .u64 0, .int .u64 0, .int .u8 0] 79))
    have d1 := Lib.hid ((b1.out.below g).alloc (.cells #[.string ⟨#[]⟩, .int .u64 0, .int .u64 0, .int .u8 0] 79))
    have d2 := Lib.hid ((b2.out.below g).alloc (.cells #[.string ⟨#[]⟩, .int .u64 0, .int .u64 0, .int .u8 0] 79))
    have d3 := Lib.hid (Blk.new w1 #[.string ⟨#[]⟩, .int .u64 0, .int .u64 0, .int .u8 0] 79)
    have l1 := (b2.out.below g).lt
    go_upto_region 2 with fail
    clear b0 b1 b2 k0 g x0 x1 x2 x3 x4 x5 x6 x7 j0 HT
    revert k1 d0 d1 d2 d3
    generalize w1.alloc (.cells #[.string ⟨#[]⟩, .int .u64 0, .int .u64 0, .int .u8 0] 79) = W2
    intro k1 d0 d1 d2 d3
    obtain ⟨X, hX⟩ : ∃ X, w1.heap.size = X := ⟨_, rfl⟩
    rw [hX] at d3 l1 ⊢
    clear hX
    obtain ⟨y0, y1, y2, y3, y4, y5, y6, y7, f0, f1, f2, f3, f4, f5, f6, f7⟩ := blk8 d2.out
    go_wp2
    have z := Lib.hid (bset8 d2.out sl0)
    have kz := Lib.hid (tch_below k1.out (ts8 (p0 := .string ⟨#[]⟩) (p1 := .string ⟨#[]⟩) (p2 := .int .u64 0) (p3 := .int .u64 0) (p4 := .int .u8 0) (p5 := .int .u8 0) (p6 := .int .u64 0) (p7 := .int .u64 0) (Tch.refl (fun k => k = w.heap.size + 2) W2) (X := w.heap.size + 2) (.inl rfl)) (Nat.le_refl _) (fun k h e => by omega))
    revert z kz
    generalize World.setCell _ ⟨w.heap.size + 2, 7, none⟩ _ = V
    intro z kz
    obtain ⟨q0, q1, q2, q3, q4, q5, q6, q7⟩ := (show Blk _ (w.heap.size + 2) sl0.cs Tas from z.out).eight
    refine bodyPost_ret (v := .tuple #[sl0.v, .bool false]) ?_ rfl ⟨rfl, kz.out⟩
    simp [results, Tryz.results133, go_sem, q0, q1, q2, q3, q4, q5, q6, q7]
  | some r =>
    have hr := hok r e
    have CS := Lib.hid (fun W => ksame_any r s.r W)
    have CR := Lib.hid (fun W => right_any r.p r.e r.b r.k W (by have := hr.p; omega) hr.e hr.b)
    rw [e] at CF
    by_cases h1 : smB r s.r = true
    · rw [h1] at CS
      by_cases h2 : ruE r.p r.e r.b r.k = 0
      · rw [stay_yes e h1 h2]
        rw [h2] at CR
        clear e hok h1 h2
        go_enter Tryz.func133, Tryz.ntmps133
        go_wp2_with fail
        generalize (((w.alloc (.cells #[.pointer (some ⟨T, 0, none⟩), .int .u64 c] 199)).alloc (.cells s.cs Tas)).alloc (.cells zsl Tas)) = W at *
        obtain ⟨x0, x1, x2, x3, x4, x5, x6, x7⟩ := b1.out.eight
        have j0 : W.cell? ⟨w.heap.size, 0, none⟩ = some (.pointer (some ⟨T, 0, none⟩)) := b0.out.cell 0
        go_wp2_with (go_at_call 113; (refine (CF.out _ HT.out).mono ?_; rintro e w1 ⟨rfl, g⟩; refine stopHere ?_))
        unfold Stop
        have k1 := Lib.hid (kbq k0.out ((g).alloc g.size (.cells #[.string r.p, .int .u64 r.e, .int .u64 r.b, .int .u8 r.k] 79)))
        have d0 := Lib.hid ((b0.out.below g).alloc (.cells #[.string r.p, .int .u64 r.e, .int .u64 r.b, .int .u8 r.k] 79))
        have d1 := Lib.hid ((b1.out.below g).alloc (.cells #[.string r.p, .int .u64 r.e, .int .u64 r.b, .int .u8 r.k] 79))
        have d2 := Lib.hid ((b2.out.below g).alloc (.cells #[.string r.p, .int .u64 r.e, .int .u64 r.b, .int .u8 r.k] 79))
        have d3 := Lib.hid (Blk.new w1 #[.string r.p, .int .u64 r.e, .int .u64 r.b, .int .u8 r.k] 79)
        have l1 := (b2.out.below g).lt
        go_upto_region 2 with fail
        clear b0 b1 b2 k0 g x0 x1 x2 x3 x4 x5 x6 x7 j0 HT
        revert k1 d0 d1 d2 d3
        generalize w1.alloc (.cells #[.string r.p, .int .u64 r.e, .int .u64 r.b, .int .u8 r.k] 79) = W2
        intro k1 d0 d1 d2 d3
        obtain ⟨X, hX⟩ : ∃ X, w1.heap.size = X := ⟨_, rfl⟩
        rw [hX] at d3 l1 ⊢
        clear hX
        obtain ⟨r0, r1, r2, r3, _⟩ := blk4 d3.out
        obtain ⟨x0, x1, x2, x3, x4, x5, x6, x7⟩ := d1.out.eight
        go_wp2_with (go_at_call 36; (refine (CS.out _).mono ?_; rintro e w3 ⟨rfl, g⟩; refine stopHere ?_))
        unfold Stop
        have e0 := Lib.hid (d0.out.below g)
        have e1 := Lib.hid (d1.out.below g)
        have e2 := Lib.hid (d2.out.below g)
        have e3 := Lib.hid (d3.out.below g)
        have k2 := Lib.hid (kbq k1.out g)
        clear d0 d1 d2 d3 k1 g r0 r1 r2 r3 x0 x1 x2 x3 x4 x5 x6 x7
        obtain ⟨r0, r1, r2, r3, _⟩ := blk4 e3.out
        go_wp2_with (go_at_call 106; (refine (CR.out _).mono ?_; rintro e w4 ⟨rfl, _, g⟩; refine stopHere ?_))
        unfold Stop
        have d0 := Lib.hid (e0.out.below g)
        have d1 := Lib.hid (e1.out.below g)
        have d2 := Lib.hid (e2.out.below g)
        have d3 := Lib.hid (e3.out.below g)
        have k1 := Lib.hid (kbq k2.out g)
        clear e0 e1 e2 e3 k2 g r0 r1 r2 r3
        have CC := Lib.hid (fun W => cap_any r.p r.e r.b r.k W (by have := hr.p; omega) hr.e hr.b)
        have CM := Lib.hid (fun W => kmigrate_any s.k s.a s.b r.k c (capR r) W hs.a hs.b hc (capR_U hr))
        obtain ⟨x0, x1, x2, x3, x4, x5, x6, x7⟩ := d1.out.eight
        have j1 : w4.cell? ⟨w.heap.size, 1, none⟩ = some (.int .u64 c) := d0.out.cell 1
        obtain ⟨r0, r1, r2, r3, _⟩ := blk4 d3.out
        have l0 := d0.out.lt
        have lX := d3.out.lt
        have l1 := d1.out.lt
        have kr := Tch.refl (fun _ => False) w4
        go_upto_region 4 with fail
        go_cut [8, 9] from 33 to 44 (fun v _ wx => ∃ Y, v = .pointer (some ⟨Y, 0, none⟩) ∧ w4.heap.size ≤ Y ∧ Blk wx Y #[.int .u8 (kmK s.k r.k), .int .u64 (kmA s.k s.a s.b r.k c (capR r)), .int .u64 (kmB s.k r.k c)] 90 ∧ Tch (fun _ => False) w4 wx)
        case first =>
          go_region_held3 (fun w' => Tch (fun _ => False) w4 w' ∧ w'.cell? ⟨w.heap.size + 1, 5, none⟩ = some (.int .u8 s.k) ∧ w'.cell? ⟨w.heap.size + 1, 6, none⟩ = some (.int .u64 s.a) ∧ w'.cell? ⟨w.heap.size + 1, 7, none⟩ = some (.int .u64 s.b) ∧ w'.cell? ⟨w.heap.size, 1, none⟩ = some (.int .u64 c) ∧ w'.cell? ⟨X, 0, none⟩ = some (.string r.p) ∧ w'.cell? ⟨X, 1, none⟩ = some (.int .u64 r.e) ∧ w'.cell? ⟨X, 2, none⟩ = some (.int .u64 r.b) ∧ w'.cell? ⟨X, 3, none⟩ = some (.int .u8 r.k))
            (first | with_reducible exact ⟨kr, x5, x6, x7, j1, r0, r1, r2, r3⟩ | with_reducible exact ⟨(td kr), dcell x5, dcell x6, dcell x7, dcell j1, dcell r0, dcell r1, dcell r2, dcell r3⟩ | with_reducible exact ⟨(ta kr), acell x5, acell x6, acell x7, acell j1, acell r0, acell r1, acell r2, acell r3⟩ | with_reducible exact ⟨(td (ta kr)), dcell (acell x5), dcell (acell x6), dcell (acell x7), dcell (acell j1), dcell (acell r0), dcell (acell r1), dcell (acell r2), dcell (acell r3)⟩ | with_reducible exact ⟨(ts3 kr (.inr hz)), sc3 x5 (Nat.ne_of_lt (Nat.lt_of_lt_of_le l1 hz)), sc3 x6 (Nat.ne_of_lt (Nat.lt_of_lt_of_le l1 hz)), sc3 x7 (Nat.ne_of_lt (Nat.lt_of_lt_of_le l1 hz)), sc3 j1 (Nat.ne_of_lt (Nat.lt_of_lt_of_le l0 hz)), sc3 r0 (Nat.ne_of_lt (Nat.lt_of_lt_of_le lX hz)), sc3 r1 (Nat.ne_of_lt (Nat.lt_of_lt_of_le lX hz)), sc3 r2 (Nat.ne_of_lt (Nat.lt_of_lt_of_le lX hz)), sc3 r3 (Nat.ne_of_lt (Nat.lt_of_lt_of_le lX hz))⟩ | with_reducible exact ⟨(td (ts3 kr (.inr hz))), dcell (sc3 x5 (Nat.ne_of_lt (Nat.lt_of_lt_of_le l1 hz))), dcell (sc3 x6 (Nat.ne_of_lt (Nat.lt_of_lt_of_le l1 hz))), dcell (sc3 x7 (Nat.ne_of_lt (Nat.lt_of_lt_of_le l1 hz))), dcell (sc3 j1 (Nat.ne_of_lt (Nat.lt_of_lt_of_le l0 hz))), dcell (sc3 r0 (Nat.ne_of_lt (Nat.lt_of_lt_of_le lX hz))), dcell (sc3 r1 (Nat.ne_of_lt (Nat.lt_of_lt_of_le lX hz))), dcell (sc3 r2 (Nat.ne_of_lt (Nat.lt_of_lt_of_le lX hz))), dcell (sc3 r3 (Nat.ne_of_lt (Nat.lt_of_lt_of_le lX hz)))⟩ | with_reducible exact ⟨(ts3 kr (.inr (Nat.le_refl _))), sc3 x5 (Nat.ne_of_lt l1), sc3 x6 (Nat.ne_of_lt l1), sc3 x7 (Nat.ne_of_lt l1), sc3 j1 (Nat.ne_of_lt l0), sc3 r0 (Nat.ne_of_lt lX), sc3 r1 (Nat.ne_of_lt lX), sc3 r2 (Nat.ne_of_lt lX), sc3 r3 (Nat.ne_of_lt lX)⟩ | with_reducible exact ⟨(td (ts3 kr (.inr (Nat.le_refl _)))), dcell (sc3 x5 (Nat.ne_of_lt l1)), dcell (sc3 x6 (Nat.ne_of_lt l1)), dcell (sc3 x7 (Nat.ne_of_lt l1)), dcell (sc3 j1 (Nat.ne_of_lt l0)), dcell (sc3 r0 (Nat.ne_of_lt lX)), dcell (sc3 r1 (Nat.ne_of_lt lX)), dcell (sc3 r2 (Nat.ne_of_lt lX)), dcell (sc3 r3 (Nat.ne_of_lt lX))⟩)
            (first
              | (go_at_call 68; ((with_reducible refine (CC.out _).mono ?_); rintro r w' ⟨rfl, _, g⟩; (first | with_reducible (replace kr := tb kr g; replace x5 := celln g x5; replace x6 := celln g x6; replace x7 := celln g x7; replace j1 := celln g j1; replace r0 := celln g r0; replace r1 := celln g r1; replace r2 := celln g r2; replace r3 := celln g r3; try (replace zb := zb.below g; (try clear z0 z1 z2 zf0 zf1 zf2); obtain ⟨z0, z1, z2, zf0, zf1, zf2⟩ := blk3 zb)) | with_reducible (replace kr := tb (td kr) g; replace x5 := celln g (dcell x5); replace x6 := celln g (dcell x6); replace x7 := celln g (dcell x7); replace j1 := celln g (dcell j1); replace r0 := celln g (dcell r0); replace r1 := celln g (dcell r1); replace r2 := celln g (dcell r2); replace r3 := celln g (dcell r3); try (replace zb := (zb.dr).below g; (try clear z0 z1 z2 zf0 zf1 zf2); obtain ⟨z0, z1, z2, zf0, zf1, zf2⟩ := blk3 zb)) | with_reducible (have zb := (Blk.new _ _ _).below g; obtain ⟨z0, z1, z2, zf0, zf1, zf2⟩ := blk3 zb; have hz := kr.size; replace kr := tb (ta kr) g; replace x5 := celln g (acell x5); replace x6 := celln g (acell x6); replace x7 := celln g (acell x7); replace j1 := celln g (acell j1); replace r0 := celln g (acell r0); replace r1 := celln g (acell r1); replace r2 := celln g (acell r2); replace r3 := celln g (acell r3)) | with_reducible (have zb := ((Blk.new _ _ _).dr).below g; obtain ⟨z0, z1, z2, zf0, zf1, zf2⟩ := blk3 zb; have hz := kr.size; replace kr := tb (td (ta kr)) g; replace x5 := celln g (dcell (acell x5)); replace x6 := celln g (dcell (acell x6)); replace x7 := celln g (dcell (acell x7)); replace j1 := celln g (dcell (acell j1)); replace r0 := celln g (dcell (acell r0)); replace r1 := celln g (dcell (acell r1)); replace r2 := celln g (dcell (acell r2)); replace r3 := celln g (dcell (acell r3))))))
              | (go_at_call 174; ((with_reducible refine (CM.out _).mono ?_); rintro r w' ⟨rfl, _, g⟩; (first | with_reducible (replace kr := tb kr g; replace x5 := celln g x5; replace x6 := celln g x6; replace x7 := celln g x7; replace j1 := celln g j1; replace r0 := celln g r0; replace r1 := celln g r1; replace r2 := celln g r2; replace r3 := celln g r3; try (replace zb := zb.below g; (try clear z0 z1 z2 zf0 zf1 zf2); obtain ⟨z0, z1, z2, zf0, zf1, zf2⟩ := blk3 zb)) | with_reducible (replace kr := tb (td kr) g; replace x5 := celln g (dcell x5); replace x6 := celln g (dcell x6); replace x7 := celln g (dcell x7); replace j1 := celln g (dcell j1); replace r0 := celln g (dcell r0); replace r1 := celln g (dcell r1); replace r2 := celln g (dcell r2); replace r3 := celln g (dcell r3); try (replace zb := (zb.dr).below g; (try clear z0 z1 z2 zf0 zf1 zf2); obtain ⟨z0, z1, z2, zf0, zf1, zf2⟩ := blk3 zb)) | with_reducible (have zb := (Blk.new _ _ _).below g; obtain ⟨z0, z1, z2, zf0, zf1, zf2⟩ := blk3 zb; have hz := kr.size; replace kr := tb (ta kr) g; replace x5 := celln g (acell x5); replace x6 := celln g (acell x6); replace x7 := celln g (acell x7); replace j1 := celln g (acell j1); replace r0 := celln g (acell r0); replace r1 := celln g (acell r1); replace r2 := celln g (acell r2); replace r3 := celln g (acell r3)) | with_reducible (have zb := ((Blk.new _ _ _).dr).below g; obtain ⟨z0, z1, z2, zf0, zf1, zf2⟩ := blk3 zb; have hz := kr.size; replace kr := tb (td (ta kr)) g; replace x5 := celln g (dcell (acell x5)); replace x6 := celln g (dcell (acell x6)); replace x7 := celln g (dcell (acell x7)); replace j1 := celln g (dcell (acell j1)); replace r0 := celln g (dcell (acell r0)); replace r1 := celln g (dcell (acell r1)); replace r2 := celln g (dcell (acell r2)); replace r3 := celln g (dcell (acell r3)))))))
          all_goals
            first
            | (have hB := bset3 (p0 := .int .u8 (kmK s.k r.k)) (p1 := .int .u64 (kmA s.k s.a s.b r.k c (capR r))) (p2 := .int .u64 (kmB s.k r.k c)) zb
               have hY := (show w4.heap.size ≤ _ by first | exact hz | exact Nat.le_refl _)
               have hk9 := ts3 (p0 := .int .u8 (kmK s.k r.k)) (p1 := .int .u64 (kmA s.k s.a s.b r.k c (capR r))) (p2 := .int .u64 (kmB s.k r.k c)) kr (.inr hY)
               generalize ((World.setCell _ _ (.int .u8 (kmK s.k r.k))).setCell _ (.int .u64 (kmA s.k s.a s.b r.k c (capR r)))).setCell _ (.int .u64 (kmB s.k r.k c)) = W9 at *
               go_wp2
               go_meet
               case rel => exact ⟨_, rfl, hY, hB, hk9⟩)
            | (have hB := Blk.new w' #[.int .u8 (kmK s.k r.k), .int .u64 (kmA s.k s.a s.b r.k c (capR r)), .int .u64 (kmB s.k r.k c)] 90
               have hY := kr.size
               have hk9 := ta (o := .cells #[.int .u8 (kmK s.k r.k), .int .u64 (kmA s.k s.a s.b r.k c (capR r)), .int .u64 (kmB s.k r.k c)] 90) kr
               generalize w'.alloc (.cells #[.int .u8 (kmK s.k r.k), .int .u64 (kmA s.k s.a s.b r.k c (capR r)), .int .u64 (kmB s.k r.k c)] 90) = W9 at *
               go_wp2
               go_meet
               case rel => exact ⟨_, rfl, hY, hB, hk9⟩)
        case rest =>
        obtain ⟨Y, rfl, hY, hB, hk9⟩ := hcut
        have a1 := Lib.hid (hk9.blk d1.out (fun x => x))
        have a2 := Lib.hid (hk9.blk d2.out (fun x => x))
        have a3 := Lib.hid (hk9.blk d3.out (fun x => x))
        have k9 := Lib.hid (Tch.belowF k1.out hk9)
        clear x0 x1 x2 x3 x4 x5 x6 x7 r0 r1 r2 r3 j1 kr d0 d1 d2 d3 k1 hk9
        obtain ⟨z0, z1, z2, _⟩ := blk3 hB
        obtain ⟨x0, _⟩ := a1.out.eight
        obtain ⟨r0, r1, r2, r3, _⟩ := blk4 a3.out
        obtain ⟨y0, y1, y2, y3, y4, y5, y6, y7, f0, f1, f2, f3, f4, f5, f6, f7⟩ := blk8 a2.out
        go_wp2
        have z := Lib.hid (bset8 a2.out (stK c s r))
        have kz := Lib.hid (tch_below k9.out (ts8 (p0 := .string s.key) (p1 := .string r.p) (p2 := .int .u64 r.e) (p3 := .int .u64 r.b) (p4 := .int .u8 r.k) (p5 := (.int .u8 (kmK s.k r.k))) (p6 := (.int .u64 (kmA s.k s.a s.b r.k c (capR r)))) (p7 := (.int .u64 (kmB s.k r.k c))) (Tch.refl (fun k => k = w.heap.size + 2) wc) (X := w.heap.size + 2) (.inl rfl)) (Nat.le_refl _) (fun k h e => by omega))
        revert z kz
        generalize World.setCell _ ⟨w.heap.size + 2, 7, none⟩ _ = V
        intro z kz
        obtain ⟨q0, q1, q2, q3, q4, q5, q6, q7⟩ := (show Blk _ (w.heap.size + 2) (stK c s r).cs Tas from z.out).eight
        refine bodyPost_ret (v := .tuple #[(stK c s r).v, .bool true]) ?_ rfl ⟨rfl, kz.out⟩
        simp [results, Tryz.results133, go_sem, q0, q1, q2, q3, q4, q5, q6, q7]
      · rw [stay_no e (fun x => h2 x.2)]
        have h3 : (ruE r.p r.e r.b r.k != 0) = true := by simpa using h2
        generalize ruE r.p r.e r.b r.k = E at *
        clear e hok h1
        go_enter Tryz.func133, Tryz.ntmps133
        go_wp2_with fail
        generalize (((w.alloc (.cells #[.pointer (some ⟨T, 0, none⟩), .int .u64 c] 199)).alloc (.cells s.cs Tas)).alloc (.cells zsl Tas)) = W at *
        obtain ⟨x0, x1, x2, x3, x4, x5, x6, x7⟩ := b1.out.eight
        have j0 : W.cell? ⟨w.heap.size, 0, none⟩ = some (.pointer (some ⟨T, 0, none⟩)) := b0.out.cell 0
        go_wp2_with (go_at_call 113; (refine (CF.out _ HT.out).mono ?_; rintro e w1 ⟨rfl, g⟩; refine stopHere ?_))
        unfold Stop
        have k1 := Lib.hid (kbq k0.out ((g).alloc g.size (.cells #[.string r.p, .int .u64 r.e, .int .u64 r.b, .int .u8 r.k] 79)))
        have d0 := Lib.hid ((b0.out.below g).alloc (.cells #[.string r.p, .int .u64 r.e, .int .u64 r.b, .int .u8 r.k] 79))
        have d1 := Lib.hid ((b1.out.below g).alloc (.cells #[.string r.p, .int .u64 r.e, .int .u64 r.b, .int .u8 r.k] 79))
        have d2 := Lib.hid ((b2.out.below g).alloc (.cells #[.string r.p, .int .u64 r.e, .int .u64 r.b, .int .u8 r.k] 79))
        have d3 := Lib.hid (Blk.new w1 #[.string r.p, .int .u64 r.e, .int .u64 r.b, .int .u8 r.k] 79)
        have l1 := (b2.out.below g).lt
        go_upto_region 2 with fail
        clear b0 b1 b2 k0 g x0 x1 x2 x3 x4 x5 x6 x7 j0 HT
        revert k1 d0 d1 d2 d3
        generalize w1.alloc (.cells #[.string r.p, .int .u64 r.e, .int .u64 r.b, .int .u8 r.k] 79) = W2
        intro k1 d0 d1 d2 d3
        obtain ⟨X, hX⟩ : ∃ X, w1.heap.size = X := ⟨_, rfl⟩
        rw [hX] at d3 l1 ⊢
        clear hX
        obtain ⟨r0, r1, r2, r3, _⟩ := blk4 d3.out
        obtain ⟨x0, x1, x2, x3, x4, x5, x6, x7⟩ := d1.out.eight
        go_wp2_with (go_at_call 36; (refine (CS.out _).mono ?_; rintro e w3 ⟨rfl, g⟩; refine stopHere ?_))
        unfold Stop
        have e0 := Lib.hid (d0.out.below g)
        have e1 := Lib.hid (d1.out.below g)
        have e2 := Lib.hid (d2.out.below g)
        have e3 := Lib.hid (d3.out.below g)
        have k2 := Lib.hid (kbq k1.out g)
        clear d0 d1 d2 d3 k1 g r0 r1 r2 r3 x0 x1 x2 x3 x4 x5 x6 x7
        obtain ⟨r0, r1, r2, r3, _⟩ := blk4 e3.out
        go_wp2_with (go_at_call 106; (refine (CR.out _).mono ?_; rintro e w4 ⟨rfl, _, g⟩; refine stopHere ?_))
        unfold Stop
        have d0 := Lib.hid (e0.out.below g)
        have d1 := Lib.hid (e1.out.below g)
        have d2 := Lib.hid (e2.out.below g)
        have d3 := Lib.hid (e3.out.below g)
        have k1 := Lib.hid (kbq k2.out g)
        clear e0 e1 e2 e3 k2 g r0 r1 r2 r3
        obtain ⟨y0, y1, y2, y3, y4, y5, y6, y7, f0, f1, f2, f3, f4, f5, f6, f7⟩ := blk8 d2.out
        go_wp2
        have z := Lib.hid (bset8 d2.out sl0)
        have kz := Lib.hid (tch_below k1.out (ts8 (p0 := .string ⟨#[]⟩) (p1 := .string ⟨#[]⟩) (p2 := .int .u64 0) (p3 := .int .u64 0) (p4 := .int .u8 0) (p5 := .int .u8 0) (p6 := .int .u64 0) (p7 := .int .u64 0) (Tch.refl (fun k => k = w.heap.size + 2) w4) (X := w.heap.size + 2) (.inl rfl)) (Nat.le_refl _) (fun k h e => by omega))
        revert z kz
        generalize World.setCell _ ⟨w.heap.size + 2, 7, none⟩ _ = V
        intro z kz
        obtain ⟨q0, q1, q2, q3, q4, q5, q6, q7⟩ := (show Blk _ (w.heap.size + 2) sl0.cs Tas from z.out).eight
        refine bodyPost_ret (v := .tuple #[sl0.v, .bool false]) ?_ rfl ⟨rfl, kz.out⟩
        simp [results, Tryz.results133, go_sem, q0, q1, q2, q3, q4, q5, q6, q7]
    · rw [stay_no e (fun x => h1 x.1)]
      have h1' : smB r s.r = false := by simpa using h1
      rw [h1'] at CS
      clear e hok h1 h1'
      go_enter Tryz.func133, Tryz.ntmps133
      go_wp2_with fail
      generalize (((w.alloc (.cells #[.pointer (some ⟨T, 0, none⟩), .int .u64 c] 199)).alloc (.cells s.cs Tas)).alloc (.cells zsl Tas)) = W at *
      obtain ⟨x0, x1, x2, x3, x4, x5, x6, x7⟩ := b1.out.eight
      have j0 : W.cell? ⟨w.heap.size, 0, none⟩ = some (.pointer (some ⟨T, 0, none⟩)) := b0.out.cell 0
      go_wp2_with (go_at_call 113; (refine (CF.out _ HT.out).mono ?_; rintro e w1 ⟨rfl, g⟩; refine stopHere ?_))
      unfold Stop
      have k1 := Lib.hid (kbq k0.out ((g).alloc g.size (.cells #[.string r.p, .int .u64 r.e, .int .u64 r.b, .int .u8 r.k] 79)))
      have d0 := Lib.hid ((b0.out.below g).alloc (.cells #[.string r.p, .int .u64 r.e, .int .u64 r.b, .int .u8 r.k] 79))
      have d1 := Lib.hid ((b1.out.below g).alloc (.cells #[.string r.p, .int .u64 r.e, .int .u64 r.b, .int .u8 r.k] 79))
      have d2 := Lib.hid ((b2.out.below g).alloc (.cells #[.string r.p, .int .u64 r.e, .int .u64 r.b, .int .u8 r.k] 79))
      have d3 := Lib.hid (Blk.new w1 #[.string r.p, .int .u64 r.e, .int .u64 r.b, .int .u8 r.k] 79)
      have l1 := (b2.out.below g).lt
      go_upto_region 2 with fail
      clear b0 b1 b2 k0 g x0 x1 x2 x3 x4 x5 x6 x7 j0 HT
      revert k1 d0 d1 d2 d3
      generalize w1.alloc (.cells #[.string r.p, .int .u64 r.e, .int .u64 r.b, .int .u8 r.k] 79) = W2
      intro k1 d0 d1 d2 d3
      obtain ⟨X, hX⟩ : ∃ X, w1.heap.size = X := ⟨_, rfl⟩
      rw [hX] at d3 l1 ⊢
      clear hX
      obtain ⟨r0, r1, r2, r3, _⟩ := blk4 d3.out
      obtain ⟨x0, x1, x2, x3, x4, x5, x6, x7⟩ := d1.out.eight
      go_wp2_with (go_at_call 36; (refine (CS.out _).mono ?_; rintro e w3 ⟨rfl, g⟩; refine stopHere ?_))
      unfold Stop
      have e2 := Lib.hid (d2.out.below g)
      have k2 := Lib.hid (kbq k1.out g)
      clear d0 d1 d2 d3 k1 g r0 r1 r2 r3 x0 x1 x2 x3 x4 x5 x6 x7
      obtain ⟨y0, y1, y2, y3, y4, y5, y6, y7, f0, f1, f2, f3, f4, f5, f6, f7⟩ := blk8 e2.out
      go_wp2
      have z := Lib.hid (bset8 e2.out sl0)
      have kz := Lib.hid (tch_below k2.out (ts8 (p0 := .string ⟨#[]⟩) (p1 := .string ⟨#[]⟩) (p2 := .int .u64 0) (p3 := .int .u64 0) (p4 := .int .u8 0) (p5 := .int .u8 0) (p6 := .int .u64 0) (p7 := .int .u64 0) (Tch.refl (fun k => k = w.heap.size + 2) w3) (X := w.heap.size + 2) (.inl rfl)) (Nat.le_refl _) (fun k h e => by omega))
      revert z kz
      generalize World.setCell _ ⟨w.heap.size + 2, 7, none⟩ _ = V
      intro z kz
      obtain ⟨q0, q1, q2, q3, q4, q5, q6, q7⟩ := (show Blk _ (w.heap.size + 2) sl0.cs Tas from z.out).eight
      refine bodyPost_ret (v := .tuple #[sl0.v, .bool false]) ?_ rfl ⟨rfl, kz.out⟩
      simp [results, Tryz.results133, go_sem, q0, q1, q2, q3, q4, q5, q6, q7]
end Go.Proofs.YtbejkcdaefkibaaGreat.Wd
namespace Go.Proofs.YtbejkcdaefkibaaGreat.Wd
open Go Go.RowKit Go.Deep Go.Shelf
set_option linter.unusedVariables false
set_option maxRecDepth 100000
attribute [local go_sem] Oper.semAt_some
/-- Dbl rows of slots that a call owns, apart. -/
def Apart (a b : Value) : Prop := a.ownBlock = none ∨ b.ownBlock = none ∨ a.ownBlock ≠ b.ownBlock
theorem Apart.ne {a b : Value} (h : Apart a b) : a.ownBlock = none ∨ a.ownBlock ≠ b.ownBlock := by
  rcases h with h | h | h
  · exact .inl h
  · cases e : a.ownBlock with
    | none => exact .inl rfl
    | some x => exact .inr (by rw [h]; exact fun z => by cases z)
  · exact .inr h
theorem Apart.symm {a b : Value} (h : Apart a b) : Apart b a := by
  rcases h with h | h | h
  · exact .inr (.inl h)
  · exact .inl h
  · exact .inr (.inr (Ne.symm h))
structure Dbl (w : World) (base : Nat) (u1 : Value) (l1 : List Sl) (u2 : Value) (l2 : List Sl) : Prop where
  a : OwS w base u1 l1
  b : OwS w base u2 l2
  n : Apart u1 u2
theorem Dbl.nil (w : World) (base : Nat) : Dbl w base (.slice none 0 0) [] (.slice none 0 0) [] := ⟨OwS.nil _ _, OwS.nil _ _, .inl rfl⟩
theorem Dbl.symm {w : World} {base : Nat} {u1 u2 : Value} {l1 l2 : List Sl} (h : Dbl w base u1 l1 u2 l2) : Dbl w base u2 l2 u1 l1 := ⟨h.b, h.a, h.n.symm⟩
theorem Dbl.below {w w' : World} {base : Nat} {u1 u2 : Value} {l1 l2 : List Sl} (h : Dbl w base u1 l1 u2 l2) (g : Below w.heap.size w w') : Dbl w' base u1 l1 u2 l2 := ⟨own_below h.a g, own_below h.b g, h.n⟩
theorem Dbl.app {w w' : World} {base g n cap : Nat} {u1 u2 : Value} {l1 l2 l3 : List Sl} (h : Dbl w base u1 l1 u2 l2) (own : OwS w' base (.slice (some ⟨g, 0, none⟩) n cap) l3) (grow : w.grownBy w' u1.ownBlock) (hg : u1.ownBlock = some g ∨ g = w.heap.size) : Dbl w' base (.slice (some ⟨g, 0, none⟩) n cap) l3 u2 l2 := by
  refine ⟨own, h.b.kept grow h.n.symm.ne, ?_⟩
  cases e : u2.ownBlock with
  | none => exact .inr (.inl e)
  | some x =>
    refine .inr (.inr (fun z => ?_))
    have z : some g = u2.ownBlock := z
    rw [e] at z
    injection z with z
    subst z
    rcases hg with hg | hg
    · rcases h.n with h1 | h1 | h1
      · rw [h1] at hg; cases hg
      · rw [h1] at e; cases e
      · exact h1 (by rw [hg, e])
    · have := (World.ownsRow.lt h.b g e).2
      omega
set_option maxHeartbeats 4000000 in
theorem kpart_any (T : Nat) (c : Int) (rs : List Rl) (v : Value) (base : Nat) (xs : List Sl) (w : World) (h : OwS w base v xs) (hn : xs.length ≤ 1000000000) (hs : ∀ s ∈ xs, Oks s) (hc : U c) (hT : TreeAt w T rs) (hok : ∀ K r, findR rs K = some r → Okr r) :
    Calls Tryz.prog 132 #[v, .func (.func 133) #[.agg #[.pointer (some ⟨T, 0, none⟩), .int .u64 c]] #[]] w fun e w' => ∃ u1 u2, e = .returned (.tuple #[u1, u2]) ∧ Dbl w' w.heap.size u1 (xs.filterMap (stayS rs c)) u2 (xs.filter (fun s => (stayS rs c s).isNone)) ∧ Below w.heap.size w w' := by
  obtain ⟨A, cap, rfl, h1, h2, hf⟩ := h.form
  have HF := Lib.hid hf
  have HT := Lib.hid hT
  have HS := Lib.hid hs
  have HO := Lib.hid hok
  clear hf h hT hs hok
  go_enter Tryz.func132, Tryz.ntmps132
  go_wp2
  go_loopw [4, 5, 12] (fun u1 u2 i wr => ∃ j : Nat, i = .int .i64 (j : Int) ∧ j ≤ xs.length ∧ Hid (Dbl wr w.heap.size u1 ((xs.take j).filterMap (stayS rs c)) u2 ((xs.take j).filter (fun s => (stayS rs c s).isNone))) ∧ Hid (Below w.heap.size w wr)) (fun _ _ i _ => xs.length - (intOf i).toNat)
  case atStart => exact ⟨0, rfl, Nat.zero_le _, Lib.hid (Dbl.nil _ _), Lib.hid (Below.refl _ _)⟩
  case round =>
    obtain ⟨j, rfl, hj, ho, hB⟩ := hrel
    obtain ⟨A1, cap1, hv1, hc1, hc1', _⟩ := ho.out.a.form
    obtain ⟨A2, cap2, hv2, hc2, hc2', _⟩ := ho.out.b.form
    subst hv1
    subst hv2
    by_cases hlt : j < xs.length
    · obtain ⟨b, rfl, hb, hb2, hrow⟩ := HF.out (by omega)
      obtain ⟨x0, x1, x2, x3, x4, x5, x6, x7⟩ := (show S8 wr b (j * 8) (atS xs j) from fun i hi => by rw [World.cell?_of_block (hB.out.block b hb2)]; exact hrow j hlt i hi).eight
      have ht : xs.take (j + 1) = xs.take j ++ [atS xs j] := by
        rw [List.take_succ_eq_append_getElem hlt]; simp [atS, List.getD, hlt]
      have hmem : atS xs j ∈ xs := by simp [atS, List.getD, hlt]
      have CY := Lib.hid (fun W (g : TreeAt W T rs) => stay_any T c rs (atS xs j) W (HS.out _ hmem) hc g (fun r e => HO.out _ r e))
      have HT1 := Lib.hid (show (xs.take (j + 1)).filterMap (stayS rs c) = (xs.take j).filterMap (stayS rs c) ++ [atS xs j].filterMap (stayS rs c) by rw [ht, List.filterMap_append])
      have HT2 := Lib.hid (show (xs.take (j + 1)).filter (fun s => (stayS rs c s).isNone) = (xs.take j).filter (fun s => (stayS rs c s).isNone) ++ [atS xs j].filter (fun s => (stayS rs c s).isNone) by rw [ht, List.filter_append])
      have l1 : ((xs.take j).filterMap (stayS rs c)).length ≤ j := Nat.le_trans (List.length_filterMap_le _ _) (by simp; omega)
      have l2 : ((xs.take j).filter (fun s => (stayS rs c s).isNone)).length ≤ j := Nat.le_trans (List.length_filter_le _ _) (by simp; omega)
      clear hrow HF ht hmem
      generalize atS xs j = y at *
      have HTr := Lib.hid ((HT.out.below hB.out).below ((Below.refl _ wr).alloc (Nat.le_refl _) (.cells y.cs Tas)))
      cases hst : stayS rs c y with
      | none =>
        rw [hst] at CY
        simp only [Option.getD_none, Option.isSome_none] at CY
        have HE1 : Hid ((xs.take (j + 1)).filterMap (stayS rs c) = (xs.take j).filterMap (stayS rs c)) := Lib.hid (HT1.out.trans (by rw [List.filterMap_cons, hst]; simp))
        have HE2 : Hid ((xs.take (j + 1)).filter (fun s => (stayS rs c s).isNone) = (xs.take j).filter (fun s => (stayS rs c s).isNone) ++ [y]) := Lib.hid (HT2.out.trans (by simp [hst]))
        clear HT1 HT2 hst
        go_wp2_with (go_at_call 133; (refine (CY.out _ HTr.out).mono ?_; rintro e w2 ⟨rfl, g⟩; refine stopHere ?_))
        unfold Stop
        have BY := Lib.hid (((Blk.new wr y.cs Tas).below g).alloc (.cells sl0.cs Tas))
        have hsw := g.size
        have hwr := hB.out.size
        have TD := Lib.hid (((ho.out.below ((Below.refl _ wr).alloc (Nat.le_refl _) (.cells y.cs Tas))).below g).below ((Below.refl _ w2).alloc (Nat.le_refl _) (.cells sl0.cs Tas)))
        have kB := Lib.hid (((hB.out.alloc hB.out.size (.cells y.cs Tas)).trans (g.mono (by simp; omega))).alloc (by simp at hsw; omega) (.cells sl0.cs Tas))
        have BN := Lib.hid (Blk.new w2 sl0.cs Tas)
        go_upto_region 5 with fail
        clear x0 x1 x2 x3 x4 x5 x6 x7 g HTr CY ho hB
        revert BY TD kB BN
        generalize w2.alloc (.cells sl0.cs Tas) = W3
        intro BY TD kB BN
        obtain ⟨y0, y1, y2, y3, y4, y5, y6, y7⟩ := BY.out.eight
        go_wp2_with (at_builtin; refine wpList_app_s _ rfl _ _ rfl w.heap.size _ ((xs.take j).filter (fun s => (stayS rs c s).isNone)) rfl ?o _ 0 1 y rfl ?c1 ?c2 ?c3 ?_)
        case o => exact (TD.out.below ((Below.refl _ _).alloc (Nat.le_refl _) _)).b
        case c1 =>
          intro i hi
          rw [Nat.zero_add]
          exact (Blk.new _ y.cs Tas).cell i
        case c2 => omega
        case c3 => have := kB.out.size; simp at this ⊢; omega
        intro g cap w3 own bel grow hg
        have OD := Lib.hid ((Dbl.app (TD.out.below ((Below.refl _ _).alloc (Nat.le_refl _) (.cells y.cs Tas))).symm own grow (hg.imp id (fun e => by simpa using e))).symm)
        have B2 := Lib.hid ((kB.out.alloc kB.out.size (.cells y.cs Tas)).trans bel)
        clear own bel grow hg TD kB BY BN y0 y1 y2 y3 y4 y5 y6 y7
        go_wp2
        go_roundw
        case rel => exact ⟨j + 1, by go_num, by omega, Lib.hid (by rw [HE1.out, HE2.out]; exact OD.out), B2⟩
        case measure => simp [intOf]; omega
      | some z =>
        rw [hst] at CY
        simp only [Option.getD_some, Option.isSome_some] at CY
        have HE1 : Hid ((xs.take (j + 1)).filterMap (stayS rs c) = (xs.take j).filterMap (stayS rs c) ++ [z]) := Lib.hid (HT1.out.trans (by rw [List.filterMap_cons, hst]; simp))
        have HE2 : Hid ((xs.take (j + 1)).filter (fun s => (stayS rs c s).isNone) = (xs.take j).filter (fun s => (stayS rs c s).isNone)) := Lib.hid (HT2.out.trans (by simp [hst]))
        clear HT1 HT2 hst
        go_wp2_with (go_at_call 133; (refine (CY.out _ HTr.out).mono ?_; rintro e w2 ⟨rfl, g⟩; refine stopHere ?_))
        unfold Stop
        have BY := Lib.hid (((Blk.new wr y.cs Tas).below g).alloc (.cells z.cs Tas))
        have hsw := g.size
        have hwr := hB.out.size
        have TD := Lib.hid (((ho.out.below ((Below.refl _ wr).alloc (Nat.le_refl _) (.cells y.cs Tas))).below g).below ((Below.refl _ w2).alloc (Nat.le_refl _) (.cells z.cs Tas)))
        have kB := Lib.hid (((hB.out.alloc hB.out.size (.cells y.cs Tas)).trans (g.mono (by simp; omega))).alloc (by simp at hsw; omega) (.cells z.cs Tas))
        have BN := Lib.hid (Blk.new w2 z.cs Tas)
        go_upto_region 5 with fail
        clear x0 x1 x2 x3 x4 x5 x6 x7 g HTr CY ho hB
        revert BY TD kB BN
        generalize w2.alloc (.cells z.cs Tas) = W3
        intro BY TD kB BN
        obtain ⟨y0, y1, y2, y3, y4, y5, y6, y7⟩ := BN.out.eight
        go_wp2_with (at_builtin; refine wpList_app_s _ rfl _ _ rfl w.heap.size _ ((xs.take j).filterMap (stayS rs c)) rfl ?o _ 0 1 z rfl ?c1 ?c2 ?c3 ?_)
        case o => exact (TD.out.below ((Below.refl _ _).alloc (Nat.le_refl _) _)).a
        case c1 =>
          intro i hi
          rw [Nat.zero_add]
          exact (Blk.new _ z.cs Tas).cell i
        case c2 => omega
        case c3 => have := kB.out.size; simp at this ⊢; omega
        intro g cap w3 own bel grow hg
        have OD := Lib.hid (Dbl.app (TD.out.below ((Below.refl _ _).alloc (Nat.le_refl _) (.cells z.cs Tas))) own grow (hg.imp id (fun e => by simpa using e)))
        have B2 := Lib.hid ((kB.out.alloc kB.out.size (.cells z.cs Tas)).trans bel)
        clear own bel grow hg TD kB BY BN y0 y1 y2 y3 y4 y5 y6 y7
        go_wp2
        go_roundw
        case rel => exact ⟨j + 1, by go_num, by omega, Lib.hid (by rw [HE1.out, HE2.out]; exact OD.out), B2⟩
        case measure => simp [intOf]; omega
    · have HE : Hid (xs.take j = xs) := Lib.hid (List.take_of_length_le (by omega))
      go_wp2
      refine bodyPost_ret (v := .tuple #[.slice A1 ((xs.take j).filterMap (stayS rs c)).length cap1, .slice A2 ((xs.take j).filter (fun s => (stayS rs c s).isNone)).length cap2]) ?_ rfl ⟨_, _, rfl, ?_, hB.out⟩
      · simp [results, Tryz.results132, go_sem]
      have z := ho.out
      revert z
      generalize ((xs.take j).filterMap (stayS rs c)).length = L1
      generalize ((xs.take j).filter (fun s => (stayS rs c s).isNone)).length = L2
      rw [HE.out]
      exact id
theorem below_dr (w : World) : Below w.heap.size w w.drew := Drew.lo ⟨1, rfl⟩ (Nat.le_refl _)
theorem Dbl.base {w : World} {a b : Nat} {u1 u2 : Value} {l1 l2 : List Sl} (hab : a ≤ b) (h : Dbl w b u1 l1 u2 l2) : Dbl w a u1 l1 u2 l2 := ⟨own_base hab h.a, own_base hab h.b, h.n⟩
set_option maxHeartbeats 4000000 in
theorem parted_any (o : Option Addr) (QT B : Nat → Prop) (m c mo : Int) (S : List Sl) (A : Option Addr) (n cap : Nat) (rs : List Rl) (w : World) (h : Ent o w QT B m c S) (hS : ∀ s ∈ S, Oks s) (hl : S.length ≤ 1000000000) (hc : U c) (hr : Rls w A n rs) (hn : n ≤ 9223372036854775806) (hok : ∀ K r, findR rs K = some r → Okr r) :
    Calls Tryz.prog 77 #[.pointer o, .agg #[.int .i64 mo, .slice A n cap]] w fun e w' => ∃ u1 u2 xs, e = .returned (.tuple #[u1, u2]) ∧ Told S xs ∧ Dbl w' w.heap.size u1 (xs.filterMap (stayS rs c)) u2 (xs.filter (fun s => (stayS rs c s).isNone)) ∧ Below w.heap.size w w' := by
  have k0 := (Below.refl _ w).alloc (Nat.le_refl _) (.cells #[.int .i64 mo, .slice A n cap] 24)
  have b0 := Lib.hid (Blk.new w #[.int .i64 mo, .slice A n cap] 24)
  have H0 := Lib.hid (h.below k0)
  have K0 := Lib.hid k0
  have R0 := Lib.hid (hr.below k0)
  have HS := Lib.hid hS
  have HO := Lib.hid hok
  clear h hr k0 hS hok
  go_enter Tryz.func77, Tryz.ntmps77
  go_upto_region 1 with fail
  generalize w.alloc (.cells #[.int .i64 mo, .slice A n cap] 24) = W at *
  have c1 : W.cell? ⟨w.heap.size, 1, none⟩ = some (.slice A n cap) := b0.out.cell 1
  go_wp2_with (go_at_call 58; (refine (pnew_any A n cap rs _ R0.out hn).mono ?_; rintro e w1 ⟨T, rfl, hT, g⟩; refine stopHere ?_))
  unfold Stop
  have H1 := Lib.hid (H0.out.below g)
  have K1 := Lib.hid (kbq K0.out g)
  have T1 := hT
  clear H0 K0 R0 b0 c1 g hT
  have CC := Lib.hid (clock_of o QT B m c S w1 H1.out)
  go_wp2_with (go_at_call 29; (refine (CC.out).mono ?_; rintro e w2 ⟨rfl, g⟩; refine stopHere ?_))
  unfold Stop
  have H2 := Lib.hid ((H1.out.below g).below ((Below.refl _ w2).alloc (Nat.le_refl _) (.cells #[.pointer (some ⟨T, 0, none⟩), .int .u64 c] 199)))
  have K2 := Lib.hid ((kbq K1.out g).alloc (Nat.le_trans K1.out.size g.size) (.cells #[.pointer (some ⟨T, 0, none⟩), .int .u64 c] 199))
  have T2 := Lib.hid ((T1.out.below g).below ((Below.refl _ w2).alloc (Nat.le_refl _) (.cells #[.pointer (some ⟨T, 0, none⟩), .int .u64 c] 199)))
  have B2 := Lib.hid (Blk.new w2 #[.pointer (some ⟨T, 0, none⟩), .int .u64 c] 199)
  go_upto_region 2 with fail
  clear H1 K1 T1 CC g
  revert H2 K2 T2 B2
  generalize w2.alloc (.cells #[.pointer (some ⟨T, 0, none⟩), .int .u64 c] 199) = W2
  intro H2 K2 T2 B2
  obtain ⟨X, hX⟩ : ∃ X, w2.heap.size = X := ⟨_, rfl⟩
  rw [hX] at B2 ⊢
  clear hX
  obtain ⟨q0, q1⟩ : W2.cell? ⟨X, 0, none⟩ = some (.pointer (some ⟨T, 0, none⟩)) ∧ W2.cell? ⟨X, 1, none⟩ = some (.int .u64 c) := ⟨B2.out.cell 0, B2.out.cell 1⟩
  have CS := Lib.hid (fun V (g : Below W2.heap.size W2 V) => slots_of o QT B m c S V (H2.out.below g) (sort_all _ (by omega)))
  have CP := Lib.hid (fun V v base xs (h1 : OwS V base v xs) (h2 : Told S xs) (h3 : TreeAt V T rs) => kpart_any T c rs v base xs V h1 (by have := h2.len; omega) (fun s hs => HS.out s ((h2.mem s).1 hs)) hc h3 HO.out)
  go_region_held3 (fun w' => w'.cell? ⟨X, 0, none⟩ = some (.pointer (some ⟨T, 0, none⟩)) ∧ w'.cell? ⟨X, 1, none⟩ = some (.int .u64 c))
    (first | with_reducible exact ⟨q0, q1⟩ | with_reducible exact ⟨dcell q0, dcell q1⟩)
    (first
      | (go_at_call 42; (first
        | (with_reducible refine (CS.out _ (Below.refl _ _)).mono ?_; rintro r w3 ⟨v, xs, rfl, O, TT, g⟩; have K3 := Lib.hid (kbq K2.out g); have T3 := Lib.hid (T2.out.below g); replace q0 := celln g q0; replace q1 := celln g q1)
        | (with_reducible refine (CS.out _ (below_dr _)).mono ?_; rintro r w3 ⟨v, xs, rfl, O, TT, g⟩; have K3 := Lib.hid (kbq (kbq K2.out (below_dr _)) g); have T3 := Lib.hid ((T2.out.below (below_dr _)).below g); replace q0 := celln g (dcell q0); replace q1 := celln g (dcell q1))); have O3 := Lib.hid O; have TL := Lib.hid TT; clear O TT g)
      | (go_at_call 132; (first
        | (with_reducible refine (CP.out _ _ _ _ O3.out TL.out T3.out).mono ?_; rintro r w4 ⟨u1, u2, rfl, D, g⟩; have K4 := Lib.hid (kbq K3.out g); replace q0 := celln g q0; replace q1 := celln g q1; have D4 := Lib.hid (Dbl.base K3.out.size D))
        | (with_reducible refine (CP.out _ _ _ _ (own_below O3.out (below_dr _)) TL.out (T3.out.below (below_dr _))).mono ?_; rintro r w4 ⟨u1, u2, rfl, D, g⟩; have K4 := Lib.hid (kbq (kbq K3.out (below_dr _)) g); replace q0 := celln g (dcell q0); replace q1 := celln g (dcell q1); have D4 := Lib.hid (Dbl.base (kbq K3.out (below_dr _)).size D))); clear D g))
  all_goals
    go_wp2
    refine bodyPost_ret (v := .tuple #[u1, u2]) ?_ rfl ⟨u1, u2, xs, rfl, TL.out, D4.out, K4.out⟩
    simp [results, Tryz.results77, go_sem]
end Go.Proofs.YtbejkcdaefkibaaGreat.Wd
namespace Go.Proofs.YtbejkcdaefkibaaGreat.Wd
open Go Go.RowKit Go.Deep Go.Shelf
set_option linter.unusedVariables false
set_option maxRecDepth 100000
theorem infoTx : (Tryz.prog.info? 9).map (fun i => (i.zero, i.size, i.bytes)) = some (some (.string ⟨#[]⟩), 1, 16) := by kernel_rfl
/-- Texts, as cells. -/
abbrev tvs (xs : List ByteArray) : List Value := xs.map Value.string
/-- A row of texts that a call owns. -/
def ORow (w : World) (base : Nat) (v : Value) (xs : List ByteArray) : Prop := w.ownsRow base 9 1 v xs.length (tvs xs)
theorem ORow.nil (w : World) (base : Nat) : ORow w base (.slice none 0 0) [] := World.ownsRow_nil _ _ _ _
theorem ORow.sts {w : World} {base : Nat} {v : Value} {xs : List ByteArray} (h : ORow w base v xs) (hx : ∀ x ∈ xs, x.size ≤ 9223372036854775807) :
    ∃ A c, v = .slice A xs.length c ∧ xs.length ≤ c ∧ c ≤ 9223372036854775807 ∧ Sts w A xs.length xs := by
  obtain ⟨h1, h2⟩ := h
  rcases h2 with ⟨rfl, h0⟩ | ⟨g, cap, cur, rfl, hb, hg, hc1, hc2, hsz, htk⟩
  · have : xs = [] := List.eq_nil_of_length_eq_zero h0
    subst this
    exact ⟨none, 0, rfl, by simp, by omega, ⟨rfl, fun x hx => (List.not_mem_nil hx).elim, fun h => absurd h (Nat.lt_irrefl 0)⟩⟩
  · refine ⟨_, cap, rfl, hc1, hc2, rfl, hx, fun hn => ⟨g, 0, rfl, heap_lt hg, fun k hk => ?_⟩⟩
    have e : (cur.toList.take (xs.length * 1))[k]? = (tvs xs)[k]? := by rw [htk]
    rw [List.getElem?_take, if_pos (by omega)] at e
    rw [Nat.zero_add, List.getD_eq_getElem?_getD, List.getElem?_eq_getElem hk]
    have e2 : w.cell? ⟨g, k, none⟩ = cur[k]? := by simp [World.cell?, hg]
    rw [e2]
    simpa [List.getElem?_map, List.getElem?_eq_getElem hk] using e
theorem text_one (y : ByteArray) : ∀ u ∈ tvs [y], u.oneCell' = true := by
  intro u hu
  obtain ⟨x, _, rfl⟩ := List.mem_map.1 hu
  rfl
/-- One text more. -/
theorem wpList_app_tx (w : World) {ops : Array Oper} {rest : List Oper} {o : Oper} {a : Act} {Q : Exit → Act → World → Prop} (hgd : o.guard = none) (s x : Operand)
    (ho : o.op = .call { callee := .builtin .append, args := #[s, x], argTypes := #[85, 85] })
    (base : Nat) (v : Value) (acc : List ByteArray) (hs : a.eval s = v) (hown : ORow w base v acc) (b off c : Nat) (y : ByteArray) (hx : a.eval x = .slice (some ⟨b, off, none⟩) 1 c) (hT : w.cell? ⟨b, off, none⟩ = some (.string y))
    (hsz : acc.length + 1 ≤ 1099511627776) (hbase : base ≤ w.heap.size)
    (h : ∀ g cap w', ORow w' base (.slice (some ⟨g, 0, none⟩) (acc.length + 1) cap) (acc ++ [y]) → Below base w w' → wpList Tryz.prog ops Q rest (a.put o.dst (.slice (some ⟨g, 0, none⟩) (acc.length + 1) cap)) w') : wpList Tryz.prog ops Q (o :: rest) a w := by
  obtain ⟨i0, hi, hy0, hy1, hy2⟩ := info_parts infoTx
  refine wpList_append_lies w hgd s x 85 ho base 9 i0 (.string ⟨#[]⟩) 1 16 Tryz.underlying85 hi hy0 hy1 hy2 rfl (by decide) v acc.length (tvs acc) hs hown ⟨b, off, none⟩ 1 c (tvs [y]) hx (by simp) ?_ (text_one y) (by decide) (by unfold maxLen; omega) (by omega) hbase w.heap.size rfl ?_
  · intro j u hu
    have hj : j = 0 := by
      by_cases z : j = 0
      · exact z
      · rw [List.getElem?_eq_none (by simp; omega)] at hu; cases hu
    subst hj
    have e : ((⟨b, off, none⟩ : Addr).add 0) = ⟨b, off, none⟩ := rfl
    rw [e, hT]; simpa using hu
  · intro g cap w' own grow _ _
    refine h g cap w' ?_ ((Below.refl base w).grown grow hbase (fun k hk => (World.ownsRow.lt hown k hk).1))
    unfold ORow tvs
    rw [List.map_append, List.length_append]
    exact own
/-- What is wrong with one slot. -/
def wsE (c : Int) (s : Sl) : Int := if wkE s.key s.r = 0 then (if isK s.k = true then (if flS c s < 1 ∨ capS s < flS c s then 44 else 0) else 27) else wkE s.key s.r
set_option maxHeartbeats 4000000 in
theorem wrongslot_any (c : Int) (s : Sl) (w : World) (hs : Oks s) (hc : U c) :
    Calls Tryz.prog 153 #[.int .u64 c, s.v] w fun e w' => e = .returned (.int .u16 (wsE c s)) ∧ Below w.heap.size w w' := by
  have CW := Lib.hid (fun W => wrongkey_any s.key s.r W (by have := hs.key; omega) hs.r)
  have CK := Lib.hid (fun W => knright_any s.k W)
  have CC := Lib.hid (fun W => cap_any s.r.p s.r.e s.r.b s.r.k W (by have := hs.r.p; omega) hs.r.e hs.r.b)
  have CF := Lib.hid (fun W => kfill_any s.k s.a s.b c (caI s.r.p s.r.e s.r.b s.r.k) W hs.a hs.b hc (capS_U hs))
  have b0 := Lib.hid (Blk.new w s.cs Tas)
  have k0 := Lib.hid ((Below.refl _ w).alloc (Nat.le_refl _) (.cells s.cs Tas))
  have HW : Hid (wsE c s = if wkE s.key s.r = 0 then (if isK s.k = true then (if kfI s.k s.a s.b c (caI s.r.p s.r.e s.r.b s.r.k) < 1 ∨ caI s.r.p s.r.e s.r.b s.r.k < kfI s.k s.a s.b c (caI s.r.p s.r.e s.r.b s.r.k) then 44 else 0) else 27) else wkE s.key s.r) := Lib.hid rfl
  rw [HW.out]
  clear HW
  generalize hE : wkE s.key s.r = E at *
  generalize hK : isK s.k = K at *
  generalize hG : caI s.r.p s.r.e s.r.b s.r.k = G at *
  generalize hF : kfI s.k s.a s.b c G = F at *
  clear hE hK hF hG
  go_enter Tryz.func153, Tryz.ntmps153
  go_upto_region 1 with fail
  generalize w.alloc (.cells s.cs Tas) = W at *
  obtain ⟨x0, x1, x2, x3, x4, x5, x6, x7⟩ := b0.out.eight
  by_cases h0 : E = 0
  · subst h0
    go_wp2_with (go_at_call 81; (refine (CW.out _).mono ?_; rintro e w1 ⟨rfl, g⟩; refine stopHere ?_))
    unfold Stop
    have b1 := Lib.hid (b0.out.below g)
    have k1 := Lib.hid (kbq k0.out g)
    clear x0 x1 x2 x3 x4 x5 x6 x7 b0 k0 g
    obtain ⟨x0, x1, x2, x3, x4, x5, x6, x7⟩ := b1.out.eight
    cases K
    · go_wp2_with (go_at_call 171; (refine (CK.out _).mono ?_; rintro e w2 ⟨rfl, _, g⟩))
      go_ret
      exact ⟨rfl, kbq k1.out g⟩
    · go_wp2_with (go_at_call 171; (refine (CK.out _).mono ?_; rintro e w2 ⟨rfl, _, g⟩; refine stopHere ?_))
      unfold Stop
      have b2 := Lib.hid (b1.out.below g)
      have k2 := Lib.hid (kbq k1.out g)
      clear x0 x1 x2 x3 x4 x5 x6 x7 b1 k1 g
      obtain ⟨x0, x1, x2, x3, x4, x5, x6, x7⟩ := b2.out.eight
      go_wp2_with (go_at_call 68; (refine (CC.out _).mono ?_; rintro e w3 ⟨rfl, _, g⟩; refine stopHere ?_))
      unfold Stop
      have b3 := Lib.hid (b2.out.below g)
      have k3 := Lib.hid (kbq k2.out g)
      clear x0 x1 x2 x3 x4 x5 x6 x7 b2 k2 g
      obtain ⟨x0, x1, x2, x3, x4, x5, x6, x7⟩ := b3.out.eight
      by_cases h1 : F < 1
      · go_wp2_with (go_at_call 116; (refine (CF.out _).mono ?_; rintro e w4 ⟨rfl, _, g⟩))
        go_ret
        exact ⟨by first | rfl | simp [h1], kbq k3.out g⟩
      · by_cases h2 : G < F
        · go_wp2_with (go_at_call 116; (refine (CF.out _).mono ?_; rintro e w4 ⟨rfl, _, g⟩))
          go_ret
          exact ⟨by first | rfl | simp [h2], kbq k3.out g⟩
        · go_wp2_with (go_at_call 116; (refine (CF.out _).mono ?_; rintro e w4 ⟨rfl, _, g⟩))
          go_ret
          exact ⟨by first | rfl | simp [h1, h2], kbq k3.out g⟩
  · have h1 : (E != 0) = true := by simpa using h0
    have HE := Lib.hid h0
    clear h0
    go_wp2_with (go_at_call 81; (refine (CW.out _).mono ?_; rintro e w1 ⟨rfl, g⟩))
    go_ret
    exact ⟨by first | rfl | rw [if_neg HE.out], kbq k0.out g⟩
end Go.Proofs.YtbejkcdaefkibaaGreat.Wd
namespace Go.Proofs.YtbejkcdaefkibaaGreat.Wd
open Go Go.RowKit Go.Deep Go.Shelf
set_option linter.unusedVariables false
set_option maxRecDepth 100000
attribute [local go_sem] Oper.semAt_some
/-- The first thing that is wrong with slots. -/
def fsE (c : Int) : List Sl → Int
  | [] => 0
  | s :: r => if wsE c s = 0 then fsE c r else wsE c s
/-- What is wrong with a table of these. -/
def woE (m c : Int) (xs : List Sl) : Int := if m < 1 ∨ 1000000 < m then 29 else if fsE c xs = 0 then (if soB (xs.map (fun s => s.key)) = true then (if m < (xs.length : Int) then 50 else 0) else 42) else fsE c xs
set_option maxHeartbeats 4000000 in
theorem twrong_any (m c : Int) (A : Option Addr) (n cap : Nat) (xs : List Sl) (w : World) (h : Rds w A n xs) (hs : ∀ s ∈ xs, Oks s) (hc : U c) (hn : n ≤ 1000000000) :
    Calls Tryz.prog 103 #[.int .i64 m, .int .u64 c, .slice A n cap] w fun e w' => e = .returned (.int .u16 (woE m c xs)) ∧ Below w.heap.size w w' := by
  by_cases hm : m < 1 ∨ 1000000 < m
  · have HW := Lib.hid (show woE m c xs = 29 from if_pos hm)
    rw [HW.out]
    clear h HW
    go_enter Tryz.func103, Tryz.ntmps103
    by_cases h1 : m < 1
    · go_wp2
      go_ret
      exact ⟨rfl, Below.refl _ _⟩
    · have h2 : 1000000 < m := by omega
      go_wp2
      go_ret
      exact ⟨rfl, Below.refl _ _⟩
  · have HW := Lib.hid (show woE m c xs = if fsE c xs = 0 then (if soB (xs.map (fun s => s.key)) = true then (if m < (xs.length : Int) then 50 else 0) else 42) else fsE c xs from if_neg hm)
    have hm1 : ¬ m < 1 := by omega
    have hm2 : ¬ 1000000 < m := by omega
    have HF := Lib.hid h
    have HS := Lib.hid hs
    have hl : xs.length = n := h.1
    have hl' : (xs.length : Int) = (n : Int) := by rw [hl]
    have HL := Lib.hid hl
    rw [HW.out, hl']
    clear hm h hs HW hl hl'
    obtain ⟨F, hF⟩ : ∃ F, fsE c xs = F := ⟨_, rfl⟩
    rw [hF]
    have HFs := Lib.hid hF
    clear hF
    obtain ⟨R, hR⟩ : ∃ R, (if F = 0 then (if soB (xs.map (fun s => s.key)) = true then (if m < (n : Int) then 50 else 0) else 42) else F) = R := ⟨_, rfl⟩
    rw [hR]
    have HR := Lib.hid hR
    clear hR
    go_enter Tryz.func103, Tryz.ntmps103
    go_wp2
    go_loopw [7, 19] (fun u i wr => ∃ j : Nat, i = .int .i64 (j : Int) ∧ j ≤ n ∧ Hid (F = fsE c (xs.drop j)) ∧ Hid (ORow wr w.heap.size u ((xs.take j).map (fun s => s.key))) ∧ Hid (Below w.heap.size w wr)) (fun _ i _ => n - (intOf i).toNat)
    case atStart => exact ⟨0, rfl, Nat.zero_le _, Lib.hid HFs.out.symm, Lib.hid (ORow.nil _ _), Lib.hid (Below.refl _ _)⟩
    case round =>
      obtain ⟨j, rfl, hj, HD, HO, hB⟩ := hrel
      obtain ⟨A1, cap1, hv1, hc1, hc1', hst⟩ := HO.out.sts (fun x hx => by
        obtain ⟨s, h1, rfl⟩ := List.mem_map.1 hx
        have := (HS.out s (List.mem_of_mem_take h1)).key; omega)
      have lk : ((xs.take j).map (fun s => s.key)).length ≤ 1000000000 := by rw [List.length_map, List.length_take, HL.out]; omega
      have hks0 : Hid ((xs.take j).map (fun s => s.key) = (xs.take j).map (fun s => s.key)) := Lib.hid rfl
      obtain ⟨ks, hks⟩ : ∃ ks, (xs.take j).map (fun s => s.key) = ks := ⟨_, rfl⟩
      rw [hks] at HO hv1 hst lk hc1
      have HST := Lib.hid hst
      have HK := Lib.hid hks
      subst hv1
      clear hst hks hks0
      by_cases hlt : j < n
      · obtain ⟨b, off, rfl, hb, hcc⟩ := (HF.out.below hB.out).2 (by omega)
        obtain ⟨x0, x1, x2, x3, x4, x5, x6, x7⟩ := (hcc j hlt).eight
        have hlt' : j < xs.length := by rw [HL.out]; exact hlt
        have ht : Hid (xs.take (j + 1) = xs.take j ++ [atS xs j]) := Lib.hid (by
          rw [List.take_succ_eq_append_getElem hlt']; simp [atS, List.getD, hlt'])
        have hd : Hid (xs.drop j = atS xs j :: xs.drop (j + 1)) := Lib.hid (by
          rw [List.drop_eq_getElem_cons hlt']; simp [atS, List.getD, hlt'])
        have hmem : atS xs j ∈ xs := by simp [atS, List.getD, hlt']
        have CY := Lib.hid (fun W => wrongslot_any c (atS xs j) W (HS.out _ hmem) hc)
        clear hcc hmem hlt'
        generalize atS xs j = y at *
        obtain ⟨E, hE⟩ : ∃ E, wsE c y = E := ⟨_, rfl⟩
        rw [hE] at CY
        have HN : Hid (F = if E = 0 then fsE c (xs.drop (j + 1)) else E) := Lib.hid (by rw [HD.out, hd.out, ← hE]; rfl)
        clear hE
        by_cases h0 : E = 0
        · have HN2 := Lib.hid (HN.out.trans (if_pos h0))
          subst h0
          clear HN
          go_wp2_with (go_at_call 153; (refine (CY.out _).mono ?_; rintro e w2 ⟨rfl, g⟩; refine stopHere ?_))
          unfold Stop
          have hsw := g.size
          have BY := Lib.hid ((Blk.new wr y.cs Tas).below g)
          have OO := Lib.hid (World.ownsRow.kept (own_below HO.out ((Below.refl _ wr).alloc (Nat.le_refl _) (.cells y.cs Tas))) (gb_none g) (by rcases A1 with _ | a <;> first | exact .inl rfl | exact .inr (by simp [Value.ownBlock])))
          have kB := Lib.hid ((hB.out.alloc hB.out.size (.cells y.cs Tas)).trans (g.mono (by have := hB.out.size; simp; omega)))
          clear x0 x1 x2 x3 x4 x5 x6 x7 g CY HO hB HST
          obtain ⟨y0, y1, y2, y3, y4, y5, y6, y7⟩ := BY.out.eight
          go_wp2_with (at_builtin; refine wpList_app_tx _ rfl _ _ rfl w.heap.size _ ks rfl ?o _ 0 1 y.key rfl ?c1 ?c2 ?c3 ?_)
          case o => exact own_below (show ORow w2 _ _ _ from OO.out) ((Below.refl _ _).alloc (Nat.le_refl _) _)
          case c1 => exact (Blk.new w2 #[.string y.key] 9).cell 0
          case c2 => omega
          case c3 => have := kB.out.size; simp at this ⊢; omega
          intro g cap w3 own bel
          have OD := Lib.hid own
          have B2 := Lib.hid ((kB.out.alloc kB.out.size (.cells #[.string y.key] 9)).trans bel)
          clear own bel OO kB BY y0 y1 y2 y3 y4 y5 y6 y7
          go_wp2
          go_roundw
          case rel => exact ⟨j + 1, by go_num, by omega, HN2, Lib.hid (by rw [ht.out, List.map_append, HK.out]; exact OD.out), B2⟩
          case measure => simp [intOf]; omega
        · have HN2 := Lib.hid (HN.out.trans (if_neg h0))
          have h1 : (E != 0) = true := by simpa using h0
          have HE := Lib.hid h0
          clear HN h0
          go_wp2_with (go_at_call 153; (refine (CY.out _).mono ?_; rintro e w2 ⟨rfl, g⟩))
          go_ret
          exact ⟨by rw [← HR.out, HN2.out, if_neg HE.out]; rfl, (hB.out.alloc hB.out.size (.cells y.cs Tas)).trans (g.mono (by have := hB.out.size; simp; omega))⟩
      · have HN0 : Hid (F = 0) := Lib.hid (by rw [HD.out, List.drop_of_length_le (by rw [HL.out]; omega)]; rfl)
        have HK2 : Hid (xs.map (fun s => s.key) = ks) := Lib.hid (by rw [← HK.out, List.take_of_length_le (by rw [HL.out]; omega)])
        have CS := Lib.hid (fun W (g : Sts W A1 ks.length ks) => sorted_any A1 ks.length cap1 ks W g (by omega))
        have HR2 : Hid ((if soB ks = true then (if m < (n : Int) then 50 else 0) else 42) = R) := Lib.hid (by rw [← HR.out, if_pos HN0.out, HK2.out])
        cases hso : soB ks with
        | false =>
          rw [hso] at CS
          have HR3 : Hid (R = 42) := Lib.hid (by rw [← HR2.out, hso]; rfl)
          clear hso
          go_wp2_with (go_at_call 61; (refine (CS.out _ HST.out).mono ?_; rintro e w2 ⟨rfl, g⟩))
          go_ret
          exact ⟨by rw [HR3.out]; rfl, hB.out.trans (g.mono hB.out.size)⟩
        | true =>
          rw [hso] at CS
          by_cases hmn : m < (n : Int)
          · have HR3 : Hid (R = 50) := Lib.hid (by rw [← HR2.out, hso, if_pos rfl, if_pos hmn])
            clear hso
            go_wp2_with (go_at_call 61; (refine (CS.out _ HST.out).mono ?_; rintro e w2 ⟨rfl, g⟩))
            go_ret
            exact ⟨by rw [HR3.out]; rfl, hB.out.trans (g.mono hB.out.size)⟩
          · have HR3 : Hid (R = 0) := Lib.hid (by rw [← HR2.out, hso, if_pos rfl, if_neg hmn])
            clear hso
            go_wp2_with (go_at_call 61; (refine (CS.out _ HST.out).mono ?_; rintro e w2 ⟨rfl, g⟩))
            go_ret
            exact ⟨by rw [HR3.out]; rfl, hB.out.trans (g.mono hB.out.size)⟩
theorem fs_all {c : Int} : ∀ {xs : List Sl}, fsE c xs = 0 → ∀ s ∈ xs, wsE c s = 0
  | [], _, s, hs => (List.not_mem_nil hs).elim
  | x :: r, h, s, hs => by
    unfold fsE at h
    by_cases z : wsE c x = 0
    · rw [if_pos z] at h
      rcases List.mem_cons.1 hs with rfl | hs
      · exact z
      · exact fs_all h s hs
    · rw [if_neg z] at h
      exact absurd h z
theorem ws_ok {c : Int} {s : Sl} (h : wsE c s = 0) : rtB (lb s.key) = true ∧ ruE s.r.p s.r.e s.r.b s.r.k = 0 ∧ Is3 s.k ∧ 1 ≤ flS c s := by
  unfold wsE at h
  by_cases h1 : wkE s.key s.r = 0
  · rw [if_pos h1] at h
    by_cases h2 : isK s.k = true
    · rw [if_pos h2] at h
      by_cases h3 : flS c s < 1 ∨ capS s < flS c s
      · rw [if_pos h3] at h; cases h
      · unfold wkE at h1
        by_cases h4 : rtB (lb s.key) = true
        · rw [if_pos h4] at h1
          exact ⟨h4, h1, isK_yes s.k h2, by omega⟩
        · rw [if_neg h4] at h1; cases h1
    · rw [if_neg h2] at h; cases h
  · rw [if_neg h1] at h
    exact absurd h h1
theorem so_rise : ∀ {xs : List Sl}, soB (xs.map (fun s => s.key)) = true → Rise xs
  | [], _ => List.Pairwise.nil
  | [a], _ => List.pairwise_singleton _ _
  | a :: b :: r, h => by
    have h' : (ls (lb a.key) (lb b.key) && soB ((b :: r).map (fun s => s.key))) = true := h
    rw [Bool.and_eq_true] at h'
    have ih := so_rise h'.2
    refine List.pairwise_cons.2 ⟨fun x hx => ?_, ih⟩
    rcases List.mem_cons.1 hx with rfl | hx
    · exact h'.1
    · exact ls_trans _ _ _ h'.1 ((List.pairwise_cons.1 ih).1 x hx)
theorem Tbl.clock0 {w : World} {T : Nat} {B : Nat → Prop} {m c : Int} (h : Tbl w T B m 0 []) (hc : U c) : Tbl (w.setCell ⟨T, 1, none⟩ (.int .u64 c)) T B m c [] ∧ Tch B w (w.setCell ⟨T, 1, none⟩ (.int .u64 c)) := by
  obtain ⟨L, h1, h2, h3, h4⟩ := h
  have hL : L = [] := by
    have := h2.length_eq
    simpa using this
  subst hL
  obtain ⟨a, b⟩ := h1.clock c
  exact ⟨⟨[], a, List.Perm.refl _, fun x hx => (List.not_mem_nil hx).elim, ⟨h4.m1, h4.m2, hc, h4.len, fun s hs => (List.not_mem_nil hs).elim, List.Pairwise.nil⟩⟩, b⟩
theorem offS_id {k : ByteArray} {S : List Sl} (h : ∀ s ∈ S, s.key ≠ k) : offS k S = S := List.filter_eq_self.2 (fun s hs => by simpa using h s hs)
set_option maxHeartbeats 4000000 in
theorem of_bad (m c : Int) (A : Option Addr) (n cap : Nat) (xs : List Sl) (w : World) (h : Rds w A n xs) (hs : ∀ s ∈ xs, Oks s) (hc : U c) (hn : n ≤ 1000000000) (h0 : woE m c xs ≠ 0) :
    Calls Tryz.prog 59 #[.int .i64 m, .int .u64 c, .slice A n cap] w fun e w' => e = .returned (.tuple #[.pointer none, .int .u16 (woE m c xs)]) ∧ Below w.heap.size w w' := by
  have CW := Lib.hid (twrong_any m c A n cap xs w h hs hc hn)
  have h1 : (woE m c xs != 0) = true := by simpa using h0
  generalize woE m c xs = E at *
  clear h hs
  go_enter Tryz.func59, Tryz.ntmps59
  go_wp2_with (go_at_call 103; (refine (CW.out).mono ?_; rintro e w1 ⟨rfl, g⟩))
  refine bodyPost_ret (v := .tuple #[.pointer none, .int .u16 E]) ?_ rfl ⟨rfl, g⟩
  simp [results, Tryz.results59, go_sem]
set_option maxHeartbeats 4000000 in
theorem of_ok (m c : Int) (A : Option Addr) (n cap : Nat) (xs : List Sl) (w : World) (h : Rds w A n xs) (hs : ∀ s ∈ xs, Oks s) (hc : U c) (hn : n ≤ 1000000000) (h0 : woE m c xs = 0) :
    Calls Tryz.prog 59 #[.int .i64 m, .int .u64 c, .slice A n cap] w fun e w' => ∃ T B S, e = .returned (.tuple #[ptr T, .int .u16 0]) ∧ Tbl w' T B m c S ∧ S.Perm xs ∧ (∀ k, B k → w.heap.size ≤ k) ∧ Below w.heap.size w w' := by
  have CW := Lib.hid (twrong_any m c A n cap xs w h hs hc hn)
  rw [h0] at CW
  have hl : xs.length = n := h.1
  obtain ⟨hm, hfs, hso, hmn⟩ : (1 ≤ m ∧ m ≤ 1000000) ∧ fsE c xs = 0 ∧ soB (xs.map (fun s => s.key)) = true ∧ ¬ m < (n : Int) := by
    unfold woE at h0
    by_cases q1 : m < 1 ∨ 1000000 < m
    · rw [if_pos q1] at h0; cases h0
    · rw [if_neg q1] at h0
      by_cases q2 : fsE c xs = 0
      · rw [if_pos q2] at h0
        by_cases q3 : soB (xs.map (fun s => s.key)) = true
        · rw [if_pos q3, hl] at h0
          by_cases q4 : m < (n : Int)
          · rw [if_pos q4] at h0; cases h0
          · exact ⟨by omega, q2, q3, q4⟩
        · rw [if_neg q3] at h0; cases h0
      · rw [if_neg q2] at h0
        exact absurd h0 q2
  have hmo : mostI m = m := by unfold mostI; omega
  have RI := Lib.hid (so_rise hso)
  have OKs := Lib.hid (fun s (q : s ∈ xs) => ws_ok (fs_all hfs s q))
  have HF := Lib.hid h
  have HS := Lib.hid hs
  have HL := Lib.hid hl
  have HMN := Lib.hid hmn
  have HM := Lib.hid hm
  clear h hs hl h0 hfs hso hmn hm
  go_enter Tryz.func59, Tryz.ntmps59
  go_wp2_with (go_at_call 103; (refine (CW.out).mono ?_; rintro e w1 ⟨rfl, g⟩; refine stopHere ?_))
  unfold Stop
  have K1 := Lib.hid g
  have CN := Lib.hid (new_any m w1)
  rw [hmo] at CN
  clear g CW hmo
  go_wp2_with (go_at_call 23; (refine (CN.out).mono ?_; rintro e w2 ⟨rfl, g, ht, hs2⟩; refine stopHere ?_))
  unfold Stop
  obtain ⟨T, hT⟩ : ∃ T, w1.heap.size + 1 = T := ⟨_, rfl⟩
  rw [hT] at ht ⊢
  clear hT
  have H2 := Lib.hid (ht.clock0 hc)
  have K2 := Lib.hid (tch_below (kbq K1.out g) H2.out.2 (Nat.le_refl _) (fun k hk q => by have := K1.out.size; have := q.1; omega))
  have BB := Lib.hid (fun k (q : w1.heap.size ≤ k ∧ k < w2.heap.size) => Nat.le_trans K1.out.size q.1)
  obtain ⟨c0, c1, cf, ct⟩ := ht.cells
  go_upto_region 6 with fail
  clear g hs2 K1 CN c0 c1 cf ct ht
  revert H2 K2
  generalize World.setCell _ ⟨T, 1, none⟩ _ = W3
  intro H2 K2
  go_wp2
  go_loopw [27] (fun i wr => ∃ j : Nat, i = .int .i64 (j : Int) ∧ j ≤ n ∧ ∃ B S, Hid (Tbl wr T B m c S) ∧ Hid (S.Perm (xs.take j)) ∧ Hid (∀ k, B k → w.heap.size ≤ k) ∧ Hid (Below w.heap.size w wr)) (fun i _ => n - (intOf i).toNat)
  case atStart => exact ⟨0, rfl, Nat.zero_le _, _, [], Lib.hid H2.out.1, Lib.hid (List.Perm.refl _), BB, K2⟩
  case round =>
    obtain ⟨j, rfl, hj, B, S, HT, HP, HB, hB⟩ := hrel
    by_cases hlt : j < n
    · obtain ⟨b, off, rfl, hb, hcc⟩ := (HF.out.below hB.out).2 (by omega)
      obtain ⟨x0, x1, x2, x3, x4, x5, x6, x7⟩ := (hcc j hlt).eight
      have hlt' : j < xs.length := by rw [HL.out]; exact hlt
      have ht : Hid (xs.take (j + 1) = xs.take j ++ [atS xs j]) := Lib.hid (by
        rw [List.take_succ_eq_append_getElem hlt']; simp [atS, List.getD, hlt'])
      have hmem : atS xs j ∈ xs := by simp [atS, List.getD, hlt']
      have CO := Lib.hid (fun W => own_any (atS xs j) W (HS.out _ hmem).key (HS.out _ hmem).r.p)
      have OY := Lib.hid (OKs.out _ hmem)
      have OS := Lib.hid (HS.out _ hmem)
      have hne : Hid (∀ s ∈ S, s.key ≠ (atS xs j).key) := Lib.hid (by
        intro s hs
        have r := RI.out.ne
        have q := (HP.out.mem_iff.1 hs)
        have r2 := r.sublist (List.take_sublist (j + 1) xs)
        rw [ht.out] at r2
        exact (List.pairwise_append.1 r2).2.2 s q _ (List.mem_singleton.2 rfl))
      have hSl : Hid (S.length = j) := Lib.hid (by rw [HP.out.length_eq, List.length_take, HL.out]; omega)
      clear hcc hmem hlt'
      generalize atS xs j = y at *
      go_wp2_with (go_at_call 79; (refine (CO.out _).mono ?_; rintro e w3 ⟨rfl, g⟩; refine stopHere ?_))
      unfold Stop
      have HT3 := Lib.hid ((HT.out.below ((Below.refl _ wr).alloc (Nat.le_refl _) (.cells y.cs Tas))).below g)
      have K3 := Lib.hid ((hB.out.alloc hB.out.size (.cells y.cs Tas)).trans (g.mono (by have := hB.out.size; simp; omega)))
      have CP := Lib.hid (put_tab T B m c S y w3 HT3.out OS.out OY.out.1 OY.out.2.1 OY.out.2.2.1 (by rw [offS_id hne.out, hSl.out]; have := HMN.out; omega))
      clear x0 x1 x2 x3 x4 x5 x6 x7 g CO hB
      go_wp2_with (go_at_call 104; (refine (CP.out).mono ?_; rintro e w4 ⟨rfl, g, ht4⟩; refine stopHere ?_))
      unfold Stop
      have HT4 := Lib.hid ht4
      have K4 := Lib.hid (tch_below K3.out g (Nat.le_refl _) (fun k hk q => by have := HB.out k q; omega))
      have HB4 := Lib.hid (show ∀ k, Nx B w3 k → w.heap.size ≤ k from fun k q => q.elim (fun q => HB.out k q) (fun q => by have := K3.out.size; omega))
      have HP4 : Hid ((putS c y S).Perm (xs.take (j + 1))) := Lib.hid (by
        have hp := OY.out.2.2.2
        unfold putS
        rw [if_neg (by omega), offS_id hne.out, ht.out]
        exact (HP.out.cons y).trans (List.perm_append_singleton y (xs.take j)).symm)
      clear ht4 g CP HT3 K3
      go_wp2
      go_roundw
      case rel => exact ⟨j + 1, by go_num, by omega, _, _, HT4, HP4, HB4, K4⟩
      case measure => simp [intOf]; omega
    · have HE : Hid (xs.take j = xs) := Lib.hid (List.take_of_length_le (by rw [HL.out]; omega))
      go_wp2
      refine bodyPost_ret (v := .tuple #[ptr T, .int .u16 0]) ?_ rfl ⟨T, B, S, rfl, HT.out, by have := HP.out; rwa [HE.out] at this, HB.out, hB.out⟩
      simp [results, Tryz.results59, go_sem]
end Go.Proofs.YtbejkcdaefkibaaGreat.Wd
namespace Go.Proofs.YtbejkcdaefkibaaGreat.Wd
open Go Go.RowKit Go.Deep Go.Shelf
set_option linter.unusedVariables false
set_option maxRecDepth 100000
theorem stay_some {rs : List Rl} {c : Int} {s z : Sl} (h : stayS rs c s = some z) : ∃ r, findR rs s.key = some r ∧ r.e = s.r.e ∧ r.b = s.r.b ∧ ruE r.p r.e r.b r.k = 0 ∧ z = stK c s r := by
  unfold stayS at h
  cases e : findR rs s.key with
  | none => rw [e] at h; cases h
  | some r =>
    rw [e] at h
    have h : (if smB r s.r = true ∧ ruE r.p r.e r.b r.k = 0 then some (stK c s r) else none) = some z := h
    by_cases q : smB r s.r = true ∧ ruE r.p r.e r.b r.k = 0
    · rw [if_pos q] at h
      injection h with h
      have q1 := q.1
      unfold smB at q1
      rw [Bool.and_eq_true] at q1
      exact ⟨r, rfl, by simpa using q1.1, by simpa using q1.2, q.2, h.symm⟩
    · rw [if_neg q] at h; cases h
theorem stay_twi {rs : List Rl} {c : Int} {s z : Sl} (h : Twi c s s) (ho : Okt c s) (hok : ∀ K r, findR rs K = some r → Okr r) (hc : U c) (hc2 : c ≤ 4611686018427387904) (hz : stayS rs c s = some z) : Twi c z s ∧ Okt c z := by
  obtain ⟨r, hr, he, hb, h0, rfl⟩ := stay_some hz
  have hR := hok _ _ hr
  have h3 := rule_is3 h0
  have hm := h.moved ho h3 hc hc2
  have ec : capR r = capR s.r := by rw [(capR_mul hR h0).1, (capR_mul ho.oks.r ho.rule).1, he, hb]
  have e1 : kmA s.k s.a s.b r.k c (capR r) = (mvS c r.k s).a := by rw [ec]; rfl
  have hT : Twi c (stK c s r) s := by
    refine ⟨rfl, he, hb, ec, ?_⟩
    obtain ⟨f, f1, f2⟩ := hm.say
    refine ⟨f, ?_, f2⟩
    show Say c r ⟨kmK s.k r.k, kmA s.k s.a s.b r.k c (capR r), kmB s.k r.k c⟩ f
    rw [e1]
    exact Say.cast (r := s.r) f1 ec.symm
  have hk := (mvS_oks (c := c) ho.oks hc ho.kind h3)
  have hO : Oks (stK c s r) := ⟨ho.oks.key, hR, hk.1.k, by show U (kmA s.k s.a s.b r.k c (capR r)); rw [e1]; exact hk.1.a, hk.1.b⟩
  refine ⟨hT, hO, ho.key, h0, ?_, ?_⟩
  · show Is3 (kmK s.k r.k)
    rw [kmK_is ho.kind h3]; exact h3
  · rw [hT.fl (Int.le_refl c) hc]; exact ho.pos
theorem stay_key {rs : List Rl} {c : Int} {s z : Sl} (hz : stayS rs c s = some z) : z.key = s.key := by
  obtain ⟨r, _, _, _, _, rfl⟩ := stay_some hz
  rfl
theorem ws_zero {c : Int} {z : Sl} (h : Okt c z) (hf : flS c z ≤ capS z) : wsE c z = 0 := by
  unfold wsE wkE
  have hp := h.pos
  rw [if_pos h.key, if_pos h.rule, if_pos h.kind.isK, if_neg (by omega)]
theorem twi_cap {c : Int} {z s : Sl} (h : Twi c z s) (hc : U c) : flS c z ≤ capS z := by
  obtain ⟨f, h1, _⟩ := h.say
  have := h1.fill hc
  show kfI z.k z.a z.b c (capR z.r) ≤ capR z.r
  rw [show kfI z.k z.a z.b c (capR z.r) = f from this]
  exact h1.f1
theorem fs_zero {c : Int} : ∀ {xs : List Sl}, (∀ s ∈ xs, wsE c s = 0) → fsE c xs = 0
  | [], _ => rfl
  | x :: r, h => by
    unfold fsE
    rw [if_pos (h x (List.mem_cons_self ..))]
    exact fs_zero (fun s hs => h s (List.mem_cons_of_mem _ hs))
theorem rise_so : ∀ {xs : List Sl}, Rise xs → soB (xs.map (fun s => s.key)) = true
  | [], _ => rfl
  | [a], _ => rfl
  | a :: b :: r, h => by
    have h' := List.pairwise_cons.1 h
    show (ls (lb a.key) (lb b.key) && soB ((b :: r).map (fun s => s.key))) = true
    rw [Bool.and_eq_true]
    exact ⟨h'.1 b (List.mem_cons_self ..), rise_so h'.2⟩
theorem perm_of_sub : ∀ {S xs : List Sl}, S.Nodup → (∀ x ∈ S, x ∈ xs) → xs.length ≤ S.length → xs.Perm S
  | [], xs, _, _, hl => by
    have : xs = [] := List.eq_nil_of_length_eq_zero (by simpa using hl)
    rw [this]
  | a :: S, xs, hn, hs, hl => by
    obtain ⟨l1, l2, rfl⟩ := List.append_of_mem (hs a (List.mem_cons_self ..))
    have hn' := List.nodup_cons.1 hn
    have ih := perm_of_sub (S := S) (xs := l1 ++ l2) hn'.2 (fun x hx => by
      have := hs x (List.mem_cons_of_mem _ hx)
      rcases List.mem_append.1 this with q | q
      · exact List.mem_append_left _ q
      · rcases List.mem_cons.1 q with rfl | q
        · exact absurd hx hn'.1
        · exact List.mem_append_right _ q) (by simp at hl ⊢; omega)
    exact List.perm_middle.trans (ih.cons a)
/-- Keys that are told rise. -/
theorem told_rise {S xs : List Sl} (h : Told S xs) (hw : S.Pairwise (fun x y => x.key ≠ y.key)) : Rise xs ∧ xs.Perm S := by
  have hnd : S.Nodup := hw.imp (fun {a b} e x => e (by rw [x]))
  have hp : xs.Perm S := perm_of_sub hnd (fun x hx => (h.mem x).2 hx) (by rw [h.len]; exact Nat.le_refl _)
  have hwx : xs.Pairwise (fun x y => x.key ≠ y.key) := (hp.symm.pairwise_iff (fun {_ _} e => Ne.symm e)).1 hw
  refine ⟨?_, hp⟩
  have h2 := List.pairwise_and_iff.2 ⟨h.inc, hwx⟩
  exact h2.imp (fun {a b} q => by
    rcases ltK_tot q.2 with z | z
    · exact z
    · rw [q.1] at z; cases z)
theorem told_one {S xs ys : List Sl} (h : Told S xs) (h' : Told S ys) (hw : S.Pairwise (fun x y => x.key ≠ y.key)) : xs = ys :=
  rise_one (told_rise h hw).1 (told_rise h' hw).1 ((told_rise h hw).2.trans (told_rise h' hw).2.symm)
theorem rise_stay {rs : List Rl} {c : Int} {xs : List Sl} (h : Rise xs) : Rise (xs.filterMap (stayS rs c)) := by
  induction h with
  | nil => exact List.Pairwise.nil
  | @cons a l h1 h2 ih =>
    rw [List.filterMap_cons]
    cases e : stayS rs c a with
    | none => exact ih
    | some z =>
      refine List.pairwise_cons.2 ⟨fun y hy => ?_, ih⟩
      obtain ⟨x, hx, e2⟩ := List.mem_filterMap.1 hy
      show ltK z.key y.key = true
      rw [stay_key e, stay_key e2]
      exact h1 x hx
end Go.Proofs.YtbejkcdaefkibaaGreat.Wd
namespace Go.Proofs.YtbejkcdaefkibaaGreat.Wd
open Go Go.RowKit Go.Deep Go.Shelf
set_option linter.unusedVariables false
set_option maxRecDepth 100000
attribute [local go_sem] Oper.semAt_some
/-- What Keep tells. -/
def KeepP (w w' : World) (e : Ending) (mo c : Int) (l1 : List Sl) (gone : Nat) : Prop :=
  (woE mo c l1 = 0 ∧ ∃ T B S, e = .returned (.tuple #[ptr T, .int .i64 (gone : Int), .int .u16 0]) ∧ Tbl w' T B mo c S ∧ S.Perm l1 ∧ ∀ k, B k → w.heap.size ≤ k) ∨ (woE mo c l1 ≠ 0 ∧ e = .returned (.tuple #[.pointer none, .int .i64 0, .int .u16 (woE mo c l1)]))
set_option maxHeartbeats 4000000 in
theorem keep_any (o : Option Addr) (QT B : Nat → Prop) (m c mo : Int) (S : List Sl) (A : Option Addr) (n cap : Nat) (rs : List Rl) (w : World) (h : Ent o w QT B m c S) (hS : ∀ s ∈ S, Oks s) (hS2 : ∀ s ∈ S, ∀ z, stayS rs c s = some z → Oks z) (hl : S.length ≤ 1000000000) (hc : U c) (hr : Rls w A n rs) (hn : n ≤ 9223372036854775806) (hok : ∀ K r, findR rs K = some r → Okr r) :
    Calls Tryz.prog 39 #[.pointer o, .agg #[.int .i64 mo, .slice A n cap]] w fun e w' => ∃ xs, Told S xs ∧ Below w.heap.size w w' ∧ KeepP w w' e mo c (xs.filterMap (stayS rs c)) (xs.filter (fun s => (stayS rs c s).isNone)).length := by
  have k0 := (Below.refl _ w).alloc (Nat.le_refl _) (.cells #[.int .i64 mo, .slice A n cap] 24)
  have b0 := Lib.hid (Blk.new w #[.int .i64 mo, .slice A n cap] 24)
  have H0 := Lib.hid (h.below k0)
  have K0 := Lib.hid k0
  have R0 := Lib.hid (hr.below k0)
  have HS := Lib.hid hS
  have HS2 := Lib.hid hS2
  have HO := Lib.hid hok
  clear h hr k0 hS hS2 hok
  go_enter Tryz.func39, Tryz.ntmps39
  go_upto_region 1 with fail
  generalize w.alloc (.cells #[.int .i64 mo, .slice A n cap] 24) = W at *
  have c0 : W.cell? ⟨w.heap.size, 0, none⟩ = some (.int .i64 mo) := b0.out.cell 0
  have c1 : W.cell? ⟨w.heap.size, 1, none⟩ = some (.slice A n cap) := b0.out.cell 1
  have CP := Lib.hid (parted_any o QT B m c mo S A n cap rs W H0.out HS.out hl hc R0.out hn HO.out)
  go_wp2_with (go_at_call 77; (refine (CP.out).mono ?_; rintro e w1 ⟨u1, u2, xs, rfl, TL, D, g⟩; refine stopHere ?_))
  unfold Stop
  have H1 := Lib.hid (H0.out.below g)
  have K1 := Lib.hid (kbq K0.out g)
  have TL1 := Lib.hid TL
  have hsz := Lib.hid (Nat.le_trans K0.out.size (Nat.le_refl _))
  obtain ⟨A1, cap1, rfl, hcap1, hR1, _⟩ := D.a.rds
  obtain ⟨A2, cap2, rfl, hcap2, _⟩ := D.b.rds
  have R1 := Lib.hid hR1
  have lx : xs.length ≤ 1000000000 := by rw [TL.len]; exact hl
  have l1 : (xs.filterMap (stayS rs c)).length ≤ 1000000000 := Nat.le_trans (List.length_filterMap_le _ _) lx
  have OK1 : Hid (∀ s ∈ xs.filterMap (stayS rs c), Oks s) := Lib.hid (fun s hs => by
    obtain ⟨x, hx, e⟩ := List.mem_filterMap.1 hs
    exact HS2.out x ((TL.mem x).1 hx) s e)
  have q0 : w1.cell? ⟨w.heap.size, 0, none⟩ = some (.int .i64 mo) := celln g c0
  have LT := Lib.hid (show (xs.filterMap (stayS rs c)).length = (xs.filterMap (stayS rs c)).length from rfl)
  clear CP c0 c1 b0 H0 K0 R0 g TL D hR1 hcap1 hcap2
  obtain ⟨L1, hL1⟩ : ∃ L, xs.filterMap (stayS rs c) = L := ⟨_, rfl⟩
  obtain ⟨G, hG⟩ : ∃ G, (xs.filter (fun s => (stayS rs c s).isNone)).length = G := ⟨_, rfl⟩
  rw [hL1] at R1 OK1 l1 ⊢
  rw [hG]
  obtain ⟨N1, hN1⟩ : ∃ N, L1.length = N := ⟨_, rfl⟩
  rw [hN1] at R1 ⊢ l1
  have HL := Lib.hid hL1
  have HG := Lib.hid hG
  clear hL1 hG hN1 lx LT
  have CC := Lib.hid (fun V (g : Below w1.heap.size w1 V) => clock_of o QT B m c S V (H1.out.below g))
  by_cases h0 : woE mo c L1 = 0
  · have CO := Lib.hid (fun V (g : Below w1.heap.size w1 V) => of_ok mo c A1 N1 cap1 L1 V (R1.out.below g) OK1.out hc l1 h0)
    have H00 := Lib.hid h0
    clear h0
    go_upto_region 2 with fail
    go_region_held3 (fun w' => w'.cell? ⟨w.heap.size, 0, none⟩ = some (.int .i64 mo))
      (first | with_reducible exact q0 | with_reducible exact dcell q0)
      (first
        | (go_at_call 29; (first
          | (with_reducible refine (CC.out _ (Below.refl _ _)).mono ?_; rintro r w2 ⟨rfl, g⟩; have K2 := Lib.hid g; replace q0 := celln g q0)
          | (with_reducible refine (CC.out _ (below_dr _)).mono ?_; rintro r w2 ⟨rfl, g⟩; have K2 := Lib.hid (kbq (below_dr _) g); replace q0 := celln g (dcell q0))); clear g)
        | (go_at_call 59; (first
          | (with_reducible refine (CO.out _ K2.out).mono ?_; rintro r w3 ⟨T, B', S', rfl, ht, hp, hb, g⟩; have K3 := Lib.hid (kbq K2.out g); replace q0 := celln g q0; have HB := Lib.hid (fun k q => Nat.le_trans K2.out.size (hb k q)))
          | (with_reducible refine (CO.out _ (kbq K2.out (below_dr _))).mono ?_; rintro r w3 ⟨T, B', S', rfl, ht, hp, hb, g⟩; have K3 := Lib.hid (kbq (kbq K2.out (below_dr _)) g); replace q0 := celln g (dcell q0); have HB := Lib.hid (fun k q => Nat.le_trans (kbq K2.out (below_dr _)).size (hb k q)))); have HT := Lib.hid ht; have HP := Lib.hid hp; clear ht hp hb g))
    all_goals
      go_wp2
      refine bodyPost_ret (v := .tuple #[ptr T, .int .i64 (G : Int), .int .u16 0]) ?_ rfl ⟨xs, TL1.out, kbq K1.out K3.out, .inl ⟨by rw [HL.out]; exact H00.out, T, B', S', by rw [HG.out], HT.out, by rw [HL.out]; exact HP.out, fun k q => Nat.le_trans K1.out.size (HB.out k q)⟩⟩
      simp [results, Tryz.results39, go_sem]
  · have CO := Lib.hid (fun V (g : Below w1.heap.size w1 V) => of_bad mo c A1 N1 cap1 L1 V (R1.out.below g) OK1.out hc l1 h0)
    have H00 := Lib.hid h0
    have h1 : (woE mo c L1 != 0) = true := by simpa using h0
    clear h0
    obtain ⟨E, hE⟩ : ∃ E, woE mo c L1 = E := ⟨_, rfl⟩
    rw [hE] at CO h1 H00
    have HE := Lib.hid hE
    clear hE
    go_upto_region 2 with fail
    go_region_held3 (fun w' => w'.cell? ⟨w.heap.size, 0, none⟩ = some (.int .i64 mo))
      (first | with_reducible exact q0 | with_reducible exact dcell q0)
      (first
        | (go_at_call 29; (first
          | (with_reducible refine (CC.out _ (Below.refl _ _)).mono ?_; rintro r w2 ⟨rfl, g⟩; have K2 := Lib.hid g; replace q0 := celln g q0)
          | (with_reducible refine (CC.out _ (below_dr _)).mono ?_; rintro r w2 ⟨rfl, g⟩; have K2 := Lib.hid (kbq (below_dr _) g); replace q0 := celln g (dcell q0))); clear g)
        | (go_at_call 59; (first
          | (with_reducible refine (CO.out _ K2.out).mono ?_; rintro r w3 ⟨rfl, g⟩; have K3 := Lib.hid (kbq K2.out g); replace q0 := celln g q0)
          | (with_reducible refine (CO.out _ (kbq K2.out (below_dr _))).mono ?_; rintro r w3 ⟨rfl, g⟩; have K3 := Lib.hid (kbq (kbq K2.out (below_dr _)) g); replace q0 := celln g (dcell q0))); clear g))
    all_goals
      go_wp2
      refine bodyPost_ret (v := .tuple #[.pointer none, .int .i64 0, .int .u16 E]) ?_ rfl ⟨xs, TL1.out, kbq K1.out K3.out, .inr ⟨by rw [HL.out, HE.out]; exact H00.out, by rw [HL.out, HE.out]⟩⟩
      simp [results, Tryz.results39, go_sem]
end Go.Proofs.YtbejkcdaefkibaaGreat.Wd
namespace Go.Proofs.YtbejkcdaefkibaaGreat.Wd
open Go Go.RowKit Go.Deep Go.Shelf
set_option linter.unusedVariables false
set_option maxRecDepth 100000
attribute [local go_sem] Oper.semAt_some
set_option maxHeartbeats 4000000 in
theorem lost_any (o : Option Addr) (QT B : Nat → Prop) (m c mo : Int) (S : List Sl) (A : Option Addr) (n cap : Nat) (rs : List Rl) (w : World) (h : Ent o w QT B m c S) (hS : ∀ s ∈ S, Oks s) (hl : S.length ≤ 1000000000) (hc : U c) (hr : Rls w A n rs) (hn : n ≤ 9223372036854775806) (hok : ∀ K r, findR rs K = some r → Okr r) :
    Calls Tryz.prog 40 #[.pointer o, .agg #[.int .i64 mo, .slice A n cap]] w fun e w' => ∃ xs u, Told S xs ∧ Below w.heap.size w w' ∧ e = .returned u ∧ ORow w' w.heap.size u ((xs.filter (fun s => (stayS rs c s).isNone)).map (fun s => s.key)) := by
  have k0 := (Below.refl _ w).alloc (Nat.le_refl _) (.cells #[.int .i64 mo, .slice A n cap] 24)
  have b0 := Lib.hid (Blk.new w #[.int .i64 mo, .slice A n cap] 24)
  have H0 := Lib.hid (h.below k0)
  have K0 := Lib.hid k0
  have R0 := Lib.hid (hr.below k0)
  have HS := Lib.hid hS
  have HO := Lib.hid hok
  clear h hr k0 hS hok
  go_enter Tryz.func40, Tryz.ntmps40
  go_upto_region 1 with fail
  generalize w.alloc (.cells #[.int .i64 mo, .slice A n cap] 24) = W at *
  have c0 : W.cell? ⟨w.heap.size, 0, none⟩ = some (.int .i64 mo) := b0.out.cell 0
  have c1 : W.cell? ⟨w.heap.size, 1, none⟩ = some (.slice A n cap) := b0.out.cell 1
  have CP := Lib.hid (parted_any o QT B m c mo S A n cap rs W H0.out HS.out hl hc R0.out hn HO.out)
  go_wp2_with (go_at_call 77; (refine (CP.out).mono ?_; rintro e w1 ⟨u1, u2, xs, rfl, TL, D, g⟩; refine stopHere ?_))
  unfold Stop
  have K1 := Lib.hid (kbq K0.out g)
  have TL1 := Lib.hid TL
  obtain ⟨A2, cap2, rfl, hcap2, hR2, _⟩ := D.b.rds
  have R2 := Lib.hid hR2
  have lx : xs.length ≤ 1000000000 := by rw [TL.len]; exact hl
  have l2 : (xs.filter (fun s => (stayS rs c s).isNone)).length ≤ 1000000000 := Nat.le_trans (List.length_filter_le _ _) lx
  clear CP c0 c1 b0 H0 K0 R0 g TL D hR2 hcap2
  obtain ⟨L2, hL2⟩ : ∃ L, xs.filter (fun s => (stayS rs c s).isNone) = L := ⟨_, rfl⟩
  rw [hL2] at R2 l2 ⊢
  obtain ⟨N2, hN2⟩ : ∃ N, L2.length = N := ⟨_, rfl⟩
  rw [hN2] at R2 ⊢ l2
  have HL := Lib.hid hL2
  have HN := Lib.hid hN2
  have hwz := Lib.hid K1.out.size
  clear hL2 hN2 lx
  go_wp2
  go_loopw [7, 18] (fun u i wr => ∃ j : Nat, i = .int .i64 (j : Int) ∧ j ≤ N2 ∧ Hid (ORow wr w1.heap.size u ((L2.take j).map (fun s => s.key))) ∧ Hid (Below w1.heap.size w1 wr)) (fun _ i _ => N2 - (intOf i).toNat)
  case atStart => exact ⟨0, rfl, Nat.zero_le _, Lib.hid (ORow.nil _ _), Lib.hid (Below.refl _ _)⟩
  case round =>
    obtain ⟨j, rfl, hj, HO, hB⟩ := hrel
    have lk : ((L2.take j).map (fun s => s.key)).length ≤ 1000000000 := by rw [List.length_map, List.length_take, HN.out]; omega
    obtain ⟨ks, hks⟩ : ∃ ks, (L2.take j).map (fun s => s.key) = ks := ⟨_, rfl⟩
    rw [hks] at HO lk
    have HK := Lib.hid hks
    clear hks
    by_cases hlt : j < N2
    · obtain ⟨b, off, rfl, hb, hcc⟩ := (R2.out.below hB.out).2 (by omega)
      obtain ⟨x0, x1, x2, x3, x4, x5, x6, x7⟩ := (hcc j hlt).eight
      have hlt' : j < L2.length := by rw [HN.out]; exact hlt
      have ht : Hid (L2.take (j + 1) = L2.take j ++ [atS L2 j]) := Lib.hid (by
        rw [List.take_succ_eq_append_getElem hlt']; simp [atS, List.getD, hlt'])
      clear hcc hlt'
      generalize atS L2 j = y at *
      have hw2 := hB.out.size
      have hw3 := hwz.out
      go_wp2_with (at_builtin; refine wpList_app_tx _ rfl _ _ rfl w1.heap.size _ ks rfl ?o _ 0 1 y.key rfl ?c1 ?c2 ?c3 ?_)
      case o => exact own_below (show ORow wr _ _ _ from HO.out) (((Below.refl _ _).alloc (Nat.le_refl _) (.cells y.cs Tas)).alloc (by simp) _)
      case c1 =>
        have e := (Blk.new (wr.alloc (.cells y.cs Tas)) #[.string y.key] 9).cell 0
        rwa [show (wr.alloc (.cells y.cs Tas)).heap.size = wr.heap.size + 1 by simp] at e
      case c2 => omega
      case c3 => simp; omega
      intro g cap w3 own bel
      have OD := Lib.hid own
      have B2 := Lib.hid (((hB.out.alloc hB.out.size (.cells y.cs Tas)).alloc (by simp; omega) (.cells #[.string y.key] 9)).trans bel)
      clear own bel HO
      go_wp2
      go_roundw
      case rel => exact ⟨j + 1, by go_num, by omega, Lib.hid (by rw [ht.out, List.map_append, HK.out]; exact OD.out), B2⟩
      case measure => simp [intOf]; omega
    · have HE : Hid (L2.map (fun s => s.key) = ks) := Lib.hid (by rw [← HK.out, List.take_of_length_le (by rw [HN.out]; omega)])
      go_wp2
      go_ret
      exact ⟨xs, _, TL1.out, kbq K1.out hB.out, rfl, by rw [HL.out, HE.out]; exact own_base hwz.out HO.out⟩
end Go.Proofs.YtbejkcdaefkibaaGreat.Wd
namespace Go.Proofs.YtbejkcdaefkibaaGreat.Wd
open Go Go.RowKit Go.Deep Go.Shelf
set_option linter.unusedVariables false
set_option maxRecDepth 100000
attribute [local go_sem] Oper.semAt_some
theorem find_okr {rs : List Rl} (h : ∀ r ∈ rs, Okr r) (K : ByteArray) (r : Rl) (e : findR rs K = some r) : Okr r := by
  unfold findR at e
  cases z : bestT rs K rs.length with
  | none => rw [z] at e; cases e
  | some i =>
    rw [z] at e
    injection e with e
    rw [← e]
    exact fn_ok h i
/-- A row of one rule, as a literal. -/
theorem rls_one (w : World) (r : Rl) (h : Okr r) : Rls (w.alloc (.cells #[.string r.p, .int .u64 r.e, .int .u64 r.b, .int .u8 r.k] 79)) (some ⟨w.heap.size, 0, none⟩) 1 [r] := by
  refine ⟨rfl, fun x hx => ?_, fun _ => ⟨w.heap.size, 0, rfl, by simp, fun k hk => ?_⟩⟩
  · obtain rfl := List.mem_singleton.1 hx
    exact h
  · have h := Blk.new w #[.string r.p, .int .u64 r.e, .int .u64 r.b, .int .u8 r.k] 79
    match k, hk with
    | 0, _ => exact ⟨h.cell 0, h.cell 1, h.cell 2, h.cell 3⟩
abbrev rK3 : Rl := ⟨⟨#[]⟩, 10, 2, 3⟩
abbrev rK4 : Rl := ⟨⟨#[]⟩, 10, 3, 3⟩
abbrev sK : Sl := ⟨tA, rK, 1, 10, 0⟩
abbrev sK3 : Sl := ⟨tA, rK3, 3, 10, 0⟩
theorem kp2 : chN 1 0 [] tA rK 1 = [sK] := by kernel_rfl
theorem kp3 : stayS [rK3] 0 sK = some sK3 := by kernel_rfl
theorem kp4 : stayS [rK4] 0 sK = none := by kernel_rfl
theorem kp5 : stayS [] 0 sK = none := by kernel_rfl
theorem kp6 : woE 1 0 [sK3] = 0 := by kernel_rfl
theorem kp7 : woE 1 0 [] = 0 := by kernel_rfl
theorem okr_K3 : Okr rK3 := ⟨by decide, by unfold U; decide, by unfold U; decide, by decide⟩
theorem okr_K4 : Okr rK4 := ⟨by decide, by unfold U; decide, by unfold U; decide, by decide⟩
theorem oks_K : Oks sK := ⟨by decide, okr_K, by decide, by unfold U; decide, by unfold U; decide⟩
theorem oks_K3 : Oks sK3 := ⟨by decide, okr_K3, by decide, by unfold U; decide, by unfold U; decide⟩
theorem told_single {s : Sl} {xs : List Sl} (h : Told [s] xs) : xs = [s] := by
  have hl := h.len
  match xs, hl with
  | [x], _ =>
    have := (h.mem x).1 (List.mem_singleton.2 rfl)
    rw [List.mem_singleton.1 this]
/-- What the example's Keep tells. -/
theorem keep_ex (T : Nat) (B : Nat → Prop) (r : Rl) (z : Option Sl) (w : World) (h : Tbl w T B 1 0 [sK]) (hr : Okr r) (A : Option Addr) (cap : Nat) (hR : Rls w A 1 [r]) (hz : stayS [r] 0 sK = z) (hO : ∀ y, z = some y → Oks y) (hw : woE 1 0 z.toList = 0) :
    Calls Tryz.prog 39 #[ptr T, .agg #[.int .i64 1, .slice A 1 cap]] w fun e w' => ∃ T2 B2 S2, e = .returned (.tuple #[ptr T2, .int .i64 ((1 - z.toList.length : Nat) : Int), .int .u16 0]) ∧ Tbl w' T2 B2 1 0 S2 ∧ S2.length = z.toList.length ∧ Below w.heap.size w w' := by
  refine (keep_any (some ⟨T, 0, none⟩) _ B 1 0 1 [sK] A 1 cap [r] w (Ent.yes h) (fun s hs => by rw [List.mem_singleton.1 hs]; exact oks_K) (fun s hs y e => by rw [List.mem_singleton.1 hs, hz] at e; exact hO y e) (by simp) (by unfold U; decide) hR (by decide) (fun K x e => find_okr hR.2.1 K x e)).mono ?_
  rintro e w' ⟨xs, TL, g, hk⟩
  rw [told_single TL] at hk
  have e1 : [sK].filterMap (stayS [r] 0) = z.toList := by rw [List.filterMap_cons, hz]; cases z <;> rfl
  have e2 : ([sK].filter (fun s => (stayS [r] 0 s).isNone)).length = 1 - z.toList.length := by
    rw [List.filter_cons, hz]; cases z <;> rfl
  rw [e1, e2] at hk
  rcases hk with ⟨_, T2, B2, S2, he, ht, hp, _⟩ | ⟨h0, _⟩
  · exact ⟨T2, B2, S2, he, ht, hp.length_eq, g⟩
  · exact absurd hw h0
theorem lost_ex (T : Nat) (B : Nat → Prop) (w : World) (h : Tbl w T B 1 0 [sK]) :
    Calls Tryz.prog 40 #[ptr T, .agg #[.int .i64 0, .slice none 0 0]] w fun e w' => ∃ A cap, e = .returned (.slice A 1 cap) ∧ Below w.heap.size w w' := by
  refine (lost_any (some ⟨T, 0, none⟩) _ B 1 0 0 [sK] none 0 0 [] w (Ent.yes h) (fun s hs => by rw [List.mem_singleton.1 hs]; exact oks_K) (by simp) (by unfold U; decide) (Rls.nil _ _) (by decide) (fun K x e => find_okr (fun r hr => (List.not_mem_nil hr).elim) K x e)).mono ?_
  rintro e w' ⟨xs, u, TL, g, he, ho⟩
  rw [told_single TL] at ho
  have e1 : ([sK].filter (fun s => (stayS [] 0 s).isNone)).map (fun s => s.key) = [tA] := by
    rw [List.filter_cons, kp5]; rfl
  rw [e1] at ho
  obtain ⟨A, c, hu, _⟩ := ho.sts (fun x hx => by rw [List.mem_singleton.1 hx]; decide)
  exact ⟨A, c, by rw [he, hu]; rfl, g⟩
theorem active_n {T : Nat} {B : Nat → Prop} {m c : Int} {S : List Sl} {w : World} {n : Nat} (h : Tbl w T B m c S) (hl : S.length = n) :
    Calls Tryz.prog 41 #[ptr T] w fun e w' => e = .returned (.int .i64 (n : Int)) ∧ w' = w := by
  rw [← hl]
  exact active_any T B m c S w h
set_option maxHeartbeats 4000000 in
theorem kknown_any (w : World) : Calls Tryz.prog 35 #[] w fun e w' => e = .returned (.bool true) ∧ Below w.heap.size w w' := by
  go_enter Tryz.func35, Tryz.ntmps35
  go_wp2_with (go_at_call 23; refine (new_any 1 _).mono ?_; rintro e W1 ⟨rfl, kb, ht, hs⟩; refine stopHere ?_)
  unfold Stop
  have H1 := Lib.hid (show Tbl W1 (w.heap.size + 1) (fun k => w.heap.size ≤ k ∧ k < W1.heap.size) 1 0 [] from ht)
  have K1 := Lib.hid kb
  have C1 := charge_tab _ _ 1 0 [] tA rK 1 W1 H1.out (by decide) okr_K (by unfold U; decide)
  rw [kp2] at C1
  have C1 := Lib.hid C1
  obtain ⟨T, hT⟩ : ∃ T, w.heap.size + 1 = T := ⟨_, rfl⟩
  rw [hT] at C1 H1 ⊢
  clear kb ht hs hT
  go_wp2_with (go_at_call 44; refine C1.out.mono ?_; rintro e W2 ⟨rfl, g, h2⟩; refine stopHere ?_)
  unfold Stop
  have K2 := Lib.hid (K1.out.trans (g.low (fun k h => h.1) K1.out.size))
  have H2 := Lib.hid h2
  clear C1 H1 K1 g h2
  have H3 := Lib.hid (H2.out.below ((Below.refl _ W2).alloc (Nat.le_refl _) (.cells #[.string ⟨#[]⟩, .int .u64 10, .int .u64 2, .int .u8 3] 79)))
  have K3 := Lib.hid (K2.out.alloc K2.out.size (.cells #[.string ⟨#[]⟩, .int .u64 10, .int .u64 2, .int .u8 3] 79))
  have R3 := rls_one W2 rK3 okr_K3
  have CE : Calls Tryz.prog 39 #[ptr T, .agg #[.int .i64 1, .slice (some ⟨W2.heap.size, 0, none⟩) 1 1]] (W2.alloc (.cells #[.string ⟨#[]⟩, .int .u64 10, .int .u64 2, .int .u8 3] 79)) fun e w' => ∃ T2 B2 S2, e = .returned (.tuple #[ptr T2, .int .i64 0, .int .u16 0]) ∧ Tbl w' T2 B2 1 0 S2 ∧ S2.length = 1 ∧ Below (W2.alloc (.cells #[.string ⟨#[]⟩, .int .u64 10, .int .u64 2, .int .u8 3] 79)).heap.size (W2.alloc (.cells #[.string ⟨#[]⟩, .int .u64 10, .int .u64 2, .int .u8 3] 79)) w' := keep_ex T _ rK3 (some sK3) _ H3.out okr_K3 _ 1 R3 kp3 (fun y e => by cases e; exact oks_K3) kp6
  have CE := Lib.hid CE
  clear R3
  go_wp2_with (go_at_call 39; refine CE.out.mono ?_; rintro e W4 ⟨T2, B2, S2, rfl, h4, l4, g⟩; refine stopHere ?_)
  unfold Stop
  have H4 := Lib.hid (H3.out.below g)
  have K4 := Lib.hid (kbq K3.out g)
  have U4 := Lib.hid h4
  have L4 := Lib.hid l4
  clear CE H2 K2 H3 K3 h4 l4 g
  have H5 := Lib.hid (H4.out.below ((Below.refl _ W4).alloc (Nat.le_refl _) (.cells #[.string ⟨#[]⟩, .int .u64 10, .int .u64 3, .int .u8 3] 79)))
  have U5 := Lib.hid (U4.out.below ((Below.refl _ W4).alloc (Nat.le_refl _) (.cells #[.string ⟨#[]⟩, .int .u64 10, .int .u64 3, .int .u8 3] 79)))
  have K5 := Lib.hid (K4.out.alloc K4.out.size (.cells #[.string ⟨#[]⟩, .int .u64 10, .int .u64 3, .int .u8 3] 79))
  have R5 := rls_one W4 rK4 okr_K4
  have CE : Calls Tryz.prog 39 #[ptr T, .agg #[.int .i64 1, .slice (some ⟨W4.heap.size, 0, none⟩) 1 1]] (W4.alloc (.cells #[.string ⟨#[]⟩, .int .u64 10, .int .u64 3, .int .u8 3] 79)) fun e w' => ∃ T2 B2 S2, e = .returned (.tuple #[ptr T2, .int .i64 1, .int .u16 0]) ∧ Tbl w' T2 B2 1 0 S2 ∧ S2.length = 0 ∧ Below (W4.alloc (.cells #[.string ⟨#[]⟩, .int .u64 10, .int .u64 3, .int .u8 3] 79)).heap.size (W4.alloc (.cells #[.string ⟨#[]⟩, .int .u64 10, .int .u64 3, .int .u8 3] 79)) w' := keep_ex T _ rK4 none _ H5.out okr_K4 _ 1 R5 kp4 (fun y e => by cases e) kp7
  have CE := Lib.hid CE
  clear R5
  go_wp2_with (go_at_call 39; refine CE.out.mono ?_; rintro e W6 ⟨T3, B3, S3, rfl, h6, l6, g⟩; refine stopHere ?_)
  unfold Stop
  have H6 := Lib.hid (H5.out.below g)
  have K6 := Lib.hid (kbq K5.out g)
  have C2 := Lib.hid (active_n (U5.out.below g) L4.out)
  have C3 := Lib.hid (active_n h6 l6)
  have CL := Lib.hid (lost_ex T _ W6 H6.out)
  clear CE H4 K4 H5 K5 U4 U5 L4 h6 l6 g
  go_wp2_with (first
    | (go_at_call 41; with_reducible refine C2.out.mono ?_; rintro e w' ⟨rfl, rfl⟩)
    | (go_at_call 41; with_reducible refine C3.out.mono ?_; rintro e w' ⟨rfl, rfl⟩)
    | (go_at_call 40; refine CL.out.mono ?_; rintro e w' ⟨A, cap, rfl, g⟩))
  go_ret
  exact ⟨rfl, kbq K6.out g⟩
end Go.Proofs.YtbejkcdaefkibaaGreat.Wd
namespace Go.Proofs.YtbejkcdaefkibaaGreat.Wd
open Go Go.RowKit Go.ChangeShapes Go.WideShapes
set_option linter.unusedVariables false
set_option maxRecDepth 100000
theorem cellsRule : Tryz.prog.cellsOf 79 = 4 := by kernel_rfl
/-- The prefix of a rule that came in is no longer than a machine can hold. -/
theorem sized_prefix {H : Type} {ts : List TypeId} {ds : List (DataW H)} {j : Nat} {bs : List UInt8} {y1 y2 y3 : DataW H} (h : (DataW.weightsEach Tryz.prog ts ds).all (· ≤ reachBytes) = true) (ht : ts[j]? = some 79)
    (hd : ds[j]? = some (.agg [.lit (.string bs), y1, y2, y3])) : bs.length ≤ reachBytes := by
  have := List.all_eq_true.1 h _ (DataW.weights_mem_each ht hd bs.length (by simp [DataW.weights, Tryz.underlying79, DataW.weightsEach]))
  simpa using this
end Go.Proofs.YtbejkcdaefkibaaGreat.Wd
