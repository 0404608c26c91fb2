/- Elder words: which of two keys is less (key.Less); no conditions but those that each names. -/
import Derived.Test.YtkfncanfgpmgaaaGreatTabA
import Derived.Test.YtkfncanfgpmgaaaGreatTabB
import Derived.Test.YtkfncanfgpmgaaaGreatTabC
import Derived.WalkKit
import Derived.Laws.Bits64b
import Derived.Below
import Derived.Deep.Draws
import Derived.Test.YtkfncanfgpmgaaaGreatRows
import Derived.RangeFuncNested
import Derived.RangeFuncBound
import Derived.RangeFuncCalls
import Derived.RangeFuncLeaves
import Derived.Shelf.Abstract
import Derived.Shelf.RegionOpen
import Derived.OwnWalkIn
import Derived.TacticsInMore
import Derived.LoopNIn
import Derived.LoopIn
import Derived.Lib.Hide
namespace Go.Proofs.YtkfncanfgpmgaaaGreat.Wd
open Go Go.RowKit Go.Shelf Go.Deep
set_option linter.unusedVariables false
set_option maxRecDepth 100000
attribute [local go_sem] Oper.semAt_some
/-- How many bytes two begin with alike. -/
def cm : List UInt8 → List UInt8 → Nat
  | a :: x, b :: y => if a = b then cm x y + 1 else 0
  | _, _ => 0
/-- Which is less. -/
abbrev ls (x y : List UInt8) : Bool := Op.bytesLess x y
theorem cm_nil_left (y : List UInt8) : cm [] y = 0 := by cases y <;> rfl
theorem cm_nil_right (x : List UInt8) : cm x [] = 0 := by cases x <;> rfl
theorem cm_cons (a b : UInt8) (x y : List UInt8) : cm (a :: x) (b :: y) = if a = b then cm x y + 1 else 0 := by rw [cm]
theorem ls_cons (a b : UInt8) (x y : List UInt8) : ls (a :: x) (b :: y) = (decide (a < b) || (a == b && ls x y)) := by
  show Op.bytesLess (a :: x) (b :: y) = _
  rw [Op.bytesLess]
theorem ls_nil_right (x : List UInt8) : ls x [] = false := by show Op.bytesLess x [] = false; cases x <;> rfl
theorem ls_nil_left (b : UInt8) (y : List UInt8) : ls [] (b :: y) = true := rfl
/-- What is alike so far, and no further, is what is common. -/
theorem cm_is : ∀ (n : Nat) (x y : List UInt8), n ≤ x.length → n ≤ y.length → x.take n = y.take n → (∀ (h : n < x.length) (h' : n < y.length), x[n] ≠ y[n]) → cm x y = n
  | 0, [], y, _, _, _, _ => cm_nil_left y
  | 0, a :: x, [], _, _, _, _ => cm_nil_right _
  | 0, a :: x, b :: y, _, _, _, h => by rw [cm_cons, if_neg]; exact h (by simp) (by simp)
  | n + 1, [], y, h, _, _, _ => by simp at h
  | n + 1, a :: x, [], _, h, _, _ => by simp at h
  | n + 1, a :: x, b :: y, h1, h2, h3, h4 => by
    simp only [List.take_succ_cons, List.cons.injEq] at h3
    rw [cm_cons, if_pos h3.1, cm_is n x y (by simpa using h1) (by simpa using h2) h3.2 (fun g g' => by
      have := h4 (by simpa using g) (by simpa using g')
      simpa using this)]
theorem u8_lt (a b : UInt8) : decide (a < b) = decide (a.toNat < b.toNat) := by
  rw [Bool.eq_iff_iff]; simp only [decide_eq_true_eq]; rw [UInt8.lt_iff_toNat_lt]
theorem u8_ne {a b : UInt8} (h : a ≠ b) : ((a.toNat : Int) == (b.toNat : Int)) = false := by
  rw [beq_eq_false_iff_ne]; intro e; exact h (UInt8.toNat_inj.1 (by omega))
theorem ls_cm : ∀ x y, ls x y = if h : cm x y < x.length ∧ cm x y < y.length then decide (x[cm x y] < y[cm x y]) else decide (x.length < y.length)
  | [], [] => by rw [dif_neg (by simp)]; rfl
  | [], b :: y => by rw [dif_neg (by simp)]; rw [ls_nil_left]; simp
  | a :: x, [] => by rw [dif_neg (by simp)]; rw [ls_nil_right]; simp
  | a :: x, b :: y => by
    rw [ls_cons]
    by_cases e : a = b
    · subst e
      rw [ls_cm x y]
      have hc : cm (a :: x) (a :: y) = cm x y + 1 := by rw [cm_cons, if_pos rfl]
      simp only [hc, List.length_cons, Nat.add_lt_add_iff_right, List.getElem_cons_succ, BEq.rfl, Bool.true_and]
      simp
    · have hc : cm (a :: x) (b :: y) = 0 := by rw [cm_cons, if_neg e]
      rw [dif_pos (by rw [hc]; simp)]
      simp only [hc, List.getElem_cons_zero]
      rw [beq_eq_false_iff_ne.2 e]
      simp
theorem ls_irrefl : ∀ x, ls x x = false
  | [] => rfl
  | a :: x => by rw [ls_cons, ls_irrefl x]; simp
theorem ls_trans : ∀ x y z, ls x y = true → ls y z = true → ls x z = true
  | x, [], z, h, _ => by rw [ls_nil_right] at h; cases h
  | x, b :: y, [], _, h => by rw [ls_nil_right] at h; cases h
  | [], b :: y, c :: z, _, _ => ls_nil_left _ _
  | a :: x, b :: y, c :: z, h, g => by
    rw [ls_cons] at h g ⊢
    simp only [Bool.or_eq_true, Bool.and_eq_true, decide_eq_true_eq, beq_iff_eq] at h g ⊢
    rw [UInt8.lt_iff_toNat_lt] at h g ⊢
    rcases h with h | ⟨rfl, h⟩
    · rcases g with g | ⟨rfl, g⟩
      · exact .inl (by omega)
      · exact .inl h
    · rcases g with g | ⟨rfl, g⟩
      · exact .inl g
      · exact .inr ⟨rfl, ls_trans x y z h g⟩
theorem ls_asymm (x y : List UInt8) (h : ls x y = true) : ls y x = false := by
  rw [← Bool.not_eq_true]
  intro g
  have := ls_trans x y x h g
  rw [ls_irrefl] at this; cases this
theorem ls_total : ∀ x y, (ls x y || ls y x) = !(x == y)
  | [], [] => rfl
  | [], b :: y => rfl
  | a :: x, [] => rfl
  | a :: x, b :: y => by
    rw [ls_cons, ls_cons]
    have ih := ls_total x y
    by_cases e : a = b
    · subst e
      simp only [BEq.rfl, Bool.true_and, UInt8.lt_irrefl, decide_false, Bool.false_or, ih, List.cons_beq_cons]
    · have h1 : (a == b) = false := beq_eq_false_iff_ne.2 e
      have h2 : (b == a) = false := beq_eq_false_iff_ne.2 (fun h => e h.symm)
      have h3 : a.toNat ≠ b.toNat := fun h => e (UInt8.toNat_inj.1 h)
      rw [List.cons_beq_cons, h1, h2]
      simp only [Bool.false_and, Bool.or_false, Bool.not_false, Bool.or_eq_true, decide_eq_true_eq]
      rw [UInt8.lt_iff_toNat_lt, UInt8.lt_iff_toNat_lt]; omega
theorem zip_all_take : ∀ (x y : List UInt8) (n : Nat), n ≤ x.length → n ≤ y.length → (∀ p ∈ (x.zip y).take n, p.1 = p.2) → x.take n = y.take n
  | _, _, 0, _, _, _ => by simp
  | [], y, n + 1, h, _, _ => by simp at h
  | a :: x, [], n + 1, _, h, _ => by simp at h
  | a :: x, b :: y, n + 1, h1, h2, h => by
    simp only [List.zip_cons_cons, List.take_succ_cons, List.mem_cons, forall_eq_or_imp] at h
    rw [List.take_succ_cons, List.take_succ_cons, h.1, zip_all_take x y n (by simpa using h1) (by simpa using h2) h.2]
/-- All of the pairs are alike. -/
theorem cm_all {x y : List UInt8} (h : ∀ p ∈ x.zip y, p.1 = p.2) : cm x y = (x.zip y).length := by
  have hl : (x.zip y).length = min x.length y.length := by simp
  refine cm_is _ _ _ (by omega) (by omega) (zip_all_take x y _ (by omega) (by omega) (fun p hp => h p (List.mem_of_mem_take hp))) (fun h1 h2 => by omega)
/-- One pair is not. -/
theorem cm_parts {x y : List UInt8} {pre : List (UInt8 × UInt8)} {p : UInt8 × UInt8} (hp : pre ++ [p] <+: x.zip y) (h : ∀ q ∈ pre, q.1 = q.2) (hne : p.1 ≠ p.2) :
    cm x y = pre.length ∧ ∃ (h1 : cm x y < x.length) (h2 : cm x y < y.length), x[cm x y] = p.1 ∧ y[cm x y] = p.2 := by
  obtain ⟨t, ht⟩ := hp
  have hl : (x.zip y).length = min x.length y.length := by simp
  have hk : pre.length < (x.zip y).length := by rw [← ht]; simp
  have h1 : pre.length < x.length := by omega
  have h2 : pre.length < y.length := by omega
  have hg : (x.zip y)[pre.length] = p := by
    have : (x.zip y)[pre.length]? = some p := by rw [← ht]; simp
    rw [List.getElem?_eq_getElem hk] at this
    exact Option.some.inj this
  rw [List.getElem_zip] at hg
  have hx : x[pre.length] = p.1 := by rw [← hg]
  have hy : y[pre.length] = p.2 := by rw [← hg]
  have e : cm x y = pre.length := cm_is _ _ _ (by omega) (by omega) (zip_all_take x y _ (by omega) (by omega) (fun q hq => by
    rw [← ht] at hq
    simp at hq
    exact h q hq)) (fun _ _ => by rw [hx, hy]; exact hne)
  refine ⟨e, by omega, by omega, ?_, ?_⟩
  · simp only [e]; exact hx
  · simp only [e]; exact hy
theorem ls_all {x y : List UInt8} (h : ∀ p ∈ x.zip y, p.1 = p.2) : ls x y = decide (x.length < y.length) := by
  have hl : (x.zip y).length = min x.length y.length := by simp
  rw [ls_cm, dif_neg (by rw [cm_all h]; omega)]
theorem ls_parts {x y : List UInt8} {pre : List (UInt8 × UInt8)} {p : UInt8 × UInt8} (hp : pre ++ [p] <+: x.zip y) (h : ∀ q ∈ pre, q.1 = q.2) (hne : p.1 ≠ p.2) : ls x y = decide (p.1 < p.2) := by
  obtain ⟨_, h1, h2, hx, hy⟩ := cm_parts hp h hne
  rw [ls_cm, dif_pos ⟨h1, h2⟩, hx, hy]
/-- Two blocks, one behind the other, lie as they lay. -/
def Two (p : Nat) (A C : World) : Prop := C.heap[p]? = A.heap[p]? ∧ C.heap[p + 1]? = A.heap[p + 1]?
theorem Two.refl (p : Nat) (A : World) : Two p A A := ⟨rfl, rfl⟩
theorem two_t {p : Nat} {A B C : World} (h : Two p A B) (k : Two p B C) : Two p A C := ⟨k.1.trans h.1, k.2.trans h.2⟩
theorem two_b {p : Nat} {w : World} (hp : p + 1 < w.heap.size) (W : World) (l : Nat) (o o' : Obj) (hl : w.heap.size ≤ l) (h : W.heap[l]? = some o) (_ : o.isCells = false) (_ : o.isWalk = false) : Two p W (W.putObj l o') :=
  ⟨World.putObj_heap_other (by omega), World.putObj_heap_other (by omega)⟩
theorem Two.box {p : Nat} {A C : World} (h : Two p A C) {t : TypeId} {v : Value} (c : Boxed A p t v) : Boxed C p t v := h.1.trans c
theorem Two.box' {p : Nat} {A C : World} (h : Two p A C) {t : TypeId} {v : Value} (c : Boxed A (p + 1) t v) : Boxed C (p + 1) t v := h.2.trans c
/-- A pair of bytes, as values. -/
abbrev prs (x : UInt8 × UInt8) : Array Value := #[.int .u8 (x.1.toNat : Int), .int .u8 (x.2.toNat : Int)]
theorem pairs_in (F : Fence) (n : Nat) (h : F.fn 131) (hro : F.round = none) (a b : ByteArray) (w : World) :
    CallsIn F n Tryz.prog 131 #[.string a, .string b] w fun e w' => e = .returned (.func (.func 174) #[] #[.pointer (some ⟨w.heap.size, 0, none⟩), .pointer (some ⟨w.heap.size + 1, 0, none⟩)]) ∧ w' = (w.alloc (.cells #[.string a] 9)).alloc (.cells #[.string b] 9) := by
  refine callsIn_of_wp Tryz.func131 rfl h ?_ hro
  simp only [Tryz.ntmps131, List.size_toArray, List.length_cons, List.length_nil, Nat.reduceAdd, Nat.reduceSub, Array.replicate_succ, Array.replicate_zero, List.push_toArray, List.append_toArray, List.nil_append, List.cons_append]
  gi_wp2
  go_ret
  exact ⟨rfl, rfl⟩
set_option maxRecDepth 100000 in
set_option maxHeartbeats 2000000 in
theorem pairs1_stops (n : Nat) (hn : 1 ≤ n) (p : Nat) (a b : ByteArray) (ha : a.size ≤ 9223372036854775807) (hb : b.size ≤ 9223372036854775807) (w : World) (hA : Boxed w p 9 (.string a)) (hB : Boxed w (p + 1) 9 (.string b)) :
    SeqStopsK Fence.wide n Tryz.prog 174 #[.pointer (some ⟨p, 0, none⟩), .pointer (some ⟨p + 1, 0, none⟩)] prs (Two p) (fun xs => xs = (lb a).zip (lb b)) (fun pre => pre <+: (lb a).zip (lb b)) ((lb a).zip (lb b)).length w := by
  intro l J Jx W hW hJ hJx hY h0
  have bA : Boxed W p 9 (.string a) := (hW.block p hA.lt).trans hA
  have bB : Boxed W (p + 1) 9 (.string b) := (hW.block (p + 1) hB.lt).trans hB
  clear hA hB hW
  have cA := bA.cell
  have cB := bB.cell
  have hza := list_size a
  have hzb := list_size b
  have hl : ((lb a).zip (lb b)).length = min a.size b.size := by simp [hza, hzb]
  obtain ⟨M, hM⟩ : ∃ M, M = min a.size b.size := ⟨_, rfl⟩
  have hm : (if b.size < a.size then (b.size : Int) else (a.size : Int)) = (M : Int) := by split <;> omega
  have hMa : M ≤ a.size := by omega
  have hMb : M ≤ b.size := by omega
  rw [← hM] at hl
  have HG : Hid (∀ (k : Nat) (h1 : k < a.size) (h2 : k < b.size), ((lb a).zip (lb b))[k]? = some (a[k], b[k])) := Lib.hid (fun k h1 h2 => by
    rw [List.getElem?_eq_getElem (by omega), List.getElem_zip, list_at a k h1 (by omega), list_at b k h2 (by omega)])
  have HL := Lib.hid hl
  generalize hX : (lb a).zip (lb b) = X at *
  clear hX hza hzb hl hM
  refine callsIn_of_wp Tryz.func174 rfl trivial ?_ rfl
  simp only [Tryz.ntmps174, List.size_toArray, List.length_cons, List.length_nil, Nat.reduceAdd, Nat.reduceSub, Array.replicate_succ, Array.replicate_zero, List.push_toArray, List.append_toArray, List.nil_append, List.cons_append]
  gi_wp2
  gi_loopw [10] (fun i wr => ∃ k : Nat, k ≤ M ∧ i = .int .i64 (k : Int) ∧ J (X.take k) wr ∧ Boxed wr p 9 (.string a) ∧ Boxed wr (p + 1) 9 (.string b)) (fun i _ => M - (intOf i).toNat)
  case atStart => exact ⟨0, Nat.zero_le _, rfl, by simpa using h0, bA, bB⟩
  case round =>
    obtain ⟨k, hk, rfl, hJs, b1, b2⟩ := hrel
    have c1 := b1.cell
    have c2 := b2.cell
    by_cases hlt : k < M
    · have hka : k < a.size := by omega
      have hkb : k < b.size := by omega
      obtain ⟨fn, tmps, assign, body, hy, hR⟩ := hY (X.take k) (a[k], b[k]) wr.drew (hJ _ _ _ none hJs ⟨rfl, rfl, rfl, Nat.le_refl _, fun _ _ _ => rfl⟩ (fun _ e => by cases e)) (by rw [List.length_take, HL.out]; omega)
      dsimp only [prs] at hy
      have hnext : X.take k ++ [(a[k], b[k])] = X.take (k + 1) := by rw [List.take_add_one, HG.out k hka hkb]; rfl
      rw [hnext] at hR
      have HR := Lib.hid (hR.mono (R' := fun e W' => ∃ o : Bool, e = .returned (.bool o) ∧ Hid ((o = true ∧ J (X.take (k + 1)) W' ∧ Two p wr.drew W') ∨ (o = false ∧ Jx (X.take (k + 1)) W'))) (by
        rintro e W' (⟨rfl, h1, h2⟩ | ⟨rfl, h1⟩)
        · exact ⟨true, rfl, Lib.hid (.inl ⟨rfl, h1, h2⟩)⟩
        · exact ⟨false, rfl, Lib.hid (.inr ⟨rfl, h1⟩)⟩))
      clear hR hnext hY cA cB
      have hmix : Tryz.prog.follows .mixedOrders = true := by kernel_rfl
      gi_wp2
      gi_region_with_o (refine HR.out.mono ?_; rintro e W3 ⟨o, rfl, h3⟩)
      all_goals
        rcases h3.out with ⟨rfl, hJ3, hk3⟩ | ⟨rfl, hJ3⟩
        · gi_wp2
          go_roundw
          case rel => exact ⟨k + 1, by omega, by go_num, hJ3, hk3.box (show Boxed wr.drew p 9 (.string a) from b1), hk3.box' (show Boxed wr.drew (p + 1) 9 (.string b) from b2)⟩
          case measure => simp [intOf]; omega
        · gi_wp2
          refine bodyPost_ret (results_none rfl _ _ _) rfl ?_
          exact ⟨⟨_, rfl⟩, .inr ⟨_, List.take_prefix _ _, hJ3⟩⟩
    · obtain rfl : k = M := by omega
      gi_wp2
      go_end0
      exact ⟨⟨_, rfl⟩, .inl ⟨X, rfl, by have := hJs; rwa [List.take_of_length_le (by rw [HL.out]; exact Nat.le_refl _)] at this⟩⟩
set_option maxRecDepth 100000 in
set_option maxHeartbeats 2000000 in
theorem less_in (n : Nat) (hn : 3 ≤ n) (a b : ByteArray) (ha : a.size ≤ 9223372036854775807) (hb : b.size ≤ 9223372036854775807) (w : World) :
    CallsIn Fence.wide n Tryz.prog 86 #[.string a, .string b] w fun e w' => e = .returned (.bool (ls (lb a) (lb b))) ∧ Below w.heap.size w w' := by
  have h1 : 1 ≤ n := by omega
  refine callsIn_of_wp_marks Tryz.func86 rfl trivial ?_ rfl
  simp only [Tryz.ntmps86, List.size_toArray, List.length_cons, List.length_nil, Nat.reduceAdd, Nat.reduceSub, Array.replicate_succ, Array.replicate_zero, List.push_toArray, List.append_toArray, List.nil_append, List.cons_append]
  gi_wp2_with (refine ⟨trivial, ?_⟩; gi_at_call 131; refine (pairs_in Fence.wide (n - 1) trivial rfl _ _ _).mono ?_; rintro e w' ⟨rfl, rfl⟩)
  have bR := ((Boxed.new w 4 (.bool false)).alloc (.cells #[.string a] 9)).alloc (.cells #[.string b] 9)
  have bA := (Boxed.new (w.alloc (.cells #[.bool false] 4)) 9 (.string a)).alloc (.cells #[.string b] 9)
  have bB := Boxed.new ((w.alloc (.cells #[.bool false] 4)).alloc (.cells #[.string a] 9)) 9 (.string b)
  simp only [World.size_alloc] at bA bB
  have hB0 : Below w.heap.size w (((w.alloc (.cells #[.bool false] 4)).alloc (.cells #[.string a] 9)).alloc (.cells #[.string b] 9)) := (((Below.refl _ w).alloc (Nat.le_refl _) _).alloc (by simp) _).alloc (by simp; omega) _
  have hsz : (((w.alloc (.cells #[.bool false] 4)).alloc (.cells #[.string a] 9)).alloc (.cells #[.string b] 9)).heap.size = w.heap.size + 3 := by simp
  obtain ⟨W0, hW0⟩ : ∃ W0, ((w.alloc (.cells #[.bool false] 4)).alloc (.cells #[.string a] 9)).alloc (.cells #[.string b] 9) = W0 := ⟨_, rfl⟩
  rw [hW0] at bR bA bB hB0 hsz ⊢
  clear hW0
  refine wpIn_rangeFunc_ownF rfl h1 (gf := 174) (lb := #[.pointer (some ⟨w.heap.size + 1, 0, none⟩), .pointer (some ⟨w.heap.size + 1 + 1, 0, none⟩)]) rfl trivial (enters_of Tryz.func174 (by kernel_rfl) rfl)
    (pairs1_stops (n - 1) (by omega) (w.heap.size + 1) a b ha hb W0 bA bB) two_t (two_b (by omega)) (Below.refl _ _) (fun _ => rfl)
    (fun pre W => ((∀ q ∈ pre, q.1 = q.2) ∧ W.cell? ⟨w.heap.size, 0, none⟩ = some (.bool false) ∧ W.frozen? ⟨w.heap.size, 0, none⟩ = false) ∧ Below w.heap.size w W)
    (fun c pre W => (c = .ret ∧ ∃ pre' x, pre = pre' ++ [x] ∧ (∀ q ∈ pre', q.1 = q.2) ∧ x.1 ≠ x.2 ∧ W.cell? ⟨w.heap.size, 0, none⟩ = some (.bool (decide (x.1 < x.2)))) ∧ Below w.heap.size w W)
    (OwnFrom.and (Own.from (fun s A B row hs hg hr => ⟨hs.1, cell_kept hs.2.1 hg hr, (frozen_kept hs.2.1 hg hr).trans hs.2.2⟩) _) (ownFrom_below (Nat.le_refl _) (by omega)))
    (fun c => OwnFrom.and (Own.from (fun s A B row hs hg hr => by obtain ⟨hc, p, x, h1, h2, h3, h4⟩ := hs; exact ⟨hc, p, x, h1, h2, h3, cell_kept h4 hg hr⟩) _) (ownFrom_below (Nat.le_refl _) (by omega)))
    ⟨⟨by simp, bR.cell, bR.frozen⟩, hB0⟩
    (fun x => { tmps := #[.string a, .string b, undef, undef, .pointer (some ⟨w.heap.size, 0, none⟩), .int .u8 (x.1.toNat : Int), .int .u8 (x.2.toNat : Int), .string a, .string b, .func (.func 174) #[] #[.pointer (some ⟨w.heap.size + 1, 0, none⟩), .pointer (some ⟨w.heap.size + 1 + 1, 0, none⟩)], .int .u8 (x.1.toNat : Int), .int .u8 (x.2.toNat : Int), undef, undef, undef, undef, undef, undef, undef, undef, undef, undef, undef], defers := [] }) ?assign ?body ?done ?stop
  case assign =>
    intro l x W K hK
    gi_wp2
    exact hK
  case body =>
    rintro l pre x W ⟨⟨hp, hcr, hfr⟩, hB⟩ _
    by_cases hx : x.1 = x.2
    · have hx' : ((x.1.toNat : Int) == (x.2.toNat : Int)) = true := by rw [hx]; simp
      have HX := Lib.hid hx
      clear hx
      gi_wp2
      exact ⟨KeepsOthers.refl _, Two.refl _ _, ⟨fun y hy => (List.mem_append.1 hy).elim (hp y) (fun e => by simp at e; subst e; exact HX.out), hcr, hfr⟩, hB⟩
    · have hx' := u8_ne hx
      have HX := Lib.hid hx
      have hd := u8_lt x.1 x.2
      have HD := Lib.hid hd
      clear hx hd
      gi_wp2
      refine ⟨KeepsOthers.setCell _ _ _, ⟨rfl, pre, x, rfl, hp, HX.out, ?_⟩, hB.setCell (p := ⟨w.heap.size, 0, none⟩) (by simp) _⟩
      rw [HD.out]
      exact World.cell?_setCell_same' _ _ _ (by rw [hcr]; rfl)
  case done =>
    rintro D ys W hD rfl ⟨⟨hne, hcr, hfr⟩, hB⟩ hK
    have E := ls_all hne
    rw [list_size, list_size] at E
    have HE := Lib.hid E
    clear E hne
    gi_wp2
    have hK' := (KeepsOthers.setCell W ⟨w.heap.size, 0, none⟩ (.bool (decide (a.size < b.size)))).same D _ hK rfl
    refine ⟨by simp, .inl ⟨_, _, rfl, run_takeDeferred hK', ?_⟩⟩
    have hc5 := cell_kept (World.cell?_setCell_same' W ⟨w.heap.size, 0, none⟩ (.bool (decide (a.size < b.size))) (by rw [hcr]; rfl)) (grownBy_putObj' _ D (.deferred none)) (fun r e => by cases e; exact ⟨_, hK', rfl⟩)
    refine ⟨.bool (decide (a.size < b.size)), ?_, by rw [HE.out], (hB.setCell (p := ⟨w.heap.size, 0, none⟩) (by simp) _).trans (belowK_b (w := w) (Nat.le_refl _) _ D _ _ (by omega) hK' rfl rfl)⟩
    simp [results, Tryz.f86, go_sem, hc5]
  case stop =>
    rintro D c pre W hD hpre ⟨⟨rfl, pre', x, rfl, hall, hne, hcr⟩, hB⟩ hK
    have HE := Lib.hid (ls_parts hpre hall hne)
    clear hpre hall hne
    gi_wp2
    refine ⟨by simp, .inl ⟨_, _, rfl, run_takeDeferred hK, ?_⟩⟩
    have hc5 := cell_kept hcr (grownBy_putObj' _ D (.deferred none)) (fun r e => by cases e; exact ⟨_, hK, rfl⟩)
    refine ⟨.bool (decide (x.1 < x.2)), ?_, by rw [HE.out], hB.trans (belowK_b (w := w) (Nat.le_refl _) W D _ _ (by omega) hK rfl rfl)⟩
    simp [results, Tryz.f86, go_sem, hc5]
theorem kless_any (a b : ByteArray) (w : World) (ha : a.size ≤ 9223372036854775807) (hb : b.size ≤ 9223372036854775807) :
    Calls Tryz.prog 86 #[.string a, .string b] w fun e w' => e = .returned (.bool (ls (lb a) (lb b))) ∧ Below w.heap.size w w' := callsIn_wide.1 (less_in 3 (Nat.le_refl _) a b ha hb w)
end Go.Proofs.YtkfncanfgpmgaaaGreat.Wd
