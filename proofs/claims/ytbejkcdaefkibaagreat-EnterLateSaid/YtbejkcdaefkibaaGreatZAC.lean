/- Elder words: which of two keys is less (key.Less); no conditions but those that each names. Keys in a row that is put in order: what is exchanged, what is less; no conditions but those that each names. What the document says of numbers and kernels What the document says of keys, rules, products What the document says of quotients; Left, Wait, Until of chapter 7, whole A table whose map is named; one is put in; how one goes over to another kernel: plain; no conditions but those that each names. How one goes over to another kernel; no conditions but those that each names. insertionSort_func of package sort, at keys; no conditions but those that each names. sort.Slice at keys, twelve of them at most; no conditions but those that each names. How many bits a number has; sort.Slice at keys; no conditions but those that each names. sort.Slice at keys, twelve of them at most; no conditions but those that each names. The keys of a table's map, collected; no conditions but those that each names. The keys of a table's map, collected; no conditions but those that each names. What an iterator over a table wants; no conditions but those that each names. The iterator over a table; no conditions but those that each names. Slots; no conditions but those that each names. Slots, Active of a table that is there; no conditions but those that each names. Entries; no conditions but those that each names. A table that is there, or a new one in the place of none; Entries; no conditions but those that each names. Move, MoveAll: one, or all, go over to another kernel; of a table that is there, or of none; no conditions but those that each names. Move; Slots, Active, Clock of a table that is there, or of none; a charge of none; no conditions but those that each names. Two tables of the same keys, by whatever kernels, as data: they tell the same, now and later; no conditions but those that each names. What TableMost calls: a deed's key, whether a key is among slots; no conditions but those that each names. -/
import Derived.Test.YtbejkcdaefkibaaGreatZAA
import Derived.WalkKit
import Derived.Laws.Bits64b
import Derived.Below
import Derived.Deep.Draws
import Derived.Test.YtbejkcdaefkibaaGreatRows
import Derived.RangeFuncNested
import Derived.RangeFuncBound
import Derived.RangeFuncCalls
import Derived.RangeFuncLeaves
import Derived.Shelf.Abstract
import Derived.Shelf.RegionOpen
import Derived.OwnWalkIn
import Derived.TacticsInMore
import Derived.LoopNIn
import Derived.LoopIn
import Derived.Lib.Hide
import Derived.Test.YtbejkcdaefkibaaGreatZAB
import Derived.Sort.AssemblyPlain
import Derived.Sort.WalkA
import Derived.Sort.Walk13a
import Derived.Lib.ReflectliteSwap
import Derived.LoopTactic
import Derived.Deep.RegionHeld3
import Derived.ProofKit
import Derived.OpenShut
import Derived.Handy
import Derived.Deep.QuietTactic
import Derived.BigQuiet
import Derived.Maps.OwnSet
import Derived.Laws.EntriesVeiled
import Derived.ScopeJumps
import Derived.WalkMore
import Derived.OwnWalk
import Derived.Laws.OwnMore
import Derived.Shelf.LaysM
import Derived.Shelf.Strconv.Clone
import Derived.Lib.ItoaNum
import Derived.Lib.ItoaLen
import Derived.Laws.Strings
import GoSem.Op.String
import Derived.Lib.BufferWrite
import Derived.Laws.IdiomStrings
import Derived.Laws.ResultCell
import Derived.Laws.Rows
import Derived.WalkLawsBesides
import Derived.WalkSpells
import Derived.Deep.WholeRow
import Derived.StillTailTactics
import Derived.Deep.CutRange
import Derived.Shelf.Small.Bits
import Derived.Shelf.SlIter.Collect
import Derived.Stop.RegionWithIn
import Derived.Deep.AppendLies
namespace Go.Proofs.YtbejkcdaefkibaaGreat.Wd
open Go Go.RowKit Go.Shelf Go.Deep
set_option linter.unusedVariables false
set_option maxRecDepth 100000
attribute [local go_sem] Oper.semAt_some
/-- How many bytes two begin with alike. -/
def cm : List UInt8 → List UInt8 → Nat
  | a :: x, b :: y => if a = b then cm x y + 1 else 0
  | _, _ => 0
/-- Which is less. -/
abbrev ls (x y : List UInt8) : Bool := Op.bytesLess x y
theorem cm_nil_left (y : List UInt8) : cm [] y = 0 := by cases y <;> rfl
theorem cm_nil_right (x : List UInt8) : cm x [] = 0 := by cases x <;> rfl
theorem cm_cons (a b : UInt8) (x y : List UInt8) : cm (a :: x) (b :: y) = if a = b then cm x y + 1 else 0 := by rw [cm]
theorem ls_cons (a b : UInt8) (x y : List UInt8) : ls (a :: x) (b :: y) = (decide (a < b) || (a == b && ls x y)) := by
  show Op.bytesLess (a :: x) (b :: y) = _
  rw [Op.bytesLess]
theorem ls_nil_right (x : List UInt8) : ls x [] = false := by show Op.bytesLess x [] = false; cases x <;> rfl
theorem ls_nil_left (b : UInt8) (y : List UInt8) : ls [] (b :: y) = true := rfl
/-- What is alike so far, and no further, is what is common. -/
theorem cm_is : ∀ (n : Nat) (x y : List UInt8), n ≤ x.length → n ≤ y.length → x.take n = y.take n → (∀ (h : n < x.length) (h' : n < y.length), x[n] ≠ y[n]) → cm x y = n
  | 0, [], y, _, _, _, _ => cm_nil_left y
  | 0, a :: x, [], _, _, _, _ => cm_nil_right _
  | 0, a :: x, b :: y, _, _, _, h => by rw [cm_cons, if_neg]; exact h (by simp) (by simp)
  | n + 1, [], y, h, _, _, _ => by simp at h
  | n + 1, a :: x, [], _, h, _, _ => by simp at h
  | n + 1, a :: x, b :: y, h1, h2, h3, h4 => by
    simp only [List.take_succ_cons, List.cons.injEq] at h3
    rw [cm_cons, if_pos h3.1, cm_is n x y (by simpa using h1) (by simpa using h2) h3.2 (fun g g' => by
      have := h4 (by simpa using g) (by simpa using g')
      simpa using this)]
theorem u8_lt (a b : UInt8) : decide (a < b) = decide (a.toNat < b.toNat) := by
  rw [Bool.eq_iff_iff]; simp only [decide_eq_true_eq]; rw [UInt8.lt_iff_toNat_lt]
theorem u8_ne {a b : UInt8} (h : a ≠ b) : ((a.toNat : Int) == (b.toNat : Int)) = false := by
  rw [beq_eq_false_iff_ne]; intro e; exact h (UInt8.toNat_inj.1 (by omega))
theorem ls_cm : ∀ x y, ls x y = if h : cm x y < x.length ∧ cm x y < y.length then decide (x[cm x y] < y[cm x y]) else decide (x.length < y.length)
  | [], [] => by rw [dif_neg (by simp)]; rfl
  | [], b :: y => by rw [dif_neg (by simp)]; rw [ls_nil_left]; simp
  | a :: x, [] => by rw [dif_neg (by simp)]; rw [ls_nil_right]; simp
  | a :: x, b :: y => by
    rw [ls_cons]
    by_cases e : a = b
    · subst e
      rw [ls_cm x y]
      have hc : cm (a :: x) (a :: y) = cm x y + 1 := by rw [cm_cons, if_pos rfl]
      simp only [hc, List.length_cons, Nat.add_lt_add_iff_right, List.getElem_cons_succ, BEq.rfl, Bool.true_and]
      simp
    · have hc : cm (a :: x) (b :: y) = 0 := by rw [cm_cons, if_neg e]
      rw [dif_pos (by rw [hc]; simp)]
      simp only [hc, List.getElem_cons_zero]
      rw [beq_eq_false_iff_ne.2 e]
      simp
theorem ls_irrefl : ∀ x, ls x x = false
  | [] => rfl
  | a :: x => by rw [ls_cons, ls_irrefl x]; simp
theorem ls_trans : ∀ x y z, ls x y = true → ls y z = true → ls x z = true
  | x, [], z, h, _ => by rw [ls_nil_right] at h; cases h
  | x, b :: y, [], _, h => by rw [ls_nil_right] at h; cases h
  | [], b :: y, c :: z, _, _ => ls_nil_left _ _
  | a :: x, b :: y, c :: z, h, g => by
    rw [ls_cons] at h g ⊢
    simp only [Bool.or_eq_true, Bool.and_eq_true, decide_eq_true_eq, beq_iff_eq] at h g ⊢
    rw [UInt8.lt_iff_toNat_lt] at h g ⊢
    rcases h with h | ⟨rfl, h⟩
    · rcases g with g | ⟨rfl, g⟩
      · exact .inl (by omega)
      · exact .inl h
    · rcases g with g | ⟨rfl, g⟩
      · exact .inl g
      · exact .inr ⟨rfl, ls_trans x y z h g⟩
theorem ls_asymm (x y : List UInt8) (h : ls x y = true) : ls y x = false := by
  rw [← Bool.not_eq_true]
  intro g
  have := ls_trans x y x h g
  rw [ls_irrefl] at this; cases this
theorem ls_total : ∀ x y, (ls x y || ls y x) = !(x == y)
  | [], [] => rfl
  | [], b :: y => rfl
  | a :: x, [] => rfl
  | a :: x, b :: y => by
    rw [ls_cons, ls_cons]
    have ih := ls_total x y
    by_cases e : a = b
    · subst e
      simp only [BEq.rfl, Bool.true_and, UInt8.lt_irrefl, decide_false, Bool.false_or, ih, List.cons_beq_cons]
    · have h1 : (a == b) = false := beq_eq_false_iff_ne.2 e
      have h2 : (b == a) = false := beq_eq_false_iff_ne.2 (fun h => e h.symm)
      have h3 : a.toNat ≠ b.toNat := fun h => e (UInt8.toNat_inj.1 h)
      rw [List.cons_beq_cons, h1, h2]
      simp only [Bool.false_and, Bool.or_false, Bool.not_false, Bool.or_eq_true, decide_eq_true_eq]
      rw [UInt8.lt_iff_toNat_lt, UInt8.lt_iff_toNat_lt]; omega
theorem zip_all_take : ∀ (x y : List UInt8) (n : Nat), n ≤ x.length → n ≤ y.length → (∀ p ∈ (x.zip y).take n, p.1 = p.2) → x.take n = y.take n
  | _, _, 0, _, _, _ => by simp
  | [], y, n + 1, h, _, _ => by simp at h
  | a :: x, [], n + 1, _, h, _ => by simp at h
  | a :: x, b :: y, n + 1, h1, h2, h => by
    simp only [List.zip_cons_cons, List.take_succ_cons, List.mem_cons, forall_eq_or_imp] at h
    rw [List.take_succ_cons, List.take_succ_cons, h.1, zip_all_take x y n (by simpa using h1) (by simpa using h2) h.2]
/-- All of the pairs are alike. -/
theorem cm_all {x y : List UInt8} (h : ∀ p ∈ x.zip y, p.1 = p.2) : cm x y = (x.zip y).length := by
  have hl : (x.zip y).length = min x.length y.length := by simp
  refine cm_is _ _ _ (by omega) (by omega) (zip_all_take x y _ (by omega) (by omega) (fun p hp => h p (List.mem_of_mem_take hp))) (fun h1 h2 => by omega)
/-- One pair is not. -/
theorem cm_parts {x y : List UInt8} {pre : List (UInt8 × UInt8)} {p : UInt8 × UInt8} (hp : pre ++ [p] <+: x.zip y) (h : ∀ q ∈ pre, q.1 = q.2) (hne : p.1 ≠ p.2) :
    cm x y = pre.length ∧ ∃ (h1 : cm x y < x.length) (h2 : cm x y < y.length), x[cm x y] = p.1 ∧ y[cm x y] = p.2 := by
  obtain ⟨t, ht⟩ := hp
  have hl : (x.zip y).length = min x.length y.length := by simp
  have hk : pre.length < (x.zip y).length := by rw [← ht]; simp
  have h1 : pre.length < x.length := by omega
  have h2 : pre.length < y.length := by omega
  have hg : (x.zip y)[pre.length] = p := by
    have : (x.zip y)[pre.length]? = some p := by rw [← ht]; simp
    rw [List.getElem?_eq_getElem hk] at this
    exact Option.some.inj this
  rw [List.getElem_zip] at hg
  have hx : x[pre.length] = p.1 := by rw [← hg]
  have hy : y[pre.length] = p.2 := by rw [← hg]
  have e : cm x y = pre.length := cm_is _ _ _ (by omega) (by omega) (zip_all_take x y _ (by omega) (by omega) (fun q hq => by
    rw [← ht] at hq
    simp at hq
    exact h q hq)) (fun _ _ => by rw [hx, hy]; exact hne)
  refine ⟨e, by omega, by omega, ?_, ?_⟩
  · simp only [e]; exact hx
  · simp only [e]; exact hy
theorem ls_all {x y : List UInt8} (h : ∀ p ∈ x.zip y, p.1 = p.2) : ls x y = decide (x.length < y.length) := by
  have hl : (x.zip y).length = min x.length y.length := by simp
  rw [ls_cm, dif_neg (by rw [cm_all h]; omega)]
theorem ls_parts {x y : List UInt8} {pre : List (UInt8 × UInt8)} {p : UInt8 × UInt8} (hp : pre ++ [p] <+: x.zip y) (h : ∀ q ∈ pre, q.1 = q.2) (hne : p.1 ≠ p.2) : ls x y = decide (p.1 < p.2) := by
  obtain ⟨_, h1, h2, hx, hy⟩ := cm_parts hp h hne
  rw [ls_cm, dif_pos ⟨h1, h2⟩, hx, hy]
/-- Two blocks, one behind the other, lie as they lay. -/
def Two (p : Nat) (A C : World) : Prop := C.heap[p]? = A.heap[p]? ∧ C.heap[p + 1]? = A.heap[p + 1]?
theorem Two.refl (p : Nat) (A : World) : Two p A A := ⟨rfl, rfl⟩
theorem two_t {p : Nat} {A B C : World} (h : Two p A B) (k : Two p B C) : Two p A C := ⟨k.1.trans h.1, k.2.trans h.2⟩
theorem two_b {p : Nat} {w : World} (hp : p + 1 < w.heap.size) (W : World) (l : Nat) (o o' : Obj) (hl : w.heap.size ≤ l) (h : W.heap[l]? = some o) (_ : o.isCells = false) (_ : o.isWalk = false) : Two p W (W.putObj l o') :=
  ⟨World.putObj_heap_other (by omega), World.putObj_heap_other (by omega)⟩
theorem Two.box {p : Nat} {A C : World} (h : Two p A C) {t : TypeId} {v : Value} (c : Boxed A p t v) : Boxed C p t v := h.1.trans c
theorem Two.box' {p : Nat} {A C : World} (h : Two p A C) {t : TypeId} {v : Value} (c : Boxed A (p + 1) t v) : Boxed C (p + 1) t v := h.2.trans c
/-- A pair of bytes, as values. -/
abbrev prs (x : UInt8 × UInt8) : Array Value := #[.int .u8 (x.1.toNat : Int), .int .u8 (x.2.toNat : Int)]
theorem pairs_in (F : Fence) (n : Nat) (h : F.fn 160) (hro : F.round = none) (a b : ByteArray) (w : World) :
    CallsIn F n Tryz.prog 160 #[.string a, .string b] w fun e w' => e = .returned (.func (.func 194) #[] #[.pointer (some ⟨w.heap.size, 0, none⟩), .pointer (some ⟨w.heap.size + 1, 0, none⟩)]) ∧ w' = (w.alloc (.cells #[.string a] 9)).alloc (.cells #[.string b] 9) := by
  refine callsIn_of_wp Tryz.func160 rfl h ?_ hro
  simp only [Tryz.ntmps160, List.size_toArray, List.length_cons, List.length_nil, Nat.reduceAdd, Nat.reduceSub, Array.replicate_succ, Array.replicate_zero, List.push_toArray, List.append_toArray, List.nil_append, List.cons_append]
  gi_wp2
  go_ret
  exact ⟨rfl, rfl⟩
set_option maxRecDepth 100000 in
set_option maxHeartbeats 2000000 in
theorem pairs1_stops (n : Nat) (hn : 1 ≤ n) (p : Nat) (a b : ByteArray) (ha : a.size ≤ 9223372036854775807) (hb : b.size ≤ 9223372036854775807) (w : World) (hA : Boxed w p 9 (.string a)) (hB : Boxed w (p + 1) 9 (.string b)) :
    SeqStopsK Fence.wide n Tryz.prog 194 #[.pointer (some ⟨p, 0, none⟩), .pointer (some ⟨p + 1, 0, none⟩)] prs (Two p) (fun xs => xs = (lb a).zip (lb b)) (fun pre => pre <+: (lb a).zip (lb b)) ((lb a).zip (lb b)).length w := by
  intro l J Jx W hW hJ hJx hY h0
  have bA : Boxed W p 9 (.string a) := (hW.block p hA.lt).trans hA
  have bB : Boxed W (p + 1) 9 (.string b) := (hW.block (p + 1) hB.lt).trans hB
  clear hA hB hW
  have cA := bA.cell
  have cB := bB.cell
  have hza := list_size a
  have hzb := list_size b
  have hl : ((lb a).zip (lb b)).length = min a.size b.size := by simp [hza, hzb]
  obtain ⟨M, hM⟩ : ∃ M, M = min a.size b.size := ⟨_, rfl⟩
  have hm : (if b.size < a.size then (b.size : Int) else (a.size : Int)) = (M : Int) := by split <;> omega
  have hMa : M ≤ a.size := by omega
  have hMb : M ≤ b.size := by omega
  rw [← hM] at hl
  have HG : Hid (∀ (k : Nat) (h1 : k < a.size) (h2 : k < b.size), ((lb a).zip (lb b))[k]? = some (a[k], b[k])) := Lib.hid (fun k h1 h2 => by
    rw [List.getElem?_eq_getElem (by omega), List.getElem_zip, list_at a k h1 (by omega), list_at b k h2 (by omega)])
  have HL := Lib.hid hl
  generalize hX : (lb a).zip (lb b) = X at *
  clear hX hza hzb hl hM
  refine callsIn_of_wp Tryz.func194 rfl trivial ?_ rfl
  simp only [Tryz.ntmps194, List.size_toArray, List.length_cons, List.length_nil, Nat.reduceAdd, Nat.reduceSub, Array.replicate_succ, Array.replicate_zero, List.push_toArray, List.append_toArray, List.nil_append, List.cons_append]
  gi_wp2
  gi_loopw [10] (fun i wr => ∃ k : Nat, k ≤ M ∧ i = .int .i64 (k : Int) ∧ J (X.take k) wr ∧ Boxed wr p 9 (.string a) ∧ Boxed wr (p + 1) 9 (.string b)) (fun i _ => M - (intOf i).toNat)
  case atStart => exact ⟨0, Nat.zero_le _, rfl, by simpa using h0, bA, bB⟩
  case round =>
    obtain ⟨k, hk, rfl, hJs, b1, b2⟩ := hrel
    have c1 := b1.cell
    have c2 := b2.cell
    by_cases hlt : k < M
    · have hka : k < a.size := by omega
      have hkb : k < b.size := by omega
      obtain ⟨fn, tmps, assign, body, hy, hR⟩ := hY (X.take k) (a[k], b[k]) wr.drew (hJ _ _ _ none hJs ⟨rfl, rfl, rfl, Nat.le_refl _, fun _ _ _ => rfl⟩ (fun _ e => by cases e)) (by rw [List.length_take, HL.out]; omega)
      dsimp only [prs] at hy
      have hnext : X.take k ++ [(a[k], b[k])] = X.take (k + 1) := by rw [List.take_add_one, HG.out k hka hkb]; rfl
      rw [hnext] at hR
      have HR := Lib.hid (hR.mono (R' := fun e W' => ∃ o : Bool, e = .returned (.bool o) ∧ Hid ((o = true ∧ J (X.take (k + 1)) W' ∧ Two p wr.drew W') ∨ (o = false ∧ Jx (X.take (k + 1)) W'))) (by
        rintro e W' (⟨rfl, h1, h2⟩ | ⟨rfl, h1⟩)
        · exact ⟨true, rfl, Lib.hid (.inl ⟨rfl, h1, h2⟩)⟩
        · exact ⟨false, rfl, Lib.hid (.inr ⟨rfl, h1⟩)⟩))
      clear hR hnext hY cA cB
      have hmix : Tryz.prog.follows .mixedOrders = true := by kernel_rfl
      gi_wp2
      gi_region_with_o (refine HR.out.mono ?_; rintro e W3 ⟨o, rfl, h3⟩)
      all_goals
        rcases h3.out with ⟨rfl, hJ3, hk3⟩ | ⟨rfl, hJ3⟩
        · gi_wp2
          go_roundw
          case rel => exact ⟨k + 1, by omega, by go_num, hJ3, hk3.box (show Boxed wr.drew p 9 (.string a) from b1), hk3.box' (show Boxed wr.drew (p + 1) 9 (.string b) from b2)⟩
          case measure => simp [intOf]; omega
        · gi_wp2
          refine bodyPost_ret (results_none rfl _ _ _) rfl ?_
          exact ⟨⟨_, rfl⟩, .inr ⟨_, List.take_prefix _ _, hJ3⟩⟩
    · obtain rfl : k = M := by omega
      gi_wp2
      go_end0
      exact ⟨⟨_, rfl⟩, .inl ⟨X, rfl, by have := hJs; rwa [List.take_of_length_le (by rw [HL.out]; exact Nat.le_refl _)] at this⟩⟩
set_option maxRecDepth 100000 in
set_option maxHeartbeats 2000000 in
theorem less_in (n : Nat) (hn : 3 ≤ n) (a b : ByteArray) (ha : a.size ≤ 9223372036854775807) (hb : b.size ≤ 9223372036854775807) (w : World) :
    CallsIn Fence.wide n Tryz.prog 110 #[.string a, .string b] w fun e w' => e = .returned (.bool (ls (lb a) (lb b))) ∧ Below w.heap.size w w' := by
  have h1 : 1 ≤ n := by omega
  refine callsIn_of_wp_marks Tryz.func110 rfl trivial ?_ rfl
  simp only [Tryz.ntmps110, List.size_toArray, List.length_cons, List.length_nil, Nat.reduceAdd, Nat.reduceSub, Array.replicate_succ, Array.replicate_zero, List.push_toArray, List.append_toArray, List.nil_append, List.cons_append]
  gi_wp2_with (refine ⟨trivial, ?_⟩; gi_at_call 160; refine (pairs_in Fence.wide (n - 1) trivial rfl _ _ _).mono ?_; rintro e w' ⟨rfl, rfl⟩)
  have bR := ((Boxed.new w 4 (.bool false)).alloc (.cells #[.string a] 9)).alloc (.cells #[.string b] 9)
  have bA := (Boxed.new (w.alloc (.cells #[.bool false] 4)) 9 (.string a)).alloc (.cells #[.string b] 9)
  have bB := Boxed.new ((w.alloc (.cells #[.bool false] 4)).alloc (.cells #[.string a] 9)) 9 (.string b)
  simp only [World.size_alloc] at bA bB
  have hB0 : Below w.heap.size w (((w.alloc (.cells #[.bool false] 4)).alloc (.cells #[.string a] 9)).alloc (.cells #[.string b] 9)) := (((Below.refl _ w).alloc (Nat.le_refl _) _).alloc (by simp) _).alloc (by simp; omega) _
  have hsz : (((w.alloc (.cells #[.bool false] 4)).alloc (.cells #[.string a] 9)).alloc (.cells #[.string b] 9)).heap.size = w.heap.size + 3 := by simp
  obtain ⟨W0, hW0⟩ : ∃ W0, ((w.alloc (.cells #[.bool false] 4)).alloc (.cells #[.string a] 9)).alloc (.cells #[.string b] 9) = W0 := ⟨_, rfl⟩
  rw [hW0] at bR bA bB hB0 hsz ⊢
  clear hW0
  refine wpIn_rangeFunc_ownF rfl h1 (gf := 194) (lb := #[.pointer (some ⟨w.heap.size + 1, 0, none⟩), .pointer (some ⟨w.heap.size + 1 + 1, 0, none⟩)]) rfl trivial (enters_of Tryz.func194 (by kernel_rfl) rfl)
    (pairs1_stops (n - 1) (by omega) (w.heap.size + 1) a b ha hb W0 bA bB) two_t (two_b (by omega)) (Below.refl _ _) (fun _ => rfl)
    (fun pre W => ((∀ q ∈ pre, q.1 = q.2) ∧ W.cell? ⟨w.heap.size, 0, none⟩ = some (.bool false) ∧ W.frozen? ⟨w.heap.size, 0, none⟩ = false) ∧ Below w.heap.size w W)
    (fun c pre W => (c = .ret ∧ ∃ pre' x, pre = pre' ++ [x] ∧ (∀ q ∈ pre', q.1 = q.2) ∧ x.1 ≠ x.2 ∧ W.cell? ⟨w.heap.size, 0, none⟩ = some (.bool (decide (x.1 < x.2)))) ∧ Below w.heap.size w W)
    (OwnFrom.and (Own.from (fun s A B row hs hg hr => ⟨hs.1, cell_kept hs.2.1 hg hr, (frozen_kept hs.2.1 hg hr).trans hs.2.2⟩) _) (ownFrom_below (Nat.le_refl _) (by omega)))
    (fun c => OwnFrom.and (Own.from (fun s A B row hs hg hr => by obtain ⟨hc, p, x, h1, h2, h3, h4⟩ := hs; exact ⟨hc, p, x, h1, h2, h3, cell_kept h4 hg hr⟩) _) (ownFrom_below (Nat.le_refl _) (by omega)))
    ⟨⟨by simp, bR.cell, bR.frozen⟩, hB0⟩
    (fun x => { tmps := #[.string a, .string b, undef, undef, .pointer (some ⟨w.heap.size, 0, none⟩), .int .u8 (x.1.toNat : Int), .int .u8 (x.2.toNat : Int), .string a, .string b, .func (.func 194) #[] #[.pointer (some ⟨w.heap.size + 1, 0, none⟩), .pointer (some ⟨w.heap.size + 1 + 1, 0, none⟩)], .int .u8 (x.1.toNat : Int), .int .u8 (x.2.toNat : Int), undef, undef, undef, undef, undef, undef, undef, undef, undef, undef, undef], defers := [] }) ?assign ?body ?done ?stop
  case assign =>
    intro l x W K hK
    gi_wp2
    exact hK
  case body =>
    rintro l pre x W ⟨⟨hp, hcr, hfr⟩, hB⟩ _
    by_cases hx : x.1 = x.2
    · have hx' : ((x.1.toNat : Int) == (x.2.toNat : Int)) = true := by rw [hx]; simp
      have HX := Lib.hid hx
      clear hx
      gi_wp2
      exact ⟨KeepsOthers.refl _, Two.refl _ _, ⟨fun y hy => (List.mem_append.1 hy).elim (hp y) (fun e => by simp at e; subst e; exact HX.out), hcr, hfr⟩, hB⟩
    · have hx' := u8_ne hx
      have HX := Lib.hid hx
      have hd := u8_lt x.1 x.2
      have HD := Lib.hid hd
      clear hx hd
      gi_wp2
      refine ⟨KeepsOthers.setCell _ _ _, ⟨rfl, pre, x, rfl, hp, HX.out, ?_⟩, hB.setCell (p := ⟨w.heap.size, 0, none⟩) (by simp) _⟩
      rw [HD.out]
      exact World.cell?_setCell_same' _ _ _ (by rw [hcr]; rfl)
  case done =>
    rintro D ys W hD rfl ⟨⟨hne, hcr, hfr⟩, hB⟩ hK
    have E := ls_all hne
    rw [list_size, list_size] at E
    have HE := Lib.hid E
    clear E hne
    gi_wp2
    have hK' := (KeepsOthers.setCell W ⟨w.heap.size, 0, none⟩ (.bool (decide (a.size < b.size)))).same D _ hK rfl
    refine ⟨by simp, .inl ⟨_, _, rfl, run_takeDeferred hK', ?_⟩⟩
    have hc5 := cell_kept (World.cell?_setCell_same' W ⟨w.heap.size, 0, none⟩ (.bool (decide (a.size < b.size))) (by rw [hcr]; rfl)) (grownBy_putObj' _ D (.deferred none)) (fun r e => by cases e; exact ⟨_, hK', rfl⟩)
    refine ⟨.bool (decide (a.size < b.size)), ?_, by rw [HE.out], (hB.setCell (p := ⟨w.heap.size, 0, none⟩) (by simp) _).trans (belowK_b (w := w) (Nat.le_refl _) _ D _ _ (by omega) hK' rfl rfl)⟩
    simp [results, Tryz.f110, go_sem, hc5]
  case stop =>
    rintro D c pre W hD hpre ⟨⟨rfl, pre', x, rfl, hall, hne, hcr⟩, hB⟩ hK
    have HE := Lib.hid (ls_parts hpre hall hne)
    clear hpre hall hne
    gi_wp2
    refine ⟨by simp, .inl ⟨_, _, rfl, run_takeDeferred hK, ?_⟩⟩
    have hc5 := cell_kept hcr (grownBy_putObj' _ D (.deferred none)) (fun r e => by cases e; exact ⟨_, hK, rfl⟩)
    refine ⟨.bool (decide (x.1 < x.2)), ?_, by rw [HE.out], hB.trans (belowK_b (w := w) (Nat.le_refl _) W D _ _ (by omega) hK rfl rfl)⟩
    simp [results, Tryz.f110, go_sem, hc5]
theorem kless_any (a b : ByteArray) (w : World) (ha : a.size ≤ 9223372036854775807) (hb : b.size ≤ 9223372036854775807) :
    Calls Tryz.prog 110 #[.string a, .string b] w fun e w' => e = .returned (.bool (ls (lb a) (lb b))) ∧ Below w.heap.size w w' := callsIn_wide.1 (less_in 3 (Nat.le_refl _) a b ha hb w)
end Go.Proofs.YtbejkcdaefkibaaGreat.Wd
namespace Go.Proofs.YtbejkcdaefkibaaGreat.Wd
open Go Go.RowKit Go.Deep
set_option linter.unusedVariables false
set_option maxRecDepth 100000

/-- Which of two keys is less. -/
abbrev ltK : ByteArray → ByteArray → Bool := fun x y => ls (lb x) (lb y)
theorem ltK_swo : Sort.SWO ltK where
  irrefl x := ls_irrefl _
  trans x y z h1 h2 := ls_trans _ _ _ h1 h2
  ntrans x y z h1 h2 := by
    cases h : ls (lb x) (lb z) with
    | false => exact h
    | true =>
      have h1 : ls (lb x) (lb y) = false := h1
      have h2 : ls (lb y) (lb z) = false := h2
      have t1 := ls_total (lb x) (lb y)
      have t2 := ls_total (lb y) (lb z)
      rw [h1] at t1
      rw [h2] at t2
      cases e1 : (lb x == lb y) with
      | true => rw [eq_of_beq e1] at h; rw [h] at h2; cases h2
      | false =>
        rw [e1] at t1
        simp at t1
        cases e2 : (lb y == lb z) with
        | true => rw [← eq_of_beq e2] at h; rw [h] at h1; cases h1
        | false =>
          rw [e2] at t2
          simp at t2
          have := ls_trans _ _ _ t2 t1
          rw [ls_asymm _ _ h] at this
          cases this
abbrev one (B : Nat) : Nat → Prop := fun k => k = B
/-- The keys d lie in block KB; the variable in block RX holds them. -/
structure SoT (W : World) (KB RX cap : Nat) (d : Array ByteArray) : Prop where
  lt : KB < W.heap.size
  ne : RX ≠ KB
  fit : ∀ k, k < d.size → d[k]!.size ≤ 9223372036854775807
  var : W.cell? ⟨RX, 0, none⟩ = some (.slice (some ⟨KB, 0, none⟩) d.size cap)
  rows : ∀ k, k < d.size → W.cell? ⟨KB, k, none⟩ = some (.string d[k]!) ∧ W.frozen? ⟨KB, k, none⟩ = false
  typ : ∃ cur, Blk W KB cur Tstr
theorem SoT.below {W W' : World} {KB RX cap : Nat} {d : Array ByteArray} (h : SoT W KB RX cap d) (g : Below W.heap.size W W') : SoT W' KB RX cap d :=
  ⟨Nat.lt_of_lt_of_le h.lt g.size, h.ne, h.fit, celln g h.var, fun k hk => ⟨(World.cell?_of_block (w := W) (g.block _ h.lt)).trans (h.rows k hk).1, (World.frozen?_of_block (w := W) (g.block _ h.lt)).trans (h.rows k hk).2⟩, by obtain ⟨cur, hb⟩ := h.typ; exact ⟨cur, (g.block _ h.lt).trans hb⟩⟩
theorem SoT.alloc {W : World} {KB RX cap : Nat} {d : Array ByteArray} (h : SoT W KB RX cap d) (o : Obj) : SoT (W.alloc o) KB RX cap d := h.below ((Below.refl _ W).alloc (Nat.le_refl _) o)
theorem SoT.dr {W : World} {KB RX cap : Nat} {d : Array ByteArray} (h : SoT W KB RX cap d) : SoT W.drew KB RX cap d := ⟨h.lt, h.ne, h.fit, h.var, h.rows, h.typ⟩
theorem tcell {S : Nat → Prop} {a b : World} (h : Tch S a b) {k o : Nat} {v : Value} (hk : ¬ S k) (c : a.cell? ⟨k, o, none⟩ = some v) : b.cell? ⟨k, o, none⟩ = some v :=
  (World.cell?_of_block (w := a) (h.block k (cell_lt c) hk)).trans c
theorem SoT.swap {W : World} {KB RX cap : Nat} {d : Array ByteArray} (h : SoT W KB RX cap d) (i j : Nat) (hi : i < d.size) (hj : j < d.size) :
    SoT ((W.setCell ⟨KB, i, none⟩ (.string d[j]!)).setCell ⟨KB, j, none⟩ (.string d[i]!)) KB RX cap (Sort.swp d i j) ∧ Tch (one KB) W ((W.setCell ⟨KB, i, none⟩ (.string d[j]!)).setCell ⟨KB, j, none⟩ (.string d[i]!)) := by
  have g : Tch (one KB) W ((W.setCell ⟨KB, i, none⟩ (.string d[j]!)).setCell ⟨KB, j, none⟩ (.string d[i]!)) := Tch.trans (S := one KB) (Tch.set (S := one KB) W KB i _ rfl) (Tch.set (S := one KB) _ KB j _ rfl)
  refine ⟨⟨by simpa using h.lt, h.ne, fun k hk => ?_, ?_, fun k hk => ?_, by obtain ⟨cur, hb⟩ := h.typ; exact ⟨_, (hb.set i _).set j _⟩⟩, g⟩
  · rw [Sort.size_swp] at hk
    rw [Sort.swp_get d hi hj]
    split
    · first | exact h.fit _ hj | exact h.fit _ hi
    · split
      · first | exact h.fit _ hi | exact h.fit _ hj
      · exact h.fit _ hk
  · rw [Sort.size_swp]
    exact tcell g (by show ¬ RX = KB; exact h.ne) h.var
  · rw [Sort.size_swp] at hk
    refine ⟨?_, by simp only [World.frozen?_setCell]; exact (h.rows k hk).2⟩
    by_cases c : k = j
    · subst c
      have := World.cell?_setCell_same' (W.setCell ⟨KB, i, none⟩ (.string d[k]!)) ⟨KB, k, none⟩ (.string d[i]!) (by
        by_cases e : k = i
        · subst e; rw [World.cell?_setCell_same _ _ _ (h.rows k hk).1]; rfl
        · rw [cs_other _ _ _ _ _ _ (.inr e), (h.rows k hk).1]; rfl)
      rw [this, Sort.swp_right d i k hj]
    · rw [cs_other _ _ _ _ _ _ (.inr c)]
      by_cases e : k = i
      · subst e
        rw [World.cell?_setCell_same _ _ _ (h.rows k hk).1, Sort.swp_left d k j hi c]
      · rw [cs_other _ _ _ _ _ _ (.inr e), (h.rows k hk).1, Sort.swp_other d i j k e c]

/-- What is asked of the function that exchanges. -/
def SwapC (sf : Nat) (sb : Array Value) (KB RX cap n : Nat) : Prop :=
  ∀ (W : World) (d : Array ByteArray) (i j : Nat), SoT W KB RX cap d → d.size = n → i < n → j < n →
    ∃ W', (callFunc sf (#[.int .i64 (i : Int), .int .i64 (j : Int)] ++ sb)).run Tryz.prog W = .ok (.value (.tuple #[])) W' ∧ SoT W' KB RX cap (Sort.swp d i j) ∧ Tch (one KB) W W'
/-- What is asked of the function that says what is less. -/
def LessC (KB RX cap n : Nat) : Prop :=
  ∀ (W : World) (d : Array ByteArray) (i j : Nat), SoT W KB RX cap d → d.size = n → i < n → j < n →
    Calls Tryz.prog 167 #[.int .i64 (i : Int), .int .i64 (j : Int), ptr RX] W fun e w' => e = .returned (.bool (ltK d[i]! d[j]!)) ∧ Below W.heap.size W w'
abbrev lesV (RX : Nat) : Value := .func (Fn.func 167) #[] #[ptr RX]
abbrev datV (RX sf : Nat) (sb : Array Value) : Value := .agg #[lesV RX, .func (Fn.func sf) #[] sb]
abbrev boxO (RX sf : Nat) (sb : Array Value) : Obj := .cells #[lesV RX, .func (Fn.func sf) #[] sb] 263

theorem less1_any (KB RX cap n : Nat) (hn : n ≤ 1099511627776) : LessC KB RX cap n := by
  intro W d i j hS hd hi hj
  subst hd
  have C := fun W => kless_any d[i]! d[j]! W (hS.fit i hi) (hS.fit j hj)
  have a1 := (hS.rows i hi).1
  have a2 := (hS.rows j hj).1
  have a3 := hS.var
  have i1 : (i : Int) < (d.size : Int) := by omega
  have j1 : (j : Int) < (d.size : Int) := by omega
  have i0 : (0 : Int) ≤ (i : Int) := by omega
  have j0 : (0 : Int) ≤ (j : Int) := by omega
  show Calls Tryz.prog 167 _ W fun e w' => e = .returned (.bool (ls (lb d[i]!) (lb d[j]!))) ∧ Below W.heap.size W w'
  generalize d[i]! = x at *
  generalize d[j]! = y at *
  clear hS
  generalize d.size = n at *
  go_enter Tryz.func167, Tryz.ntmps167
  go_wp2_with fail
  go_region_held3 (fun w' => w'.cell? ⟨RX, 0, none⟩ = some (.slice (some ⟨KB, 0, none⟩) n cap) ∧ w'.cell? ⟨KB, i, none⟩ = some (.string x) ∧ w'.cell? ⟨KB, j, none⟩ = some (.string y) ∧ Below W.heap.size W w')
    (first | with_reducible exact ⟨dcell a3, dcell a1, dcell a2, (Below.refl _ W).drew⟩ | with_reducible exact ⟨a3, a1, a2, kb⟩)
    (first | (go_at_call 110; refine (C _).mono ?_; rintro e w2 ⟨rfl, kb⟩; replace a3 := celln kb (dcell a3); replace a1 := celln kb (dcell a1); replace a2 := celln kb (dcell a2); replace kb := kbq (Below.refl _ W).drew kb))
  go_wp2
  go_ret
  exact ⟨rfl, kb⟩

/-! ### The library's Swapper, at texts -/
theorem infoStr : (Tryz.prog.info? Tstr).map (fun i => (i.size, i.hasPointers, i.bytes)) = some (1, true, 16) := by kernel_rfl
theorem infoStrs : (Tryz.prog.info? 85).map (fun i => i.desc) = some (.slice Tstr) := by kernel_rfl
theorem kindStr (w : World) : (Extern.Rtype.kind Tstr).run Tryz.prog w = .ok 24 w := by kernel_rfl
theorem aggStr (w : World) : (isAgg Tstr).run Tryz.prog w = .ok false w := by kernel_rfl
theorem info_str : ∃ ie, Tryz.prog.info? Tstr = some ie ∧ ie.size = 1 ∧ ie.hasPointers = true ∧ ie.bytes = 16 := by
  have h := infoStr
  cases e : Tryz.prog.info? Tstr with
  | none => rw [e] at h; cases h
  | some ie => rw [e] at h; simp at h; exact ⟨ie, rfl, h.1, h.2.1, h.2.2⟩
theorem info_strs : ∃ i, Tryz.prog.info? 85 = some i ∧ i.desc = .slice Tstr := by
  have h := infoStrs
  cases e : Tryz.prog.info? 85 with
  | none => rw [e] at h; cases h
  | some i => rw [e] at h; simp at h; exact ⟨i, rfl, h⟩
def swK (n : Nat) : Nat := if n = 0 then 225 else if n = 1 then 226 else 228
noncomputable def swB (KB cap n : Nat) : Array Value := if n ≤ 1 then #[] else #[.slice (some ⟨KB, 0, none⟩) n cap, typeHandle Tryz.prog Tstr]
theorem sw_enters (args : Array Value) (W : World) : (callFunc 228 args).run Tryz.prog W = ((Extern.ReflectliteSwapper.swap true args).run Tryz.prog W).andThen fun v w' => .ok (.value v) w' :=
  run_callFunc_extern Tryz.func228 (by kernel_rfl) (by kernel_rfl) (by kernel_rfl) (e := Extern.ReflectliteSwapper.swap true) (by kernel_rfl) args W
theorem swapC_any (KB RX cap n : Nat) (h2 : 2 ≤ n) : SwapC (swK n) (swB KB cap n) KB RX cap n := by
  intro W d i j hS hd hi hj
  obtain ⟨ie, hie, z1, z2, z3⟩ := info_str
  have e1 : swK n = 228 := by unfold swK; rw [if_neg (by omega), if_neg (by omega)]
  have e2 : swB KB cap n = #[.slice (some ⟨KB, 0, none⟩) n cap, typeHandle Tryz.prog Tstr] := by unfold swB; rw [if_neg (by omega)]
  obtain ⟨s1, s2⟩ := hS.swap i j (by omega) (by omega)
  refine ⟨_, ?_, s1, s2⟩
  rw [e1, e2, sw_enters]
  have R := Lib.run_swap_one (P := Tryz.prog) true Tstr ie hie z1 aggStr KB 0 n cap i j hi hj (.string d[i]!) (.string d[j]!) rfl rfl W
    (by rw [Nat.zero_add]; exact (hS.rows i (by omega)).1) (by rw [Nat.zero_add]; exact (hS.rows j (by omega)).1) (by rw [Nat.zero_add]; exact (hS.rows i (by omega)).2) (by rw [Nat.zero_add]; exact (hS.rows j (by omega)).2)
  rw [Nat.zero_add, Nat.zero_add] at R
  rw [show (#[Value.int .i64 (i : Int), .int .i64 (j : Int)] ++ #[.slice (some ⟨KB, 0, none⟩) n cap, typeHandle Tryz.prog Tstr] : Array Value) = #[.int .i64 i, .int .i64 j, .slice (some ⟨KB, 0, none⟩) n cap, typeHandle Tryz.prog Tstr] from rfl, R]
  rfl
theorem swk_is (ie : TypeInfo) (h : ie.hasPointers = true) (hb : ie.bytes = 16) (n : Nat) : Lib.swapperK n ie 24 = if n = 0 then 1 else if n = 1 then 2 else 4 := by
  unfold Lib.swapperK
  simp [h, hb]
theorem lit1 : Tryz.prog.funcs.findIdx? (·.name == "internal/reflectlite" ++ ".Swapper$" ++ toString 1) = some 225 := by kernel_rfl
theorem lit2 : Tryz.prog.funcs.findIdx? (·.name == "internal/reflectlite" ++ ".Swapper$" ++ toString 2) = some 226 := by kernel_rfl
theorem lit4 : Tryz.prog.funcs.findIdx? (·.name == "internal/reflectlite" ++ ".Swapper$" ++ toString 4) = some 228 := by kernel_rfl
/-- Where the row lies; none of a row that is nil. -/
abbrev rowA (KB n : Nat) : Option Addr := if n = 0 then none else some ⟨KB, 0, none⟩
theorem swapper_run (A : Option Addr) (KB cap n : Nat) (hA : 2 ≤ n → A = some ⟨KB, 0, none⟩) (w : World) : (Extern.ReflectliteSwapper.swapper "internal/reflectlite" (Extern.ReflectliteValue.valueError "Swapper") #[.iface 85 (.slice A n cap)]).run Tryz.prog w
      = .ok (.func (.func (swK n)) #[] (swB KB cap n)) w := by
  obtain ⟨ie, hie, z1, z2, z3⟩ := info_str
  obtain ⟨i, hi, hd⟩ := info_strs
  have hk := swk_is ie z2 z3 n
  have R := fun f hf => Lib.run_swapper_slice (P := Tryz.prog) 85 Tstr i ie hi hd hie 24 kindStr A n cap f hf w
  rw [hk] at R
  unfold swK swB
  by_cases h0 : n = 0
  · rw [if_pos h0] at R ⊢
    rw [R _ lit1, if_pos (by omega), if_pos (by omega)]
  · by_cases h1 : n = 1
    · rw [if_neg h0, if_pos h1] at R
      rw [if_neg h0, if_pos h1, R _ lit2, if_pos (by omega), if_pos (by omega)]
    · rw [if_neg h0, if_neg h1] at R
      rw [if_neg h0, if_neg h1, R _ lit4, if_neg (by omega), if_neg (by omega), hA (by omega)]
end Go.Proofs.YtbejkcdaefkibaaGreat.Wd
namespace Go.Proofs.YtbejkcdaefkibaaGreat.Wd
open Go Go.RowKit Go.Shelf Go.Deep
set_option linter.unusedVariables false
set_option maxRecDepth 100000
theorem ref_sub (a b : Int) (w : World) (ha : U a) (hb : U b) :
    Calls Tryz.prog 88 #[.int .u64 a, .int .u64 b] w fun e w' => e = .returned (.int .u64 (sbI a b)) ∧ w = w' := by
  unfold U at *
  by_cases c : a < b
  · have e : sbI a b = 0 := by simp [sbI, c]
    rw [e]; clear e
    go_enter Tryz.func88, Tryz.ntmps88
    go_wp2
    go_ret
    exact ⟨rfl, rfl⟩
  · have e : sbI a b = a - b := by simp [sbI, c]
    rw [e]; clear e
    go_enter Tryz.func88, Tryz.ntmps88
    go_wp2
    go_ret
    exact ⟨rfl, rfl⟩
theorem ref_add (a b : Int) (w : World) (ha : U a) (hb : U b) :
    Calls Tryz.prog 120 #[.int .u64 a, .int .u64 b] w fun e w' => e = .returned (.int .u64 (sat (a + b))) ∧ w = w' := by
  unfold U at *
  by_cases c : a + b ≤ 18446744073709551615
  · have e : sat (a + b) = a + b := by simp [sat, c]
    rw [e]; clear e
    go_enter Tryz.func120, Tryz.ntmps120
    go_wp2
    go_ret
    exact ⟨rfl, rfl⟩
  · have e : sat (a + b) = 18446744073709551615 := by simp [sat, c]
    rw [e]; clear e
    obtain ⟨t, ht⟩ : ∃ t, IntKind.u64.wrap (a + b) = t := ⟨_, rfl⟩
    have h : t < a := by rw [← ht, IntKind.wrap_u64]; omega
    clear c ha hb
    go_enter Tryz.func120, Tryz.ntmps120
    go_wp2
    go_ret
    exact ⟨rfl, rfl⟩
theorem ref_fits (a b c : Int) (w : World) (ha : U a) (hb : U b) (hc : U c) :
    Calls Tryz.prog 145 #[.int .u64 a, .int .u64 b, .int .u64 c] w fun e w' => e = .returned (.bool (ftB a b c)) ∧ w = w' := by
  unfold U at *
  by_cases x : a ≤ c
  · have e : ftB a b c = decide (b ≤ c - a) := by unfold ftB; rw [Bool.eq_iff_iff]; simp only [decide_eq_true_eq]; omega
    rw [e]; clear e
    go_enter Tryz.func145, Tryz.ntmps145
    go_wp2
    go_ret
    exact ⟨rfl, rfl⟩
  · have e : ftB a b c = false := by unfold ftB; simp; omega
    rw [e]; clear e
    have x1 : decide (a ≤ c) = false := by simpa using x
    clear x
    go_enter Tryz.func145, Tryz.ntmps145
    go_wp2
    go_ret
    exact ⟨rfl, rfl⟩
theorem lrof_any (now fill : Int) (w : World) :
    Calls Tryz.prog 129 #[.int .u64 now, .int .u64 fill] w fun e w' => e = .returned (sta 3 fill now) ∧ Kept w w' := by
  go_enter Tryz.func129, Tryz.ntmps129
  go_wp2
  exact bodyPost_ret (v := sta 3 fill now) (by simp [results, Tryz.results129, go_sem]) rfl ⟨rfl, (Kept.refl w).alloc _ _⟩
theorem lrfill_any (k a b now : Int) (w : World) (ha : U a) (hb : U b) (hn : U now) :
    Calls Tryz.prog 182 #[sta k a b, .int .u64 now] w fun e w' => e = .returned (.int .u64 (fiI a b now)) ∧ Kept w w' := by
  have h1 := sbI_U now b hn hb
  go_enter Tryz.func182, Tryz.ntmps182
  go_wp2
  go_quiet ((go_at_call 88; first | exact still_call (ref_sub _ _ _ hn hb) | exact still_call (ref_sub _ _ _ ha h1)))
  go_wp2
  go_ret
  exact ⟨rfl, ((Kept.refl w).alloc _ _).drewN _⟩
theorem lrdecide_no (k a b now cap v : Int) (w : World) (ha : U a) (hb : U b) (hn : U now) (hc : U cap) (hv : U v) (h : deB a b now cap v = false) :
    Calls Tryz.prog 148 #[sta k a b, .int .u64 now, .int .u64 cap, .int .u64 v] w fun e w' => e = .returned (.tuple #[sta k a b, .bool false]) ∧ Kept w w' := by
  have hf := fiI_U a b now ha hb hn
  have c1 (w : World) := lrfill_any k a b now w ha hb hn
  have c2 (w : World) := ref_fits (fiI a b now) v cap w hf hv hc
  unfold deB at h
  rw [h] at c2
  have C1 := Lib.hid c1
  have C2 := Lib.hid c2
  clear c1 c2 h
  generalize fiI a b now = f at *
  go_enter Tryz.func148, Tryz.ntmps148
  go_wp2_with (first
    | (go_at_call 182; ((with_reducible refine (C1.out _).mono ?_); rintro e w1 ⟨rfl, g1⟩; obtain ⟨hc1, hf1⟩ := g1.reads))
    | (go_at_call 145; ((with_reducible refine (C2.out _).mono ?_); rintro e w2 ⟨rfl, rfl⟩)))
  exact bodyPost_ret (v := .tuple #[sta k a b, .bool false]) (by simp [results, Tryz.results148, go_sem, hc1]) rfl
    ⟨rfl, ((((((Kept.refl w).alloc _ _).alloc _ _).trans g1).setCell (by simp) _).setCell (by simp) _).setCell (by simp) _⟩
theorem lrdecide_yes (k a b now cap v : Int) (w : World) (ha : U a) (hb : U b) (hn : U now) (hc : U cap) (hv : U v) (h : deB a b now cap v = true) :
    Calls Tryz.prog 148 #[sta k a b, .int .u64 now, .int .u64 cap, .int .u64 v] w fun e w' => e = .returned (.tuple #[sta 3 (fiI a b now + v) now, .bool true]) ∧ Kept w w' := by
  have hf := fiI_U a b now ha hb hn
  have c1 (w : World) := lrfill_any k a b now w ha hb hn
  have c2 (w : World) := ref_fits (fiI a b now) v cap w hf hv hc
  unfold deB at h
  rw [h] at c2
  have hs : U (fiI a b now + v) := by unfold ftB at h; simp at h; unfold U at *; omega
  have C1 := Lib.hid c1
  have C2 := Lib.hid c2
  clear c1 c2 h
  generalize fiI a b now = f at *
  unfold U at hf hv hs
  go_enter Tryz.func148, Tryz.ntmps148
  go_wp2_with (first
    | (go_at_call 182; ((with_reducible refine (C1.out _).mono ?_); rintro e w1 ⟨rfl, g1⟩; obtain ⟨hc1, hf1⟩ := g1.reads; have hz1 : w.heap.size + 1 < w1.heap.size := by (have := g1.size; simp at this; omega)))
    | (go_at_call 145; ((with_reducible refine (C2.out _).mono ?_); rintro e w2 ⟨rfl, rfl⟩))
    | (go_at_call 129; ((with_reducible refine (lrof_any _ _ _).mono ?_); rintro e w2 ⟨rfl, g2⟩; obtain ⟨hc2, hf2⟩ := g2.reads)))
  exact bodyPost_ret (v := .tuple #[sta 3 (f + v) now, .bool true]) (by simp [results, Tryz.results148, go_sem, hc1, hc2, hz1]) rfl
    ⟨rfl, (((((((Kept.refl w).alloc _ _).alloc _ _).trans g1).trans g2).setCell (by simp) _).setCell (by simp) _).setCell (by simp) _⟩
theorem lrdecide_any (k a b now cap v : Int) (w : World) (ha : U a) (hb : U b) (hn : U now) (hc : U cap) (hv : U v) :
    Calls Tryz.prog 148 #[sta k a b, .int .u64 now, .int .u64 cap, .int .u64 v] w fun e w' => e = .returned (.tuple #[sta (deK k a b now cap v) (deA a b now cap v) (deT a b now cap v), .bool (deB a b now cap v)]) ∧ Kept w w' := by
  unfold deK deA deT
  cases h : deB a b now cap v
  · exact lrdecide_no k a b now cap v w ha hb hn hc hv h
  · exact lrdecide_yes k a b now cap v w ha hb hn hc hv h
theorem brtok_core (k a b now cap x y n : Int) (w : World) (hm : (cap < y ∧ n = cap) ∨ (y < cap ∧ n = y) ∨ (cap = y ∧ n = cap))
    (C1 : Hid (∀ w, Calls Tryz.prog 88 #[.int .u64 now, .int .u64 b] w fun e w' => e = .returned (.int .u64 x) ∧ w = w'))
    (C2 : Hid (∀ w, Calls Tryz.prog 120 #[.int .u64 a, .int .u64 x] w fun e w' => e = .returned (.int .u64 y) ∧ w = w')) :
    Calls Tryz.prog 183 #[sta k a b, .int .u64 now, .int .u64 cap] w fun e w' => e = .returned (.int .u64 n) ∧ Kept w w' := by
  rcases hm with ⟨hl, rfl⟩ | ⟨hl, rfl⟩ | ⟨rfl, rfl⟩
  all_goals
    go_enter Tryz.func183, Tryz.ntmps183
    go_wp2
    go_quiet (first | (go_at_call 88; exact still_call (C1.out _)) | (go_at_call 120; exact still_call (C2.out _)))
    go_wp2
    go_ret
    exact ⟨congrArg (fun z => Ending.returned (Value.int IntKind.u64 z)) (by omega), ((Kept.refl w).alloc _ _).drewN _⟩
theorem brtok_any (k a b now cap : Int) (w : World) (ha : U a) (hb : U b) (hn : U now) (hc : U cap) :
    Calls Tryz.prog 183 #[sta k a b, .int .u64 now, .int .u64 cap] w fun e w' => e = .returned (.int .u64 (tkI a b now cap)) ∧ Kept w w' := by
  have h1 := sbI_U now b hn hb
  refine brtok_core k a b now cap (sbI now b) (sat (a + sbI now b)) (tkI a b now cap) w ?_ (Lib.hid fun w => ref_sub now b w hn hb) (Lib.hid fun w => ref_add a (sbI now b) w ha h1)
  unfold tkI sat U at *
  (repeat' split) <;> omega
theorem brof_any (now cap fill : Int) (w : World) (hc : U cap) (hf : U fill) :
    Calls Tryz.prog 128 #[.int .u64 now, .int .u64 cap, .int .u64 fill] w fun e w' => e = .returned (sta 2 (sbI cap fill) now) ∧ Kept w w' := by
  have C1 := Lib.hid (fun w => ref_sub cap fill w hc hf)
  generalize sbI cap fill = x at *
  go_enter Tryz.func128, Tryz.ntmps128
  go_wp2_with (go_at_call 88; ((with_reducible refine (C1.out _).mono ?_); rintro e w1 ⟨rfl, rfl⟩))
  exact bodyPost_ret (v := sta 2 x now) (by simp [results, Tryz.results128, go_sem]) rfl ⟨rfl, (Kept.refl w).alloc _ _⟩
theorem brfill_any (k a b now cap : Int) (w : World) (ha : U a) (hb : U b) (hn : U now) (hc : U cap) :
    Calls Tryz.prog 181 #[sta k a b, .int .u64 now, .int .u64 cap] w fun e w' => e = .returned (.int .u64 (biI a b now cap)) ∧ Kept w w' := by
  have h1 := tkI_U a b now cap ha hb hn hc
  have h2 := tkI_le a b now cap
  have C1 := Lib.hid (fun w => brtok_any k a b now cap w ha hb hn hc)
  unfold biI
  generalize tkI a b now cap = n at *
  unfold U at h1 hc
  go_enter Tryz.func181, Tryz.ntmps181
  go_wp2_with (go_at_call 183; ((with_reducible refine (C1.out _).mono ?_); rintro e w2 ⟨rfl, g2⟩))
  go_ret
  exact ⟨rfl, ((Kept.refl w).alloc _ _).trans g2⟩
theorem brdecide_no (k a b now cap v : Int) (w : World) (ha : U a) (hb : U b) (hn : U now) (hc : U cap) (hv : U v) (h : bdB a b now cap v = false) :
    Calls Tryz.prog 147 #[sta k a b, .int .u64 now, .int .u64 cap, .int .u64 v] w fun e w' => e = .returned (.tuple #[sta k a b, .bool false]) ∧ Kept w w' := by
  have C1 := Lib.hid (fun w => brtok_any k a b now cap w ha hb hn hc)
  have hlt : tkI a b now cap < v := by unfold bdB at h; simp at h; omega
  clear h
  generalize tkI a b now cap = n at *
  go_enter Tryz.func147, Tryz.ntmps147
  go_wp2_with (go_at_call 183; ((with_reducible refine (C1.out _).mono ?_); rintro e w2 ⟨rfl, g2⟩; obtain ⟨hc2, hf2⟩ := g2.reads; have hz2 : w.heap.size < w2.heap.size ∧ w.heap.size + 1 < w2.heap.size := by (have := g2.size; simp at this; omega)))
  exact bodyPost_ret (v := .tuple #[sta k a b, .bool false]) (by simp [results, Tryz.results147, go_sem, hc2]) rfl
    ⟨rfl, ((((((Kept.refl w).alloc _ _).alloc _ _).trans g2).setCell (by simp) _).setCell (by simp) _).setCell (by simp) _⟩
theorem brdecide_yes (k a b now cap v : Int) (w : World) (ha : U a) (hb : U b) (hn : U now) (hc : U cap) (hv : U v) (h : bdB a b now cap v = true) :
    Calls Tryz.prog 147 #[sta k a b, .int .u64 now, .int .u64 cap, .int .u64 v] w fun e w' => e = .returned (.tuple #[sta 2 (tkI a b now cap - v) now, .bool true]) ∧ Kept w w' := by
  have C1 := Lib.hid (fun w => brtok_any k a b now cap w ha hb hn hc)
  have hle : v ≤ tkI a b now cap := by unfold bdB at h; simp at h; omega
  have h1 := tkI_U a b now cap ha hb hn hc
  clear h
  generalize tkI a b now cap = n at *
  unfold U at hv h1
  go_enter Tryz.func147, Tryz.ntmps147
  go_wp2_with (go_at_call 183; ((with_reducible refine (C1.out _).mono ?_); rintro e w2 ⟨rfl, g2⟩; obtain ⟨hc2, hf2⟩ := g2.reads; have hz2 : w.heap.size < w2.heap.size ∧ w.heap.size + 1 < w2.heap.size := by (have := g2.size; simp at this; omega)))
  exact bodyPost_ret (v := .tuple #[sta 2 (n - v) now, .bool true]) (by simp [results, Tryz.results147, go_sem, hc2]) rfl
    ⟨rfl, ((((((Kept.refl w).alloc _ _).alloc _ _).trans g2).setCell (by simp) _).setCell (by simp) _).setCell (by simp) _⟩
theorem brdecide_any (k a b now cap v : Int) (w : World) (ha : U a) (hb : U b) (hn : U now) (hc : U cap) (hv : U v) :
    Calls Tryz.prog 147 #[sta k a b, .int .u64 now, .int .u64 cap, .int .u64 v] w fun e w' => e = .returned (.tuple #[sta (bdK k a b now cap v) (bdA a b now cap v) (bdT a b now cap v), .bool (bdB a b now cap v)]) ∧ Kept w w' := by
  unfold bdK bdA bdT
  cases h : bdB a b now cap v
  · exact brdecide_no k a b now cap v w ha hb hn hc hv h
  · exact brdecide_yes k a b now cap v w ha hb hn hc hv h
theorem grof_any (now fill : Int) (w : World) (hn : U now) (hf : U fill) :
    Calls Tryz.prog 127 #[.int .u64 now, .int .u64 fill] w fun e w' => e = .returned (sta 1 (sat (now + fill)) 0) ∧ Kept w w' := by
  have C1 := Lib.hid (fun w => ref_add now fill w hn hf)
  generalize sat (now + fill) = x at *
  go_enter Tryz.func127, Tryz.ntmps127
  go_wp2_with (go_at_call 120; ((with_reducible refine (C1.out _).mono ?_); rintro e w1 ⟨rfl, rfl⟩))
  exact bodyPost_ret (v := sta 1 x 0) (by simp [results, Tryz.results127, go_sem]) rfl ⟨rfl, (Kept.refl w).alloc _ _⟩
theorem grfill_any (k a b now : Int) (w : World) (ha : U a) (hn : U now) :
    Calls Tryz.prog 180 #[sta k a b, .int .u64 now] w fun e w' => e = .returned (.int .u64 (sbI a now)) ∧ Kept w w' := by
  have C1 := Lib.hid (fun w => ref_sub a now w ha hn)
  generalize sbI a now = x at *
  go_enter Tryz.func180, Tryz.ntmps180
  go_wp2_with (go_at_call 88; ((with_reducible refine (C1.out _).mono ?_); rintro e w1 ⟨rfl, rfl⟩))
  go_ret
  exact ⟨rfl, (Kept.refl w).alloc _ _⟩
theorem grdecide_no (k a b now cap v : Int) (w : World) (ha : U a) (hb : U b) (hn : U now) (hc : U cap) (hv : U v) (h : gdB a now cap v = false) :
    Calls Tryz.prog 146 #[sta k a b, .int .u64 now, .int .u64 cap, .int .u64 v] w fun e w' => e = .returned (.tuple #[sta k a b, .bool false]) ∧ Kept w w' := by
  have ut := thI_U a now ha hn
  have us := sbI_U a now ha hn
  have es := thI_sub a now
  have c2 (w : World) := ref_fits (sbI a now) v cap w us hv hc
  have c3 (w : World) := ref_add (thI a now) v w ut hv
  rw [show ftB (sbI a now) v cap = false from h, ← es] at c2
  have C2 := Lib.hid c2
  have C3 := Lib.hid c3
  rw [← es] at us
  have hm : max a now = thI a now := by unfold thI; rw [Int.max_def]; split <;> split <;> omega
  clear c2 c3 h es
  generalize thI a now = t at *
  unfold U at hn ut us
  go_enter Tryz.func146, Tryz.ntmps146
  go_wp2_with (first
    | (go_at_call 145; ((with_reducible refine (C2.out _).mono ?_); rintro e w2 ⟨rfl, rfl⟩))
    | (go_at_call 120; ((with_reducible refine (C3.out _).mono ?_); rintro e w3 ⟨rfl, rfl⟩)))
  exact bodyPost_ret (v := .tuple #[sta k a b, .bool false]) (by simp [results, Tryz.results146, go_sem]) rfl
    ⟨rfl, (((Kept.refl w).alloc _ _).alloc _ _)⟩
theorem grdecide_yes (k a b now cap v : Int) (w : World) (ha : U a) (hb : U b) (hn : U now) (hc : U cap) (hv : U v) (h : gdB a now cap v = true) :
    Calls Tryz.prog 146 #[sta k a b, .int .u64 now, .int .u64 cap, .int .u64 v] w fun e w' => e = .returned (.tuple #[sta 1 (sat (thI a now + v)) 0, .bool true]) ∧ Kept w w' := by
  have ut := thI_U a now ha hn
  have us := sbI_U a now ha hn
  have es := thI_sub a now
  have c2 (w : World) := ref_fits (sbI a now) v cap w us hv hc
  have c3 (w : World) := ref_add (thI a now) v w ut hv
  rw [show ftB (sbI a now) v cap = true from h, ← es] at c2
  have C2 := Lib.hid c2
  have C3 := Lib.hid c3
  rw [← es] at us
  have hm : max a now = thI a now := by unfold thI; rw [Int.max_def]; split <;> split <;> omega
  clear c2 c3 h es
  generalize thI a now = t at *
  generalize sat (t + v) = x at *
  unfold U at hn ut us
  go_enter Tryz.func146, Tryz.ntmps146
  go_wp2_with (first
    | (go_at_call 145; ((with_reducible refine (C2.out _).mono ?_); rintro e w2 ⟨rfl, rfl⟩))
    | (go_at_call 120; ((with_reducible refine (C3.out _).mono ?_); rintro e w3 ⟨rfl, rfl⟩)))
  exact bodyPost_ret (v := .tuple #[sta 1 x 0, .bool true]) (by simp [results, Tryz.results146, go_sem]) rfl
    ⟨rfl, (((Kept.refl w).alloc _ _).alloc _ _)⟩
theorem grdecide_any (k a b now cap v : Int) (w : World) (ha : U a) (hb : U b) (hn : U now) (hc : U cap) (hv : U v) :
    Calls Tryz.prog 146 #[sta k a b, .int .u64 now, .int .u64 cap, .int .u64 v] w fun e w' => e = .returned (.tuple #[sta (gdK k a now cap v) (gdA a now cap v) (gdT a b now cap v), .bool (gdB a now cap v)]) ∧ Kept w w' := by
  unfold gdK gdA gdT
  cases h : gdB a now cap v
  · exact grdecide_no k a b now cap v w ha hb hn hc hv h
  · exact grdecide_yes k a b now cap v w ha hb hn hc hv h
theorem Row3.lt {w : World} {B : Nat} {x y z : Value} (h : Row3 w B x y z) : B < w.heap.size := by
  by_cases hb : B < w.heap.size
  · exact hb
  · have c := h.1.1; simp [World.cell?, hb] at c
theorem row3_new (w : World) (t : TypeId) (x y z : Value) : Row3 (w.alloc (.cells #[x, y, z] t)) w.heap.size x y z := ⟨⟨by simp, by simp, by simp⟩, by simp, by simp, by simp⟩
theorem rright_any (k : Int) (w : World) :
    Calls Tryz.prog 126 #[.int .u8 k] w fun e w' => e = .returned (.bool (isK k)) ∧ w = w' := by
  unfold isK
  by_cases h : 1 ≤ k
  · by_cases h2 : k ≤ 3
    · have e : decide (1 ≤ k ∧ k ≤ 3) = true := by simp; omega
      rw [e]
      clear e
      go_enter Tryz.func126, Tryz.ntmps126
      go_wp2
      go_ret
      exact ⟨rfl, rfl⟩
    · have e : decide (1 ≤ k ∧ k ≤ 3) = false := by simp; omega
      rw [e]
      clear e
      have h3 : decide (k ≤ 3) = false := by simpa using h2
      clear h2
      go_enter Tryz.func126, Tryz.ntmps126
      go_wp2
      go_ret
      exact ⟨rfl, rfl⟩
  · have e : decide (1 ≤ k ∧ k ≤ 3) = false := by simp; omega
    rw [e]
    clear e
    have h3 : decide (1 ≤ k) = false := by simpa using h
    clear h
    go_enter Tryz.func126, Tryz.ntmps126
    go_wp2
    go_ret
    exact ⟨rfl, rfl⟩
theorem kind_cases (k : Int) : (k = 1 ∨ k = 2 ∨ k = 3) ∨ ((k == 1) = false ∧ (k == 2) = false ∧ (k == 3) = false) := by
  by_cases h1 : k = 1
  · exact .inl (.inl h1)
  by_cases h2 : k = 2
  · exact .inl (.inr (.inl h2))
  by_cases h3 : k = 3
  · exact .inl (.inr (.inr h3))
  right; simp [h1, h2, h3]
theorem krfill_any (k a b now cap : Int) (w : World) (ha : U a) (hb : U b) (hn : U now) (hc : U cap) :
    Calls Tryz.prog 143 #[sta k a b, .int .u64 now, .int .u64 cap] w fun e w' => e = .returned (.int .u64 (kfI k a b now cap)) ∧ Kept w w' := by
  rcases kind_cases k with (rfl | rfl | rfl) | ⟨n1, n2, n3⟩
  · have e : kfI 1 a b now cap = sbI a now := rfl
    rw [e]; clear e
    have C := Lib.hid (fun w => grfill_any 1 a b now w ha hn)
    generalize sbI a now = x at *
    go_enter Tryz.func143, Tryz.ntmps143
    go_wp2_with (go_at_call 180; ((with_reducible refine (C.out _).mono ?_); rintro e w1 ⟨rfl, g1⟩))
    go_ret
    exact ⟨rfl, ((Kept.refl w).alloc _ _).trans g1⟩
  · have e : kfI 2 a b now cap = biI a b now cap := rfl
    rw [e]; clear e
    have C := Lib.hid (fun w => brfill_any 2 a b now cap w ha hb hn hc)
    generalize biI a b now cap = x at *
    go_enter Tryz.func143, Tryz.ntmps143
    go_wp2_with (go_at_call 181; ((with_reducible refine (C.out _).mono ?_); rintro e w1 ⟨rfl, g1⟩))
    go_ret
    exact ⟨rfl, ((Kept.refl w).alloc _ _).trans g1⟩
  · have e : kfI 3 a b now cap = fiI a b now := rfl
    rw [e]; clear e
    have C := Lib.hid (fun w => lrfill_any 3 a b now w ha hb hn)
    generalize fiI a b now = x at *
    go_enter Tryz.func143, Tryz.ntmps143
    go_wp2_with (go_at_call 182; ((with_reducible refine (C.out _).mono ?_); rintro e w1 ⟨rfl, g1⟩))
    go_ret
    exact ⟨rfl, ((Kept.refl w).alloc _ _).trans g1⟩
  · have e : kfI k a b now cap = 0 := by simp at n1 n2 n3; unfold kfI; simp [n1, n2, n3]
    rw [e]; clear e
    go_enter Tryz.func143, Tryz.ntmps143
    go_wp2
    go_ret
    exact ⟨rfl, (Kept.refl w).alloc _ _⟩
theorem krof_any (k now cap f : Int) (w : World) (hn : U now) (hc : U cap) (hf : U f) :
    Calls Tryz.prog 73 #[.int .u8 k, .int .u64 now, .int .u64 cap, .int .u64 f] w fun e w' => e = .returned (.tuple #[sta (koK k) (koA k now cap f) (koB k now), .int .i64 (koE k)]) ∧ Kept w w' := by
  have t0 := row3_new w 90 (.int .u8 0) (.int .u64 0) (.int .u64 0)
  rcases kind_cases k with (rfl | rfl | rfl) | ⟨n1, n2, n3⟩
  · have C := Lib.hid (fun w => grof_any now f w hn hf)
    have e : koK 1 = 1 ∧ koA 1 now cap f = sat (now + f) ∧ koB 1 now = 0 ∧ koE 1 = 0 := ⟨rfl, rfl, rfl, rfl⟩
    rw [e.1, e.2.1, e.2.2.1, e.2.2.2]; clear e
    generalize sat (now + f) = x at *
    go_enter Tryz.func73, Tryz.ntmps73
    go_wp2_with (go_at_call 127; ((with_reducible refine (C.out _).mono ?_); rintro e w1 ⟨rfl, g1⟩; replace t0 := t0.kept g1; obtain ⟨⟨x0, x1, x2⟩, y0, y1, y2⟩ := t0))
    exact bodyPost_ret (v := .tuple #[sta 1 x 0, .int .i64 0]) (by simp [results, Tryz.results73, go_sem, *]) rfl ⟨rfl, (((Kept.refl w).alloc _ _).trans g1).set3 (Nat.le_refl _) _ _ _⟩
  · have C := Lib.hid (fun w => brof_any now cap f w hc hf)
    have e : koK 2 = 2 ∧ koA 2 now cap f = sbI cap f ∧ koB 2 now = now ∧ koE 2 = 0 := ⟨rfl, rfl, rfl, rfl⟩
    rw [e.1, e.2.1, e.2.2.1, e.2.2.2]; clear e
    generalize sbI cap f = x at *
    go_enter Tryz.func73, Tryz.ntmps73
    go_wp2_with (go_at_call 128; ((with_reducible refine (C.out _).mono ?_); rintro e w1 ⟨rfl, g1⟩; replace t0 := t0.kept g1; obtain ⟨⟨x0, x1, x2⟩, y0, y1, y2⟩ := t0))
    exact bodyPost_ret (v := .tuple #[sta 2 x now, .int .i64 0]) (by simp [results, Tryz.results73, go_sem, *]) rfl ⟨rfl, (((Kept.refl w).alloc _ _).trans g1).set3 (Nat.le_refl _) _ _ _⟩
  · have C := Lib.hid (fun w => lrof_any now f w)
    have e : koK 3 = 3 ∧ koA 3 now cap f = f ∧ koB 3 now = now ∧ koE 3 = 0 := ⟨rfl, rfl, rfl, rfl⟩
    rw [e.1, e.2.1, e.2.2.1, e.2.2.2]; clear e
    go_enter Tryz.func73, Tryz.ntmps73
    go_wp2_with (go_at_call 129; ((with_reducible refine (C.out _).mono ?_); rintro e w1 ⟨rfl, g1⟩; replace t0 := t0.kept g1; obtain ⟨⟨x0, x1, x2⟩, y0, y1, y2⟩ := t0))
    exact bodyPost_ret (v := .tuple #[sta 3 f now, .int .i64 0]) (by simp [results, Tryz.results73, go_sem, *]) rfl ⟨rfl, (((Kept.refl w).alloc _ _).trans g1).set3 (Nat.le_refl _) _ _ _⟩
  · have e : koK k = 0 ∧ koA k now cap f = 0 ∧ koB k now = 0 ∧ koE k = 27 := by
      have h : isK k = false := by simp at n1 n2 n3; unfold isK; simp; omega
      simp at n1 n2 n3
      unfold koK koA koB koE; simp [h, n1, n2, n3]
    rw [e.1, e.2.1, e.2.2.1, e.2.2.2]; clear e
    go_enter Tryz.func73, Tryz.ntmps73
    go_wp2
    exact bodyPost_ret (v := .tuple #[sta 0 0 0, .int .i64 27]) (by simp [results, Tryz.results73, go_sem]) rfl ⟨rfl, (Kept.refl w).alloc _ _⟩
theorem krdecide_core1 (a b now cap v dk da dt : Int) (pp : Bool) (w : World)
    (C : Hid (∀ w, Calls Tryz.prog 146 #[sta 1 a b, .int .u64 now, .int .u64 cap, .int .u64 v] w fun e w' => e = .returned (.tuple #[sta dk da dt, .bool pp]) ∧ Kept w w')) :
    Calls Tryz.prog 95 #[sta 1 a b, .int .u64 now, .int .u64 cap, .int .u64 v] w fun e w' => e = .returned (.tuple #[sta dk da dt, .bool pp]) ∧ Kept w w' := by
  have t1 := (row3_new (w.alloc (.cells #[.int .u8 1, .int .u64 a, .int .u64 b] 90)) 90 (.int .u8 0) (.int .u64 0) (.int .u64 0)).kept ((Kept.refl _).alloc #[.int .u8 1, .int .u64 a, .int .u64 b] 90)
  have t2 := row3_new ((w.alloc (.cells #[.int .u8 1, .int .u64 a, .int .u64 b] 90)).alloc (.cells #[.int .u8 0, .int .u64 0, .int .u64 0] 90)) 90 (.int .u8 1) (.int .u64 a) (.int .u64 b)
  rw [show (w.alloc (.cells #[.int .u8 1, .int .u64 a, .int .u64 b] 90)).heap.size = w.heap.size + 1 by simp] at t1
  rw [show ((w.alloc (.cells #[.int .u8 1, .int .u64 a, .int .u64 b] 90)).alloc (.cells #[.int .u8 0, .int .u64 0, .int .u64 0] 90)).heap.size = w.heap.size + 2 by simp] at t2
  go_enter Tryz.func95, Tryz.ntmps95
  go_wp2_with (go_at_call 146; ((with_reducible refine (C.out _).mono ?_); rintro e w1 ⟨rfl, g1⟩; replace t1 := t1.kept g1; replace t2 := t2.kept g1; obtain ⟨⟨x0, x1, x2⟩, y0, y1, y2⟩ := t1; obtain ⟨⟨p0, p1, p2⟩, q0, q1, q2⟩ := t2))
  exact bodyPost_ret (v := .tuple #[sta dk da dt, .bool pp]) (by simp [results, Tryz.results95, go_sem, *]) rfl
    ⟨rfl, ((((((Kept.refl w).alloc _ _).alloc _ _).alloc _ _).trans g1).set3 (by omega) _ _ _).set3 (by omega) _ _ _⟩
theorem krdecide_core2 (a b now cap v dk da dt : Int) (pp : Bool) (w : World)
    (C : Hid (∀ w, Calls Tryz.prog 147 #[sta 2 a b, .int .u64 now, .int .u64 cap, .int .u64 v] w fun e w' => e = .returned (.tuple #[sta dk da dt, .bool pp]) ∧ Kept w w')) :
    Calls Tryz.prog 95 #[sta 2 a b, .int .u64 now, .int .u64 cap, .int .u64 v] w fun e w' => e = .returned (.tuple #[sta dk da dt, .bool pp]) ∧ Kept w w' := by
  have t1 := (row3_new (w.alloc (.cells #[.int .u8 2, .int .u64 a, .int .u64 b] 90)) 90 (.int .u8 0) (.int .u64 0) (.int .u64 0)).kept ((Kept.refl _).alloc #[.int .u8 2, .int .u64 a, .int .u64 b] 90)
  have t2 := row3_new ((w.alloc (.cells #[.int .u8 2, .int .u64 a, .int .u64 b] 90)).alloc (.cells #[.int .u8 0, .int .u64 0, .int .u64 0] 90)) 90 (.int .u8 2) (.int .u64 a) (.int .u64 b)
  rw [show (w.alloc (.cells #[.int .u8 2, .int .u64 a, .int .u64 b] 90)).heap.size = w.heap.size + 1 by simp] at t1
  rw [show ((w.alloc (.cells #[.int .u8 2, .int .u64 a, .int .u64 b] 90)).alloc (.cells #[.int .u8 0, .int .u64 0, .int .u64 0] 90)).heap.size = w.heap.size + 2 by simp] at t2
  go_enter Tryz.func95, Tryz.ntmps95
  go_wp2_with (go_at_call 147; ((with_reducible refine (C.out _).mono ?_); rintro e w1 ⟨rfl, g1⟩; replace t1 := t1.kept g1; replace t2 := t2.kept g1; obtain ⟨⟨x0, x1, x2⟩, y0, y1, y2⟩ := t1; obtain ⟨⟨p0, p1, p2⟩, q0, q1, q2⟩ := t2))
  exact bodyPost_ret (v := .tuple #[sta dk da dt, .bool pp]) (by simp [results, Tryz.results95, go_sem, *]) rfl
    ⟨rfl, ((((((Kept.refl w).alloc _ _).alloc _ _).alloc _ _).trans g1).set3 (by omega) _ _ _).set3 (by omega) _ _ _⟩
theorem krdecide_core3 (a b now cap v dk da dt : Int) (pp : Bool) (w : World)
    (C : Hid (∀ w, Calls Tryz.prog 148 #[sta 3 a b, .int .u64 now, .int .u64 cap, .int .u64 v] w fun e w' => e = .returned (.tuple #[sta dk da dt, .bool pp]) ∧ Kept w w')) :
    Calls Tryz.prog 95 #[sta 3 a b, .int .u64 now, .int .u64 cap, .int .u64 v] w fun e w' => e = .returned (.tuple #[sta dk da dt, .bool pp]) ∧ Kept w w' := by
  have t1 := (row3_new (w.alloc (.cells #[.int .u8 3, .int .u64 a, .int .u64 b] 90)) 90 (.int .u8 0) (.int .u64 0) (.int .u64 0)).kept ((Kept.refl _).alloc #[.int .u8 3, .int .u64 a, .int .u64 b] 90)
  have t2 := row3_new ((w.alloc (.cells #[.int .u8 3, .int .u64 a, .int .u64 b] 90)).alloc (.cells #[.int .u8 0, .int .u64 0, .int .u64 0] 90)) 90 (.int .u8 3) (.int .u64 a) (.int .u64 b)
  rw [show (w.alloc (.cells #[.int .u8 3, .int .u64 a, .int .u64 b] 90)).heap.size = w.heap.size + 1 by simp] at t1
  rw [show ((w.alloc (.cells #[.int .u8 3, .int .u64 a, .int .u64 b] 90)).alloc (.cells #[.int .u8 0, .int .u64 0, .int .u64 0] 90)).heap.size = w.heap.size + 2 by simp] at t2
  go_enter Tryz.func95, Tryz.ntmps95
  go_wp2_with (go_at_call 148; ((with_reducible refine (C.out _).mono ?_); rintro e w1 ⟨rfl, g1⟩; replace t1 := t1.kept g1; replace t2 := t2.kept g1; obtain ⟨⟨x0, x1, x2⟩, y0, y1, y2⟩ := t1; obtain ⟨⟨p0, p1, p2⟩, q0, q1, q2⟩ := t2))
  exact bodyPost_ret (v := .tuple #[sta dk da dt, .bool pp]) (by simp [results, Tryz.results95, go_sem, *]) rfl
    ⟨rfl, ((((((Kept.refl w).alloc _ _).alloc _ _).alloc _ _).trans g1).set3 (by omega) _ _ _).set3 (by omega) _ _ _⟩
theorem krdecide_any (k a b now cap v : Int) (w : World) (ha : U a) (hb : U b) (hn : U now) (hc : U cap) (hv : U v) :
    Calls Tryz.prog 95 #[sta k a b, .int .u64 now, .int .u64 cap, .int .u64 v] w fun e w' => e = .returned (.tuple #[sta (kdK k a b now cap v) (kdA k a b now cap v) (kdT k a b now cap v), .bool (kdB k a b now cap v)]) ∧ Kept w w' := by
  rcases kind_cases k with (rfl | rfl | rfl) | ⟨n1, n2, n3⟩
  · exact krdecide_core1 a b now cap v _ _ _ _ w (Lib.hid fun w => grdecide_any 1 a b now cap v w ha hb hn hc hv)
  · exact krdecide_core2 a b now cap v _ _ _ _ w (Lib.hid fun w => brdecide_any 2 a b now cap v w ha hb hn hc hv)
  · exact krdecide_core3 a b now cap v _ _ _ _ w (Lib.hid fun w => lrdecide_any 3 a b now cap v w ha hb hn hc hv)
  · have e : kdK k a b now cap v = k ∧ kdA k a b now cap v = a ∧ kdT k a b now cap v = b ∧ kdB k a b now cap v = false := by
      simp at n1 n2 n3; unfold kdK kdA kdT kdB; simp [n1, n2, n3]
    rw [e.1, e.2.1, e.2.2.1, e.2.2.2]; clear e
    go_enter Tryz.func95, Tryz.ntmps95
    go_wp2
    exact bodyPost_ret (v := .tuple #[sta k a b, .bool false]) (by simp [results, Tryz.results95, go_sem]) rfl
      ⟨rfl, (((Kept.refl w).alloc _ _).alloc _ _).alloc _ _⟩
theorem kruntil_core (k a b now cap f : Int) (w : World) (hn : U now) (hf : U f)
    (F : Hid (∀ w, Calls Tryz.prog 143 #[sta k a b, .int .u64 now, .int .u64 cap] w fun e w' => e = .returned (.int .u64 f) ∧ Kept w w')) :
    Calls Tryz.prog 99 #[sta k a b, .int .u64 now, .int .u64 cap] w fun e w' => e = .returned (.int .u64 (kuI now f)) ∧ Kept w w' := by
  by_cases c : f = 0
  · subst c
    have e : kuI now 0 = 0 := rfl
    rw [e]; clear e
    go_enter Tryz.func99, Tryz.ntmps99
    go_wp2_with (go_at_call 143; ((with_reducible refine (F.out _).mono ?_); rintro e w1 ⟨rfl, g1⟩))
    go_ret
    exact ⟨rfl, ((Kept.refl w).alloc _ _).trans g1⟩
  · have e : kuI now f = sat (now + f) := by unfold kuI; rw [if_neg c]
    rw [e]; clear e
    have c1 : (f == 0) = false := by simpa using c
    have A := Lib.hid (fun (w : World) => ref_add now f w hn hf)
    generalize sat (now + f) = x at *
    go_enter Tryz.func99, Tryz.ntmps99
    go_wp2_with (first
      | (go_at_call 143; ((with_reducible refine (F.out _).mono ?_); rintro e w1 ⟨rfl, g1⟩))
      | (go_at_call 120; ((with_reducible refine (A.out _).mono ?_); rintro e w2 ⟨rfl, rfl⟩)))
    go_ret
    exact ⟨rfl, ((Kept.refl w).alloc _ _).trans g1⟩
theorem krleft_core (k a b now cap ev f s d : Int) (w : World)
    (F : Hid (∀ w, Calls Tryz.prog 143 #[sta k a b, .int .u64 now, .int .u64 cap] w fun e w' => e = .returned (.int .u64 f) ∧ Kept w w'))
    (S : Hid (∀ w, Calls Tryz.prog 88 #[.int .u64 cap, .int .u64 f] w fun e w' => e = .returned (.int .u64 s) ∧ w = w'))
    (D : Hid (∀ w, Calls Tryz.prog 184 #[.int .u64 s, .int .u64 ev] w fun e w' => e = .returned (.int .u64 d) ∧ w = w')) :
    Calls Tryz.prog 149 #[sta k a b, .int .u64 now, .int .u64 cap, .int .u64 ev] w fun e w' => e = .returned (.int .u64 d) ∧ Kept w w' := by
  go_enter Tryz.func149, Tryz.ntmps149
  go_wp2_with (first
    | (go_at_call 143; ((with_reducible refine (F.out _).mono ?_); rintro e w1 ⟨rfl, g1⟩))
    | (go_at_call 88; ((with_reducible refine (S.out _).mono ?_); rintro e w2 ⟨rfl, rfl⟩))
    | (go_at_call 184; ((with_reducible refine (D.out _).mono ?_); rintro e w3 ⟨rfl, rfl⟩)))
  go_ret
  exact ⟨rfl, ((Kept.refl w).alloc _ _).trans g1⟩
theorem krwait_core (k a b now cap v f : Int) (w : World) (hc : U cap) (hv : U v) (hf : U f)
    (F : Hid (∀ w, Calls Tryz.prog 143 #[sta k a b, .int .u64 now, .int .u64 cap] w fun e w' => e = .returned (.int .u64 f) ∧ Kept w w')) :
    Calls Tryz.prog 94 #[sta k a b, .int .u64 now, .int .u64 cap, .int .u64 v] w fun e w' => e = .returned (.tuple #[.int .u64 (kwI f cap v), .bool (kwB f cap v)]) ∧ Kept w w' := by
  have c2 (w : World) := ref_fits f v cap w hf hv hc
  by_cases h : cap < v
  · have e : kwB f cap v = false := by unfold kwB; simp; omega
    have e2 : kwI f cap v = 0 := by unfold kwI; rw [e]; rfl
    rw [e, e2]; clear e e2
    have C2 := Lib.hid c2
    clear c2
    go_enter Tryz.func94, Tryz.ntmps94
    go_wp2_with (first
      | (go_at_call 143; ((with_reducible refine (F.out _).mono ?_); rintro e w1 ⟨rfl, g1⟩))
      | (go_at_call 145; ((with_reducible refine (C2.out _).mono ?_); rintro e w2 ⟨rfl, rfl⟩)))
    go_ret2
    exact ⟨rfl, ((Kept.refl w).alloc _ _).trans g1⟩
  · by_cases h2 : f + v ≤ cap
    · have e : kwB f cap v = false := by unfold kwB; simp; omega
      have e2 : kwI f cap v = 0 := by unfold kwI; rw [e]; rfl
      have e3 : ftB f v cap = true := by unfold ftB; simpa using h2
      rw [e, e2]; clear e e2
      rw [e3] at c2
      have C2 := Lib.hid c2
      clear c2 e3
      go_enter Tryz.func94, Tryz.ntmps94
      go_wp2_with (first
        | (go_at_call 143; ((with_reducible refine (F.out _).mono ?_); rintro e w1 ⟨rfl, g1⟩))
        | (go_at_call 145; ((with_reducible refine (C2.out _).mono ?_); rintro e w2 ⟨rfl, rfl⟩)))
      go_ret2
      exact ⟨rfl, ((Kept.refl w).alloc _ _).trans g1⟩
    · have e : kwB f cap v = true := by unfold kwB; simp; omega
      have e2 : kwI f cap v = f - (cap - v) := by unfold kwI; rw [e]; simp; omega
      have e3 : ftB f v cap = false := by unfold ftB; simpa using h2
      rw [e, e2]; clear e e2
      rw [e3] at c2
      have C2 := Lib.hid c2
      clear c2 e3
      have b1 : 0 ≤ cap - v ∧ cap - v ≤ 18446744073709551615 := by unfold U at *; omega
      have b2 : 0 ≤ f - (cap - v) ∧ f - (cap - v) ≤ 18446744073709551615 := by unfold U at *; omega
      unfold U at hc hv hf
      go_enter Tryz.func94, Tryz.ntmps94
      go_wp2_with (first
        | (go_at_call 143; ((with_reducible refine (F.out _).mono ?_); rintro e w1 ⟨rfl, g1⟩))
        | (go_at_call 145; ((with_reducible refine (C2.out _).mono ?_); rintro e w2 ⟨rfl, rfl⟩)))
      go_ret2
      exact ⟨rfl, ((Kept.refl w).alloc _ _).trans g1⟩
theorem krmigrate_any (k a b tq now cap : Int) (w : World) (ha : U a) (hb : U b) (hn : U now) (hc : U cap) :
    Calls Tryz.prog 131 #[sta k a b, .int .u8 tq, .int .u64 now, .int .u64 cap] w fun e w' => e = .returned (.tuple #[sta (kmK k tq) (kmA k a b tq now cap) (kmB k tq now), .int .i64 (kmE k tq)]) ∧ Kept w w' := by
  have r1 (w : World) := rright_any tq w
  have r2 (w : World) := rright_any k w
  have s0 := (row3_new w 90 (.int .u8 k) (.int .u64 a) (.int .u64 b)).kept ((Kept.refl _).alloc #[.int .u8 0, .int .u64 0, .int .u64 0] 90)
  have t1 := row3_new (w.alloc (.cells #[.int .u8 k, .int .u64 a, .int .u64 b] 90)) 90 (.int .u8 0) (.int .u64 0) (.int .u64 0)
  rw [show (w.alloc (.cells #[.int .u8 k, .int .u64 a, .int .u64 b] 90)).heap.size = w.heap.size + 1 by simp] at t1
  have h27 (h : isK tq = false ∨ isK k = false) : kmK k tq = 0 ∧ kmA k a b tq now cap = 0 ∧ kmB k tq now = 0 ∧ kmE k tq = 27 := by
    rcases h with h | h
    · obtain ⟨n1, n2, n3⟩ := isK_no tq h
      unfold kmK kmA kmB kmE koK koA koB koE; simp [h, n1, n2, n3]
    · unfold kmK kmA kmB kmE; simp [h]
  cases h1 : isK tq
  · obtain ⟨e1, e2, e3, e4⟩ := h27 (.inl h1)
    rw [e1, e2, e3, e4]; clear e1 e2 e3 e4 h27
    rw [h1] at r1
    have R1 := Lib.hid r1
    have R2 := Lib.hid r2
    clear r1 r2
    go_enter Tryz.func131, Tryz.ntmps131
    go_wp2_with (go_at_call 126; ((with_reducible refine (R1.out _).mono ?_); rintro e w1 ⟨rfl, rfl⟩))
    exact bodyPost_ret (v := .tuple #[sta 0 0 0, .int .i64 27]) (by simp [results, Tryz.results131, go_sem]) rfl
      ⟨rfl, ((Kept.refl w).alloc _ _).alloc _ _⟩
  · cases h2 : isK k
    · obtain ⟨e1, e2, e3, e4⟩ := h27 (.inr h2)
      rw [e1, e2, e3, e4]; clear e1 e2 e3 e4 h27
      rw [h1] at r1
      rw [h2] at r2
      have R1 := Lib.hid r1
      have R2 := Lib.hid r2
      clear r1 r2
      go_enter Tryz.func131, Tryz.ntmps131
      go_wp2_with fail
      refine (R1.out _).mono ?_
      rintro e w1 ⟨rfl, rfl⟩
      go_wp2_with fail
      refine (R2.out _).mono ?_
      rintro e w1 ⟨rfl, rfl⟩
      go_wp2
      exact bodyPost_ret (v := .tuple #[sta 0 0 0, .int .i64 27]) (by simp [results, Tryz.results131, go_sem]) rfl
        ⟨rfl, ((Kept.refl w).alloc _ _).alloc _ _⟩
    · clear h27
      rw [h1] at r1
      rw [h2] at r2
      have R1 := Lib.hid r1
      have R2 := Lib.hid r2
      clear r1 r2
      unfold kmK kmA kmB kmE
      simp only [h2, if_true]
      have hf := kfI_U k a b now cap ha hb hn hc
      have F := Lib.hid (fun w => krfill_any k a b now cap w ha hb hn hc)
      generalize kfI k a b now cap = f at *
      have O := Lib.hid (fun w => krof_any tq now cap f w hn hc hf)
      generalize koK tq = ok at *
      generalize koA tq now cap f = oa at *
      generalize koB tq now = ob at *
      generalize koE tq = oe at *
      go_enter Tryz.func131, Tryz.ntmps131
      go_wp2_with fail
      refine (R1.out _).mono ?_
      rintro e w1 ⟨rfl, rfl⟩
      go_wp2_with fail
      refine (R2.out _).mono ?_
      rintro e w1 ⟨rfl, rfl⟩
      go_wp2_with (first
        | (go_at_call 143; ((with_reducible refine (F.out _).mono ?_); rintro e w2 ⟨rfl, g2⟩; replace t1 := t1.kept g2))
        | (go_at_call 73; ((with_reducible refine (O.out _).mono ?_); rintro e w3 ⟨rfl, g3⟩; replace t1 := t1.kept g3; obtain ⟨⟨x0, x1, x2⟩, y0, y1, y2⟩ := id t1; have hz := t1.lt)))
      refine bodyPost_ret (v := .tuple #[sta ok oa ob, .int .i64 oe]) (by simp [results, Tryz.results131, go_sem, *]) rfl
        ⟨rfl, ?_⟩
      exact (((((Kept.refl w).alloc _ _).alloc _ _).trans g2).trans g3 |>.set3 (by omega) _ _ _).alloc _ _
end Go.Proofs.YtbejkcdaefkibaaGreat.Wd
namespace Go.Proofs.YtbejkcdaefkibaaGreat.Wd
open Go Go.RowKit Go.Shelf Go.Deep
set_option linter.unusedVariables false
set_option maxRecDepth 100000
theorem muH_U (a b : Int) (ha : U a) (hb : U b) : U (muH a b) := by
  have h := mu_prod_le a b ha hb; unfold muH U; omega
theorem pow_pos (k : Nat) : (0 : Int) < 2 ^ k := Int.pow_pos (by omega)
theorem half_pow (b : Int) (k : Nat) : b / 2 ^ k = 2 * (b / 2 ^ (k + 1)) + b / 2 ^ k % 2 := by
  have e : b / 2 ^ (k + 1) = b / 2 ^ k / 2 := by
    rw [Int.pow_succ, ← Int.ediv_ediv_of_nonneg (Int.le_of_lt (pow_pos k))]
  rw [e]; omega
theorem div_pow_nonneg (b : Int) (k : Nat) (h : 0 ≤ b) : 0 ≤ b / 2 ^ k ∧ b / 2 ^ k ≤ b :=
  ⟨Int.ediv_nonneg h (Int.le_of_lt (pow_pos k)), Int.ediv_le_self _ h⟩
/-- The bits of b above the j lowest are done. -/
def MulAt (a b : Int) (j : Nat) (x y : Int) : Prop := x * 18446744073709551616 + y = a * (b / 2 ^ j) ∧ 0 ≤ x ∧ U y
theorem mulAt_zero (a b : Int) (hb : U b) : MulAt a b 64 0 0 := by
  unfold U at hb
  have e : b / 2 ^ 64 = 0 := by omega
  refine ⟨by rw [e]; omega, by omega, by unfold U; omega⟩
theorem mulAt_end (a b x y : Int) (h : MulAt a b 0 x y) : x = muH a b ∧ y = muL a b := by
  obtain ⟨e, x0, uy⟩ := h
  have e' : b / 2 ^ 0 = b := by omega
  rw [e'] at e
  unfold U at uy
  unfold muH muL
  rw [← e]; omega
theorem mulAt_step (a b : Int) (k : Nat) (x y : Int) (ha : U a) (hb : U b) (H : MulAt a b (k + 1) x y) :
    0 ≤ x ∧ U y ∧ U (2 * x + y / 9223372036854775808) ∧
    (b / 2 ^ k % 2 = 0 → MulAt a b k (2 * x + y / 9223372036854775808) (2 * y % 18446744073709551616)) ∧
    (b / 2 ^ k % 2 = 1 → MulAt a b k (2 * x + y / 9223372036854775808 + (2 * y % 18446744073709551616 + a) / 18446744073709551616) ((2 * y % 18446744073709551616 + a) % 18446744073709551616) ∧
      U (2 * x + y / 9223372036854775808 + (2 * y % 18446744073709551616 + a) / 18446744073709551616)) := by
  unfold MulAt at *
  obtain ⟨e, x0, uy⟩ := H
  have hp := half_pow b k
  have hn := div_pow_nonneg b k hb.1
  have hn2 := div_pow_nonneg b (k + 1) hb.1
  generalize b / 2 ^ (k + 1) = t at *
  generalize b / 2 ^ k = s at *
  have us : U s := by unfold U at *; omega
  have pr := mu_prod_le a s ha us
  unfold U at ha uy
  refine ⟨x0, by unfold U; omega, ?_, ?_, ?_⟩
  · have c : s % 2 = 0 ∨ s % 2 = 1 := by omega
    have es : a * s = 2 * (a * t) + a * (s % 2) := by
      have : a * s = a * (2 * t + s % 2) := by rw [← hp]
      rw [this, Int.mul_add, ← Int.mul_assoc, Int.mul_comm a 2, Int.mul_assoc]
    unfold U
    rcases c with c | c <;> rw [c] at es <;> omega
  · intro c
    have es : a * s = 2 * (a * t) := by
      have : s = 2 * t := by omega
      rw [this, ← Int.mul_assoc, Int.mul_comm a 2, Int.mul_assoc]
    refine ⟨?_, by omega, by unfold U; omega⟩
    rw [es]; omega
  · intro c
    have es : a * s = 2 * (a * t) + a := by
      have : s = 2 * t + 1 := by omega
      rw [this, Int.mul_add, ← Int.mul_assoc, Int.mul_comm a 2, Int.mul_assoc]; omega
    refine ⟨⟨?_, by omega, by unfold U; omega⟩, ?_⟩
    · rw [es]; omega
    · unfold U; omega
theorem rmul_any (a b : Int) (w : World) (ha : U a) (hb : U b) :
    Calls Tryz.prog 144 #[.int .u64 a, .int .u64 b] w fun e w' => e = .returned (.tuple #[.int .u64 (muH a b), .int .u64 (muL a b)]) ∧ w = w' := by
  have hz := mulAt_zero a b hb
  go_enter Tryz.func144, Tryz.ntmps144
  go_wp2
  go_loop [6, 7, 8] (fun x y i => ∃ (k : Nat) (x' y' : Int), k ≤ 64 ∧ i = .int .i64 ((k : Int) - 1) ∧ x = .int .u64 x' ∧ y = .int .u64 y' ∧ MulAt a b k x' y') (fun _ _ i => (intOf i + 1).toNat)
  case atStart => exact ⟨64, 0, 0, by omega, rfl, rfl, rfl, hz⟩
  case round =>
    obtain ⟨k, x', y', hk, rfl, rfl, rfl, hr⟩ := hrel
    clear hz
    obtain _ | k := k
    · obtain ⟨e1, e2⟩ := mulAt_end a b x' y' hr
      subst e1 e2
      clear hr
      have z : (((0 : Nat) : Int) - 1) = -1 := rfl
      rw [z]
      clear z
      go_wp2
      go_ret2
      exact ⟨rfl, rfl⟩
    · obtain ⟨x0, uy, ux, y0, y1⟩ := mulAt_step a b k x' y' ha hb hr
      clear hr
      have Y0 := Lib.hid y0
      have Y1 := Lib.hid y1
      clear y0 y1
      have e : (((k + 1 : Nat) : Int) - 1) = (k : Int) := by omega
      rw [e]
      clear e
      have hb0 := (div_pow_nonneg b k hb.1).1
      unfold U at ha uy ux
      go_wp2
      · rename_i g1 g2
        have g1' : b / 2 ^ k % 2 = 1 := by simpa using g1
        obtain ⟨m1, m2⟩ := Y1.out g1'
        unfold U at m2
        simp only [IntKind.wrap_u64] at g2 ⊢
        refine ⟨⟨k, _, _, by omega, rfl, ?_, ?_, m1⟩, by simp [intOf]⟩
        · exact congrArg (Value.int IntKind.u64) (by omega)
        · exact congrArg (Value.int IntKind.u64) (by omega)
      · rename_i g1 g2
        have g1' : b / 2 ^ k % 2 = 1 := by simpa using g1
        obtain ⟨m1, m2⟩ := Y1.out g1'
        unfold U at m2
        simp only [IntKind.wrap_u64] at g2 ⊢
        refine ⟨⟨k, _, _, by omega, rfl, ?_, ?_, m1⟩, by simp [intOf]⟩
        · exact congrArg (Value.int IntKind.u64) (by omega)
        · exact congrArg (Value.int IntKind.u64) (by omega)
      · rename_i g1
        have g1' : b / 2 ^ k % 2 = 0 := by have := beq_eq_false_iff_ne.mp g1; omega
        have m1 := Y0.out g1'
        simp only [IntKind.wrap_u64]
        refine ⟨⟨k, _, _, by omega, rfl, ?_, ?_, m1⟩, by simp [intOf]⟩
        · exact congrArg (Value.int IntKind.u64) (by omega)
        · exact congrArg (Value.int IntKind.u64) (by omega)
theorem ref_mul (a b : Int) (w : World) (ha : U a) (hb : U b) :
    Calls Tryz.prog 93 #[.int .u64 a, .int .u64 b] w fun e w' => e = .returned (.int .u64 (sat (a * b))) ∧ w = w' := by
  rw [← stop_mul a b ha hb]
  have hh := muH_U a b ha hb
  have m := rmul_any a b w ha hb
  by_cases c : muH a b = 0
  · have e : stopV (muH a b) (muL a b) = muL a b := by simp [stopV, c]
    rw [e]; clear e
    rw [c] at m
    generalize muL a b = l at *
    clear c hh
    go_enter Tryz.func93, Tryz.ntmps93
    go_wp2_with (go_at_call 144; ((with_reducible refine m.mono ?_); rintro e w' ⟨rfl, rfl⟩))
    go_ret
    exact ⟨rfl, rfl⟩
  · have e : stopV (muH a b) (muL a b) = 18446744073709551615 := by simp [stopV, c]
    rw [e]; clear e
    have h : 0 < muH a b := by unfold U at hh; omega
    generalize muL a b = l at *
    generalize muH a b = x at *
    clear c hh
    go_enter Tryz.func93, Tryz.ntmps93
    go_wp2_with (go_at_call 144; ((with_reducible refine m.mono ?_); rintro e w' ⟨rfl, rfl⟩))
    go_ret
    exact ⟨rfl, rfl⟩
theorem cm_le_left : ∀ x y, cm x y ≤ x.length
  | [], y => by rw [cm_nil_left]; exact Nat.zero_le _
  | a :: x, [] => by rw [cm_nil_right]; exact Nat.zero_le _
  | a :: x, b :: y => by rw [cm_cons]; have := cm_le_left x y; split <;> simp <;> omega
theorem cm_comm : ∀ x y, cm x y = cm y x
  | [], y => by rw [cm_nil_left, cm_nil_right]
  | a :: x, [] => by rw [cm_nil_left, cm_nil_right]
  | a :: x, b :: y => by
    rw [cm_cons, cm_cons, cm_comm x y]
    by_cases h : a = b
    · rw [if_pos h, if_pos h.symm]
    · rw [if_neg h, if_neg (fun e => h e.symm)]
theorem cm_le_right (x y : List UInt8) : cm x y ≤ y.length := by rw [cm_comm]; exact cm_le_left y x
theorem rkright_any (s : ByteArray) (w : World) (hs : s.size ≤ 9223372036854775807) :
    Calls Tryz.prog 87 #[.string s] w fun e w' => e = .returned (.bool (rtB (lb s))) ∧ w = w' := by
  by_cases h0 : s.size < 1
  · rw [rt_none s (.inl h0)]
    go_enter Tryz.func87, Tryz.ntmps87
    go_wp2
    go_ret
    exact ⟨rfl, rfl⟩
  · by_cases h1 : 128 < s.size
    · rw [rt_none s (.inr h1)]
      go_enter Tryz.func87, Tryz.ntmps87
      go_wp2
      go_ret
      exact ⟨rfl, rfl⟩
    · have Y := Lib.hid (rt_yes s (by omega) (by omega))
      have N := Lib.hid (rt_no s)
      generalize rtB (lb s) = r at *
      go_enter Tryz.func87, Tryz.ntmps87
      go_wp2
      go_loop [3] (fun i => ∃ k : Nat, i = .int .i64 k ∧ k ≤ s.size ∧ Hid (∀ j (hj : j < s.size), j < k → visB (s[j].toNat : Int) = true)) (fun i => s.size - (intOf i).toNat)
      case atStart => exact ⟨0, rfl, by omega, Lib.hid (fun j _ hj => absurd hj (by omega))⟩
      case round =>
        obtain ⟨k, rfl, hk, D⟩ := hrel
        by_cases hlt : k < s.size
        · by_cases c1 : (s[k].toNat : Int) < 33
          · have e := N.out k hlt (decide_eq_false (fun g => by omega))
            subst e
            go_wp2
            go_ret
            exact ⟨rfl, rfl⟩
          · by_cases c2 : (126 : Int) < (s[k].toNat : Int)
            · have e := N.out k hlt (decide_eq_false (fun g => by omega))
              subst e
              go_wp2
              go_ret
              exact ⟨rfl, rfl⟩
            · have hb : visB (s[k].toNat : Int) = true := decide_eq_true ⟨by omega, by omega⟩
              have HB := Lib.hid hb
              clear hb
              go_wp2
              go_round
              case rel =>
                refine ⟨k + 1, by go_num, by omega, Lib.hid (fun j hj hjk => ?_)⟩
                by_cases e : j = k
                · subst e; exact HB.out
                · exact D.out j hj (by omega)
              case measure => simp [intOf]; omega
        · obtain rfl : k = s.size := by omega
          have e := Y.out (fun j hj => D.out j hj hj)
          subst e
          go_wp2
          go_ret
          exact ⟨rfl, rfl⟩
theorem cm_at (a b : ByteArray) (k : Nat) (h1 : k ≤ a.size) (h2 : k ≤ b.size) (h : ∀ j (ha : j < a.size) (hb : j < b.size), j < k → a[j] = b[j]) (hn : ∀ (ha : k < a.size) (hb : k < b.size), a[k] ≠ b[k]) : cm (lb a) (lb b) = k := by
  refine cm_is k _ _ (by rw [list_size]; exact h1) (by rw [list_size]; exact h2) ?_ (fun g1 g2 => ?_)
  · refine List.ext_getElem (by simp; omega) (fun i i1 i2 => ?_)
    simp at i1 i2
    rw [List.getElem_take, List.getElem_take, list_at a i (by omega), list_at b i (by omega)]
    exact h i _ _ (by omega)
  · rw [list_size] at g1 g2
    rw [list_at a k g1, list_at b k g2]
    exact hn g1 g2
set_option maxHeartbeats 1000000 in
theorem rcommon_any (a b : ByteArray) (w : World) (ha : a.size ≤ 9223372036854775807) (hb : b.size ≤ 9223372036854775807) :
    Calls Tryz.prog 84 #[.string a, .string b] w fun e w' => e = .returned (.int .i64 (cm (lb a) (lb b) : Int)) ∧ Drew w w' := by
  have E := Lib.hid (cm_at a b)
  generalize cm (lb a) (lb b) = m at *
  go_enter Tryz.func84, Tryz.ntmps84
  go_wp2
  go_loopw [5] (fun i wr => ∃ k : Nat, i = .int .i64 (k : Int) ∧ k ≤ a.size ∧ k ≤ b.size ∧ Hid (∀ j (ha : j < a.size) (hb : j < b.size), j < k → a[j] = b[j]) ∧ Drew w wr) (fun i _ => a.size - (intOf i).toNat)
  case atStart => exact ⟨0, rfl, Nat.zero_le _, Nat.zero_le _, Lib.hid (fun j _ _ hj => absurd hj (by omega)), Drew.refl _⟩
  case round =>
    obtain ⟨k, rfl, h1, h2, D, hd⟩ := hrel
    by_cases c1 : k < a.size
    · have d1 : decide ((k : Int) < (a.size : Int)) = true := decide_eq_true (by omega)
      by_cases c2 : k < b.size
      · have d2 : decide ((k : Int) < (b.size : Int)) = true := decide_eq_true (by omega)
        by_cases c3 : a[k] = b[k]
        · have d3 : ((a[k].toNat : Int) == (b[k].toNat : Int)) = true := by rw [c3]; simp
          have C3 := Lib.hid c3
          clear c3
          go_wp2
          go_quiet (fail)
          go_wp2
          go_roundw
          case rel =>
            refine ⟨k + 1, by go_num, by omega, by omega, Lib.hid (fun j g1 g2 hj => ?_), hd.trans ⟨_, rfl⟩⟩
            by_cases e : j = k
            · subst e; exact C3.out
            · exact D.out j g1 g2 (by omega)
          case measure => simp [intOf]; omega
        · have d3 := u8_ne c3
          have e := E.out k h1 h2 D.out (fun _ _ => c3)
          subst e
          clear c3
          go_wp2
          go_quiet (fail)
          go_wp2
          go_ret
          exact ⟨rfl, hd.trans ⟨_, rfl⟩⟩
      · have d2 : decide ((k : Int) < (b.size : Int)) = false := decide_eq_false (by omega)
        have e := E.out k h1 h2 D.out (fun _ g => absurd g c2)
        subst e
        go_wp2
        go_quiet (fail)
        go_wp2
        go_ret
        exact ⟨rfl, hd.trans ⟨_, rfl⟩⟩
    · have d1 : decide ((k : Int) < (a.size : Int)) = false := decide_eq_false (by omega)
      have e := E.out k h1 h2 D.out (fun g _ => absurd g c1)
      subst e
      go_wp2
      go_quiet (fail)
      go_wp2
      go_ret
      exact ⟨rfl, hd.trans ⟨_, rfl⟩⟩
theorem ls_at (a b : ByteArray) (k : Nat) (hk : cm (lb a) (lb b) = k) (h1 : k < a.size) (h2 : k < b.size) : ls (lb a) (lb b) = decide (a[k].toNat < b[k].toNat) := by
  subst hk
  rw [ls_cm, dif_pos ⟨by rw [list_size]; exact h1, by rw [list_size]; exact h2⟩, list_at a _ h1, list_at b _ h2, u8_lt]
theorem ls_end (a b : ByteArray) (k : Nat) (hk : cm (lb a) (lb b) = k) (h : k = a.size ∨ k = b.size) : ls (lb a) (lb b) = decide (a.size < b.size) := by
  rw [ls_cm, dif_neg (by rw [list_size, list_size]; omega), list_size, list_size]
theorem rless_any (a b : ByteArray) (w : World) (ha : a.size ≤ 9223372036854775807) (hb : b.size ≤ 9223372036854775807) :
    Calls Tryz.prog 46 #[.string a, .string b] w fun e w' => e = .returned (.bool (ls (lb a) (lb b))) ∧ Drew w w' := by
  have c := fun W => rcommon_any a b W ha hb
  have le1 := cm_le_left (lb a) (lb b)
  have le2 := cm_le_right (lb a) (lb b)
  rw [list_size] at le1 le2
  obtain ⟨k, hk⟩ : ∃ k, cm (lb a) (lb b) = k := ⟨_, rfl⟩
  have E1 := ls_at a b k hk
  have E2 := ls_end a b k hk
  rw [hk] at c le1 le2
  generalize ls (lb a) (lb b) = r at *
  clear hk
  by_cases h1 : k = a.size
  · have d1 : ((k : Int) == (a.size : Int)) = true := by rw [h1]; simp
    have e := E2 (.inl h1)
    subst e
    clear E1 E2 h1
    go_enter Tryz.func46, Tryz.ntmps46
    go_wp2_with (go_at_call 84; refine (c _).mono ?_; rintro e w1 ⟨rfl, g⟩)
    go_ret
    exact ⟨rfl, g⟩
  · have d1 : ((k : Int) == (a.size : Int)) = false := beq_eq_false_iff_ne.2 (by omega)
    by_cases h2 : k = b.size
    · have d2 : ((k : Int) == (b.size : Int)) = true := by rw [h2]; simp
      have e := E2 (.inr h2)
      subst e
      clear E1 E2 h1 h2
      go_enter Tryz.func46, Tryz.ntmps46
      go_wp2_with (go_at_call 84; refine (c _).mono ?_; rintro e w1 ⟨rfl, g⟩)
      go_ret
      exact ⟨rfl, g⟩
    · have d2 : ((k : Int) == (b.size : Int)) = false := beq_eq_false_iff_ne.2 (by omega)
      have k1 : k < a.size := by omega
      have k2 : k < b.size := by omega
      have e := E1 k1 k2
      subst e
      clear E1 E2 h1 h2
      go_enter Tryz.func46, Tryz.ntmps46
      go_wp2_with (go_at_call 84; refine (c _).mono ?_; rintro e w1 ⟨rfl, g⟩)
      go_quiet (fail)
      go_wp2
      go_ret
      exact ⟨rfl, g.trans ⟨_, rfl⟩⟩
theorem refKright_any (k : Int) (w : World) (hk : 0 ≤ k ∧ k ≤ 255) :
    Calls Tryz.prog 126 #[.int .u8 k] w fun r w' => r = .returned (.bool (isK k)) ∧ w = w' := by
  unfold isK
  by_cases h1 : 1 ≤ k
  · by_cases h2 : k ≤ 3
    · rw [decide_eq_true ⟨h1, h2⟩]
      go_enter Tryz.func126, Tryz.ntmps126
      go_wp2
      go_ret
      exact ⟨rfl, rfl⟩
    · rw [decide_eq_false (fun g => h2 g.2)]
      go_enter Tryz.func126, Tryz.ntmps126
      go_wp2
      go_ret
      exact ⟨rfl, rfl⟩
  · rw [decide_eq_false (fun g => h1 g.1)]
    go_enter Tryz.func126, Tryz.ntmps126
    go_wp2
    go_ret
    exact ⟨rfl, rfl⟩
theorem refRight_any (p : ByteArray) (e b k : Int) (w : World) (hs : p.size ≤ 9223372036854775807) (he : U e) (hb : U b) (hk : 0 ≤ k ∧ k ≤ 255) :
    Calls Tryz.prog 90 #[rul p e b k] w fun r w' => r = .returned (.int .i64 (ruE p e b k)) ∧ Kept w w' := by
  have RR := fun W => rkright_any p W hs
  have MM := fun W => ref_mul e b W he hb
  have KK := fun W => refKright_any k W hk
  have P : (p.toList.isEmpty = true ∧ pfB p = true) ∨ (p.toList.isEmpty = false ∧ pfB p = rtB (lb p)) := by
    by_cases h : p.size = 0
    · exact .inl ⟨toList_none p h, by unfold pfB; rw [decide_eq_true h]; rfl⟩
    · exact .inr ⟨toList_ne p (by omega), by unfold pfB; rw [decide_eq_false h]; rfl⟩
  rw [ru_is]
  have he0 := he.1
  have hb0 := hb.1
  clear he hb hs
  generalize rtB (lb p) = t at *
  generalize sat (e * b) = s at *
  generalize isK k = q at *
  rcases P with ⟨hz, hp⟩ | ⟨hz, hp⟩
  all_goals
    rw [hp]
    clear hp
  · rw [if_neg (by decide)]
    by_cases h1 : e = 0
    · rw [if_pos (by omega)]
      subst h1
      go_enter Tryz.func90, Tryz.ntmps90
      go_wp2
      go_ret
      exact ⟨rfl, (Kept.refl w).alloc _ _⟩
    have e1 : (e == 0) = false := by simpa using h1
    rw [if_neg (by omega)]
    by_cases h2 : b = 0
    · rw [if_pos (by omega)]
      subst h2
      clear h1
      go_enter Tryz.func90, Tryz.ntmps90
      go_wp2
      go_ret
      exact ⟨rfl, (Kept.refl w).alloc _ _⟩
    have e2 : (b == 0) = false := by simpa using h2
    rw [if_neg (by omega)]
    clear h1 h2
    by_cases h3 : s ≤ 4611686018427387904
    · rw [if_neg (by omega)]
      cases q
      all_goals
        go_enter Tryz.func90, Tryz.ntmps90
        go_wp2_with (first
          | (go_at_call 93; refine (MM _).mono ?_; rintro r w1 ⟨rfl, rfl⟩)
          | (go_at_call 126; refine (KK _).mono ?_; rintro r w1 ⟨rfl, rfl⟩))
        go_ret
        exact ⟨rfl, (Kept.refl w).alloc _ _⟩
    · rw [if_pos h3]
      go_enter Tryz.func90, Tryz.ntmps90
      go_wp2_with (go_at_call 93; refine (MM _).mono ?_; rintro r w1 ⟨rfl, rfl⟩)
      go_ret
      exact ⟨rfl, (Kept.refl w).alloc _ _⟩
  · cases t
    · rw [if_pos rfl]
      go_enter Tryz.func90, Tryz.ntmps90
      go_wp2_with (go_at_call 87; refine (RR _).mono ?_; rintro r w1 ⟨rfl, rfl⟩)
      go_ret
      exact ⟨rfl, (Kept.refl w).alloc _ _⟩
    rw [if_neg (by decide)]
    by_cases h1 : e = 0
    · rw [if_pos (by omega)]
      subst h1
      go_enter Tryz.func90, Tryz.ntmps90
      go_wp2_with (go_at_call 87; refine (RR _).mono ?_; rintro r w1 ⟨rfl, rfl⟩)
      go_ret
      exact ⟨rfl, (Kept.refl w).alloc _ _⟩
    have e1 : (e == 0) = false := by simpa using h1
    rw [if_neg (by omega)]
    by_cases h2 : b = 0
    · rw [if_pos (by omega)]
      subst h2
      clear h1
      go_enter Tryz.func90, Tryz.ntmps90
      go_wp2_with (go_at_call 87; refine (RR _).mono ?_; rintro r w1 ⟨rfl, rfl⟩)
      go_ret
      exact ⟨rfl, (Kept.refl w).alloc _ _⟩
    have e2 : (b == 0) = false := by simpa using h2
    rw [if_neg (by omega)]
    clear h1 h2
    by_cases h3 : s ≤ 4611686018427387904
    · rw [if_neg (by omega)]
      cases q
      all_goals
        go_enter Tryz.func90, Tryz.ntmps90
        go_wp2_with (first
          | (go_at_call 87; refine (RR _).mono ?_; rintro r w1 ⟨rfl, rfl⟩)
          | (go_at_call 93; refine (MM _).mono ?_; rintro r w1 ⟨rfl, rfl⟩)
          | (go_at_call 126; refine (KK _).mono ?_; rintro r w1 ⟨rfl, rfl⟩))
        go_ret
        exact ⟨rfl, (Kept.refl w).alloc _ _⟩
    · rw [if_pos h3]
      go_enter Tryz.func90, Tryz.ntmps90
      go_wp2_with (first
        | (go_at_call 87; refine (RR _).mono ?_; rintro r w1 ⟨rfl, rfl⟩)
        | (go_at_call 93; refine (MM _).mono ?_; rintro r w1 ⟨rfl, rfl⟩))
      go_ret
      exact ⟨rfl, (Kept.refl w).alloc _ _⟩
theorem refCap_any (p : ByteArray) (e b k : Int) (w : World) (hs : p.size ≤ 9223372036854775807) (he : U e) (hb : U b) (hk : 0 ≤ k ∧ k ≤ 255) :
    Calls Tryz.prog 72 #[rul p e b k] w fun r w' => r = .returned (.int .u64 (caI p e b k)) ∧ Kept w w' := by
  have RA := fun W => refRight_any p e b k W hs he hb hk
  by_cases h : ruE p e b k = 0
  · obtain ⟨f1, f2, f3⟩ := ru_fit p e b k he hb h
    have e0 : caI p e b k = e * b := by unfold caI; rw [if_pos h, f1]
    have hw : IntKind.u64.wrap (e * b) = e * b := by rw [IntKind.wrap_u64]; omega
    rw [e0]
    rw [h] at RA
    clear e0 h f1
    go_enter Tryz.func72, Tryz.ntmps72
    go_wp2_with (go_at_call 90; refine (RA _).mono ?_; rintro r w1 ⟨rfl, k1⟩; have g0 : w1.cell? ⟨w.heap.size, 0, none⟩ = some (.string p) := k1.cell (by simp); have g1 : w1.cell? ⟨w.heap.size, 1, none⟩ = some (.int .u64 e) := k1.cell (by simp); have g2 : w1.cell? ⟨w.heap.size, 2, none⟩ = some (.int .u64 b) := k1.cell (by simp))
    go_ret
    exact ⟨rfl, ((Kept.refl w).alloc _ _).trans k1⟩
  · have e0 : caI p e b k = 0 := by unfold caI; rw [if_neg h]
    rw [e0]
    have c1 : (ruE p e b k != 0) = true := by simpa using h
    have c2 : (ruE p e b k == 0) = false := by simpa using h
    generalize ruE p e b k = R at *
    clear e0 h
    go_enter Tryz.func72, Tryz.ntmps72
    go_wp2_with (go_at_call 90; refine (RA _).mono ?_; rintro r w1 ⟨rfl, k1⟩)
    go_ret
    exact ⟨rfl, ((Kept.refl w).alloc _ _).trans k1⟩
theorem ref_ceil (a b : Int) (w : World) (ha : U a) (hb : U b) :
    Calls Tryz.prog 98 #[.int .u64 a, .int .u64 b] w fun e w' => e = .returned (.int .u64 (clI a b)) ∧ w = w' := by
  by_cases c : b = 0
  · subst c
    have e : clI a 0 = 18446744073709551615 := by simp [clI]
    rw [e]; clear e
    go_enter Tryz.func98, Tryz.ntmps98
    go_wp2
    go_ret
    exact ⟨rfl, rfl⟩
  · have c1 : (b == 0) = false := by simpa using c
    have d := div_le_of a b ha hb
    have h2 := Int.emod_nonneg a c
    by_cases r : a % b = 0
    · have e : clI a b = a / b := by simp [clI, c, r]
      rw [e]; clear e
      have r2 : decide (0 < a % b) = false := by simp; omega
      clear r h2
      unfold U at *
      go_enter Tryz.func98, Tryz.ntmps98
      go_wp2
      go_ret
      exact ⟨rfl, rfl⟩
    · have e : clI a b = a / b + 1 := by simp [clI, c, r]
      rw [e]; clear e
      have r2 : 0 < a % b := by omega
      have d2 : a / b + 1 ≤ 18446744073709551615 := by
        have h1 := Int.mul_ediv_add_emod a b
        unfold U at *
        have h3 : 1 * (a / b) ≤ b * (a / b) := Int.mul_le_mul_of_nonneg_right (by omega) d.1
        omega
      clear r h2
      unfold U at *
      go_enter Tryz.func98, Tryz.ntmps98
      go_wp2
      go_ret
      exact ⟨rfl, rfl⟩
end Go.Proofs.YtbejkcdaefkibaaGreat.Wd
namespace Go.Proofs.YtbejkcdaefkibaaGreat.Wd
open Go Go.RowKit Go.Shelf Go.Deep
set_option linter.unusedVariables false
set_option maxRecDepth 100000
theorem ref_div (a b : Int) (w : World) (ha : U a) (hb : U b) :
    Calls Tryz.prog 184 #[.int .u64 a, .int .u64 b] w fun e w' => e = .returned (.int .u64 (dvI a b)) ∧ w = w' := by
  by_cases c : b = 0
  · subst c
    have e : dvI a 0 = 18446744073709551615 := by simp [dvI]
    rw [e]; clear e
    go_enter Tryz.func184, Tryz.ntmps184
    go_wp2
    go_ret
    exact ⟨rfl, rfl⟩
  · have e : dvI a b = a / b := by simp [dvI, c]
    rw [e]; clear e
    have c1 : (b == 0) = false := by simpa using c
    have d := div_le_of a b ha hb
    unfold U at *
    go_enter Tryz.func184, Tryz.ntmps184
    go_wp2
    go_ret
    exact ⟨rfl, rfl⟩
theorem krleft_any (k a b now cap ev : Int) (w : World) (ha : U a) (hb : U b) (hn : U now) (hc : U cap) (he : U ev) :
    Calls Tryz.prog 149 #[sta k a b, .int .u64 now, .int .u64 cap, .int .u64 ev] w fun e w' => e = .returned (.int .u64 (dvI (sbI cap (kfI k a b now cap)) ev)) ∧ Kept w w' :=
  have hf := kfI_U k a b now cap ha hb hn hc
  krleft_core k a b now cap ev _ _ _ w (Lib.hid fun w => krfill_any k a b now cap w ha hb hn hc) (Lib.hid fun w => ref_sub cap (kfI k a b now cap) w hc hf) (Lib.hid fun w => ref_div _ ev w (sbI_U cap _ hc hf) he)
theorem krwait_any (k a b now cap v : Int) (w : World) (ha : U a) (hb : U b) (hn : U now) (hc : U cap) (hv : U v) :
    Calls Tryz.prog 94 #[sta k a b, .int .u64 now, .int .u64 cap, .int .u64 v] w fun e w' => e = .returned (.tuple #[.int .u64 (kwI (kfI k a b now cap) cap v), .bool (kwB (kfI k a b now cap) cap v)]) ∧ Kept w w' :=
  krwait_core k a b now cap v _ w hc hv (kfI_U k a b now cap ha hb hn hc) (Lib.hid fun w => krfill_any k a b now cap w ha hb hn hc)
theorem kruntil_any (k a b now cap : Int) (w : World) (ha : U a) (hb : U b) (hn : U now) (hc : U cap) :
    Calls Tryz.prog 99 #[sta k a b, .int .u64 now, .int .u64 cap] w fun e w' => e = .returned (.int .u64 (kuI now (kfI k a b now cap))) ∧ Kept w w' :=
  kruntil_core k a b now cap _ w hn (kfI_U k a b now cap ha hb hn hc) (Lib.hid fun w => krfill_any k a b now cap w ha hb hn hc)
end Go.Proofs.YtbejkcdaefkibaaGreat.Wd
namespace Go.Proofs.YtbejkcdaefkibaaGreat.Wd
open Go Go.RowKit Go.Deep Go.Shelf
set_option linter.unusedVariables false
set_option maxRecDepth 100000

/-- A table whose map lies in block M. -/
def Tbm (w : World) (T M : Nat) (B : Nat → Prop) (m c : Int) (S : List Sl) : Prop := ∃ F bs, TabM w T M B m c F bs ∧ ((bs.map F).map Prod.fst).Perm S ∧ (∀ x ∈ bs.map F, DueOk c x) ∧ Wf m c S
theorem Tbl.tbm {w : World} {T : Nat} {B : Nat → Prop} {m c : Int} {S : List Sl} (h : Tbl w T B m c S) : ∃ M, Tbm w T M B m c S := by
  obtain ⟨L, ⟨M, F, bs, h1, rfl⟩, h2, h3, h4⟩ := h
  exact ⟨M, F, bs, h1, h2, h3, h4⟩
theorem Tbm.tbl {w : World} {T M : Nat} {B : Nat → Prop} {m c : Int} {S : List Sl} (h : Tbm w T M B m c S) : Tbl w T B m c S := by
  obtain ⟨F, bs, h1, h2, h3, h4⟩ := h
  exact ⟨_, ⟨M, F, bs, h1, rfl⟩, h2, h3, h4⟩
theorem Tbm.wf {w : World} {T M : Nat} {B : Nat → Prop} {m c : Int} {S : List Sl} (h : Tbm w T M B m c S) : Wf m c S := by obtain ⟨_, _, _, _, _, h⟩ := h; exact h
theorem Tbm.perm {w : World} {T M : Nat} {B : Nat → Prop} {m c : Int} {S S' : List Sl} (h : Tbm w T M B m c S) (p : S.Perm S') : Tbm w T M B m c S' := by
  obtain ⟨F, bs, h1, h2, h3, h4⟩ := h; exact ⟨F, bs, h1, h2.trans p, h3, h4.perm p⟩
theorem Tbm.mono {w : World} {T M : Nat} {B C : Nat → Prop} {m c : Int} {S : List Sl} (h : Tbm w T M B m c S) (hs : ∀ k, B k → C k) : Tbm w T M C m c S := by
  obtain ⟨F, bs, h1, h2⟩ := h; exact ⟨F, bs, h1.mono hs, h2⟩
theorem Tbm.keep {w w' : World} {T M : Nat} {B : Nat → Prop} {m c : Int} {S : List Sl} (h : Tbm w T M B m c S) (hk : ∀ k, B k → k < w.heap.size → w'.heap[k]? = w.heap[k]?) : Tbm w' T M B m c S := by
  obtain ⟨F, bs, h1, h2⟩ := h; exact ⟨F, bs, h1.keep hk, h2⟩
theorem Tbm.below {w w' : World} {T M : Nat} {B : Nat → Prop} {m c : Int} {S : List Sl} (h : Tbm w T M B m c S) (g : Below w.heap.size w w') : Tbm w' T M B m c S := h.keep (fun k _ hl => g.block k hl)
theorem Tbm.lt {w : World} {T M : Nat} {B : Nat → Prop} {m c : Int} {S : List Sl} (h : Tbm w T M B m c S) : M < w.heap.size := by
  obtain ⟨F, bs, h1, h2⟩ := h; exact h1.map.lt
/-- What is wanted of its map. -/
theorem Tbm.map {w : World} {T M : Nat} {B : Nat → Prop} {m c : Int} {S : List Sl} (h : Tbm w T M B m c S) :
    ∃ F bs, Mp w M F bs ∧ bs.length ≤ 1000000 ∧ (∀ b ∈ bs, (F b).1.key.size ≤ 9223372036854775807) ∧ (bs.map (fun b => (F b).1.key)).Perm (S.map (fun s => s.key)) ∧ w.cell? ⟨T, 2, none⟩ = some (.map (some M)) := by
  obtain ⟨F, bs, h1, h2, h3, h4⟩ := h
  obtain ⟨v, hb⟩ := h1.top
  have hp := h2.map (fun s => s.key)
  rw [List.map_map, List.map_map] at hp
  exact ⟨F, bs, h1.map, h1.few, fun b hb => by have := h1.keys b hb; omega, hp, hb.cell 2⟩
/-- The kinds of its cells. -/
def Its (w : World) (k : Nat) : Prop := ∃ cs t, w.heap[k]? = some (.cells cs t) ∧ (t = TTab ∨ t = Tsl ∨ t = Tps)
theorem Tbm.sure {w : World} {T M : Nat} {B : Nat → Prop} {m c : Int} {S : List Sl} (h : Tbm w T M B m c S) : Tbm w T M (fun k => B k ∧ (k = M ∨ Its w k)) m c S := by
  obtain ⟨F, bs, h, h2⟩ := h
  refine ⟨F, bs, ?_, h2⟩
  obtain ⟨v, hb⟩ := h.top
  obtain ⟨q, h1, h2, h3⟩ := h.que
  refine ⟨⟨v, hb⟩, h.map, ⟨h.inB, .inl rfl⟩, ⟨q, ?_, h2, h3⟩, h.ap, h.few, h.keys⟩
  refine ⟨?_, fun i hi => ?_, ⟨⟨h1.top.1, .inr ⟨_, _, hb, .inl rfl⟩⟩, h1.top.2⟩⟩
  · rcases h1.que with ⟨A, cap, hQ, hA⟩ | hn
    · obtain ⟨cur, hc, r⟩ := hQ.row
      exact .inl ⟨A, cap, hQ, ⟨hA.1, .inr ⟨_, _, hc, .inr (.inr rfl)⟩⟩, hA.2⟩
    · exact .inr hn
  · have := h1.mem i hi
    refine ⟨⟨this.1, ?_⟩, this.2⟩
    rcases h1.que with ⟨A, cap, hQ, hA⟩ | ⟨h0, _⟩
    · exact .inr ⟨_, _, hQ.nd i hi, .inr (.inl rfl)⟩
    · omega
/-- What is no cells, and no map, is none of it. -/
theorem Tbm.putO {w : World} {T M : Nat} {B : Nat → Prop} {m c : Int} {S : List Sl} (h : Tbm w T M B m c S) {l : Nat} {o : Obj} (o' : Obj) (hl : w.heap[l]? = some o) (hc : o.isCells = false) (hw : o.isWalk = false) : Tbm (w.putObj l o') T M B m c S := by
  have hM : l ≠ M := by
    rintro rfl
    obtain ⟨F, bs, h1, _⟩ := h
    obtain ⟨es, ⟨e, clock, hb, _⟩, _⟩ := h1.map
    rw [hl] at hb; cases hb; cases hw
  refine (h.sure.keep (fun k hk _ => putO_other (fun e => ?_))).mono (fun k hk => hk.1)
  subst e
  rcases hk.2 with rfl | ⟨cs, t, hb, _⟩
  · exact hM rfl
  · rw [hl] at hb; cases hb; cases hc
theorem put_tbm (T M : Nat) (B : Nat → Prop) (m c : Int) (S : List Sl) (s : Sl) (w : World) (h : Tbm w T M B m c S) (hs : Oks s) (hk : rtB (lb s.key) = true) (hr : ruE s.r.p s.r.e s.r.b s.r.k = 0) (h3 : Is3 s.k) (hl : ((offS s.key S).length : Int) < m) :
    Calls Tryz.prog 104 #[ptr T, s.v] w fun e w' => e = .returned (.tuple #[]) ∧ Tch B w w' ∧ Tbm w' T M (Nx B w) m c (putS c s S) := by
  have hw := h.wf
  obtain ⟨F, bs, h1, h2, h4, h5⟩ := h
  have hp : (offL s.key (bs.map F)).map Prod.fst |>.Perm (offS s.key S) := by rw [offS_map]; exact h2.filter _
  have hle : (offB F s.key bs).length = (offS s.key S).length := by rw [← hp.length_eq, List.length_map, ← map_off, List.length_map]
  refine (put_any T M B m c F bs s w h1 hs hw.cu (by have := hw.m2; omega)).mono ?_
  rintro e w' ⟨rfl, g2, g3⟩
  refine ⟨rfl, g2, ?_⟩
  have g1 : ∃ F' bs', TabM w' T M (Nx B w) m c F' bs' ∧ bs'.map F' = putL c s (bs.map F) := by
    unfold putL
    by_cases z : dueS c s = 0
    · rw [if_pos z] at g3 ⊢
      exact ⟨F, _, g3, map_off _ _ _⟩
    · rw [if_neg z] at g3 ⊢
      obtain ⟨x, hx, h4⟩ := g3
      refine ⟨_, _, h4, ?_⟩
      rw [List.map_cons, updF_x, ← map_off]
      congr 1
      apply List.map_congr_left
      intro b hb
      refine updF_o _ _ _ ?_
      obtain ⟨q, hq, _, hm⟩ := h1.que
      obtain ⟨i, hi, e⟩ := (hm b).2 (off_mem.1 hb).1
      have : b < w.heap.size := by
        rcases hq.que with ⟨A, cap, hQ, hA⟩ | ⟨h0, _⟩
        · rw [← e]; exact (hQ.nd i hi).lt
        · omega
      omega
  obtain ⟨F', bs', g4, g5⟩ := g1
  refine ⟨F', bs', g4, ?_, ?_, hw.put hs hk hr h3 hl⟩
  · rw [g5]
    unfold putL putS
    have hz := dueS_zero hs hw.cu
    by_cases z : dueS c s = 0
    · rw [if_pos z, if_pos (hz.1 z)]; exact hp
    · rw [if_neg z, if_neg (fun e => z (hz.2 e)), List.map_cons]; exact hp.cons s
  · rw [g5]
    intro x hx
    unfold putL at hx
    have hz := dueS_zero hs hw.cu
    have hU := flS_U hs hw.cu
    by_cases z : dueS c s = 0
    · rw [if_pos z] at hx; exact h4 x (offL_mem.1 hx).1
    · rw [if_neg z] at hx
      rcases List.mem_cons.1 hx with rfl | hx
      · have hne : flS c s ≠ 0 := fun e => z (hz.2 e)
        unfold U at hU
        exact dueS_ok hs h3 hw.cu (by omega)
      · exact h4 x (offL_mem.1 hx).1
/-! ### Over to another kernel -/
/-- A slot by another kernel. -/
def mvS (c k2 : Int) (s : Sl) : Sl := { s with k := kmK s.k k2, a := kmA s.k s.a s.b k2 c (capS s), b := kmB s.k k2 c }
theorem mvS_key (c k2 : Int) (s : Sl) : (mvS c k2 s).key = s.key ∧ (mvS c k2 s).r = s.r := ⟨rfl, rfl⟩
theorem mvS_oks {c k2 : Int} {s : Sl} (h : Oks s) (hc : U c) (h3 : Is3 s.k) (h2 : Is3 k2) : Oks (mvS c k2 s) ∧ (mvS c k2 s).k = k2 := by
  have e1 : (mvS c k2 s).k = k2 := kmK_is h3 h2
  refine ⟨⟨h.key, h.r, ?_, ?_, ?_⟩, e1⟩
  · rw [e1]; rcases h2 with rfl | rfl | rfl <;> omega
  · show U (kmA _ _ _ _ _ _); rw [kmA_is h3]; exact koA_U _ _ _ _ hc (capS_U h) (flS_U h hc)
  · show U (kmB _ _ _); rw [kmB_is h3]; exact koB_U _ _ hc
end Go.Proofs.YtbejkcdaefkibaaGreat.Wd
namespace Go.Proofs.YtbejkcdaefkibaaGreat.Wd
open Go Go.RowKit Go.Deep Go.Shelf
set_option linter.unusedVariables false
set_option maxRecDepth 100000
set_option maxHeartbeats 4000000 in
theorem over_any (T M : Nat) (B : Nat → Prop) (m c k2 : Int) (S : List Sl) (s : Sl) (w : World) (h : Tbm w T M B m c S) (hs : Oks s) (hk : rtB (lb s.key) = true) (hr : ruE s.r.p s.r.e s.r.b s.r.k = 0) (h3 : Is3 s.k) (h2 : Is3 k2) (hl : ((offS s.key S).length : Int) < m) :
    Calls Tryz.prog 172 #[ptr T, s.v, .int .u8 k2] w fun e w' => e = .returned (.tuple #[]) ∧ Tch B w w' ∧ Tbm w' T M (Nx B w) m c (putS c (mvS c k2 s) S) := by
  have hc := h.wf.cu
  obtain ⟨_, cT, _, _⟩ := h.tbl.cells
  have HP := Lib.hid (fun W (g : Tbm W T M B m c S) => put_tbm T M _ m c S (mvS c k2 s) W g (mvS_oks hs hc h3 h2).1 hk hr (by rw [(mvS_oks hs hc h3 h2).2]; exact h2) hl)
  have HM := Lib.hid (fun W => kmigrate_any s.k s.a s.b k2 c (capS s) W hs.a hs.b hc (capS_U hs))
  have CC := Lib.hid (fun W => cap_any s.r.p s.r.e s.r.b s.r.k W (by have := hs.r.p; omega) hs.r.e hs.r.b)
  have b0 := Blk.new w s.cs 92
  have HB := Lib.hid ((Below.refl _ w).alloc (Nat.le_refl _) (.cells s.cs 92))
  have cW := acell (o := .cells s.cs 92) cT
  have HT := Lib.hid h
  clear h hl
  go_enter Tryz.func172, Tryz.ntmps172
  go_wp2_with fail
  generalize w.alloc _ = W at *
  obtain ⟨x0, x1, x2, x3, x4, x5, x6, x7⟩ := b0.eight
  have b1 := Lib.hid (b0.dr)
  have g0 := HB.out.size
  go_upto_region 1 with fail
  go_cut [20] from 6 to 20 (fun _ wx => Hid (Blk wx w.heap.size (mvS c k2 s).cs 92 ∧ Below w.heap.size w wx))
  case first =>
    have k0 := Lib.hid HB.out.drew
    go_region_with (first
      | (go_at_call 68; ((with_reducible refine (CC.out _).mono ?_); rintro e w1 ⟨rfl, g1⟩; have b2 := Lib.hid (b1.out.below g1.2); have k1 := Lib.hid (kbq k0.out g1.2); replace cW := celln g1.2 (dcell cW); obtain ⟨x0, x1, x2, x3, x4, x5, x6, x7⟩ := b2.out.eight))
      | (go_at_call 174; ((with_reducible refine (HM.out _).mono ?_); rintro e w2 ⟨rfl, g2⟩; have b3 := Lib.hid (b2.out.below g2.2); have kk2 := Lib.hid (kbq k1.out g2.2); obtain ⟨x0, x1, x2, x3, x4, x5, x6, x7⟩ := b3.out.eight; have f5 := b3.out.fz 5; have f6 := b3.out.fz 6; have f7 := b3.out.fz 7)))
    all_goals
      go_wp2
      go_meet
      case rel => exact Lib.hid ⟨((b3.out.set 5 (.int .u8 (kmK s.k k2))).set 6 (.int .u64 (kmA s.k s.a s.b k2 c (capS s)))).set 7 (.int .u64 (kmB s.k k2 c)), ((kk2.out.setCell (p := ⟨w.heap.size, 5, none⟩) (Nat.le_refl _) (.int .u8 (kmK s.k k2))).setCell (p := ⟨w.heap.size, 6, none⟩) (Nat.le_refl _) (.int .u64 (kmA s.k s.a s.b k2 c (capS s)))).setCell (p := ⟨w.heap.size, 7, none⟩) (Nat.le_refl _) (.int .u64 (kmB s.k k2 c))⟩
  case rest =>
  have b4 := hcut.out.1
  have k4 := hcut.out.2
  clear x0 x1 x2 x3 x4 x5 x6 x7 b1 cW HM CC
  have HU := Lib.hid (HP.out wc (HT.out.below k4))
  have hs4 := k4.size
  have K4 := Lib.hid k4
  generalize hmv : mvS c k2 s = y at *
  obtain ⟨x0, x1, x2, x3, x4, x5, x6, x7⟩ := Blk.eight (s := y) b4
  clear hcut b4 k4 HP HT HB g0 b0
  go_wp2_with (go_at_call 104; refine HU.out.mono ?_; rintro e w' ⟨rfl, g, ht⟩)
  go_end0
  refine ⟨rfl, (Tch.of K4.out).trans g, ?_⟩
  rw [hmv]
  exact ht.mono (C := Nx B w) (fun k hk => hk.elim (fun x => .inl x) (fun x => .inr (Nat.le_trans hs4 x)))
end Go.Proofs.YtbejkcdaefkibaaGreat.Wd
namespace Go.Proofs.YtbejkcdaefkibaaGreat.Wd
open Go Go.RowKit Go.Deep
set_option linter.unusedVariables false
set_option maxRecDepth 100000

/-- A row of one, or of none, is left as it is. -/
theorem ins_none (x : Nat) (xb : Array Value) (y : Nat) (yb : Array Value) (n : Nat) (hn : n ≤ 1) (W : World) :
    Calls Tryz.prog 234 #[.agg #[.func (Fn.func x) #[] xb, .func (Fn.func y) #[] yb], .int .i64 0, .int .i64 (n : Int)] W fun e w' => e = .returned (.tuple #[]) ∧ Below W.heap.size W w' := by
  have h1 : ¬ (1 : Int) < (n : Int) := by omega
  go_enter Tryz.func234, Tryz.ntmps234
  go_wp2
  have B1 : Below W.heap.size W (W.alloc (.cells #[.func (Fn.func x) #[] xb, .func (Fn.func y) #[] yb] 263)) := (Below.refl _ W).alloc (Nat.le_refl _) _
  generalize hW : World.alloc _ _ = W1 at *
  clear hW
  go_loopw [6] (fun i wr => i = .int .i64 1 ∧ wr = W1) (fun i _ => 0)
  case atStart => exact ⟨rfl, rfl⟩
  case round =>
    obtain ⟨rfl, rfl⟩ := hrel
    go_wp2
    go_end0
    exact ⟨rfl, B1⟩
section
variable {KB RX cap n sf : Nat} {sb : Array Value}
theorem ins_any (hsw : SwapC sf sb KB RX cap n) (hls : LessC KB RX cap n) (hn : n ≤ 1099511627776) (a b : Nat) (hab : a ≤ b) (hbn : b ≤ n) (W : World) (d : Array ByteArray) (hS : SoT W KB RX cap d) (hd : d.size = n) :
    Calls Tryz.prog 234 #[datV RX sf sb, .int .i64 (a : Int), .int .i64 (b : Int)] W fun e w' => e = .returned (.tuple #[]) ∧ SoT w' KB RX cap (Sort.insertionSort ltK d a b) ∧ Tch (one KB) W w' := by
  have HS := Lib.hid hsw
  have HL := Lib.hid hls
  have hlt := hS.lt
  have S0 := hS.alloc (boxO RX sf sb)
  clear hsw hls hS
  go_enter Tryz.func234, Tryz.ntmps234
  go_wp2
  have b0 : (W.alloc (boxO RX sf sb)).cell? ⟨W.heap.size, 0, none⟩ = some (lesV RX) := by simp
  have b1 : (W.alloc (boxO RX sf sb)).cell? ⟨W.heap.size, 1, none⟩ = some (.func (Fn.func sf) #[] sb) := by simp
  have g0 : Tch (one KB) W (W.alloc (boxO RX sf sb)) := .of ((Below.refl _ W).alloc (Nat.le_refl _) _)
  have nb : ¬ one KB W.heap.size := by show ¬ W.heap.size = KB; omega
  generalize hW : World.alloc _ _ = W1 at *
  clear hW
  go_loopw [6] (fun i wr => ∃ (k : Nat) (g : Array ByteArray), i = .int .i64 (k : Int) ∧ a + 1 ≤ k ∧ k ≤ b + 1 ∧ g.size = n ∧ SoT wr KB RX cap g ∧ Hid (Sort.insOuter ltK a b k g = Sort.insertionSort ltK d a b) ∧ Tch (one KB) W1 wr) (fun i _ => b + 1 - (intOf i).toNat)
  case atStart => exact ⟨a + 1, d, by simp, Nat.le_refl _, by omega, hd, S0, Lib.hid rfl, .refl _ _⟩
  case round =>
    obtain ⟨k, g, rfl, hk1, hk2, hg, hS, ho, hT⟩ := hrel
    clear S0
    by_cases hkb : k < b
    · go_wp2
      go_loopw [7] (fun j wr => ∃ (q : Nat) (e : Array ByteArray), j = .int .i64 (q : Int) ∧ (a ≤ q ∧ q ≤ k) ∧ e.size = n ∧ SoT wr KB RX cap e ∧ Hid (Sort.insInner ltK a q e = Sort.insInner ltK a k g) ∧ Tch (one KB) W1 wr) (fun j _ => (intOf j).toNat)
      case atStart => exact ⟨k, g, rfl, by omega, hg, hS, Lib.hid rfl, hT⟩
      case round =>
        obtain ⟨q, e, rfl, ⟨hq1, hq2⟩, he, hS2, hI, hT2⟩ := hrel
        have c0 := tcell hT2 nb b0
        have c1 := tcell hT2 nb b1
        have HO : Hid ((q ≤ a ∨ ltK e[q]! e[q - 1]! = false) → Sort.insOuter ltK a b (k + 1) e = Sort.insertionSort ltK d a b) := Lib.hid (fun h => by
          rw [← ho.out, insOuter_go _ _ _ _ _ hkb, ← hI.out, insInner_stop _ _ _ _ h])
        clear hS hT
        by_cases hqa : a < q
        · have e0 : (a : Int) < (q : Int) := by omega
          have C := HL.out wr e q (q - 1) hS2 he (by omega) (by omega)
          have e1 : ((q - 1 : Nat) : Int) = (q : Int) - 1 := by omega
          rw [e1] at C
          cases hl : ltK e[q]! e[q - 1]! with
          | true =>
            rw [hl] at C
            have HN := Lib.hid ((insInner_go ltK a q e hqa hl).symm.trans hI.out)
            clear hl hI HO
            go_wp2_with (go_at_call 167; refine C.mono ?_; rintro e0 w2 ⟨rfl, kb⟩; obtain ⟨W', hrun, hS', hg'⟩ := HS.out w2 _ q (q - 1) (hS2.below kb) he (by omega) (by omega); rw [e1] at hrun; have d1 := celln kb c1; have d0 := celln kb c0; have G := (hT2.trans (Tch.of kb)).trans hg'; clear c0 c1 C hS2 kb hg' hT2 e1)
            go_roundw
            case rel => exact ⟨q - 1, _, by simp; omega, by omega, (Sort.size_swp _ _ _).trans he, hS', HN, G⟩
            case measure => simp [intOf]; omega
          | false =>
            rw [hl] at C
            have HN := Lib.hid (HO.out (.inr hl))
            clear hl hI HO
            go_wp2_with (go_at_call 167; refine C.mono ?_; rintro e0 w2 ⟨rfl, kb⟩)
            go_roundw
            case rel => exact ⟨k + 1, _, by go_num, by omega, by omega, he, hS2.below kb, HN, hT2.trans (Tch.of kb)⟩
            case measure => simp [intOf]; omega
        · have e0 : ¬ (a : Int) < (q : Int) := by omega
          have HN := Lib.hid (HO.out (.inl (by omega)))
          clear hI HO
          go_wp2
          go_roundw
          case rel => exact ⟨k + 1, _, by go_num, by omega, by omega, he, hS2, HN, hT2⟩
          case measure => simp [intOf]; omega
    · have HN := Lib.hid ho.out
      rw [insOuter_stop _ _ _ _ _ hkb] at HN
      go_wp2
      go_end0
      exact ⟨rfl, by rw [← HN.out]; exact hS, g0.trans hT⟩
end
end Go.Proofs.YtbejkcdaefkibaaGreat.Wd
namespace Go.Proofs.YtbejkcdaefkibaaGreat.Wd
open Go Go.RowKit Go.Deep
set_option linter.unusedVariables false
set_option maxRecDepth 100000

/-- What pdqsort_func is asked of: sorted, and nothing else turned. -/
def PdqC (n : Nat) : Prop := ∀ (KB RX cap : Nat) (W : World) (d : Array ByteArray) (lim : Nat), SoT W KB RX cap d → d.size = n → lim ≤ 64 → (n ≤ 12 ∨ lim = Lib.bitLen n) →
    Calls Tryz.prog 200 #[datV RX (swK n) (swB KB cap n), .int .i64 0, .int .i64 (n : Int), .int .i64 (lim : Int)] W fun e w' => e = .returned (.tuple #[]) ∧ (∃ g, SoT w' KB RX cap g ∧ Sort.PermIn 0 n d g ∧ Sort.SortedIn ltK 0 n g) ∧ Tch (one KB) W w'
theorem pdq_few (n : Nat) (h2 : 2 ≤ n) (h12 : n ≤ 12) : PdqC n := by
  intro KB RX cap W d lim hS hd hlim hz
  have HC := fun W' (h : SoT W' KB RX cap d) => ins_any (swapC_any KB RX cap n h2) (less1_any KB RX cap n (by omega)) (by omega) 0 n (Nat.zero_le _) (Nat.le_refl _) W' d h hd
  have HP := Sort.insertionSort_holds ltK_swo d 0 n (Nat.zero_le _) (by omega)
  generalize hsf : swK n = sf at *
  generalize hsb : swB KB cap n = sb at *
  have S0 := hS.alloc (boxO RX sf sb)
  have hlt := hS.lt
  have e12 : (n : Int) - 0 ≤ 12 := by omega
  clear hS hsf hsb hz
  go_enter Tryz.func200, Tryz.ntmps200
  go_wp2
  have b0 : (W.alloc (boxO RX sf sb)).cell? ⟨W.heap.size, 0, none⟩ = some (lesV RX) := by simp
  have b1 : (W.alloc (boxO RX sf sb)).cell? ⟨W.heap.size, 1, none⟩ = some (.func (Fn.func sf) #[] sb) := by simp
  have g0 : Tch (one KB) W (W.alloc (boxO RX sf sb)) := .of ((Below.refl _ W).alloc (Nat.le_refl _) _)
  generalize hW : World.alloc _ _ = W1 at *
  clear hW
  go_loopw [1, 2, 3, 8, 9] (fun a b l x y wr => a = .int .i64 0 ∧ b = .int .i64 (n : Int) ∧ l = .int .i64 (lim : Int) ∧ x = .bool true ∧ y = .bool true ∧ wr = W1) (fun _ _ _ _ _ _ => 0)
  case atStart => exact ⟨rfl, rfl, rfl, rfl, rfl, rfl⟩
  case round =>
    obtain ⟨rfl, rfl, rfl, rfl, rfl, rfl⟩ := hrel
    have C := HC _ S0
    rw [show ((0 : Nat) : Int) = 0 from rfl] at C
    go_wp2_with (go_at_call 234; refine C.mono ?_; rintro e w2 ⟨rfl, hR, hg⟩)
    (try simp only [Exit.inBlock, Exit.then])
    refine bodyPost_ret (results_none rfl _ _ _) rfl ?_
    exact ⟨rfl, ⟨_, hR, HP.1, HP.2⟩, g0.trans hg⟩
end Go.Proofs.YtbejkcdaefkibaaGreat.Wd
namespace Go.Proofs.YtbejkcdaefkibaaGreat.Wd
open Go Go.RowKit Go.Deep Go.Shelf
set_option linter.unusedVariables false
set_option maxRecDepth 100000

def biRen : Go.Shelf.Ren := ⟨fun | 125 => 199 | 128 => 236 | 129 => 237 | n => n, fun | 3 => 3 | 4 => 4 | 5 => 5 | 9 => 9 | 46 => 36 | 51 => 53 | 53 => 25 | n => n, fun | n => n⟩
theorem biLays : Lays.n125 Tryz.prog biRen := {
  mixed := by kernel_rfl
  f125 := Tryz.func199.trans (congrArg some (by kernel_rfl))
  f128 := Tryz.func236.trans (congrArg some (by kernel_rfl))
  f129 := Tryz.func237.trans (congrArg some (by kernel_rfl))
  t3 := Tryz.underlying3
  a3 := Tryz.isAgg3
  z3 := Tryz.sizeOf3
  v3 := Tryz.zeroValue3
  t4 := Tryz.underlying4
  a4 := Tryz.isAgg4
  z4 := Tryz.sizeOf4
  v4 := Tryz.zeroValue4
  t5 := Tryz.underlying5
  a5 := Tryz.isAgg5
  z5 := Tryz.sizeOf5
  v5 := Tryz.zeroValue5
  t9 := Tryz.underlying9
  a9 := Tryz.isAgg9
  z9 := Tryz.sizeOf9
  v9 := Tryz.zeroValue9
  t46 := Tryz.underlying36
  a46 := Tryz.isAgg36
  z46 := Tryz.sizeOf36
  v46 := Tryz.zeroValue36
  t51 := Tryz.underlying53
  a51 := Tryz.isAgg53
  z51 := Tryz.sizeOf53
  v51 := Tryz.zeroValue53
  t53 := Tryz.underlying25
  a53 := Tryz.isAgg25
  z53 := Tryz.sizeOf25
  v53 := Tryz.zeroValue25 }
theorem blen_any (x : Nat) (w : World) (h : x ≤ 18446744073709551615) : Calls Tryz.prog 199 #[.int .u64 (x : Int)] w fun e w' => e = .returned (.int .i64 (Lib.bitLen x)) ∧ w' = w :=
  Any.bits_Len biLays (x : Int) w (by omega) (by omega)

/-- The variable in block RX holds the keys d, in a row from block base on (a row of none may be nil). -/
structure Kys (W : World) (base RX : Nat) (v : Value) (d : Array ByteArray) : Prop where
  form : ∃ A cap, v = .slice A d.size cap ∧ (1 ≤ d.size → ∃ KB, A = some ⟨KB, 0, none⟩ ∧ base ≤ KB ∧ SoT W KB RX cap d)
  var : W.cell? ⟨RX, 0, none⟩ = some v
/-- What sort.Slice is asked of. -/
def SortC (n : Nat) : Prop := ∀ (base RX : Nat) (v : Value) (d : Array ByteArray) (W : World), Kys W base RX v d → d.size = n → base ≤ W.heap.size →
    Calls Tryz.prog 166 #[.iface 85 v, lesV RX] W fun e w' => e = .returned (.tuple #[]) ∧ (∃ g, Kys w' base RX v g ∧ Sort.PermIn 0 n d g ∧ Sort.SortedIn ltK 0 n g) ∧ Below base W w'
theorem bitLen_64 (n : Nat) (h : n ≤ 1099511627776) : Lib.bitLen n ≤ 64 := Lib.bitLen_le n 64 (by omega) (by omega)

set_option maxHeartbeats 1000000 in
theorem sort_head (n lim : Nat) (hlim : lim = Lib.bitLen n) (hn : n ≤ 1099511627776) (A : Option Addr) (KB cap RX : Nat) (hA : 2 ≤ n → A = some ⟨KB, 0, none⟩) (W : World) (R : World → Prop)
    (C : ∀ W', Below W.heap.size W W' → Calls Tryz.prog 200 #[datV RX (swK n) (swB KB cap n), .int .i64 0, .int .i64 (n : Int), .int .i64 (lim : Int)] W' fun e w' => e = .returned (.tuple #[]) ∧ R w') :
    Calls Tryz.prog 166 #[.iface 85 (.slice A n cap), lesV RX] W fun e w' => e = .returned (.tuple #[]) ∧ R w' := by
  obtain ⟨i, hi, hd⟩ := info_strs
  have hv := Lib.run_valueOf_slice (P := Tryz.prog) 85 Tstr i hi hd A n cap W
  have hs := fun w => swapper_run A KB cap n hA w
  have hl := fun a w ha => Lib.run_valueLen_slice (P := Tryz.prog) 85 Tstr i hi hd (by kernel_rfl) a A n cap w ha
  have hb := fun w => blen_any n w (by omega)
  rw [← hlim] at hb
  unfold datV lesV at C
  unfold lesV
  generalize swK n = sf at *
  generalize swB KB cap n = sb at *
  have n0 : (0 : Int) ≤ n := by omega
  have n1 : (n : Int) < 18446744073709551616 := by omega
  clear hi hd hlim hA
  have hgs : Tryz.prog.globals.size = 0 := by kernel_rfl
  simp only [typeHandle, hgs] at hv hl
  go_enter Tryz.func166, Tryz.ntmps166
  go_wp2
  rw [run_callFunc_extern Tryz.func190 (by kernel_rfl) (by kernel_rfl) (by kernel_rfl) (e := fun args => Extern.ReflectliteValue.unpack (args.getD 0 (.tuple #[]))) (by kernel_rfl),
    show Sem.run Tryz.prog ((fun args : Array Value => Extern.ReflectliteValue.unpack (args.getD 0 (.tuple #[]))) #[.iface 85 (.slice A n cap)]) W = _ from hv]
  simp only [Result.andThen]
  rw [Oper.upon_value]
  go_wp2
  rw [run_callFunc_extern Tryz.func191 (by kernel_rfl) (by kernel_rfl) (by kernel_rfl) (e := Extern.ReflectliteSwapper.swapper "internal/reflectlite" (Extern.ReflectliteValue.valueError "Swapper")) (by kernel_rfl), hs]
  simp only [Result.andThen]
  rw [Oper.upon_value]
  go_wp2
  rw [run_callFunc_extern Tryz.func193 (by kernel_rfl) (by kernel_rfl) (by kernel_rfl) (e := Extern.ReflectliteValue.method (Extern.ReflectliteValue.valueError "reflectlite.Value.Len" 0) Extern.ReflectliteValue.len) (by kernel_rfl),
    hl _ _ (by simp)]
  simp only [Result.andThen]
  rw [Oper.upon_value]
  go_wp2_with (first | (go_at_call 199; refine (hb _).mono ?_; rintro e w' ⟨rfl, rfl⟩) | (go_at_call 200; refine (C _ (((Below.refl _ W).alloc (Nat.le_refl _) _).alloc (by simp) _)).mono ?_; rintro e w' ⟨rfl, hR⟩))
  go_end0
  exact ⟨rfl, hR⟩
end Go.Proofs.YtbejkcdaefkibaaGreat.Wd
namespace Go.Proofs.YtbejkcdaefkibaaGreat.Wd
open Go Go.RowKit Go.Deep Go.Shelf
set_option linter.unusedVariables false
set_option maxRecDepth 100000

theorem Kys.below {W W' : World} {base RX : Nat} {v : Value} {d : Array ByteArray} (h : Kys W base RX v d) (g : Below W.heap.size W W') : Kys W' base RX v d := by
  obtain ⟨A, cap, e, h1⟩ := h.form
  refine ⟨⟨A, cap, e, fun hp => ?_⟩, celln g h.var⟩
  obtain ⟨KB, e1, e2, e3⟩ := h1 hp
  exact ⟨KB, e1, e2, e3.below g⟩
theorem pdq_none (x : Nat) (xb : Array Value) (y : Nat) (yb : Array Value) (n lim : Nat) (hn : n ≤ 1) (W : World) :
    Calls Tryz.prog 200 #[.agg #[.func (Fn.func x) #[] xb, .func (Fn.func y) #[] yb], .int .i64 0, .int .i64 (n : Int), .int .i64 (lim : Int)] W fun e w' => e = .returned (.tuple #[]) ∧ Below W.heap.size W w' := by
  have C := fun W' => ins_none x xb y yb n hn W'
  have e12 : (n : Int) - 0 ≤ 12 := by omega
  go_enter Tryz.func200, Tryz.ntmps200
  go_wp2
  have b0 : (W.alloc (.cells #[.func (Fn.func x) #[] xb, .func (Fn.func y) #[] yb] 263)).cell? ⟨W.heap.size, 0, none⟩ = some (.func (Fn.func x) #[] xb) := by simp
  have b1 : (W.alloc (.cells #[.func (Fn.func x) #[] xb, .func (Fn.func y) #[] yb] 263)).cell? ⟨W.heap.size, 1, none⟩ = some (.func (Fn.func y) #[] yb) := by simp
  have g0 : Below W.heap.size W (W.alloc (.cells #[.func (Fn.func x) #[] xb, .func (Fn.func y) #[] yb] 263)) := (Below.refl _ W).alloc (Nat.le_refl _) _
  generalize hW : World.alloc _ _ = W1 at *
  clear hW
  go_loopw [1, 2, 3, 8, 9] (fun a b l x y wr => a = .int .i64 0 ∧ b = .int .i64 (n : Int) ∧ l = .int .i64 (lim : Int) ∧ x = .bool true ∧ y = .bool true ∧ wr = W1) (fun _ _ _ _ _ _ => 0)
  case atStart => exact ⟨rfl, rfl, rfl, rfl, rfl, rfl⟩
  case round =>
    obtain ⟨rfl, rfl, rfl, rfl, rfl, rfl⟩ := hrel
    go_wp2_with (go_at_call 234; refine (C _).mono ?_; rintro e w2 ⟨rfl, hR⟩)
    (try simp only [Exit.inBlock, Exit.then])
    refine bodyPost_ret (results_none rfl _ _ _) rfl ?_
    exact ⟨rfl, kbq g0 hR⟩
theorem sort_of (n : Nat) (hn : n ≤ 1099511627776) (hP : 2 ≤ n → PdqC n) : SortC n := by
  intro base RX v d W hK hd hb
  obtain ⟨A, cap, rfl, hf⟩ := hK.form
  rw [hd]
  by_cases h2 : 2 ≤ n
  · obtain ⟨KB, rfl, hKB, hS⟩ := hf (by omega)
    have H := sort_head n _ rfl hn (some ⟨KB, 0, none⟩) KB cap RX (fun _ => rfl) W (fun w' => (∃ g, SoT w' KB RX cap g ∧ Sort.PermIn 0 n d g ∧ Sort.SortedIn ltK 0 n g) ∧ Below base W w') (fun W' g => by
      refine (hP h2 KB RX cap W' d _ (hS.below g) hd (bitLen_64 n hn) (.inr rfl)).mono ?_
      rintro e w' ⟨rfl, hg, ht⟩
      exact ⟨rfl, hg, (g.mono hb).trans (ht.lo (fun k hk => by have hk : k = KB := hk; omega) (by have := g.size; omega))⟩)
    refine H.mono ?_
    rintro e w' ⟨rfl, ⟨g, hg, hp, hs⟩, hB⟩
    have hz : g.size = n := by rw [hp.1, hd]
    refine ⟨rfl, ⟨g, ⟨⟨_, cap, by rw [hz], fun _ => ⟨KB, rfl, hKB, hg⟩⟩, ?_⟩, hp, hs⟩, hB⟩
    have := hg.var; rw [hz] at this; exact this
  · have H := sort_head n _ rfl hn A 0 cap RX (fun h => absurd h h2) W (fun w' => Below W.heap.size W w') (fun W' g => by
      refine (pdq_none _ _ _ _ n _ (by omega) W').mono ?_
      rintro e w' ⟨rfl, hg⟩
      exact ⟨rfl, kbq g hg⟩)
    refine H.mono ?_
    rintro e w' ⟨rfl, hB⟩
    refine ⟨rfl, ⟨d, ?_, Sort.permIn_refl d 0 n, fun i j h1 h2 h3 => by omega⟩, hB.mono hb⟩
    have := hK.below hB
    rw [hd] at this; exact this
theorem sort_few (n : Nat) (h : n ≤ 12) : SortC n := sort_of n (by omega) (fun h2 => pdq_few n h2 h)
end Go.Proofs.YtbejkcdaefkibaaGreat.Wd
namespace Go.Proofs.YtbejkcdaefkibaaGreat.Wd
open Go Go.RowKit Go.Shelf Go.Deep Go.Maps
set_option linter.unusedVariables false
set_option maxRecDepth 100000

def kyRen : Go.Shelf.Ren := ⟨fun | 7 => 165 | 10 => 198 | 8 => 164 | 11 => 197 | n => n, fun | 0 => 0 | 4 => 4 | 23 => 111 | 26 => 9 | 3 => 147 | 27 => 227 | 28 => 228 | 33 => 156 | 24 => 85 | n => n, fun | n => n⟩
theorem kyLays : Go.Proofs.SlLaysZ.n7 Tryz.prog kyRen := {
  mixed := by kernel_rfl
  f7 := ⟨Tryz.f165.name, by decide, Tryz.func165.trans (congrArg some (by kernel_rfl))⟩
  f10 := ⟨Tryz.f198.name, by decide, Tryz.func198.trans (congrArg some (by kernel_rfl))⟩
  t0 := Tryz.underlying0
  a0 := Tryz.isAgg0
  z0 := Tryz.sizeOf0
  v0 := Tryz.zeroValue0
  t4 := Tryz.underlying4
  a4 := Tryz.isAgg4
  z4 := Tryz.sizeOf4
  v4 := Tryz.zeroValue4
  t23 := Tryz.underlying111
  a23 := Tryz.isAgg111
  z23 := Tryz.sizeOf111
  v23 := Tryz.zeroValue111
  t26 := Tryz.underlying9
  a26 := Tryz.isAgg9
  z26 := Tryz.sizeOf9
  v26 := Tryz.zeroValue9
  t27 := Tryz.underlying227
  a27 := Tryz.isAgg227
  z27 := Tryz.sizeOf227
  v27 := Tryz.zeroValue227
  t28 := Tryz.underlying228
  a28 := Tryz.isAgg228
  z28 := Tryz.sizeOf228
  v28 := Tryz.zeroValue228
  t33 := Tryz.underlying156
  a33 := Tryz.isAgg156
  z33 := Tryz.sizeOf156
  v33 := Tryz.zeroValue156 }
theorem coLays : Go.Proofs.SlLaysZ.n8 Tryz.prog kyRen := {
  mixed := by kernel_rfl
  f8 := ⟨Tryz.f164.name, by decide, Tryz.func164.trans (congrArg some (by kernel_rfl))⟩
  f11 := ⟨Tryz.f197.name, by decide, Tryz.func197.trans (congrArg some (by kernel_rfl))⟩
  t0 := Tryz.underlying0
  a0 := Tryz.isAgg0
  z0 := Tryz.sizeOf0
  v0 := Tryz.zeroValue0
  t24 := Tryz.underlying85
  a24 := Tryz.isAgg85
  z24 := Tryz.sizeOf85
  v24 := Tryz.zeroValue85
  t26 := Tryz.underlying9
  a26 := Tryz.isAgg9
  z26 := Tryz.sizeOf9
  v26 := Tryz.zeroValue9
  t28 := Tryz.underlying228
  a28 := Tryz.isAgg228
  z28 := Tryz.sizeOf228
  v28 := Tryz.zeroValue228
  i26 := by kernel_rfl }
end Go.Proofs.YtbejkcdaefkibaaGreat.Wd
namespace Go.Proofs.YtbejkcdaefkibaaGreat.Wd
open Go Go.RowKit Go.Deep Go.Shelf Go.Maps
set_option linter.unusedVariables false
set_option maxRecDepth 100000

/-- A slice of the keys d, in a row of a block from base on. -/
structure Kyr (W : World) (base : Nat) (v : Value) (d : Array ByteArray) : Prop where
  form : ∃ A cap, v = .slice A d.size cap ∧ (1 ≤ d.size → ∃ KB cur, A = some ⟨KB, 0, none⟩ ∧ base ≤ KB ∧ W.heap[KB]? = some (.cells cur Tstr (0, 0)) ∧ (∀ k, k < d.size → cur[k]? = some (.string d[k]!) ∧ d[k]!.size ≤ 9223372036854775807))
theorem kyr_of {W : World} {base : Nat} {v : Value} {ss : List (List UInt8)} (h : W.ownsRow base Tstr 1 v ss.length (ss.map Go.Proofs.encStr)) (hz : ∀ s ∈ ss, s.length ≤ 9223372036854775807) :
    Kyr W base v (ss.map (fun l => (⟨l.toArray⟩ : ByteArray))).toArray := by
  rcases h.2 with ⟨rfl, h0⟩ | ⟨g, cap, cur, rfl, hb, hgg, h1, h2, h3, h4⟩
  · exact ⟨none, 0, by simp [h0], fun hp => by simp at hp; omega⟩
  · refine ⟨_, cap, by simp, fun _ => ⟨g, cur, rfl, hb, hgg, fun k hk => ?_⟩⟩
    have hk' : k < ss.length := by simpa using hk
    have e : ((ss.map (fun l => (⟨l.toArray⟩ : ByteArray))).toArray)[k]! = ⟨(ss[k]).toArray⟩ := by
      rw [getElem!_pos ((ss.map (fun l => (⟨l.toArray⟩ : ByteArray))).toArray) k hk]; simp
    rw [e]
    refine ⟨?_, ?_⟩
    · have h5 : (cur.toList.take (ss.length * 1))[k]? = some (Go.Proofs.encStr ss[k]) := by rw [h4, List.getElem?_map, List.getElem?_eq_getElem hk']; rfl
      rw [List.getElem?_take, if_pos (by omega), Array.getElem?_toList] at h5
      exact h5
    · have := hz ss[k] (List.getElem_mem _)
      show (ss[k]).toArray.size ≤ _
      simpa using this
theorem Kyr.kept {W W' : World} {base : Nat} {v : Value} {d : Array ByteArray} (h : Kyr W base v d) (g : Below W.heap.size W W') : Kyr W' base v d := by
  obtain ⟨A, cap, e, h1⟩ := h.form
  refine ⟨⟨A, cap, e, fun hp => ?_⟩⟩
  obtain ⟨KB, cur, e1, e2, e3, e4⟩ := h1 hp
  exact ⟨KB, cur, e1, e2, (g.block _ (heap_lt e3)).trans e3, e4⟩
/-- .. and a variable that holds it. -/
theorem Kyr.kys {W : World} {base RX : Nat} {v : Value} {d : Array ByteArray} (h : Kyr W base v d) (hv : W.cell? ⟨RX, 0, none⟩ = some v) (hne : ∀ cur, W.heap[RX]? ≠ some (.cells cur Tstr (0, 0))) : Kys W base RX v d := by
  obtain ⟨A, cap, rfl, h1⟩ := h.form
  refine ⟨⟨A, cap, rfl, fun hp => ?_⟩, hv⟩
  obtain ⟨KB, cur, rfl, e2, e3, e4⟩ := h1 hp
  refine ⟨KB, rfl, e2, heap_lt e3, fun e => hne cur (e ▸ e3), fun k hk => (e4 k hk).2, hv, fun k hk => ?_, ⟨cur, e3⟩⟩
  have h5 := (e4 k hk).1
  refine ⟨by simp [World.cell?, e3, h5], by simp [World.frozen?, e3]⟩
theorem mkeys_any (M : Nat) (W : World) : Calls Tryz.prog 165 #[.map (some M)] W fun e w' => e = .returned (.func (.func 198) #[] #[ptr W.heap.size]) ∧ w' = W.alloc (.cells #[.map (some M)] Tmap) :=
  callsIn_wide.1 (Go.Proofs.AnyZ.keys_in { kyLays with } Fence.wide 5 trivial rfl (some M) W)
theorem strKeys_mapL (F : Nat → Sl × Int) (bs : List Nat) : Go.strKeys (.map (mapL F bs) : DataW Unit) = bs.map (fun b => lb (F b).1.key) := by
  simp only [Go.strKeys, mapL, List.map_map]
  exact List.map_congr_left (fun b _ => rfl)
theorem collect_any (M : Nat) (F : Nat → Sl × Int) (bs : List Nat) (w : World) (h : Mp w M F bs) (hn : bs.length ≤ 1000000) (hz : ∀ b ∈ bs, (F b).1.key.size ≤ 9223372036854775807) :
    Calls Tryz.prog 164 #[.func (.func 198) #[] #[ptr w.heap.size]] (w.alloc (.cells #[.map (some M)] Tmap)) fun e w' => ∃ v d, e = .returned v ∧ d.toList.Perm (bs.map (fun b => (F b).1.key)) ∧
      Kyr w' (w.alloc (.cells #[.map (some M)] Tmap)).heap.size v d ∧ Below (w.alloc (.cells #[.map (some M)] Tmap)).heap.size (w.alloc (.cells #[.map (some M)] Tmap)) w' := by
  obtain ⟨es, ho, hp⟩ := h
  have hlen : Maps.size (.map es : DataW Unit) = bs.length := by
    show es.length = _
    rw [hp.length_eq, mapL_len]
  have hpk : (Go.strKeys (.map es : DataW Unit)).Perm (bs.map (fun b => lb (F b).1.key)) := by
    rw [← strKeys_mapL]
    exact hp.map _
  have hbl := ho.lt
  have hseq : SeqGives Fence.wide 3 Tryz.prog 198 #[ptr w.heap.size] Go.Proofs.encStr (fun ss => ss.Perm (Go.strKeys (.map es : DataW Unit))) (Maps.size (.map es : DataW Unit)) (w.alloc (.cells #[.map (some M)] Tmap)) :=
    Go.Proofs.AnyZ.keys_gives (ρ := kyRen) { kyLays with } Fence.wide _ trivial rfl (by omega) w.heap.size M bs.length (.map es) _ (by simp) (by simp) (by
      obtain ⟨es', clock, hb, Ft, hs, hD⟩ := ho
      exact ⟨es', clock, (Below.heap_alloc _ _ M hbl).trans hb, Ft, hs, hD⟩)
  refine (callsIn_wide.1 (Go.Proofs.AnyZ.collect_in { coLays with } Fence.wide 5 trivial trivial rfl (by omega) 198 #[ptr w.heap.size] trivial (enters_of Tryz.func198 (by kernel_rfl) rfl) _ _ (by rw [hlen]; unfold maxLen; omega) (by rw [hlen]; omega) _ hseq)).mono ?_
  rintro e w' ⟨v, ss, rfl, hS, hrow, hnil, hB⟩
  have hP := hS.trans hpk
  refine ⟨v, (ss.map (fun l => (⟨l.toArray⟩ : ByteArray))).toArray, rfl, ?_, kyr_of hrow (fun s hs => ?_), hB⟩
  · have := hP.map (fun l => (⟨l.toArray⟩ : ByteArray))
    rw [List.map_map] at this
    refine this.trans (List.Perm.of_eq (List.map_congr_left (fun b _ => ?_)))
    show (⟨(lb (F b).1.key).toArray⟩ : ByteArray) = _
    apply lb_inj; rfl
  · have := hP.mem_iff.1 hs
    obtain ⟨b, hb, rfl⟩ := List.mem_map.1 this
    rw [list_size]; exact hz b hb
end Go.Proofs.YtbejkcdaefkibaaGreat.Wd
namespace Go.Proofs.YtbejkcdaefkibaaGreat.Wd
open Go Go.RowKit Go.Deep Go.Shelf
set_option linter.unusedVariables false
set_option maxRecDepth 100000

abbrev Ttp : TypeId := 43
abbrev Tstrs : TypeId := 85
/-- A slot that was there, or its other form. -/
def Vr (S0 : List Sl) (mv : Sl → Sl) (x : Sl) : Prop := ∃ s ∈ S0, s.key = x.key ∧ (x = s ∨ x = mv s)
/-- Slots that were there, some of them in their other form. -/
def Var (S0 : List Sl) (mv : Sl → Sl) (S1 : List Sl) : Prop := ∃ f : Sl → Sl, (∀ s ∈ S0, (f s).key = s.key ∧ (f s = s ∨ f s = mv s)) ∧ S1.Perm (S0.map f)
theorem Var.start (S0 : List Sl) (mv : Sl → Sl) : Var S0 mv S0 := ⟨id, fun s _ => ⟨rfl, .inl rfl⟩, by rw [List.map_id]⟩
theorem Var.has {S0 S1 : List Sl} {mv : Sl → Sl} (h : Var S0 mv S1) {k : ByteArray} (hk : k ∈ S0.map (fun s => s.key)) : ∃ x ∈ S1, x.key = k ∧ Vr S0 mv x := by
  obtain ⟨f, h1, h2⟩ := h
  obtain ⟨s, hs, rfl⟩ := List.mem_map.1 hk
  exact ⟨f s, h2.mem_iff.2 (List.mem_map.2 ⟨s, hs, rfl⟩), (h1 s hs).1, s, hs, (h1 s hs).1.symm, (h1 s hs).2⟩
theorem Mp.look_one {w : World} {M : Nat} {F : Nat → Sl × Int} {bs : List Nat} (h : Mp w M F bs) (ha : Ap F bs) {k : ByteArray} (hs : k.size ≤ 9223372036854775807) {b : Nat} (hb : b ∈ bs) (hk : (F b).1.key = k) :
    (Instr.lookup Tmap (.map (some M)) (.string k) false).run Tryz.prog w = .ok (ptr b) w := by
  obtain ⟨es, ho, hp⟩ := h
  obtain ⟨v, ps, hrun, hv⟩ := ho.lookup KS Tryz.underlying111 (zeroPtr w) (zd := .nil) (zp := []) rfl (keyOf_s k hs)
  rw [at_yes hp ha hb hk] at hv
  rw [hrun, ptrR_inv hv]
/-- One of a table. -/
theorem Tbm.at {w : World} {T M : Nat} {B : Nat → Prop} {m c : Int} {S : List Sl} (h : Tbm w T M B m c S) {x : Sl} (hx : x ∈ S) :
    x.key.size ≤ 9223372036854775807 ∧ w.cell? ⟨T, 2, none⟩ = some (.map (some M)) ∧ ∃ b d i, (∀ w1 : World, w1.heap[M]? = w.heap[M]? → (Instr.lookup Tmap (.map (some M)) (.string x.key) false).run Tryz.prog w1 = .ok (ptr b) w1) ∧ Blk w b (kcs (x, d) i) Tsl := by
  obtain ⟨F, bs, h1, hp, hd, hw⟩ := h
  rw [List.map_map] at hp
  obtain ⟨b, hb, e⟩ := List.mem_map.1 (hp.mem_iff.2 hx)
  have e : (F b).1 = x := e
  have hk := h1.keys b hb
  rw [e] at hk
  obtain ⟨q, hq, ho, hm⟩ := h1.que
  obtain ⟨i, hi, eb⟩ := (hm b).2 hb
  refine ⟨by omega, h1.cells.2.2.1, b, (F b).2, i, fun w1 e1 => (h1.map.kept e1).look_one h1.ap (by omega) hb (by rw [e]), ?_⟩
  rcases hq.que with ⟨A, cap, hQ, hA⟩ | ⟨h0, _⟩
  · have := hQ.nd i hi; rw [eb] at this
    rw [← e]; exact this
  · omega
/-- What an iterator's own blocks hold is left as it was. -/
structure Tci (A C : World) : Prop where
  size : A.heap.size ≤ C.heap.size
  same : ∀ (k : Nat) (cs : Array Value) (t : TypeId), Blk A k cs t → (t = Tstr ∨ t = Tstrs ∨ t = Ttp) → Blk C k cs t
theorem Tci.trans {a b c : World} (h : Tci a b) (g : Tci b c) : Tci a c := ⟨Nat.le_trans h.size g.size, fun k cs t x y => g.same k cs t (h.same k cs t x y) y⟩
theorem Tci.of {a b : World} (h : Below a.heap.size a b) : Tci a b := ⟨h.size, fun k cs t x _ => (h.block k (heap_lt x)).trans x⟩
theorem Tci.putO (w : World) (l : Nat) (o o' : Obj) (hl : w.heap[l]? = some o) (hc : o.isCells = false) : Tci w (w.putObj l o') :=
  ⟨by simp, fun k cs t x _ => (putO_other (fun e => by subst e; have x : w.heap[k]? = some (.cells cs t) := x; rw [hl] at x; cases x; cases hc)).trans x⟩
theorem Tci.blk {a b : World} (h : Tci a b) {k : Nat} {cs : Array Value} {t : TypeId} (x : Blk a k cs t) (ht : t = Tstr ∨ t = Tstrs ∨ t = Ttp) : Blk b k cs t := h.same k cs t x ht
theorem Tci.boxed {a b : World} (h : Tci a b) {k : Nat} {v : Value} {t : TypeId} (x : Boxed a k t v) (ht : t = Tstr ∨ t = Tstrs ∨ t = Ttp) : Boxed b k t v := h.same k _ t x ht
/-- What is kept from one round to the next. -/
def Kpt (T M : Nat) (m c : Int) (S0 : List Sl) (mv : Sl → Sl) (A C : World) : Prop := Tci A C ∧ ((∃ S1, Var S0 mv S1 ∧ Tbm A T M (fun _ => True) m c S1) → ∃ S2, Var S0 mv S2 ∧ Tbm C T M (fun _ => True) m c S2)
theorem Kpt.trans {T M : Nat} {m c : Int} {S0 : List Sl} {mv : Sl → Sl} {A B C : World} (h : Kpt T M m c S0 mv A B) (g : Kpt T M m c S0 mv B C) : Kpt T M m c S0 mv A C := ⟨h.1.trans g.1, fun x => g.2 (h.2 x)⟩
theorem Kpt.put {T M : Nat} {m c : Int} {S0 : List Sl} {mv : Sl → Sl} (W : World) (l : Nat) (o o' : Obj) (h : W.heap[l]? = some o) (hc : o.isCells = false) (hw : o.isWalk = false) : Kpt T M m c S0 mv W (W.putObj l o') :=
  ⟨.putO W l o o' h hc, fun ⟨S1, v, t⟩ => ⟨S1, v, t.putO o' h hc hw⟩⟩
/-- The keys, in order, in a row of block KB. -/
structure Row (W : World) (KB : Nat) (d : Array ByteArray) : Prop where
  cell : ∃ cur, Blk W KB cur Tstr ∧ ∀ k, k < d.size → cur[k]? = some (.string d[k]!)
theorem SoT.row {W : World} {KB RX cap : Nat} {d : Array ByteArray} (h : SoT W KB RX cap d) : Row W KB d := by
  obtain ⟨cur, hb⟩ := h.typ
  refine ⟨cur, hb, fun k hk => ?_⟩
  rw [← hb.cell k]; exact (h.rows k hk).1
theorem Row.tci {a b : World} {KB : Nat} {d : Array ByteArray} (h : Row a KB d) (g : Tci a b) : Row b KB d := by
  obtain ⟨cur, hb, hc⟩ := h.cell
  exact ⟨cur, g.blk hb (.inl rfl), hc⟩
theorem Row.at {w : World} {KB : Nat} {d : Array ByteArray} (h : Row w KB d) {k : Nat} (hk : k < d.size) : w.cell? ⟨KB, k, none⟩ = some (.string d[k]!) := by
  obtain ⟨cur, hb, hc⟩ := h.cell
  rw [hb.cell k]; exact hc k hk
theorem active_in (F : Fence) (n : Nat) (h : F.fn 115) (hro : F.round = none) (T : Nat) (w : World) :
    CallsIn F n Tryz.prog 115 #[ptr T] w fun e w' => e = .returned (.func (.func 163) #[] #[ptr w.heap.size]) ∧ w' = w.alloc (.cells #[ptr T] Ttp) := by
  refine callsIn_of_wp Tryz.func115 rfl h ?_ hro
  simp only [Tryz.ntmps115, List.size_toArray, List.length_cons, List.length_nil, Nat.reduceAdd, Nat.reduceSub, Array.replicate_succ, Array.replicate_zero, List.push_toArray, List.append_toArray, List.nil_append, List.cons_append]
  gi_wp2
  go_ret
  exact ⟨rfl, rfl⟩
end Go.Proofs.YtbejkcdaefkibaaGreat.Wd
namespace Go.Proofs.YtbejkcdaefkibaaGreat.Wd
open Go Go.RowKit Go.Deep Go.Shelf
set_option linter.unusedVariables false
set_option maxRecDepth 100000

/-- What has come, behind all. -/
def Allk (S0 : List Sl) (ks : List ByteArray) : Prop := ∃ d : Array ByteArray, d.toList.Perm (S0.map (fun s => s.key)) ∧ Sort.SortedIn ltK 0 d.size d ∧ ks = d.toList
theorem take_more (g : Array ByteArray) (k : Nat) (hk : k < g.size) : g.toList.take k ++ [g[k]!] = g.toList.take (k + 1) := by
  rw [List.take_add_one, Array.getElem?_toList, Array.getElem?_eq_getElem hk, getElem!_pos g k hk]; rfl
set_option maxHeartbeats 4000000 in
theorem act1_stops (n : Nat) (hn : 4 ≤ n) (T M Tb : Nat) (m c : Int) (S0 : List Sl) (mv : Sl → Sl) (w : World) (hT : Boxed w Tb Ttp (ptr T)) (h : Tbm w T M (fun _ => True) m c S0) (hsort : SortC S0.length) :
    SeqStopsK Fence.wide n Tryz.prog 163 #[ptr Tb] (fun x : {x : Sl // Vr S0 mv x} => #[x.1.v]) (Kpt T M m c S0 mv) (fun xs => Allk S0 (xs.map (fun x => x.1.key))) (fun _ => True) S0.length w := by
  have h1 : 1 ≤ n := by omega
  intro l J Jx W hW hJ hJx hY h0
  have bT : Boxed W Tb Ttp (ptr T) := (hW.block Tb hT.lt).trans hT
  have hTm : Tbm W T M (fun _ => True) m c S0 := h.below hW
  clear hT h hW
  obtain ⟨F, bs, hM, hb1, hb2, hp, hc2⟩ := hTm.map
  have HS := Lib.hid hsort
  have HY := Lib.hid hY
  have HJ := Lib.hid hJ
  have H0 := Lib.hid h0
  have HT := Lib.hid hTm
  have CK := Lib.hid (fun W' => callsIn_wide (n := n - 1) |>.2 (mkeys_any M W'))
  have CC := Lib.hid (callsIn_wide (n := n - 1) |>.2 (collect_any M F bs W hM hb1 hb2))
  have HP := Lib.hid hp
  have cT := bT.cell
  have HB := Lib.hid bT
  have hTb := bT.lt
  clear hsort hY hJ h0 hTm hM hb2 hp bT hJx
  refine callsIn_of_wp Tryz.func163 rfl trivial ?_ rfl
  simp only [Tryz.ntmps163, List.size_toArray, List.length_cons, List.length_nil, Nat.reduceAdd, Nat.reduceSub, Array.replicate_succ, Array.replicate_zero, List.push_toArray, List.append_toArray, List.nil_append, List.cons_append]
  gi_wp2_with (first
    | (refine ⟨trivial, ?_⟩; gi_at_call 165; refine (CK.out _).mono ?_; rintro e w1 ⟨rfl, rfl⟩)
    | (refine ⟨trivial, ?_⟩; gi_at_call 164; refine CC.out.mono ?_; rintro e w2 ⟨v, d, rfl, hd, hky, hB2⟩; obtain ⟨⟨A, cap, rfl, _⟩⟩ := id hky)
    | (refine ⟨trivial, ?_⟩; gi_at_call 166; refine stopHere ?_))
  unfold Stop
  have hpk : d.toList.Perm (S0.map (fun s => s.key)) := hd.trans HP.out
  have hdz : d.size = S0.length := by have := hpk.length_eq; simpa using this
  have hK : Kys (w2.alloc (.cells #[.slice A d.size cap] Tstrs)) (W.alloc (.cells #[.map (some M)] Tmap)).heap.size w2.heap.size (.slice A d.size cap) d := (hky.kept ((Below.refl _ w2).alloc (Nat.le_refl _) _)).kys (by simp) (by
    intro cur e
    rw [World.alloc_heap_new] at e
    cases e)
  have hB3 : Below W.heap.size W (w2.alloc (.cells #[.slice A d.size cap] Tstrs)) := (((Below.refl _ W).alloc (Nat.le_refl _) _).trans (hB2.mono (by simp))).alloc (by have := hB2.size; simp at this; omega) _
  have hs2 := hB2.size
  simp only [World.size_alloc] at hs2
  have hRX : W.heap.size < w2.heap.size := by omega
  refine (callsIn_wide (n := n - 1) |>.2 (HS.out _ _ _ _ _ hK hdz (by simp; omega))).mono ?_
  rintro e w4 ⟨rfl, ⟨g, hg, hpm, hst⟩, hB4⟩
  have hgz : g.size = S0.length := by rw [hpm.1, hdz]
  have HG : Hid (Allk S0 g.toList) := Lib.hid (by
    refine ⟨g, ?_, by rw [hgz]; exact hst, rfl⟩
    have h1 := hpm.2.2
    rw [← hdz, Array.extract_size] at h1
    have h2 : g.extract 0 d.size = g := by rw [show d.size = g.size by omega, Array.extract_size]
    rw [h2] at h1
    exact h1.trans hpk)
  have hgd : g.size = d.size := by omega
  have hBW : Below W.heap.size W w4 := hB3.trans (hB4.mono (by simp))
  have J4 : J [] w4 := HJ.out _ _ _ none H0.out ⟨hBW.os, hBW.tape, hBW.output, hBW.size, fun k hk _ => hBW.block k hk⟩ (fun _ e => by cases e)
  have T4 : Tbm w4 T M (fun _ => True) m c S0 := HT.out.below hBW
  have b4 : Boxed w4 Tb Ttp (ptr T) := (hBW.block Tb hTb).trans HB.out
  have v4 := hg.var
  obtain ⟨KB, hKB⟩ : ∃ KB, 1 ≤ g.size → A = some ⟨KB, 0, none⟩ ∧ Row w4 KB g := by
    obtain ⟨A', cap', e, h1⟩ := hg.form
    by_cases z : 1 ≤ g.size
    · obtain ⟨KB, e1, _, e3⟩ := h1 z
      refine ⟨KB, fun _ => ⟨?_, e3.row⟩⟩
      have e := e
      simp only [Value.slice.injEq] at e
      rw [e.1, e1]
    · exact ⟨0, fun h => absurd h z⟩
  have hgn : (g.size : Int) ≤ 1000000 := by
    have := HP.out.length_eq
    simp only [List.length_map] at this
    omega
  have HKB := Lib.hid hKB
  have HN := Lib.hid hgz
  have HPK := Lib.hid HG
  rw [← hgd] at v4 ⊢
  clear hK hky hB2 hB3 hB4 hpm hst hd HP CK CC hg hpk hdz hs2 HS H0 HT HB cT hc2 hb1 hBW hKB hgd hgz
  dsimp only
  gi_wp2
  gi_loopw [18] (fun i wr => ∃ k : Nat, i = .int .i64 (k : Int) ∧ k ≤ g.size ∧ ∃ xs : List {x : Sl // Vr S0 mv x}, Hid (xs.map (fun x => x.1.key) = g.toList.take k) ∧ J xs wr ∧ Boxed wr Tb Ttp (ptr T) ∧ Hid (1 ≤ g.size → A = some ⟨KB, 0, none⟩ ∧ Row wr KB g) ∧ ∃ S1, Var S0 mv S1 ∧ Tbm wr T M (fun _ => True) m c S1) (fun i _ => g.size - (intOf i).toNat)
  case atStart => exact ⟨0, rfl, Nat.zero_le _, [], Lib.hid rfl, J4, b4, HKB, S0, Var.start _ _, T4⟩
  case round =>
    obtain ⟨k, rfl, hk, xs, hxs, hJs, hb, hkb, S1, hV, hT1⟩ := hrel
    clear J4 b4 T4 v4 HKB
    by_cases hlt : k < g.size
    · obtain ⟨eA, hrow⟩ := hkb.out (by omega)
      have hin : g[k]! ∈ S0.map (fun s => s.key) := by
        obtain ⟨d', p1, _, p3⟩ := HG.out
        refine p1.mem_iff.1 (by rw [← p3, getElem!_pos g k hlt]; exact Array.getElem_mem_toList _)
      obtain ⟨x, hx, hxk, hvr⟩ := hV.has hin
      obtain ⟨hz, c2, b, dd, ii, hlk, hbk⟩ := hT1.at hx
      have hl := hlk wr rfl
      rw [hxk] at hl
      have hmore := take_more g k hlt
      obtain ⟨k0, k1, k2, k3, k4, k5, k6, k7⟩ := kcs_cells hbk
      have cT := hb.cell
      have cr := hrow.at hlt
      obtain ⟨fn, tmps, assign, body, hy, hR⟩ := HY.out xs ⟨x, hvr⟩ wr hJs (by have := congrArg List.length hxs.out; simp only [List.length_map, List.length_take, Array.length_toList] at this; rw [← HN.out]; omega)
      have HR := Lib.hid (hR.mono (R' := fun e W' => ∃ o : Bool, e = .returned (.bool o) ∧ Hid ((o = true ∧ J (xs ++ [⟨x, hvr⟩]) W' ∧ Kpt T M m c S0 mv wr W') ∨ (o = false ∧ Jx (xs ++ [⟨x, hvr⟩]) W'))) (by
        rintro e W' (⟨rfl, h1, h2⟩ | ⟨rfl, h1⟩)
        · exact ⟨true, rfl, Lib.hid (.inl ⟨rfl, h1, h2⟩)⟩
        · exact ⟨false, rfl, Lib.hid (.inr ⟨rfl, h1⟩)⟩))
      have HXS : Hid ((xs ++ [(⟨x, hvr⟩ : {x : Sl // Vr S0 mv x})]).map (fun x => x.1.key) = g.toList.take (k + 1)) := Lib.hid (by
        rw [List.map_append, hxs.out, List.map_cons, List.map_nil, ← hmore, ← hxk])
      have HV := Lib.hid hV
      have HT1 := Lib.hid hT1
      have HROW := Lib.hid hrow
      have HEA := Lib.hid eA
      dsimp only at hy
      clear hR hV hT1 hrow hin hlk hbk hkb hx hxk hz HY HG hJs hxs
      subst eA
      generalize g[k]! = kk at *
      gi_wp2_with (refine HR.out.mono ?_; rintro e W3 ⟨o, rfl, h3⟩; refine stopHere ?_)
      unfold Stop
      rcases h3.out with ⟨rfl, hJ3, hk3⟩ | ⟨rfl, hJ3⟩
      · gi_wp2
        go_roundw
        case rel =>
          obtain ⟨S2, v2, t2⟩ := hk3.2 ⟨S1, HV.out, HT1.out⟩
          exact ⟨k + 1, by go_num, hlt, _, HXS, hJ3, hk3.1.boxed hb (.inr (.inr rfl)), Lib.hid (fun _ => ⟨trivial, HROW.out.tci hk3.1⟩), S2, v2, t2⟩
        case measure => simp [intOf]; omega
      · gi_wp2
        refine bodyPost_ret (results_none rfl _ _ _) rfl ?_
        exact ⟨⟨_, rfl⟩, .inr ⟨_, hJ3⟩⟩
    · gi_wp2
      go_end0
      refine ⟨⟨_, rfl⟩, .inl ⟨xs, ?_, hJs⟩⟩
      rw [hxs.out, List.take_of_length_le (by simp; omega)]
      exact HG.out
end Go.Proofs.YtbejkcdaefkibaaGreat.Wd
namespace Go.Proofs.YtbejkcdaefkibaaGreat.Wd
open Go Go.RowKit Go.Deep Go.Shelf
set_option linter.unusedVariables false
set_option maxRecDepth 100000
attribute [local go_sem] Oper.semAt_some
/-- The builtin append, by a name of our own. -/
def AP (ats : Array TypeId) (ty : TypeId) (args : Array Value) : Sem Value := Builtin.append_ ats ty args
theorem builtin_app (ats : Array TypeId) (ty : TypeId) (cs : Array Bool) (args : Array Value) : builtin .append ats ty cs args = (do pure (.value (← AP ats ty args))) := rfl
attribute [local go_sem ↓ 2000] builtin_app
abbrev ownV : Value := .func (Fn.func 79) #[] #[]
abbrev Tfs : TypeId := 145
/-- Blocks of other kinds may turn. -/
theorem kpt_far {T M : Nat} {m c : Int} {S0 : List Sl} {mv : Sl → Sl} {W W' : World} (hs : W.heap.size ≤ W'.heap.size)
    (hk : ∀ (k : Nat) (o : Obj), W.heap[k]? = some o → (∀ cs t, o = .cells cs t → t = TTab ∨ t = Tsl ∨ t = Tps ∨ t = Tstr ∨ t = Tstrs ∨ t = Ttp) → W'.heap[k]? = some o) : Kpt T M m c S0 mv W W' := by
  refine ⟨⟨hs, fun k cs t hb ht => hk k _ hb (fun cs' t' e => ?_)⟩, fun ⟨S1, hv, ht⟩ => ⟨S1, hv, (ht.sure.keep (fun k hB hl => ?_)).mono (fun _ _ => trivial)⟩⟩
  · cases e
    rcases ht with h | h | h
    · exact .inr (.inr (.inr (.inl h)))
    · exact .inr (.inr (.inr (.inr (.inl h))))
    · exact .inr (.inr (.inr (.inr (.inr h))))
  · obtain ⟨o, ho⟩ : ∃ o, W.heap[k]? = some o := ⟨_, Array.getElem?_eq_getElem hl⟩
    rw [ho]
    refine hk k o ho (fun cs t e => ?_)
    rcases hB.2 with rfl | ⟨cs', t', hb, h⟩
    · obtain ⟨F, bs, h1, _⟩ := ht
      obtain ⟨es, ⟨e', clock, hb, _⟩, _⟩ := h1.map
      rw [ho] at hb; cases hb; cases e
    · rw [ho] at hb; cases hb; cases e
      rcases h with h | h | h
      · exact .inl h
      · exact .inr (.inl h)
      · exact .inr (.inr (.inl h))
theorem kpt_app {T M : Nat} {m c : Int} {S0 : List Sl} {mv : Sl → Sl} {W w1 w3 : World} {n0 O : Nat} {v v' : Value} {e te : TypeId} {size k : Nat} {xs : List Value} (hv : Boxed W O te v) (hr : W.ownsRow n0 e size v k xs) (hb : Below W.heap.size W w1) (hg : w1.grownBy w3 v.ownBlock)
    (h1 : ¬ (te = TTab ∨ te = Tsl ∨ te = Tps ∨ te = Tstr ∨ te = Tstrs ∨ te = Ttp)) (h2 : ¬ (e = TTab ∨ e = Tsl ∨ e = Tps ∨ e = Tstr ∨ e = Tstrs ∨ e = Ttp)) : Kpt T M m c S0 mv W (w3.setCell ⟨O, 0, none⟩ v') := by
  refine kpt_far (by have := hb.size; have := hg.size; simp; omega) (fun j o ho ht => ?_)
  have hl := heap_lt ho
  have hO : j ≠ O := by
    rintro rfl
    have h3 : W.heap[j]? = some (.cells #[v] te) := hv
    rw [ho] at h3
    exact h1 (ht #[v] te (Option.some.inj h3))
  have hR : some j ≠ v.ownBlock := by
    rcases hr.2 with ⟨rfl, _⟩ | ⟨g, cap, cur, rfl, _, hgb, _⟩
    · intro e'; cases e'
    · intro e'
      obtain rfl : j = g := by simpa [Value.ownBlock] using e'
      rw [ho] at hgb
      exact h2 (ht cur e (Option.some.inj hgb))
  rw [Below.heap_setCell _ _ _ _ hO, hg.block j (by have := hb.size; omega) hR, hb.block j hl, ho]
/-- A slice that a call owns, in a variable: between two rounds. -/
def Gath (n0 O F0 : Nat) (te e tf : TypeId) (size : Nat) (fv : Value) (w : World) (xs : List Value) (k : Nat) (W : World) : Prop := (∃ v, Boxed W O te v ∧ W.ownsRow n0 e size v k xs) ∧ Boxed W F0 tf fv ∧ Below w.heap.size w W
theorem Gath.own {n0 O F0 : Nat} {te e tf : TypeId} {size : Nat} {fv : Value} {w : World} {xs : List Value} {k : Nat} {X Y : World} {row : Option Nat} (h : Gath n0 O F0 te e tf size fv w xs k X) (hg : X.grownBy Y row)
    (hr : ∀ r, row = some r → w.heap.size ≤ r ∧ ∃ o : Obj, X.heap[r]? = some o ∧ o.isCells = false) : Gath n0 O F0 te e tf size fv w xs k Y := by
  obtain ⟨⟨v, h1, h2⟩, h3, h4⟩ := h
  have hbx : ∀ {B : Nat} {t : TypeId} {u : Value}, Boxed X B t u → some B ≠ row := by
    intro B t u hb e'
    obtain ⟨_, o, ho, hc⟩ := hr B e'.symm
    rw [show X.heap[B]? = _ from hb] at ho; cases ho; cases hc
  refine ⟨⟨v, h1.kept hg (hbx h1), h2.kept hg ?_⟩, h3.kept hg (hbx h3), h4.grown hg h4.size (fun k e' => (hr k e').1)⟩
  rcases h2.2 with ⟨rfl, _⟩ | ⟨g, cap, cur, rfl, _, hgb, _⟩
  · exact .inl rfl
  · refine .inr (fun e' => ?_)
    obtain ⟨_, o, ho, hc⟩ := hr g (by simpa [Value.ownBlock] using e'.symm)
    rw [hgb] at ho; cases ho; cases hc
theorem gb_none {W w2 : World} (kb : Below W.heap.size W w2) : W.grownBy w2 none := ⟨kb.os, kb.tape, kb.output, kb.size, fun j hj _ => kb.block j hj⟩
theorem own_below {W w2 : World} {base k size : Nat} {e : TypeId} {v : Value} {xs : List Value} (h : W.ownsRow base e size v k xs) (kb : Below W.heap.size W w2) : w2.ownsRow base e size v k xs := h.kept (gb_none kb) (by
  rcases h.2 with ⟨rfl, _⟩ | ⟨g, cap, cur, rfl, _⟩
  · exact .inl rfl
  · exact .inr (by simp [Value.ownBlock]))
/-- Behind one more: all that is owed. -/
theorem app_end {T M : Nat} {m c : Int} {S0 : List Sl} {mv : Sl → Sl} {w W w2 w3 : World} {O F0 k k' size : Nat} {v v' fv : Value} {te e tf : TypeId} {xs ys : List Value} {tmp : Obj} (Bd : Nat)
    (hv : Boxed W O te v) (hte : te ≠ e) (hrow : W.ownsRow w.heap.size e size v k xs) (hF : Boxed W F0 tf fv) (hne : F0 ≠ O) (hF' : tf ≠ e) (hw : Below w.heap.size w W) (hO : w.heap.size ≤ O) (KB : Below W.heap.size W w2)
    (ho : w3.ownsRow w.heap.size e size v' k' ys) (hg : (w2.alloc tmp).grownBy w3 v.ownBlock)
    (h1 : ¬ (te = TTab ∨ te = Tsl ∨ te = Tps ∨ te = Tstr ∨ te = Tstrs ∨ te = Ttp)) (h2 : ¬ (e = TTab ∨ e = Tsl ∨ e = Tps ∨ e = Tstr ∨ e = Tstrs ∨ e = Ttp)) :
    KeepsFrom Bd W (w3.setCell ⟨O, 0, none⟩ v') ∧ Kpt T M m c S0 mv W (w3.setCell ⟨O, 0, none⟩ v') ∧ Gath w.heap.size O F0 te e tf size fv w ys k' (w3.setCell ⟨O, 0, none⟩ v') := by
  have hv2 : Boxed w2 O te v := hv.kept (gb_none KB) (by simp)
  have hr2 := own_below hrow KB
  have hF2 : Boxed w2 F0 tf fv := hF.kept (gb_none KB) (by simp)
  obtain ⟨_, a2, a3, a4, a5⟩ := hv2.appended hte hr2 (by have := hw.size; have := KB.size; omega) hO ho hg
  have k0 : KeepsOthers W w2 := ⟨KB.size, fun k o hk _ => (KB.block k (heap_lt hk)).trans hk⟩
  refine ⟨(k0.trans a4).from _, kpt_app hv hrow (KB.alloc KB.size _) hg h1 h2, ⟨_, a2, a3⟩, ((hF2.alloc tmp).kept hg (hF2.not_row hF' hr2)).other hne _, hw.trans ((KB.mono hw.size).trans a5)⟩
theorem app_slot {W w2 : World} {n0 k : Nat} {v : Value} {pre : List Sl} (x : Sl) (h : W.ownsRow n0 Tas 8 v k (flatS pre)) (hk : k = pre.length) (kb : Below W.heap.size W w2) (hs : k + 1 ≤ 1099511627776) (hb : n0 ≤ W.heap.size) :
    ∃ g cap w3, (AP #[Tass, Tass] Tass #[v, .slice (some ⟨w2.heap.size, 0, none⟩) 1 1]).run Tryz.prog (w2.alloc (.cells x.cs Tas)) = .ok (.slice (some ⟨g, 0, none⟩) (k + 1) cap) w3 ∧
      w3.ownsRow n0 Tas 8 (.slice (some ⟨g, 0, none⟩) (k + 1) cap) (k + 1) (flatS (pre ++ [x])) ∧ (w2.alloc (.cells x.cs Tas)).grownBy w3 v.ownBlock ∧ g < w3.heap.size := by
  obtain ⟨i0, hi, hy0, hy1, hy2⟩ := info_parts zeroAs
  have kb' : Below W.heap.size W (w2.alloc (.cells x.cs Tas)) := kb.alloc kb.size _
  have hr : (w2.alloc (.cells x.cs Tas)).ownsRow n0 Tas 8 v k (flatS pre) := h.kept (row := none) ⟨kb'.os, kb'.tape, kb'.output, kb'.size, fun j hj _ => kb'.block j hj⟩ (by
    rcases h.2 with ⟨rfl, _⟩ | ⟨g, cap, cur, rfl, _⟩
    · exact .inl rfl
    · exact .inr (by simp [Value.ownBlock]))
  obtain ⟨g, cap, w3, h1, h2, h3, _, h5⟩ := run_append_lies (P := Tryz.prog) (w2.alloc (.cells x.cs Tas)) Tass Tass n0 Tas i0 _ 8 80 Tryz.underlying44 hi hy0 hy1 hy2 rfl (by decide) v k (flatS pre) hr ⟨w2.heap.size, 0, none⟩ 1 1 (flatS [x]) (by rw [flatS_len]; rfl) (by
    intro j u hu
    have hj : j < 8 := by
      by_cases z : j < 8
      · exact z
      · rw [List.getElem?_eq_none (by rw [flatS_len]; simp; omega)] at hu; cases hu
    have e := flatS_at [x] 0 (by simp) j hj
    rw [Nat.zero_mul, Nat.zero_add, hu] at e
    rw [Addr.add_lit, Nat.zero_add, (Blk.new w2 x.cs Tas).cell j, e]; rfl) (flatS_one _) (by decide) (by unfold maxLen; omega) (by omega) (by simp; have := kb.size; omega) _ rfl
  refine ⟨g, cap, w3, h1, ?_, h3, h5⟩
  rw [flatS_append]; exact h2
/-- So many slots have come. -/
def InS (S : List Sl) (w : World) (pre : List {x : Sl // Vr S id x}) (W : World) : Prop := Gath w.heap.size (w.heap.size + 1) w.heap.size Tass Tas Tfs 8 ownV w (flatS (pre.map (fun x => x.1))) pre.length W
theorem InS.own {S : List Sl} {w : World} (Bd : Nat) (hB : w.heap.size ≤ Bd) : OwnFrom Bd (InS S w) := fun s X Y row hs hg hr => Gath.own hs hg (fun r e => ⟨Nat.le_trans hB (hr r e).1, (hr r e).2⟩)
set_option maxHeartbeats 4000000 in
theorem sall_in (n : Nat) (hn : 8 ≤ n) (T M : Nat) (B : Nat → Prop) (m c : Int) (S : List Sl) (w : World) (h : Tbm w T M B m c S) (hsort : SortC S.length) :
    CallsIn Fence.wide n Tryz.prog 78 #[ptr T, ownV] w fun e w' => ∃ v xs, e = .returned v ∧ OwS w' w.heap.size v xs ∧ (∀ x ∈ xs, x ∈ S) ∧ Allk S (xs.map (fun x => x.key)) ∧ Below w.heap.size w w' := by
  have h1 : 1 ≤ n := by omega
  refine callsIn_of_wp_marks Tryz.func78 rfl trivial ?_ rfl
  simp only [Tryz.ntmps78, List.size_toArray, List.length_cons, List.length_nil, Nat.reduceAdd, Nat.reduceSub, Array.replicate_succ, Array.replicate_zero, List.push_toArray, List.append_toArray, List.nil_append, List.cons_append]
  gi_wp2_with (refine ⟨trivial, ?_⟩; gi_at_call 115; refine (active_in Fence.wide (n - 1) trivial rfl T _).mono ?_; rintro e w1 ⟨rfl, rfl⟩)
  obtain ⟨W0, hW0⟩ : ∃ W0, ((w.alloc (.cells #[ownV] Tfs)).alloc (.cells #[.slice none 0 0] Tass)).alloc (.cells #[ptr T] Ttp) = W0 := ⟨_, rfl⟩
  have bF : Boxed W0 w.heap.size Tfs ownV := by rw [← hW0]; exact ((Boxed.new w _ _).alloc _).alloc _
  have bO : Boxed W0 (w.heap.size + 1) Tass (.slice none 0 0) := by rw [← hW0]; have := (Boxed.new (w.alloc (.cells #[ownV] Tfs)) Tass (.slice none 0 0)).alloc (.cells #[ptr T] Ttp); simpa using this
  have bT : Boxed W0 (w.heap.size + 1 + 1) Ttp (ptr T) := by rw [← hW0]; have := Boxed.new ((w.alloc (.cells #[ownV] Tfs)).alloc (.cells #[.slice none 0 0] Tass)) Ttp (ptr T); simpa using this
  have hB0 : Below w.heap.size w W0 := by rw [← hW0]; exact (((Below.refl _ w).alloc (Nat.le_refl _) _).alloc (by simp) _).alloc (by simp; omega) _
  have hsz : W0.heap.size = w.heap.size + 3 := by rw [← hW0]; simp
  have hT0 : Tbm W0 T M (fun _ => True) m c S := (h.below hB0).mono (fun _ _ => trivial)
  have hfew : S.length ≤ 1000000 := by have := h.wf.len; have := h.wf.m2; omega
  have hok : ∀ x ∈ S, x.key.size ≤ 281474976710656 ∧ x.r.p.size ≤ 281474976710656 := fun x hx => ⟨(h.wf.ok x hx).oks.key, (h.wf.ok x hx).oks.r.p⟩
  rw [hW0]
  clear hW0 h
  refine wpIn_rangeFunc_ownH rfl h1 (gf := 163) (lb := #[ptr (w.heap.size + 1 + 1)]) rfl trivial (enters_of Tryz.func163 (by kernel_rfl) rfl)
    (act1_stops (n - 1) (by omega) T M (w.heap.size + 1 + 1) m c S id W0 bT hT0 hsort) Kpt.trans (fun W l o o' _ x y z => Kpt.put W l o o' x y z) (Below.refl _ _) (fun _ => rfl)
    (InS S w) (fun _ _ _ => False) (InS.own _ (by omega)) (fun _ s A Bw row hs hg hr => hs) ⟨⟨_, bO, World.ownsRow_nil _ _ _ _⟩, bF, hB0⟩
    (fun x a' W => ∃ b, Blk W b x.1.cs Tas ∧ a' = { tmps := #[ptr T, ownV, undef, .pointer (some ⟨w.heap.size, 0, none⟩), .slice none 0 0, .pointer (some ⟨w.heap.size + 1, 0, none⟩), ptr b, ptr T, .func (.func 163) #[] #[ptr (w.heap.size + 1 + 1)], x.1.v, undef, undef, undef, undef, undef, undef, undef], defers := [] })
    ?hAx ?assign ?body ?done ?stop
  case hAx =>
    rintro x a' s X Y row ⟨b, hb, e⟩ hg hr
    refine ⟨b, (hg.block b hb.lt (fun e' => ?_)).trans hb, e⟩
    obtain ⟨_, o, ho, hc⟩ := hr b e'.symm
    rw [show X.heap[b]? = _ from hb] at ho; cases ho; cases hc
  case assign =>
    intro l pre x W K hI hK
    gi_wp2
    refine hK _ _ ((KeepsOthers.alloc W _).from _) (kpt_far (by simp) (fun k o ho _ => (al_old _ _ (heap_lt ho)).trans ho)) ((InS.own W0.heap.size (by omega)).alloc _ hI) ⟨W.heap.size, Blk.new _ _ _, rfl⟩
  case body =>
    rintro l pre x a' W hl ⟨r, hr⟩ hI ⟨b, hb, rfl⟩ hlen
    obtain ⟨⟨v, hv, hrow⟩, hF, hBW⟩ := id hI
    have xS : x.1 ∈ S := by obtain ⟨s, hs, _, e⟩ := x.2; rcases e with e | e <;> (rw [e]; exact hs)
    have CO := fun W' => CallsIn.inRound l (callsIn_wide (n := n - 1 - 1 - 1) |>.2 (own_any x.1 W' (hok _ xS).1 (hok _ xS).2))
    have cF := hF.cell
    have cO := hv.cell
    have fO := hv.frozen
    have x0 := hb.cell 0
    have x1 := hb.cell 1
    have x2 := hb.cell 2
    have x3 := hb.cell 3
    have x4 := hb.cell 4
    have x5 := hb.cell 5
    have x6 := hb.cell 6
    have x7 := hb.cell 7
    simp at x0 x1 x2 x3 x4 x5 x6 x7
    have h2 : 1 ≤ n - 1 - 1 := by omega
    have hws := hBW.size
    have hmix : Tryz.prog.follows .mixedOrders = true := by kernel_rfl
    have HI := Lib.hid hI
    have HV := Lib.hid hv
    have HR := Lib.hid hrow
    have HB := Lib.hid hb
    have HF := Lib.hid hF
    have HBW := Lib.hid hBW
    clear hI hv hrow hF hb hBW hB0 bF bO bT hT0 hsort
    gi_wp2
    gi_region_with (first
      | (refine ⟨trivial, ?_⟩; gi_at_call 79; refine (CO _).mono ?_; rintro e w2 ⟨rfl, kb⟩; replace cO := celln kb (dcell cO); replace cF := celln kb (dcell cF); have cO2 : ∀ o, (w2.alloc o).cell? ⟨w.heap.size + 1, 0, none⟩ = some v := fun o => acell cO; have KB := kbq (Below.refl _ W).drew kb)
      | (obtain ⟨g, cap, w3, hrun, ho3, hg3, hg4⟩ := app_slot x.1 HR.out (by rw [List.length_map]) KB (by omega) (by omega); have b3 := ((HV.out.kept (row := none) ⟨KB.os, KB.tape, KB.output, KB.size, fun j hj _ => KB.block j hj⟩ (by simp)).alloc (.cells x.1.cs Tas)).kept hg3 (HV.out.not_row (by decide) HR.out); have c3 := b3.cell; have f3 := b3.frozen; rw [hrun]))
    all_goals
      show KeepsFrom _ _ _ ∧ Kpt _ _ _ _ _ _ _ _ ∧ InS _ _ _ _
      have z := app_end (T := T) (M := M) (m := m) (c := c) (S0 := S) (mv := id) (w := w) W0.heap.size HV.out (by decide) HR.out HF.out (by omega) (by decide) HBW.out (by omega) KB ho3 hg3 (by decide) (by decide)
      refine ⟨z.1, z.2.1, ?_⟩
      have z2 := z.2.2
      unfold InS
      rw [List.map_append, List.length_append]
      exact z2
  case done =>
    rintro D xs W hD hS hI hK
    obtain ⟨⟨v, hv, hrow⟩, hF, hBW⟩ := id hI
    have cO := hv.cell
    have fO := hv.frozen
    have HI := Lib.hid hI
    have HV := Lib.hid hv
    have HR := Lib.hid hrow
    have HBW := Lib.hid hBW
    clear hI hv hrow hF hB0 bF bO bT hT0 hsort
    dsimp only
    gi_wp2
    refine ⟨by simp, .inl ⟨_, _, rfl, run_takeDeferred hK, ?_⟩⟩
    refine ⟨v, by simp [results, Tryz.f78, go_sem], v, xs.map (fun x => x.1), rfl, ?_, ?_, ?_, ?_⟩
    · have z := ownsRow_putObj HR.out (.deferred none) hK rfl
      unfold OwS
      rw [List.length_map]; exact z
    · intro y hy
      obtain ⟨x, _, rfl⟩ := List.mem_map.1 hy
      obtain ⟨s, hs, _, e⟩ := x.2
      rcases e with e | e <;> (rw [e]; exact hs)
    · rw [List.map_map]; exact hS
    · exact HBW.out.grown (grownBy_putObj' W D _) HBW.out.size (fun k e => by cases e; omega)
  case stop =>
    rintro D cc pre W hD _ hF
    exact hF.elim
end Go.Proofs.YtbejkcdaefkibaaGreat.Wd
namespace Go.Proofs.YtbejkcdaefkibaaGreat.Wd
open Go Go.RowKit Go.Deep Go.Shelf
set_option linter.unusedVariables false
set_option maxRecDepth 100000

/-- All slots, their keys rising. -/
structure Told (S xs : List Sl) : Prop where
  mem : ∀ x, x ∈ xs ↔ x ∈ S
  len : xs.length = S.length
  inc : xs.Pairwise (fun x y => ltK y.key x.key = false)
theorem told_of {S xs : List Sl} (h : S.Pairwise (fun x y => x.key ≠ y.key)) (hm : ∀ x ∈ xs, x ∈ S) (ha : Allk S (xs.map (fun x => x.key))) : Told S xs := by
  obtain ⟨d, hp, hs, e⟩ := ha
  have hpk : (xs.map (fun x => x.key)).Perm (S.map (fun x => x.key)) := by rw [e]; exact hp
  refine ⟨fun x => ⟨hm x, fun hx => ?_⟩, by simpa using hpk.length_eq, ?_⟩
  · obtain ⟨y, hy, ek⟩ := List.mem_map.1 (hpk.mem_iff.2 (List.mem_map.2 ⟨x, hx, rfl⟩))
    rw [← pw_one h (hm y hy) hx ek]; exact hy
  · have : (xs.map (fun x => x.key)).Pairwise (fun a b => ltK b a = false) := by
      rw [e, List.pairwise_iff_getElem]
      intro i j hi hj hij
      have h1 := hs i j (Nat.zero_le _) hij (by simpa using hj)
      rw [getElem!_pos d i (by simpa using hi), getElem!_pos d j (by simpa using hj)] at h1
      simpa using h1
    exact List.pairwise_map.1 this
theorem slots_any (T : Nat) (B : Nat → Prop) (m c : Int) (S : List Sl) (w : World) (h : Tbl w T B m c S) (hsort : SortC S.length) :
    Calls Tryz.prog 42 #[ptr T] w fun e w' => ∃ v xs, e = .returned v ∧ OwS w' w.heap.size v xs ∧ Told S xs ∧ Below w.heap.size w w' := by
  obtain ⟨M, hM⟩ := h.tbm
  have C := callsIn_wide.1 (sall_in 8 (by omega) T M B m c S w hM hsort)
  have hw := h.wf.ap
  have O := fun W => ornew_yes T W
  clear hM h
  go_enter Tryz.func42, Tryz.ntmps42
  go_wp2_with (first
    | (go_at_call 64; refine (O _).mono ?_; rintro e w1 ⟨rfl, rfl⟩)
    | (go_at_call 78; refine C.mono ?_; rintro e w2 ⟨v, xs, rfl, h1, h2, h3, h4⟩))
  go_ret
  exact ⟨_, _, rfl, h1, told_of hw h2 h3, h4⟩
theorem active_any (T : Nat) (B : Nat → Prop) (m c : Int) (S : List Sl) (w : World) (h : Tbl w T B m c S) :
    Calls Tryz.prog 41 #[ptr T] w fun e w' => e = .returned (.int .i64 S.length) ∧ w' = w := by
  obtain ⟨M, hM, c2, hl, _⟩ := h.look ⟨#[]⟩ (by decide)
  have hl := hl w rfl
  have O := fun W => ornew_yes T W
  clear h
  go_enter Tryz.func41, Tryz.ntmps41
  go_wp2_with (go_at_call 64; refine (O _).mono ?_; rintro e w1 ⟨rfl, rfl⟩)
  go_ret
  exact ⟨rfl, rfl⟩
end Go.Proofs.YtbejkcdaefkibaaGreat.Wd
namespace Go.Proofs.YtbejkcdaefkibaaGreat.Wd
open Go Go.RowKit Go.Deep Go.Shelf
set_option linter.unusedVariables false
set_option maxRecDepth 100000
attribute [local go_sem] Oper.semAt_some
attribute [local go_sem ↓ 2000] builtin_app

abbrev Tae : TypeId := 70
abbrev Tens : TypeId := 26
abbrev Tfe : TypeId := 132
/-- An entry: a key, and until when. -/
abbrev En : Type := ByteArray × Int
abbrev En.cs (x : En) : Array Value := #[.string x.1, .int .u64 x.2]
/-- A slot's entry. -/
def entS (c : Int) (s : Sl) : En := (s.key, dueS c s)
def flatE : List En → List Value
  | [] => []
  | x :: xs => (En.cs x).toList ++ flatE xs
theorem flatE_append (a b : List En) : flatE (a ++ b) = flatE a ++ flatE b := by
  induction a with
  | nil => rfl
  | cons x xs ih => rw [List.cons_append, flatE, flatE, ih, List.append_assoc]
theorem flatE_len (a : List En) : (flatE a).length = a.length * 2 := by
  induction a with
  | nil => rfl
  | cons x xs ih => rw [flatE, List.length_append, ih, List.length_cons]; simp; omega
abbrev en0 : En := (⟨#[]⟩, 0)
abbrev atE (xs : List En) (k : Nat) : En := xs.getD k en0
theorem flatE_at : ∀ (xs : List En) (k : Nat), k < xs.length → ∀ j, j < 2 → (flatE xs)[k * 2 + j]? = (En.cs (atE xs k))[j]?
  | [], _, h, _, _ => absurd h (Nat.not_lt_zero _)
  | x :: xs, 0, _, j, hj => by
    rw [flatE, List.getElem?_append_left (by simp; omega)]; simp
  | x :: xs, k + 1, h, j, hj => by
    rw [flatE, List.getElem?_append_right (by simp; omega)]
    have := flatE_at xs k (by simpa using h) j hj
    rw [show (k + 1) * 2 + j - (En.cs x).toList.length = k * 2 + j by simp; omega, this]
    simp
theorem flatE_one (xs : List En) : ∀ u ∈ flatE xs, u.oneCell' = true := by
  induction xs with
  | nil => intro u hu; cases hu
  | cons x xs ih =>
    intro u hu
    rw [flatE, List.mem_append] at hu
    rcases hu with hu | hu
    · simp at hu
      rcases hu with rfl | rfl <;> rfl
    · exact ih u hu
/-- A row of entries that a call owns. -/
def OwE (w : World) (base : Nat) (v : Value) (xs : List En) : Prop := w.ownsRow base Tae 2 v xs.length (flatE xs)
theorem zeroAe : (Tryz.prog.info? Tae).map (fun i => (i.zero, i.size, i.bytes)) = some (some (.agg #[.string ⟨#[]⟩, .int .u64 0]), 2, 24) := by kernel_rfl
/-- An entry lies in two cells. -/
def S2 (w : World) (b o : Nat) (x : En) : Prop := w.cell? ⟨b, o, none⟩ = some (.string x.1) ∧ w.cell? ⟨b, o + 1, none⟩ = some (.int .u64 x.2)
theorem OwE.form {w : World} {base : Nat} {v : Value} {xs : List En} (h : OwE w base v xs) : ∃ A cap, v = .slice A xs.length cap ∧ xs.length ≤ cap ∧ cap ≤ maxLen ∧ (0 < xs.length → ∃ b, A = some ⟨b, 0, none⟩ ∧ base ≤ b ∧ b < w.heap.size ∧ ∀ k, k < xs.length → S2 w b (k * 2) (atE xs k)) := by
  rcases h.2 with ⟨rfl, h0⟩ | ⟨g, cap, cur, rfl, hb, hgg, h1, h2, h3, h4⟩
  · refine ⟨none, 0, by rw [h0], by omega, by unfold maxLen; omega, fun hp => by omega⟩
  · have hc : ∀ k, k < xs.length → ∀ j, j < 2 → w.cell? ⟨g, k * 2 + j, none⟩ = (En.cs (atE xs k))[j]? := fun k hk j hj => by
      rw [← flatE_at xs k hk j hj, ← h4, List.getElem?_take, if_pos (by omega)]
      simp [World.cell?, hgg]
    exact ⟨_, cap, rfl, h1, h2, fun _ => ⟨g, rfl, hb, heap_lt hgg, fun k hk => ⟨hc k hk 0 (by omega), hc k hk 1 (by omega)⟩⟩⟩
theorem Blk.two {w : World} {b : Nat} {x : En} {t : TypeId} (h : Blk w b (En.cs x) t) : w.cell? ⟨b, 0, none⟩ = some (.string x.1) ∧ w.cell? ⟨b, 1, none⟩ = some (.int .u64 x.2) := ⟨h.cell 0, h.cell 1⟩
set_option maxHeartbeats 2000000 in
theorem entry1_any (s : Sl) (R T : Nat) (c : Int) (w : World) (hs : Oks s) (hc : U c) (cR : w.cell? ⟨R, 0, none⟩ = some (ptr T)) (cT : w.cell? ⟨T, 1, none⟩ = some (.int .u64 c)) :
    Calls Tryz.prog 66 #[s.v, ptr R] w fun e w' => e = .returned (.agg (En.cs (entS c s))) ∧ Below w.heap.size w w' := by
  have CC := Lib.hid (fun W => cap_any s.r.p s.r.e s.r.b s.r.k W (by have := hs.r.p; omega) hs.r.e hs.r.b)
  have CU := Lib.hid (fun W => kuntil_any s.k s.a s.b c (capS s) W hs.a hs.b hc (capS_U hs))
  have CL := Lib.hid (fun W => clone_any s.key W hs.key)
  rw [show entS c s = (s.key, kuI c (kfI s.k s.a s.b c (capS s))) from rfl]
  have b0 := Lib.hid ((Blk.new w s.cs 92).alloc (.cells #[.string ⟨#[]⟩, .int .u64 0] 70))
  have r0 := Lib.hid (Blk.new (w.alloc (.cells s.cs 92)) #[.string ⟨#[]⟩, .int .u64 0] 70)
  rw [show (w.alloc (.cells s.cs 92)).heap.size = w.heap.size + 1 by simp] at r0
  have k0 := Lib.hid (((Below.refl _ w).alloc (Nat.le_refl _) (.cells s.cs 92)).alloc (by simp) (.cells #[.string ⟨#[]⟩, .int .u64 0] 70))
  replace cR := celln k0.out cR
  replace cT := celln k0.out cT
  go_enter Tryz.func66, Tryz.ntmps66
  go_wp2_with fail
  generalize ((w.alloc (.cells s.cs 92)).alloc (.cells #[.string ⟨#[]⟩, .int .u64 0] 70)) = W at *
  obtain ⟨x0, x1, x2, x3, x4, x5, x6, x7⟩ := b0.out.eight
  have kr := Tch.refl (fun _ => False) W
  go_region_held3 (fun w' => Tch (fun _ => False) W w' ∧ w'.cell? ⟨w.heap.size, 0, none⟩ = some (.string s.key) ∧ w'.cell? ⟨w.heap.size, 1, none⟩ = some (.string s.r.p) ∧ w'.cell? ⟨w.heap.size, 2, none⟩ = some (.int .u64 s.r.e) ∧ w'.cell? ⟨w.heap.size, 3, none⟩ = some (.int .u64 s.r.b) ∧ w'.cell? ⟨w.heap.size, 4, none⟩ = some (.int .u8 s.r.k) ∧ w'.cell? ⟨w.heap.size, 5, none⟩ = some (.int .u8 s.k) ∧ w'.cell? ⟨w.heap.size, 6, none⟩ = some (.int .u64 s.a) ∧ w'.cell? ⟨w.heap.size, 7, none⟩ = some (.int .u64 s.b) ∧ w'.cell? ⟨R, 0, none⟩ = some (ptr T) ∧ w'.cell? ⟨T, 1, none⟩ = some (.int .u64 c))
    (first | with_reducible exact ⟨kr, x0, x1, x2, x3, x4, x5, x6, x7, cR, cT⟩ | with_reducible exact ⟨(td kr), dcell x0, dcell x1, dcell x2, dcell x3, dcell x4, dcell x5, dcell x6, dcell x7, dcell cR, dcell cT⟩)
    (first
      | (go_at_call 68; ((with_reducible refine (CC.out _).mono ?_); rintro r w' ⟨rfl, _, g⟩; (first | with_reducible (replace kr := tb kr g; replace x0 := celln g x0; replace x1 := celln g x1; replace x2 := celln g x2; replace x3 := celln g x3; replace x4 := celln g x4; replace x5 := celln g x5; replace x6 := celln g x6; replace x7 := celln g x7; replace cR := celln g cR; replace cT := celln g cT) | with_reducible (replace kr := tb (td kr) g; replace x0 := celln g (dcell x0); replace x1 := celln g (dcell x1); replace x2 := celln g (dcell x2); replace x3 := celln g (dcell x3); replace x4 := celln g (dcell x4); replace x5 := celln g (dcell x5); replace x6 := celln g (dcell x6); replace x7 := celln g (dcell x7); replace cR := celln g (dcell cR); replace cT := celln g (dcell cT)))))
      | (go_at_call 67; ((with_reducible refine (CU.out _).mono ?_); rintro r W1 ⟨rfl, _, g⟩; (first | with_reducible (replace kr := tb kr g; replace x0 := celln g x0; replace x1 := celln g x1; replace x2 := celln g x2; replace x3 := celln g x3; replace x4 := celln g x4; replace x5 := celln g x5; replace x6 := celln g x6; replace x7 := celln g x7; replace cR := celln g cR; replace cT := celln g cT) | with_reducible (replace kr := tb (td kr) g; replace x0 := celln g (dcell x0); replace x1 := celln g (dcell x1); replace x2 := celln g (dcell x2); replace x3 := celln g (dcell x3); replace x4 := celln g (dcell x4); replace x5 := celln g (dcell x5); replace x6 := celln g (dcell x6); replace x7 := celln g (dcell x7); replace cR := celln g (dcell cR); replace cT := celln g (dcell cT))))))
  rename_i hH
  clear hH
  have k1 := Lib.hid (Tch.belowF k0.out kr)
  have r1 := Lib.hid (kr.blk r0.out (fun x => x))
  clear CC CU b0 r0 k0 kr
  go_wp2_with (go_at_call 69; refine (CL.out _).mono ?_; rintro e W2 ⟨rfl, g⟩; refine stopHere ?_)
  unfold Stop
  have k2 := Lib.hid (kbq k1.out g)
  have r2 := Lib.hid (r1.out.below g)
  have y0 := r2.out.cell 0
  have y1 := r2.out.cell 1
  have f0 := r2.out.fz 0
  have f1 := r2.out.fz 1
  clear r1 k1 g x0 x1 x2 x3 x4 x5 x6 x7 cR cT CL
  simp at y0 y1
  go_wp2
  have z := (r2.out.set 0 (.string s.key)).set 1 (.int .u64 (kuI c (kfI s.k s.a s.b c (capS s))))
  have kZ := (k2.out.setCell (p := ⟨w.heap.size + 1, 0, none⟩) (Nat.le_succ _) (.string s.key)).setCell (p := ⟨w.heap.size + 1, 1, none⟩) (Nat.le_succ _) (.int .u64 (kuI c (kfI s.k s.a s.b c (capS s))))
  obtain ⟨q0, q1⟩ := Blk.two (x := (s.key, kuI c (kfI s.k s.a s.b c (capS s)))) (show Blk _ (w.heap.size + 1) (En.cs (s.key, kuI c (kfI s.k s.a s.b c (capS s)))) _ from z)
  generalize (W2.setCell ⟨w.heap.size + 1, 0, none⟩ (.string s.key)).setCell ⟨w.heap.size + 1, 1, none⟩ (.int .u64 (kuI c (kfI s.k s.a s.b c (capS s)))) = V at *
  refine bodyPost_ret (v := .agg (En.cs (s.key, kuI c (kfI s.k s.a s.b c (capS s))))) ?_ rfl ⟨rfl, kZ⟩
  simp [results, Tryz.results66, go_sem, q0, q1]
abbrev entV (R : Nat) : Value := .func (Fn.func 66) #[] #[ptr R]
theorem app_entry {W w2 : World} {n0 k : Nat} {v : Value} {pre : List En} (x : En) (h : W.ownsRow n0 Tae 2 v k (flatE pre)) (hk : k = pre.length) (kb : Below W.heap.size W w2) (hs : k + 1 ≤ 1099511627776) (hb : n0 ≤ W.heap.size) :
    ∃ g cap w3, (AP #[Tens, Tens] Tens #[v, .slice (some ⟨w2.heap.size, 0, none⟩) 1 1]).run Tryz.prog (w2.alloc (.cells (En.cs x) Tae)) = .ok (.slice (some ⟨g, 0, none⟩) (k + 1) cap) w3 ∧
      w3.ownsRow n0 Tae 2 (.slice (some ⟨g, 0, none⟩) (k + 1) cap) (k + 1) (flatE (pre ++ [x])) ∧ (w2.alloc (.cells (En.cs x) Tae)).grownBy w3 v.ownBlock ∧ g < w3.heap.size := by
  obtain ⟨i0, hi, hy0, hy1, hy2⟩ := info_parts zeroAe
  have kb' : Below W.heap.size W (w2.alloc (.cells (En.cs x) Tae)) := kb.alloc kb.size _
  have hr : (w2.alloc (.cells (En.cs x) Tae)).ownsRow n0 Tae 2 v k (flatE pre) := own_below h kb'
  obtain ⟨g, cap, w3, h1, h2, h3, _, h5⟩ := run_append_lies (P := Tryz.prog) (w2.alloc (.cells (En.cs x) Tae)) Tens Tens n0 Tae i0 _ 2 24 Tryz.underlying26 hi hy0 hy1 hy2 rfl (by decide) v k (flatE pre) hr ⟨w2.heap.size, 0, none⟩ 1 1 (flatE [x]) (by rw [flatE_len]; rfl) (by
    intro j u hu
    have hj : j < 2 := by
      by_cases z : j < 2
      · exact z
      · rw [List.getElem?_eq_none (by rw [flatE_len]; simp; omega)] at hu; cases hu
    have e := flatE_at [x] 0 (by simp) j hj
    rw [Nat.zero_mul, Nat.zero_add, hu] at e
    rw [Addr.add_lit, Nat.zero_add, (Blk.new w2 (En.cs x) Tae).cell j, e]; rfl) (flatE_one _) (by decide) (by unfold maxLen; omega) (by omega) (by simp; have := kb.size; omega) _ rfl
  refine ⟨g, cap, w3, h1, ?_, h3, h5⟩
  rw [flatE_append]; exact h2
/-- So many entries have come. -/
def InE (c : Int) (R : Nat) (S : List Sl) (w : World) (pre : List {x : Sl // Vr S id x}) (W : World) : Prop := Gath w.heap.size (w.heap.size + 1) w.heap.size Tens Tae Tfe 2 (entV R) w (flatE (pre.map (fun x => entS c x.1))) pre.length W
theorem InE.own {c : Int} {R : Nat} {S : List Sl} {w : World} (Bd : Nat) (hB : w.heap.size ≤ Bd) : OwnFrom Bd (InE c R S w) := fun s X Y row hs hg hr => Gath.own hs hg (fun r e => ⟨Nat.le_trans hB (hr r e).1, (hr r e).2⟩)
set_option maxHeartbeats 4000000 in
theorem eall_in (n : Nat) (hn : 8 ≤ n) (R T M : Nat) (B : Nat → Prop) (m c : Int) (S : List Sl) (w : World) (h : Tbm w T M B m c S) (hsort : SortC S.length) (gR : w.cell? ⟨R, 0, none⟩ = some (ptr T)) :
    CallsIn Fence.wide n Tryz.prog 65 #[ptr T, (entV R)] w fun e w' => ∃ v, ∃ xs : List Sl, e = .returned v ∧ OwE w' w.heap.size v (xs.map (entS c)) ∧ (∀ x ∈ xs, x ∈ S) ∧ Allk S (xs.map (fun x => x.key)) ∧ Below w.heap.size w w' := by
  have h1 : 1 ≤ n := by omega
  refine callsIn_of_wp_marks Tryz.func65 rfl trivial ?_ rfl
  simp only [Tryz.ntmps65, List.size_toArray, List.length_cons, List.length_nil, Nat.reduceAdd, Nat.reduceSub, Array.replicate_succ, Array.replicate_zero, List.push_toArray, List.append_toArray, List.nil_append, List.cons_append]
  gi_wp2_with (refine ⟨trivial, ?_⟩; gi_at_call 115; refine (active_in Fence.wide (n - 1) trivial rfl T _).mono ?_; rintro e w1 ⟨rfl, rfl⟩)
  obtain ⟨W0, hW0⟩ : ∃ W0, ((w.alloc (.cells #[(entV R)] Tfe)).alloc (.cells #[.slice none 0 0] Tens)).alloc (.cells #[ptr T] Ttp) = W0 := ⟨_, rfl⟩
  have bF : Boxed W0 w.heap.size Tfe (entV R) := by rw [← hW0]; exact ((Boxed.new w _ _).alloc _).alloc _
  have bO : Boxed W0 (w.heap.size + 1) Tens (.slice none 0 0) := by rw [← hW0]; have := (Boxed.new (w.alloc (.cells #[(entV R)] Tfe)) Tens (.slice none 0 0)).alloc (.cells #[ptr T] Ttp); simpa using this
  have bT : Boxed W0 (w.heap.size + 1 + 1) Ttp (ptr T) := by rw [← hW0]; have := Boxed.new ((w.alloc (.cells #[(entV R)] Tfe)).alloc (.cells #[.slice none 0 0] Tens)) Ttp (ptr T); simpa using this
  have hB0 : Below w.heap.size w W0 := by rw [← hW0]; exact (((Below.refl _ w).alloc (Nat.le_refl _) _).alloc (by simp) _).alloc (by simp; omega) _
  have hsz : W0.heap.size = w.heap.size + 3 := by rw [← hW0]; simp
  have hT0 : Tbm W0 T M (fun _ => True) m c S := (h.below hB0).mono (fun _ _ => trivial)
  have hfew : S.length ≤ 1000000 := by have := h.wf.len; have := h.wf.m2; omega
  have hok : ∀ x ∈ S, Oks x := fun x hx => (h.wf.ok x hx).oks
  have hcU := h.wf.cu
  have gT := h.tbl.cells.2.1
  rw [hW0]
  clear hW0 h
  refine wpIn_rangeFunc_ownH rfl h1 (gf := 163) (lb := #[ptr (w.heap.size + 1 + 1)]) rfl trivial (enters_of Tryz.func163 (by kernel_rfl) rfl)
    (act1_stops (n - 1) (by omega) T M (w.heap.size + 1 + 1) m c S id W0 bT hT0 hsort) Kpt.trans (fun W l o o' _ x y z => Kpt.put W l o o' x y z) (Below.refl _ _) (fun _ => rfl)
    (InE c R S w) (fun _ _ _ => False) (InE.own _ (by omega)) (fun _ s A Bw row hs hg hr => hs) ⟨⟨_, bO, World.ownsRow_nil _ _ _ _⟩, bF, hB0⟩
    (fun x a' W => ∃ b, Blk W b x.1.cs Tas ∧ a' = { tmps := #[ptr T, (entV R), undef, .pointer (some ⟨w.heap.size, 0, none⟩), .slice none 0 0, .pointer (some ⟨w.heap.size + 1, 0, none⟩), ptr b, ptr T, .func (.func 163) #[] #[ptr (w.heap.size + 1 + 1)], x.1.v, undef, undef, undef, undef, undef, undef, undef], defers := [] })
    ?hAx ?assign ?body ?done ?stop
  case hAx =>
    rintro x a' s X Y row ⟨b, hb, e⟩ hg hr
    refine ⟨b, (hg.block b hb.lt (fun e' => ?_)).trans hb, e⟩
    obtain ⟨_, o, ho, hc⟩ := hr b e'.symm
    rw [show X.heap[b]? = _ from hb] at ho; cases ho; cases hc
  case assign =>
    intro l pre x W K hI hK
    gi_wp2
    refine hK _ _ ((KeepsOthers.alloc W _).from _) (kpt_far (by simp) (fun k o ho _ => (al_old _ _ (heap_lt ho)).trans ho)) ((InE.own W0.heap.size (by omega)).alloc _ hI) ⟨W.heap.size, Blk.new _ _ _, rfl⟩
  case body =>
    rintro l pre x a' W hl ⟨r, hr⟩ hI ⟨b, hb, rfl⟩ hlen
    obtain ⟨⟨v, hv, hrow⟩, hF, hBW⟩ := id hI
    have xS : x.1 ∈ S := by obtain ⟨s, hs, _, e⟩ := x.2; rcases e with e | e <;> (rw [e]; exact hs)
    have CO := fun W' g1 g2 => CallsIn.inRound l (callsIn_wide (n := n - 1 - 1 - 1) |>.2 (entry1_any x.1 R T c W' (hok _ xS) hcU g1 g2))
    have cR := celln hBW gR
    have cT := celln hBW gT
    have cF := hF.cell
    have cO := hv.cell
    have fO := hv.frozen
    have x0 := hb.cell 0
    have x1 := hb.cell 1
    have x2 := hb.cell 2
    have x3 := hb.cell 3
    have x4 := hb.cell 4
    have x5 := hb.cell 5
    have x6 := hb.cell 6
    have x7 := hb.cell 7
    simp at x0 x1 x2 x3 x4 x5 x6 x7
    have h2 : 1 ≤ n - 1 - 1 := by omega
    have hws := hBW.size
    have hmix : Tryz.prog.follows .mixedOrders = true := by kernel_rfl
    have HI := Lib.hid hI
    have HV := Lib.hid hv
    have HR := Lib.hid hrow
    have HB := Lib.hid hb
    have HF := Lib.hid hF
    have HBW := Lib.hid hBW
    clear hI hv hrow hF hb hBW hB0 bF bO bT hT0 hsort
    gi_wp2
    gi_region_with (first
      | (refine ⟨trivial, ?_⟩; gi_at_call 66; refine (CO _ (by first | exact cR | exact dcell cR) (by first | exact cT | exact dcell cT)).mono ?_; rintro e w2 ⟨rfl, kb⟩; replace cO := celln kb (dcell cO); replace cF := celln kb (dcell cF); have cO2 : ∀ o, (w2.alloc o).cell? ⟨w.heap.size + 1, 0, none⟩ = some v := fun o => acell cO; have KB := kbq (Below.refl _ W).drew kb)
      | (obtain ⟨g, cap, w3, hrun, ho3, hg3, hg4⟩ := app_entry (entS c x.1) HR.out (by rw [List.length_map]) KB (by omega) (by omega); have b3 := ((HV.out.kept (row := none) ⟨KB.os, KB.tape, KB.output, KB.size, fun j hj _ => KB.block j hj⟩ (by simp)).alloc (.cells (En.cs (entS c x.1)) Tae)).kept hg3 (HV.out.not_row (by decide) HR.out); have c3 := b3.cell; have f3 := b3.frozen; rw [hrun]))
    all_goals
      show KeepsFrom _ _ _ ∧ Kpt _ _ _ _ _ _ _ _ ∧ InE _ _ _ _ _ _
      have z := app_end (T := T) (M := M) (m := m) (c := c) (S0 := S) (mv := id) (w := w) W0.heap.size HV.out (by decide) HR.out HF.out (by omega) (by decide) HBW.out (by omega) KB ho3 hg3 (by decide) (by decide)
      refine ⟨z.1, z.2.1, ?_⟩
      have z2 := z.2.2
      unfold InE
      rw [List.map_append, List.length_append]
      exact z2
  case done =>
    rintro D xs W hD hS hI hK
    obtain ⟨⟨v, hv, hrow⟩, hF, hBW⟩ := id hI
    have cO := hv.cell
    have fO := hv.frozen
    have HI := Lib.hid hI
    have HV := Lib.hid hv
    have HR := Lib.hid hrow
    have HBW := Lib.hid hBW
    clear hI hv hrow hF hB0 bF bO bT hT0 hsort
    dsimp only
    gi_wp2
    refine ⟨by simp, .inl ⟨_, _, rfl, run_takeDeferred hK, ?_⟩⟩
    refine ⟨v, by simp [results, Tryz.f65, go_sem], v, xs.map (fun x => x.1), rfl, ?_, ?_, ?_, ?_⟩
    · have z := ownsRow_putObj HR.out (.deferred none) hK rfl
      unfold OwE
      rw [List.length_map, List.length_map, List.map_map]; exact z
    · intro y hy
      obtain ⟨x, _, rfl⟩ := List.mem_map.1 hy
      obtain ⟨s, hs, _, e⟩ := x.2
      rcases e with e | e <;> (rw [e]; exact hs)
    · rw [List.map_map]; exact hS
    · exact HBW.out.grown (grownBy_putObj' W D _) HBW.out.size (fun k e => by cases e; omega)
  case stop =>
    rintro D cc pre W hD _ hF
    exact hF.elim
end Go.Proofs.YtbejkcdaefkibaaGreat.Wd
namespace Go.Proofs.YtbejkcdaefkibaaGreat.Wd
open Go Go.RowKit Go.Deep Go.Shelf
set_option linter.unusedVariables false
set_option maxRecDepth 100000

/-- Whose table it is: one that is there, or a new one in the place of none. -/
structure Ent (o : Option Addr) (w : World) (QT B : Nat → Prop) (m c : Int) (S : List Sl) : Prop where
  go : ∀ V, Below w.heap.size w V → Calls Tryz.prog 64 #[.pointer o] V fun e w1 => ∃ T, e = .returned (ptr T) ∧ Below V.heap.size V w1 ∧ QT T ∧ Tbl w1 T B m c S
theorem Ent.yes {w : World} {T : Nat} {B : Nat → Prop} {m c : Int} {S : List Sl} (h : Tbl w T B m c S) : Ent (some ⟨T, 0, none⟩) w (fun x => x = T) B m c S := ⟨fun V g => (ornew_yes T V).mono (by
  rintro e w1 ⟨rfl, rfl⟩
  exact ⟨T, rfl, Below.refl _ _, rfl, h.below g⟩)⟩
theorem Ent.no (w : World) : Ent none w (fun _ => True) (fun k => w.heap.size ≤ k) 1 0 [] := ⟨fun V g => (ornew_no V).mono (by
  rintro e w1 ⟨rfl, hb, ht, hs⟩
  exact ⟨_, rfl, hb, trivial, ht.mono (fun k hk => Nat.le_trans g.size hk.1)⟩)⟩
theorem Ent.below {o : Option Addr} {w w' : World} {QT B : Nat → Prop} {m c : Int} {S : List Sl} (h : Ent o w QT B m c S) (g : Below w.heap.size w w') : Ent o w' QT B m c S := ⟨fun V k => h.go V (kbq g k)⟩
theorem Tbm.setBox {w : World} {T M : Nat} {B : Nat → Prop} {m c : Int} {S : List Sl} (h : Tbm w T M B m c S) {R : Nat} {t : TypeId} {v : Value} (hb : Boxed w R t v) (ht : ¬ (t = TTab ∨ t = Tsl ∨ t = Tps)) (u : Value) : Tbm (w.setCell ⟨R, 0, none⟩ u) T M B m c S := by
  have hM : ¬ R = M := by
    rintro rfl
    obtain ⟨F, bs, h1, _⟩ := h
    exact h1.map.nocells hb
  refine (h.sure.keep (fun k hk _ => Below.heap_setCell _ _ _ _ (fun e => ?_))).mono (fun _ hk => hk.1)
  subst e
  rcases hk.2 with e | ⟨cs, t', h1, h2⟩
  · exact hM e
  · have hb : w.heap[k]? = some (.cells #[v] t) := hb
    rw [hb] at h1; cases h1; exact ht h2
theorem box_put {w : World} {R : Nat} {t : TypeId} {v : Value} (hb : Boxed w R t v) (u : Value) : Boxed (w.setCell ⟨R, 0, none⟩ u) R t u := Blk.set (cs := #[v]) hb 0 u
theorem own_base {w : World} {a b : Nat} {e : TypeId} {size k : Nat} {v : Value} {xs : List Value} (hab : a ≤ b) (h : w.ownsRow b e size v k xs) : w.ownsRow a e size v k xs := ⟨h.1, by
  rcases h.2 with hn | ⟨g, cap, cur, e, hb, rest⟩
  · exact .inl hn
  · exact .inr ⟨g, cap, cur, e, Nat.le_trans hab hb, rest⟩⟩
theorem Told.of_keys {S xs : List Sl} (hw : S.Pairwise (fun x y => x.key ≠ y.key)) (h2 : ∀ x ∈ xs, x ∈ S) (h3 : Allk S (xs.map (fun x => x.key))) : Told S xs := told_of hw h2 h3
theorem entries_of (o : Option Addr) (QT B : Nat → Prop) (m c : Int) (S : List Sl) (w : World) (h : Ent o w QT B m c S) (hsort : SortC S.length) :
    Calls Tryz.prog 28 #[.pointer o] w fun e w' => ∃ v, ∃ xs : List Sl, e = .returned v ∧ OwE w' w.heap.size v (xs.map (entS c)) ∧ Told S xs ∧ Below w.heap.size w w' := by
  have CO := Lib.hid h.go
  have b0 := Boxed.new w Ttp (.pointer o)
  have k0 := (Below.refl _ w).alloc (Nat.le_refl _) (.cells #[.pointer o] Ttp)
  have HS := Lib.hid hsort
  clear h hsort
  go_enter Tryz.func28, Tryz.ntmps28
  go_wp2_with (go_at_call 64; refine (CO.out _ k0).mono ?_; rintro e w2 ⟨T, rfl, g2, hQ, hT⟩; refine stopHere ?_)
  unfold Stop
  obtain ⟨M, hM⟩ := hT.tbm
  have b2 : Boxed w2 w.heap.size Ttp (.pointer o) := (g2.block _ (heap_lt b0)).trans b0
  have k2 := kbq k0 g2
  have hs2 := k2.size
  have hM3 := hM.setBox b2 (by decide) (ptr T)
  have b3 := box_put b2 (ptr T)
  have k3 := k2.setCell (p := ⟨w.heap.size, 0, none⟩) (Nat.le_refl _) (ptr T)
  have C := callsIn_wide.1 (eall_in 8 (by omega) w.heap.size T M B m c S _ hM3 HS.out b3.cell)
  have hw := hM.wf.ap
  have c2 := b2.cell
  have f2 := b2.frozen
  clear hM hM3 hT b2 g2 k0 b0 HS CO
  have c3 := b3.cell
  have hs3 : (w2.setCell ⟨w.heap.size, 0, none⟩ (ptr T)).heap.size = w2.heap.size := by simp
  clear b3
  go_wp2_with (go_at_call 65; refine C.mono ?_; rintro e w4 ⟨v, xs, rfl, h1, h2, h3, h4⟩)
  go_ret
  exact ⟨_, _, rfl, own_base (by omega) h1, Told.of_keys hw h2 h3, k3.trans (h4.mono (by omega))⟩
theorem entries_any (T : Nat) (B : Nat → Prop) (m c : Int) (S : List Sl) (w : World) (h : Tbl w T B m c S) (hsort : SortC S.length) :
    Calls Tryz.prog 28 #[ptr T] w fun e w' => ∃ v, ∃ xs : List Sl, e = .returned v ∧ OwE w' w.heap.size v (xs.map (entS c)) ∧ Told S xs ∧ Below w.heap.size w w' := entries_of _ _ B m c S w (Ent.yes h) hsort
end Go.Proofs.YtbejkcdaefkibaaGreat.Wd
namespace Go.Proofs.YtbejkcdaefkibaaGreat.Wd
open Go Go.RowKit Go.Deep Go.Shelf
set_option linter.unusedVariables false
set_option maxRecDepth 100000
attribute [local go_sem] Oper.semAt_some

/-- Once by a kernel, by it again. -/
theorem koA_again {k2 : Int} (h2 : Is3 k2) (c cap f : Int) (hc : U c) (hcap : U cap) (hf : U f) : koA k2 c cap (kfI k2 (koA k2 c cap f) (koB k2 c) c cap) = koA k2 c cap f := by
  unfold U at *
  rcases h2 with rfl | rfl | rfl
  · simp only [koA, koB, kfI, sat, sbI]; (repeat' split) <;> omega
  · simp [koA, koB, kfI, biI, tkI, sbI]; (repeat' split) <;> omega
  · simp [koA, koB, kfI, fiI, sbI]; omega
theorem mvS_again {c k2 : Int} {s : Sl} (h : Oks s) (hc : U c) (h3 : Is3 s.k) (h2 : Is3 k2) : mvS c k2 (mvS c k2 s) = mvS c k2 s := by
  have e0 := mvS_oks h hc h3 h2
  have ek := e0.2
  have e1 : kmK (mvS c k2 s).k k2 = (mvS c k2 s).k := by rw [ek, kmK_is h2 h2]
  have e3 : kmB (mvS c k2 s).k k2 c = (mvS c k2 s).b := by
    show _ = kmB s.k k2 c
    rw [ek, kmB_is h2, kmB_is h3]
  have e2 : kmA (mvS c k2 s).k (mvS c k2 s).a (mvS c k2 s).b k2 c (capS s) = (mvS c k2 s).a := by
    rw [ek]
    show kmA k2 (kmA s.k s.a s.b k2 c (capS s)) (kmB s.k k2 c) k2 c (capS s) = kmA s.k s.a s.b k2 c (capS s)
    rw [kmA_is h2, kmA_is h3, kmB_is h3]
    exact koA_again h2 c (capS s) _ hc (capS_U h) (flS_U h hc)
  show { mvS c k2 s with k := kmK (mvS c k2 s).k k2, a := kmA (mvS c k2 s).k (mvS c k2 s).a (mvS c k2 s).b k2 c (capS s), b := kmB (mvS c k2 s).k k2 c } = mvS c k2 s
  rw [e1, e2, e3]
open Classical in
/-- Who have come are by the other kernel. -/
noncomputable def mvd (c k2 : Int) (ks : List ByteArray) (s : Sl) : Sl := if s.key ∈ ks then mvS c k2 s else s
theorem mvd_key (c k2 : Int) (ks : List ByteArray) (s : Sl) : (mvd c k2 ks s).key = s.key ∧ (mvd c k2 ks s = s ∨ mvd c k2 ks s = mvS c k2 s) := by
  unfold mvd; split
  · exact ⟨rfl, .inr rfl⟩
  · exact ⟨rfl, .inl rfl⟩
theorem mvd_nil (c k2 : Int) (S : List Sl) : S.map (mvd c k2 []) = S := by
  have : mvd c k2 [] = id := by funext s; unfold mvd; simp
  rw [this, List.map_id]
theorem mvd_all {c k2 : Int} {S : List Sl} {ks : List ByteArray} (h : ∀ s ∈ S, s.key ∈ ks) : S.map (mvd c k2 ks) = S.map (mvS c k2) :=
  List.map_congr_left (fun s hs => by unfold mvd; rw [if_pos (h s hs)])
theorem offS_cons (k : ByteArray) (x : Sl) (S : List Sl) : offS k (x :: S) = if x.key = k then offS k S else x :: offS k S := by
  unfold offS
  by_cases e : x.key = k
  · rw [List.filter_cons_of_neg (by simp [e]), if_pos e]
  · rw [List.filter_cons_of_pos (by simp [e]), if_neg e]
theorem mvd_more {c k2 : Int} {s : Sl} (ks : List ByteArray) : ∀ {S : List Sl}, S.Pairwise (fun x y => x.key ≠ y.key) → s ∈ S → (mvS c k2 s :: offS s.key (S.map (mvd c k2 ks))).Perm (S.map (mvd c k2 (ks ++ [s.key])))
  | [], _, h => nomatch h
  | x :: S, hp, hs => by
    obtain ⟨h1, h2⟩ := List.pairwise_cons.1 hp
    have hfar : ∀ y ∈ S, y.key ≠ x.key := fun y hy e => h1 y hy e.symm
    rw [List.map_cons, List.map_cons, offS_cons, (mvd_key c k2 ks x).1]
    by_cases e : x.key = s.key
    · have ex : x = s := pw_one hp List.mem_cons_self hs e
      subst ex
      rw [if_pos rfl]
      have e1 : mvd c k2 (ks ++ [x.key]) x = mvS c k2 x := by unfold mvd; rw [if_pos (by simp)]
      rw [e1]
      refine List.Perm.cons _ ?_
      rw [offS_no (fun y hy => by
        obtain ⟨z, hz, rfl⟩ := List.mem_map.1 hy
        rw [(mvd_key c k2 ks z).1]; exact hfar z hz)]
      refine List.Perm.of_eq (List.map_congr_left (fun y hy => ?_))
      have hne := hfar y hy
      unfold mvd
      by_cases z : y.key ∈ ks
      · rw [if_pos z, if_pos (List.mem_append_left _ z)]
      · rw [if_neg z, if_neg (fun h => (List.mem_append.1 h).elim z (fun h => hne (List.mem_singleton.1 h)))]
    · rw [if_neg e]
      have hs' : s ∈ S := by
        rcases List.mem_cons.1 hs with rfl | h
        · exact absurd rfl e
        · exact h
      have e1 : mvd c k2 (ks ++ [s.key]) x = mvd c k2 ks x := by
        unfold mvd
        by_cases z : x.key ∈ ks
        · rw [if_pos z, if_pos (List.mem_append_left _ z)]
        · rw [if_neg z, if_neg (fun h => (List.mem_append.1 h).elim z (fun h => e (List.mem_singleton.1 h)))]
      rw [e1]
      exact (List.Perm.swap _ _ _).trans ((mvd_more ks h2 hs').cons _)
abbrev Tu8 : TypeId := 5
abbrev Tint : TypeId := 3
/-- Between two rounds: who has come is by the other kernel. -/
structure InM (T M R2 R3 R6 : Nat) (B : Nat → Prop) (m c k2 : Int) (S : List Sl) (w0 : World) (pre : List {x : Sl // Vr S (mvS c k2) x}) (W : World) : Prop where
  r2 : Boxed W R2 Ttp (ptr T)
  r3 : Boxed W R3 Tu8 (.int .u8 k2)
  r6 : Boxed W R6 Tint (.int .i64 (pre.length : Int))
  tch : Tch B w0 W
  tab : Tbm W T M (Nx B w0) m c (S.map (mvd c k2 (pre.map (fun x => x.1.key))))
theorem box_grown {X Y : World} {row : Option Nat} {b : Nat} {t : TypeId} {u : Value} (hb : Boxed X b t u) (hg : X.grownBy Y row) (hr : ∀ r, row = some r → ∃ o : Obj, X.heap[r]? = some o ∧ o.isCells = false) : Boxed Y b t u := hb.kept hg (fun e => by
  obtain ⟨o, ho, hc⟩ := hr b e.symm
  rw [show X.heap[b]? = _ from hb] at ho; cases ho; cases hc)
theorem Tbm.grown {X Y : World} {T M : Nat} {B : Nat → Prop} {m c : Int} {S : List Sl} (h : Tbm X T M B m c S) {row : Option Nat} (hg : X.grownBy Y row) (hr : ∀ r, row = some r → r ≠ M ∧ ∃ o : Obj, X.heap[r]? = some o ∧ o.isCells = false) : Tbm Y T M B m c S := by
  refine (h.sure.keep (fun k hk hl => hg.block k hl (fun e => ?_))).mono (fun _ hk => hk.1)
  obtain ⟨hm, o, ho, hc⟩ := hr k e.symm
  rcases hk.2 with e | ⟨cs, t', h1, h2⟩
  · exact hm e
  · rw [ho] at h1; cases h1; cases hc
theorem InM.own {T M R2 R3 R6 : Nat} {B : Nat → Prop} {m c k2 : Int} {S : List Sl} {w0 : World} (Bd : Nat) (hM : M < Bd) (h0 : w0.heap.size ≤ Bd) : OwnFrom Bd (InM T M R2 R3 R6 B m c k2 S w0) := fun s X Y row hs hg hr =>
  ⟨box_grown hs.r2 hg (fun r e => (hr r e).2), box_grown hs.r3 hg (fun r e => (hr r e).2), box_grown hs.r6 hg (fun r e => (hr r e).2),
    ⟨hg.os.trans hs.tch.os, hg.tape.trans hs.tch.tape, hg.output.trans hs.tch.output, Nat.le_trans hs.tch.size hg.size, fun k hk hn => (hg.block k (Nat.lt_of_lt_of_le hk hs.tch.size) (fun e => by have := (hr k e.symm).1; omega)).trans (hs.tch.block k hk hn)⟩,
    hs.tab.grown hg (fun r e => ⟨by have := (hr r e).1; omega, (hr r e).2⟩)⟩
/-- Which blocks one that goes over may write. -/
abbrev Tb1 (B : Nat → Prop) (w0 W : World) (M : Nat) : Nat → Prop := fun k => Nx B w0 k ∧ (k = M ∨ Its W k)
theorem not_its {W : World} {R : Nat} {cs : Array Value} {t : TypeId} (hb : Blk W R cs t) (ht : ¬ (t = TTab ∨ t = Tsl ∨ t = Tps)) : ¬ Its W R := by
  rintro ⟨cs', t', h1, h2⟩
  have hb : W.heap[R]? = some (.cells cs t) := hb
  rw [hb] at h1; cases h1; exact ht h2
theorem Tbm.nocells {w : World} {T M : Nat} {B : Nat → Prop} {m c : Int} {S : List Sl} (h : Tbm w T M B m c S) {cs : Array Value} {t : TypeId} : ¬ Blk w M cs t := by
  obtain ⟨F, bs, h1, _⟩ := h
  exact h1.map.nocells
theorem InM.six {T M R2 R3 R6 : Nat} {B : Nat → Prop} {m c k2 : Int} {S : List Sl} {w0 W W' : World} {pre : List {x : Sl // Vr S (mvS c k2) x}} (hI : InM T M R2 R3 R6 B m c k2 S w0 pre W) (g : Tch (Tb1 B w0 W M) W W') : Boxed W' R6 Tint (.int .i64 (pre.length : Int)) := g.blk hI.r6 (by
  rintro ⟨_, e | h1⟩
  · have hb := hI.r6
    rw [e] at hb
    exact hI.tab.nocells hb
  · exact not_its hI.r6 (by decide) h1)
theorem InM.step {T M R2 R3 R6 : Nat} {B : Nat → Prop} {m c k2 : Int} {S : List Sl} {w0 W W' : World} {pre : List {x : Sl // Vr S (mvS c k2) x}} (Bd : Nat) (hM : M < Bd) (hI : InM T M R2 R3 R6 B m c k2 S w0 pre W) (x : {x : Sl // Vr S (mvS c k2) x})
    (hS : Wf m c S) (h2 : Is3 k2) (hfl : ∀ s ∈ S, flS c (mvS c k2 s) ≠ 0) (hd2 : R2 ≠ R6) (hd3 : R3 ≠ R6) (h6 : w0.heap.size ≤ R6) (g : Tch (Tb1 B w0 W M) W W') (h : Tbm W' T M (Nx (Tb1 B w0 W M) W) m c (putS c (mvS c k2 x.1) (S.map (mvd c k2 (pre.map (fun x => x.1.key)))))) :
    KeepsFrom Bd W (W'.setCell ⟨R6, 0, none⟩ (.int .i64 ((pre.length : Int) + 1))) ∧ Kpt T M m c S (mvS c k2) W (W'.setCell ⟨R6, 0, none⟩ (.int .i64 ((pre.length : Int) + 1))) ∧ InM T M R2 R3 R6 B m c k2 S w0 (pre ++ [x]) (W'.setCell ⟨R6, 0, none⟩ (.int .i64 ((pre.length : Int) + 1))) := by
  have nb : ∀ {k : Nat} {cs : Array Value} {t : TypeId}, Blk W k cs t → ¬ (t = TTab ∨ t = Tsl ∨ t = Tps) → ¬ Tb1 B w0 W M k := by
    rintro k cs t hb ht ⟨_, rfl | h1⟩
    · exact hI.tab.nocells hb
    · exact not_its hb ht h1
  have i6 : Boxed W' R6 Tint (.int .i64 (pre.length : Int)) := g.blk hI.r6 (nb hI.r6 (by decide))
  obtain ⟨s, hs, hsk, hsv⟩ := x.2
  have ho := hS.ok s hs
  have hmv : mvS c k2 x.1 = mvS c k2 s := by
    rcases hsv with e | e
    · rw [e]
    · rw [e]; exact mvS_again ho.oks hS.cu ho.kind h2
  have t4 : Tbm (W'.setCell ⟨R6, 0, none⟩ (.int .i64 ((pre.length : Int) + 1))) T M (Nx B w0) m c (S.map (mvd c k2 (pre.map (fun x => x.1.key) ++ [x.1.key]))) := by
    refine Tbm.setBox ((h.mono (C := Nx B w0) (fun k hk => ?_)).perm ?_) i6 (by decide) _
    · rcases hk with hk | hk
      · exact hk.1
      · exact .inr (Nat.le_trans hI.tch.size hk)
    · unfold putS
      rw [hmv, if_neg (hfl s hs), show (mvS c k2 s).key = s.key from rfl, ← hsk]
      exact mvd_more _ hS.ap hs
  have gN : Tch (Nx B w0) W (W'.setCell ⟨R6, 0, none⟩ (.int .i64 ((pre.length : Int) + 1))) := Tch.trans (g.mono (fun k _ hk => hk.1)) (Tch.set W' R6 0 _ (.inr h6))
  refine ⟨⟨gN.size, fun k o hB hk ho => ?_⟩, ⟨⟨gN.size, fun k cs t hb ht => ?_⟩, fun _ => ⟨_, ⟨mvd c k2 (pre.map (fun x => x.1.key) ++ [x.1.key]), fun s _ => mvd_key _ _ _ s, List.Perm.refl _⟩, t4.mono (fun _ _ => trivial)⟩⟩, ?_⟩
  · have hne : k ≠ R6 := by
      rintro rfl
      rw [show W.heap[k]? = _ from hI.r6] at hk; cases hk; cases ho
    rw [Below.heap_setCell _ _ _ _ hne, g.block k (heap_lt hk) (fun hb => ?_), hk]
    rcases hb.2 with e | ⟨cs, t, h1, _⟩
    · omega
    · rw [hk] at h1; cases h1; cases ho
  · have hne : k ≠ R6 := by
      rintro rfl
      have e1 : W.heap[k]? = some (.cells cs t) := hb
      rw [show W.heap[k]? = _ from hI.r6] at e1; cases e1
      rcases ht with e | e | e <;> exact absurd e (by decide)
    refine (Below.heap_setCell _ _ _ _ hne).trans (g.blk hb (nb hb ?_))
    rcases ht with rfl | rfl | rfl <;> decide
  · refine ⟨(show Boxed W' _ _ _ from g.blk hI.r2 (nb hI.r2 (by decide))).other hd2 _, (show Boxed W' _ _ _ from g.blk hI.r3 (nb hI.r3 (by decide))).other hd3 _, ?_, hI.tch.next gN, ?_⟩
    · rw [List.length_append, List.length_singleton, Int.natCast_add]
      exact box_put i6 _
    · rw [List.map_append]; exact t4
set_option maxHeartbeats 4000000 in
theorem mvall_in (n : Nat) (hn : 8 ≤ n) (o : Option Addr) (QT B : Nat → Prop) (m c k2 : Int) (S : List Sl) (w : World) (h : Ent o w QT B m c S) (h2 : Is3 k2) (hfl : ∀ s ∈ S, flS c (mvS c k2 s) ≠ 0) (hsort : SortC S.length) :
    CallsIn Fence.wide n Tryz.prog 123 #[.pointer o, .int .u8 k2] w fun e w' => ∃ T, QT T ∧ e = .returned (.tuple #[.int .i64 (S.length : Int), .int .u16 0]) ∧ Tch B w w' ∧ Tbl w' T (Nx B w) m c (S.map (mvS c k2)) := by
  have h1 : 1 ≤ n := by omega
  have CR := Lib.hid (fun V => callsIn_wide (n := n - 1) |>.2 (knright_any k2 V))
  rw [h2.isK] at CR
  have CO := Lib.hid (fun V g => callsIn_wide (n := n - 1) |>.2 (h.go V g))
  have HS := Lib.hid hsort
  have HF := Lib.hid hfl
  have b2 := Lib.hid ((Boxed.new w Ttp (.pointer o)).alloc (.cells #[.int .u8 k2] Tu8))
  have b3 := Lib.hid (Boxed.new (w.alloc (.cells #[.pointer o] Ttp)) Tu8 (.int .u8 k2))
  rw [show (w.alloc (.cells #[.pointer o] Ttp)).heap.size = w.heap.size + 1 by simp] at b3
  have k0 := Lib.hid (((Below.refl _ w).alloc (Nat.le_refl _) (.cells #[.pointer o] Ttp)).alloc (by simp) (.cells #[.int .u8 k2] Tu8))
  clear h hsort hfl
  refine callsIn_of_wp_marks Tryz.func123 rfl trivial ?_ rfl
  simp only [Tryz.ntmps123, List.size_toArray, List.length_cons, List.length_nil, Nat.reduceAdd, Nat.reduceSub, Array.replicate_succ, Array.replicate_zero, List.push_toArray, List.append_toArray, List.nil_append, List.cons_append]
  gi_wp2_with (refine ⟨trivial, ?_⟩; gi_at_call 171; refine (CR.out _).mono ?_; rintro e w1 ⟨rfl, _, g1⟩; refine stopHere ?_)
  unfold Stop
  have k1 := kbq k0.out g1
  have b21 := Lib.hid ((g1.block _ (heap_lt b2.out)).trans b2.out)
  have b31 := Lib.hid ((g1.block _ (heap_lt b3.out)).trans b3.out)
  have c2 := (show Boxed w1 _ _ _ from b21.out).cell
  have c3 := (show Boxed w1 _ _ _ from b31.out).cell
  clear g1 b2 b3 k0 CR
  gi_wp2_with (refine ⟨trivial, ?_⟩; gi_at_call 64; refine (CO.out _ k1).mono ?_; rintro e w2 ⟨T, rfl, g2, hQ, hT⟩; refine stopHere ?_)
  unfold Stop
  obtain ⟨M, hM⟩ := hT.tbm
  have b22 : Boxed w2 w.heap.size Ttp (.pointer o) := (g2.block _ (heap_lt b21.out)).trans b21.out
  have b32 : Boxed w2 (w.heap.size + 1) Tu8 (.int .u8 k2) := (g2.block _ (heap_lt b31.out)).trans b31.out
  have kk2 := Lib.hid (kbq k1 g2)
  have HM := Lib.hid (hM.setBox b22 (by decide) (ptr T))
  have B2 := Lib.hid (box_put b22 (ptr T))
  have B3 := Lib.hid (b32.other (show w.heap.size + 1 ≠ w.heap.size by omega) (ptr T))
  have c2 := b22.cell
  have f2 := b22.frozen
  have hs2 := kk2.out.size
  have cX := acell (o := .cells #[.int .i64 0] Tint) B2.out.cell
  clear b21 b31 b22 b32 g2 k1 hT hM CO
  gi_wp2_with (refine ⟨trivial, ?_⟩; gi_at_call 115; refine (active_in Fence.wide (n - 1) trivial rfl T _).mono ?_; rintro e w3 ⟨rfl, rfl⟩)
  obtain ⟨W0, hW0⟩ : ∃ W0, ((w2.setCell ⟨w.heap.size, 0, none⟩ (ptr T)).alloc (.cells #[.int .i64 0] Tint)).alloc (.cells #[ptr T] Ttp) = W0 := ⟨_, rfl⟩
  have B20 : Boxed W0 w.heap.size Ttp (ptr T) := by rw [← hW0]; exact (B2.out.alloc _).alloc _
  have B30 : Boxed W0 (w.heap.size + 1) Tu8 (.int .u8 k2) := by rw [← hW0]; exact (B3.out.alloc _).alloc _
  have B60 : Boxed W0 w2.heap.size Tint (.int .i64 0) := by rw [← hW0]; have := (Boxed.new (w2.setCell ⟨w.heap.size, 0, none⟩ (ptr T)) Tint (.int .i64 0)).alloc (.cells #[ptr T] Ttp); simpa using this
  have BT0 : Boxed W0 (w2.heap.size + 1) Ttp (ptr T) := by rw [← hW0]; have := Boxed.new ((w2.setCell ⟨w.heap.size, 0, none⟩ (ptr T)).alloc (.cells #[.int .i64 0] Tint)) Ttp (ptr T); simpa using this
  have hsz : W0.heap.size = w2.heap.size + 2 := by rw [← hW0]; simp
  have HB0 : Below w.heap.size w W0 := by
    rw [← hW0]
    refine Below.alloc (Below.alloc (kk2.out.setCell (p := ⟨w.heap.size, 0, none⟩) (Nat.le_refl _) (ptr T)) ?_ _) ?_ _
    · simp; omega
    · simp; omega
  have HM0 : Tbm W0 T M B m c S := by
    rw [← hW0]
    exact (HM.out.below ((Below.refl _ _).alloc (Nat.le_refl _) _)).below ((Below.refl _ _).alloc (Nat.le_refl _) _)
  have hMlt := HM0.lt
  have hwf := HM0.wf
  have hb2 := heap_lt B20
  have hb3 := heap_lt B30
  have hlt2 : w.heap.size + 1 < w2.heap.size := by
    have := heap_lt (show _ = _ from B3.out)
    simpa using this
  have HWF := Lib.hid hwf
  have hfew : S.length ≤ 1000000 := by have := hwf.len; have := hwf.m2; omega
  rw [hW0]
  clear hW0 HM B2 B3 c2 f2 cX c3 kk2
  refine wpIn_rangeFunc_ownH rfl h1 (gf := 163) (lb := #[ptr (w2.heap.size + 1)]) rfl trivial (enters_of Tryz.func163 (by kernel_rfl) rfl)
    (act1_stops (n - 1) (by omega) T M (w2.heap.size + 1) m c S (mvS c k2) W0 BT0 (HM0.mono (fun _ _ => trivial)) HS.out) Kpt.trans (fun W l o o' _ x y z => Kpt.put W l o o' x y z) (Below.refl _ _) (fun _ => rfl)
    (InM T M w.heap.size (w.heap.size + 1) w2.heap.size B m c k2 S w) (fun _ _ _ => False) (InM.own _ hMlt (by omega)) (fun _ s A Bw row hs hg hr => hs) ⟨B20, B30, B60, Tch.of HB0, by
      rw [show (List.map (fun x : {x : Sl // Vr S (mvS c k2) x} => x.1.key) []) = [] from rfl, mvd_nil]; exact HM0.mono (fun k hk => .inl hk)⟩
    (fun x a' W => ∃ b, Blk W b x.1.cs Tas ∧ a' = { tmps := #[.pointer o, .int .u8 k2, ptr w.heap.size, ptr (w.heap.size + 1), .int .i64 0, .int .u16 0, ptr w2.heap.size, ptr b, .int .u8 k2, .bool true, .bool false, .pointer o, ptr T, ptr T, .func (.func 163) #[] #[ptr (w2.heap.size + 1)], x.1.v, undef, undef, undef, undef, undef, undef, undef], defers := [] })
    ?hAx ?assign ?body ?done ?stop
  case hAx =>
    rintro x a' s X Y row ⟨b, hb, e⟩ hg hr
    refine ⟨b, (hg.block b hb.lt (fun e' => ?_)).trans hb, e⟩
    obtain ⟨_, o, ho, hc⟩ := hr b e'.symm
    rw [show X.heap[b]? = _ from hb] at ho; cases ho; cases hc
  case assign =>
    intro l pre x W K hI hK
    gi_wp2
    refine hK _ _ ((KeepsOthers.alloc W _).from _) (kpt_far (by simp) (fun k o ho _ => (al_old _ _ (heap_lt ho)).trans ho)) ((InM.own W0.heap.size hMlt (by omega)).alloc _ hI) ⟨W.heap.size, Blk.new _ _ _, rfl⟩
  case body =>
    rintro l pre x a' W hl ⟨r, hr⟩ hI ⟨b, hb, rfl⟩ hlen
    obtain ⟨s, hs, hsk, hsv⟩ := x.2
    have ho := HWF.out.ok s hs
    have hoks : Oks x.1 ∧ Is3 x.1.k ∧ x.1.r = s.r := by
      rcases hsv with e | e
      · rw [e]; exact ⟨ho.oks, ho.kind, rfl⟩
      · rw [e]; exact ⟨(mvS_oks ho.oks HWF.out.cu ho.kind h2).1, by rw [(mvS_oks ho.oks HWF.out.cu ho.kind h2).2]; exact h2, rfl⟩
    have hoff : ((offS x.1.key (S.map (mvd c k2 (pre.map (fun x => x.1.key))))).length : Int) < m := by
      have h8 := offS_lt (k := x.1.key) (List.mem_map.2 ⟨s, hs, rfl⟩ : mvd c k2 (pre.map (fun x => x.1.key)) s ∈ S.map (mvd c k2 (pre.map (fun x => x.1.key)))) (by rw [(mvd_key _ _ _ s).1, hsk])
      rw [List.length_map] at h8
      have := HWF.out.len
      omega
    have CV := Lib.hid (CallsIn.inRound l (callsIn_wide (n := n - 1 - 1 - 1) |>.2 (over_any T M (Tb1 B w W M) m c k2 _ x.1 W hI.tab.sure hoks.1 (by rw [← hsk]; exact ho.key) (by rw [hoks.2.2]; exact ho.rule) hoks.2.1 h2 hoff)))
    have c2 := hI.r2.cell
    have c3 := hI.r3.cell
    have c6 := hI.r6.cell
    have f6 := hI.r6.frozen
    have x0 := hb.cell 0
    have x1 := hb.cell 1
    have x2 := hb.cell 2
    have x3 := hb.cell 3
    have x4 := hb.cell 4
    have x5 := hb.cell 5
    have x6 := hb.cell 6
    have x7 := hb.cell 7
    simp at x0 x1 x2 x3 x4 x5 x6 x7
    have h2' : 1 ≤ n - 1 - 1 := by omega
    have HI := Lib.hid hI
    clear hI hb B20 B30 B60 BT0 HM0 HB0 hoff hoks ho hsv hsk hs
    gi_wp2_with (refine ⟨trivial, ?_⟩; gi_at_call 172; refine CV.out.mono ?_; rintro e W3 ⟨rfl, g3, h3⟩; refine stopHere ?_)
    unfold Stop
    have b6 := HI.out.six g3
    have HS3 := Lib.hid (HI.out.step W0.heap.size hMlt x HWF.out h2 HF.out (by omega) (by omega) (by omega) g3 h3)
    have c6 := b6.cell
    have f6 := b6.frozen
    have hw6 : IntKind.i64.wrap ((pre.length : Int) + 1) = (pre.length : Int) + 1 := by rw [IntKind.wrap_i64]; omega
    clear b6 g3 h3 CV HI x0 x1 x2 x3 x4 x5 x6 x7 c2 c3
    gi_wp2
    show KeepsFrom _ _ _ ∧ Kpt _ _ _ _ _ _ _ _ ∧ InM _ _ _ _ _ _ _ _ _ _ _ _ _
    exact HS3.out
  case done =>
    rintro D xs W hD hS hI hK
    obtain ⟨d, hd1, hd2, hd3⟩ := hS
    have hL : xs.length = S.length := by
      have e1 := congrArg List.length hd3
      have e2 := hd1.length_eq
      simp only [List.length_map, Array.length_toList] at e1 e2
      omega
    have hall : ∀ s ∈ S, s.key ∈ xs.map (fun x => x.1.key) := fun s hs => by
      rw [hd3]; exact hd1.mem_iff.2 (List.mem_map.2 ⟨s, hs, rfl⟩)
    have c6 := hI.r6.cell
    rw [hL] at c6
    have HI := Lib.hid hI
    have HALL := Lib.hid hall
    clear hI hall hd1 hd2 hd3 hL B20 B30 B60 BT0 HM0 HB0
    dsimp only
    gi_wp2
    refine ⟨by simp, .inl ⟨_, _, rfl, run_takeDeferred hK, ?_⟩⟩
    refine ⟨.tuple #[.int .i64 (S.length : Int), .int .u16 0], by simp [results, Tryz.f123, go_sem], T, hQ, rfl, HI.out.tch.next (Tch.put W D _ (.inr (by omega))), ?_⟩
    have z := HI.out.tab.putO (.deferred none) hK rfl rfl
    rw [mvd_all HALL.out] at z
    exact z.tbl
  case stop =>
    rintro D cc pre W hD _ hF
    exact hF.elim
end Go.Proofs.YtbejkcdaefkibaaGreat.Wd
namespace Go.Proofs.YtbejkcdaefkibaaGreat.Wd
open Go Go.RowKit Go.Deep Go.Shelf
set_option linter.unusedVariables false
set_option maxRecDepth 100000

/-- Who is there behind a move, and what is told. -/
def mvN (c k2 : Int) (S : List Sl) (k : ByteArray) : List Sl := match getS S k with
  | some s => putS c (mvS c k2 s) S
  | none => S
def mvE (S : List Sl) (k : ByteArray) : Int := if (getS S k).isSome then 0 else 52
theorem move_bad (o : Option Addr) (k : ByteArray) (k2 : Int) (w : World) (h2 : isK k2 = false) :
    Calls Tryz.prog 121 #[.pointer o, .string k, .int .u8 k2] w fun e w' => e = .returned (.int .u16 27) ∧ Below w.heap.size w w' := by
  have CR := Lib.hid (fun V => knright_any k2 V)
  rw [h2] at CR
  go_enter Tryz.func121, Tryz.ntmps121
  go_wp2_with (go_at_call 171; refine (CR.out _).mono ?_; rintro e w1 ⟨rfl, _, g1⟩)
  go_ret
  exact ⟨rfl, g1⟩
set_option maxHeartbeats 1000000 in
theorem move_of (o : Option Addr) (QT B : Nat → Prop) (m c : Int) (S : List Sl) (k : ByteArray) (k2 : Int) (w : World) (h : Ent o w QT B m c S) (hk : k.size ≤ 9223372036854775807) (h2 : Is3 k2) :
    Calls Tryz.prog 121 #[.pointer o, .string k, .int .u8 k2] w fun e w' => e = .returned (.int .u16 (mvE S k)) ∧ Tch B w w' ∧ ∃ T, QT T ∧ Tbl w' T (Nx B w) m c (mvN c k2 S k) := by
  have CR := Lib.hid (fun V => knright_any k2 V)
  rw [h2.isK] at CR
  have CO := Lib.hid h.go
  clear h
  go_enter Tryz.func121, Tryz.ntmps121
  go_wp2_with (first
    | (go_at_call 171; refine (CR.out _).mono ?_; rintro e w1 ⟨rfl, _, g1⟩)
    | (go_at_call 64; refine (CO.out _ g1).mono ?_; rintro e w2 ⟨T, rfl, g2, hQ, hT⟩; refine stopHere ?_))
  unfold Stop
  have k2' := Lib.hid (kbq g1 g2)
  have hs2 := k2'.out.size
  obtain ⟨M, hM⟩ := hT.tbm
  obtain ⟨M', Ml, c2, hLen, hL⟩ := hT.look k hk
  clear g1 g2 CR CO
  rcases hL with ⟨e0, hl⟩ | ⟨s, b, d, i, e0, hl, hb⟩
  · have hl0 := hl w2 rfl
    have HE := Lib.hid (show mvE S k = 52 ∧ mvN c k2 S k = S by unfold mvE mvN; rw [e0]; exact ⟨rfl, rfl⟩)
    have HT := Lib.hid hT
    clear hl hM hT e0 hLen
    go_wp2
    go_ret
    refine ⟨congrArg (fun x => Ending.returned (.int .u16 x)) HE.out.1.symm, Tch.of k2'.out, T, hQ, ?_⟩
    rw [HE.out.2]; exact HT.out.mono (fun k hk => .inl hk)
  · have hl0 := hl w2 rfl
    have HE := Lib.hid (show mvE S k = 0 ∧ mvN c k2 S k = putS c (mvS c k2 s) S by unfold mvE mvN; rw [e0]; exact ⟨rfl, rfl⟩)
    obtain ⟨hs, rfl⟩ := getS_some e0
    have ho := hT.wf.ok s hs
    have hlt : ((offS s.key S).length : Int) < m := by have := offS_lt hs (rfl : s.key = s.key); have := hT.wf.len; omega
    have C := Lib.hid (over_any T _ B m c k2 S s w2 hM ho.oks ho.key ho.rule ho.kind h2 hlt)
    obtain ⟨x0, x1, x2, x3, x4, x5, x6, x7⟩ := kcs_cells hb
    clear hl hM hT e0 hLen hb
    go_wp2_with (go_at_call 172; (with_reducible refine C.out.mono ?_); rintro e w3 ⟨rfl, g3, h3⟩)
    go_ret
    refine ⟨congrArg (fun x => Ending.returned (.int .u16 x)) HE.out.1.symm, (Tch.of k2'.out).trans g3, T, hQ, ?_⟩
    rw [HE.out.2]; exact h3.tbl.mono (fun k hk => hk.elim .inl (fun x => .inr (Nat.le_trans hs2 x)))
theorem slots_of (o : Option Addr) (QT B : Nat → Prop) (m c : Int) (S : List Sl) (w : World) (h : Ent o w QT B m c S) (hsort : SortC S.length) :
    Calls Tryz.prog 42 #[.pointer o] w fun e w' => ∃ v xs, e = .returned v ∧ OwS w' w.heap.size v xs ∧ Told S xs ∧ Below w.heap.size w w' := by
  have CO := Lib.hid (h.go w (Below.refl _ _))
  have HS := Lib.hid hsort
  clear h hsort
  go_enter Tryz.func42, Tryz.ntmps42
  go_wp2_with (go_at_call 64; refine CO.out.mono ?_; rintro e w1 ⟨T, rfl, g1, hQ, hT⟩; refine stopHere ?_)
  unfold Stop
  obtain ⟨M, hM⟩ := hT.tbm
  have C := callsIn_wide.1 (sall_in 8 (by omega) T M B m c S w1 hM HS.out)
  have hw := hT.wf.ap
  clear hM hT CO HS
  go_wp2_with (go_at_call 78; refine C.mono ?_; rintro e w2 ⟨v, xs, rfl, h1, h2, h3, h4⟩)
  go_ret
  exact ⟨_, _, rfl, own_base g1.size h1, told_of hw h2 h3, kbq g1 h4⟩
theorem active_of (o : Option Addr) (QT B : Nat → Prop) (m c : Int) (S : List Sl) (w : World) (h : Ent o w QT B m c S) :
    Calls Tryz.prog 41 #[.pointer o] w fun e w' => e = .returned (.int .i64 S.length) ∧ Below w.heap.size w w' := by
  have CO := Lib.hid (h.go w (Below.refl _ _))
  clear h
  go_enter Tryz.func41, Tryz.ntmps41
  go_wp2_with (go_at_call 64; refine CO.out.mono ?_; rintro e w1 ⟨T, rfl, g1, hQ, hT⟩; refine stopHere ?_)
  unfold Stop
  obtain ⟨M, hM, c2, hl, _⟩ := hT.look ⟨#[]⟩ (by decide)
  have hl := hl w1 rfl
  clear hT CO
  go_wp2
  go_ret
  exact ⟨rfl, g1⟩
theorem clock_of (o : Option Addr) (QT B : Nat → Prop) (m c : Int) (S : List Sl) (w : World) (h : Ent o w QT B m c S) :
    Calls Tryz.prog 29 #[.pointer o] w fun e w' => e = .returned (.int .u64 c) ∧ Below w.heap.size w w' := by
  have CO := Lib.hid (h.go w (Below.refl _ _))
  clear h
  go_enter Tryz.func29, Tryz.ntmps29
  go_wp2_with (go_at_call 64; refine CO.out.mono ?_; rintro e w1 ⟨T, rfl, g1, hQ, hT⟩; refine stopHere ?_)
  unfold Stop
  have c1 := hT.cells.2.1
  clear hT CO
  go_wp2
  go_ret
  exact ⟨rfl, g1⟩
theorem mvall_of (o : Option Addr) (QT B : Nat → Prop) (m c k2 : Int) (S : List Sl) (w : World) (h : Ent o w QT B m c S) (h2 : Is3 k2) (hfl : ∀ s ∈ S, flS c (mvS c k2 s) ≠ 0) (hsort : SortC S.length) :
    Calls Tryz.prog 123 #[.pointer o, .int .u8 k2] w fun e w' => e = .returned (.tuple #[.int .i64 (S.length : Int), .int .u16 0]) ∧ Tch B w w' ∧ ∃ T, QT T ∧ Tbl w' T (Nx B w) m c (S.map (mvS c k2)) :=
  (callsIn_wide.1 (mvall_in 8 (by omega) o QT B m c k2 S w h h2 hfl hsort)).mono (fun _ _ ⟨T, a, b, c, d⟩ => ⟨b, c, T, a, d⟩)
theorem mvall_bad (o : Option Addr) (k2 : Int) (w : World) (h2 : isK k2 = false) :
    Calls Tryz.prog 123 #[.pointer o, .int .u8 k2] w fun e w' => e = .returned (.tuple #[.int .i64 0, .int .u16 27]) ∧ Below w.heap.size w w' := by
  have CR := Lib.hid (fun V => knright_any k2 V)
  rw [h2] at CR
  have k0 := ((Below.refl _ w).alloc (Nat.le_refl _) (.cells #[.pointer o] Ttp)).alloc (by simp) (.cells #[.int .u8 k2] Tu8)
  go_enter Tryz.func123, Tryz.ntmps123
  go_wp2_with (go_at_call 171; refine (CR.out _).mono ?_; rintro e w1 ⟨rfl, _, g1⟩)
  go_ret2
  exact ⟨rfl, kbq k0 g1⟩
end Go.Proofs.YtbejkcdaefkibaaGreat.Wd
namespace Go.Proofs.YtbejkcdaefkibaaGreat.Wd
open Go Go.RowKit Go.Shelf Go.Deep
set_option linter.unusedVariables false
set_option maxRecDepth 100000

/-- One by one. -/
inductive All2 (R : Sl → Sl → Prop) : List Sl → List Sl → Prop
  | nil : All2 R [] []
  | cons {x y : Sl} {xs ys : List Sl} (h : R x y) (t : All2 R xs ys) : All2 R (x :: xs) (y :: ys)
theorem All2.imp {R R' : Sl → Sl → Prop} {xs ys : List Sl} (h : All2 R xs ys) (f : ∀ x y, R x y → R' x y) : All2 R' xs ys := by
  induction h with
  | nil => exact .nil
  | cons h _ ih => exact .cons (f _ _ h) ih
theorem All2.len {R : Sl → Sl → Prop} {xs ys : List Sl} (h : All2 R xs ys) : xs.length = ys.length := by
  induction h with
  | nil => rfl
  | cons _ _ ih => rw [List.length_cons, List.length_cons, ih]
/-- Two slots of one key that tell the same FILL, now and later. -/
structure Twi (c : Int) (s t : Sl) : Prop where
  key : s.key = t.key
  e : s.r.e = t.r.e
  b : s.r.b = t.r.b
  cap : capR s.r = capR t.r
  say : ∃ f, Say c s.r ⟨s.k, s.a, s.b⟩ f ∧ Say c t.r ⟨t.k, t.a, t.b⟩ f
theorem Twi.fl {c c' : Int} {s t : Sl} (h : Twi c s t) (hl : c ≤ c') (hc' : U c') : flS c' s = flS c' t := by
  obtain ⟨f, h1, h2⟩ := h.say
  exact ((h1.later hl).fill hc').trans ((h2.later hl).fill hc').symm
theorem Twi.due {c : Int} {s t : Sl} (h : Twi c s t) (hc : U c) : dueS c s = dueS c t := by
  have := h.fl (Int.le_refl c) hc
  unfold dueS; rw [this]
theorem Twi.later {c c' : Int} {s t : Sl} (h : Twi c s t) (hl : c ≤ c') : Twi c' s t := by
  obtain ⟨f, h1, h2⟩ := h.say
  exact ⟨h.key, h.e, h.b, h.cap, _, h1.later hl, h2.later hl⟩
section
variable {c : Int} {S S' : List Sl}
theorem All2.get (h : All2 (Twi c) S S') (k : ByteArray) : (getS S k = none ∧ getS S' k = none) ∨ ∃ s t, getS S k = some s ∧ getS S' k = some t ∧ Twi c s t := by
  induction h with
  | nil => exact .inl ⟨rfl, rfl⟩
  | @cons x y xs ys h _ ih =>
    rw [getS_cons, getS_cons, ← h.key]
    by_cases e : x.key = k
    · rw [if_pos e, if_pos e]; exact .inr ⟨_, _, rfl, rfl, h⟩
    · rw [if_neg e, if_neg e]; exact ih
theorem All2.off (h : All2 (Twi c) S S') (k : ByteArray) : All2 (Twi c) (offS k S) (offS k S') := by
  induction h with
  | nil => exact .nil
  | @cons x y xs ys h _ ih =>
    rw [offS_cons, offS_cons, ← h.key]
    by_cases e : x.key = k
    · rw [if_pos e, if_pos e]; exact ih
    · rw [if_neg e, if_neg e]; exact .cons h ih
theorem All2.tick (h : All2 (Twi c) S S') {c' : Int} (hl : c ≤ c') (hc' : U c') : All2 (Twi c') (S.filter (actB c')) (S'.filter (actB c')) := by
  induction h with
  | nil => exact .nil
  | @cons x y xs ys h _ ih =>
    have e : actB c' x = actB c' y := by unfold actB; rw [h.fl hl hc']
    rw [List.filter_cons, List.filter_cons, ← e]
    cases actB c' x with
    | true => exact .cons (h.later hl) ih
    | false => exact ih
theorem All2.keys (h : All2 (Twi c) S S') : S.map (fun s => s.key) = S'.map (fun s => s.key) := by
  induction h with
  | nil => rfl
  | cons h _ ih => rw [List.map_cons, List.map_cons, ih, h.key]
end
theorem capR_mul {r : Rl} (hr : Okr r) (h0 : ruE r.p r.e r.b r.k = 0) : capR r = r.e * r.b ∧ r.e * r.b ≤ 4611686018427387904 := by
  obtain ⟨h1, _, h3⟩ := ru_fit r.p r.e r.b r.k hr.e hr.b h0
  exact ⟨by show caI r.p r.e r.b r.k = _; unfold caI; rw [if_pos h0, h1], h3⟩
theorem Say.cast {c : Int} {r q : Rl} {s : St} {f : Int} (h : Say c r s f) (e : capR r = capR q) : Say c q s f := ⟨h.st, by rw [← e]; exact h.tells, h.f0, by rw [← e]; exact h.f1⟩
/-- What is told, by the FILL alone. -/
def decF (f cap v e b : Int) : An :=
  ⟨if ftB f v cap = true then 1 else 2, 0, b, dvI (sbI cap (if ftB f v cap = true then f + v else f)) e, secI (if ftB f v cap = true then f + v else f), secI (kwI f cap v), kwI f cap v, kwB f cap v⟩
theorem decA_say {c : Int} {r : Rl} {s : St} {f n : Int} (h : Say c r s f) (hr : Okr r) (hc : U c) (hs : c + capR r ≤ 18446744073709551615) (hn : U n) : decA c r s n = decF f (capR r) (wI r n) r.e r.b := by
  obtain ⟨a1, _, a3⟩ := h.charge hr hc hs hn
  unfold decA decF
  rw [a1, h.fill hc, a3.fill hc]
theorem getS_wf {m c : Int} {S : List Sl} {k : ByteArray} {s : Sl} (hw : Wf m c S) (h : getS S k = some s) : s ∈ S ∧ s.key = k ∧ Okt c s := ⟨(getS_some h).1, (getS_some h).2, hw.ok s (getS_some h).1⟩
/-- A charge of both. -/
theorem twi_charge {m c n : Int} {S S' : List Sl} {k : ByteArray} {r q : Rl} (h : All2 (Twi c) S S') (hw : Wf m c S) (hw' : Wf m c S') (hr : Okr r) (hq : Okr q) (ee : q.e = r.e) (eb : q.b = r.b) (hv : ruE r.p r.e r.b r.k = 0) (hv' : ruE q.p q.e q.b q.k = 0)
    (hc2 : c ≤ 4611686018427387904) (hn : U n) : chA m c S k r n = chA m c S' k q n ∧ All2 (Twi c) (chN m c S k r n) (chN m c S' k q n) := by
  have hc := hw.cu
  obtain ⟨c1, c2⟩ := capR_mul hr hv
  obtain ⟨c1', _⟩ := capR_mul hq hv'
  have ecap : capR r = capR q := by rw [c1, c1', ee, eb]
  have hs : c + capR r ≤ 18446744073709551615 := by omega
  have hs' : c + capR q ≤ 18446744073709551615 := by omega
  have ew : wI r n = wI q n := by show sat (n * r.e) = sat (n * q.e); rw [ee]
  have hwk : wkE k r = wkE k q := by unfold wkE; rw [hv, hv']
  have hcast : ∀ {m' : Int} {S0 : List Sl} {k0 : ByteArray} {s : Sl}, Wf m' c S0 → getS S0 k0 = some s → s.r.e = r.e → s.r.b = r.b → capR s.r = capR r := by
    intro m' S0 k0 s hw0 hg e1 e2
    have ho := (getS_wf hw0 hg).2.2
    rw [(capR_mul ho.oks.r ho.rule).1, c1, e1, e2]
  -- who has the key, by this very rule
  have hD : All2 (Twi c) (dropS S k r) (dropS S' k q) := by
    unfold dropS
    rcases h.get k with ⟨e1, e2⟩ | ⟨s, t, e1, e2, ht⟩
    · rw [e1, e2]; exact h
    · rw [e1, e2]
      dsimp only
      rw [← ht.e, ← ht.b, ee, eb]
      by_cases z : s.r.e = r.e ∧ s.r.b = r.b
      · rw [if_pos z, if_pos z]; exact h
      · rw [if_neg z, if_neg z]; exact h.off k
  have hF : fullB m (dropS S k r) k = fullB m (dropS S' k q) k := by
    unfold fullB
    rw [hD.len]
    rcases hD.get k with ⟨e1, e2⟩ | ⟨s, t, e1, e2, ht⟩ <;> rw [e1, e2]
    rfl
  obtain ⟨f, hf, hf'⟩ : ∃ f, Say c r (stOf c r (getS (dropS S k r) k)) f ∧ Say c q (stOf c q (getS (dropS S' k q) k)) f := by
    have hg := dropS_get S k r
    have hg' := dropS_get S' k q
    rcases h.get k with ⟨e1, e2⟩ | ⟨s, t, e1, e2, ht⟩
    · rw [e1] at hg; rw [e2] at hg'
      rw [hg, hg']
      exact ⟨0, Say.none (rule_is3 hv) hr hc, Say.none (rule_is3 hv') hq hc⟩
    · rw [e1] at hg; rw [e2] at hg'
      dsimp only at hg hg'
      rw [← ht.e, ← ht.b, ee, eb] at hg'
      by_cases z : s.r.e = r.e ∧ s.r.b = r.b
      · rw [if_pos z] at hg hg'
        rw [hg, hg']
        obtain ⟨f, h1, h2⟩ := ht.say
        have ec := hcast hw e1 z.1 z.2
        exact ⟨f, h1.cast ec, h2.cast (by rw [← ht.cap, ec, ecap])⟩
      · rw [if_neg z] at hg hg'
        rw [hg, hg']
        exact ⟨0, Say.none (rule_is3 hv) hr hc, Say.none (rule_is3 hv') hq hc⟩
  have hA := decA_say hf hr hc hs hn
  have hA' := decA_say hf' hq hc hs' hn
  obtain ⟨a1, _, a3⟩ := hf.charge hr hc hs hn
  obtain ⟨b1, _, b3⟩ := hf'.charge hq hc hs' hn
  rw [← ew, ← ecap] at b1 b3 hA'
  unfold chA chN
  rw [← hwk, ← hF]
  by_cases z : wkE k r = 0
  · rw [if_pos z, if_pos z, if_pos z, if_pos z]
    by_cases y : fullB m (dropS S k r) k = true
    · rw [if_pos y, if_pos y, if_pos y, if_pos y, eb]; exact ⟨rfl, hD⟩
    · rw [if_neg y, if_neg y, if_neg y, if_neg y]
      refine ⟨by rw [hA, hA', ee, eb], ?_⟩
      generalize stOf c r (getS (dropS S k r) k) = st at *
      generalize stOf c q (getS (dropS S' k q) k) = st' at *
      unfold decS
      rw [a1, b1]
      by_cases x : ftB f (wI r n) (capR r) = true
      · rw [if_pos x, if_pos x]
        have tw : Twi c (slOf k r (stNx c r st n)) (slOf k q (stNx c q st' n)) := ⟨rfl, ee.symm, eb.symm, ecap, _, a3, b3⟩
        unfold putS
        rw [tw.fl (Int.le_refl c) hc]
        by_cases v : flS c (slOf k q (stNx c q st' n)) = 0
        · rw [if_pos v, if_pos v]; exact hD.off k
        · rw [if_neg v, if_neg v]; exact .cons tw (hD.off k)
      · rw [if_neg x, if_neg x]; exact hD
  · rw [if_neg z, if_neg z, if_neg z, if_neg z]; exact ⟨rfl, h⟩
/-! ### One goes over -/
theorem Twi.moved {c k2 : Int} {s t : Sl} (h : Twi c s t) (ho : Okt c s) (h2 : Is3 k2) (hc : U c) (hc2 : c ≤ 4611686018427387904) : Twi c (mvS c k2 s) t := by
  obtain ⟨f, h1, h3⟩ := h.say
  have hcap := (capR_mul ho.oks.r ho.rule)
  have hU := capR_U ho.oks.r
  have hff : kfI s.k s.a s.b c (capR s.r) = f := h1.fill hc
  have ea : (mvS c k2 s).a = koA k2 c (capR s.r) f := by
    show kmA s.k s.a s.b k2 c (capS s) = _
    rw [kmA_is ho.kind, show kfI s.k s.a s.b c (capS s) = f from hff]
  have eb : (mvS c k2 s).b = koB k2 c := by show kmB s.k k2 c = _; rw [kmB_is ho.kind]
  have ek : (mvS c k2 s).k = k2 := (mvS_oks ho.oks hc ho.kind h2).2
  have hf0 := h1.f0
  have hf1 := h1.f1
  refine ⟨h.key, h.e, h.b, h.cap, f, ⟨⟨?_, ?_, ?_⟩, ?_, hf0, hf1⟩, h3⟩
  · show Is3 (mvS c k2 s).k; rw [ek]; exact h2
  · show U (mvS c k2 s).a; exact (mvS_oks ho.oks hc ho.kind h2).1.a
  · show U (mvS c k2 s).b; exact (mvS_oks ho.oks hc ho.kind h2).1.b
  · show Tells (mvS c k2 s).k (mvS c k2 s).a (mvS c k2 s).b (capR s.r) c f
    rw [ea, eb, ek]
    exact tells_of h2 c (capR s.r) f hc.1 hf0 hf1 (by omega)
theorem twi_fill {m c k2 : Int} {S S' : List Sl} (h : All2 (Twi c) S S') (hw : Wf m c S) (hw' : Wf m c S') (h2 : Is3 k2) (hc2 : c ≤ 4611686018427387904) : ∀ s ∈ S, flS c (mvS c k2 s) ≠ 0 := by
  intro s hs
  have hc := hw.cu
  rcases h.get s.key with ⟨e1, _⟩ | ⟨s', t, e1, e2, ht⟩
  · exact absurd rfl (getS_none.1 e1 s hs)
  · rw [getS_of hw.ap hs rfl] at e1
    cases e1
    rw [(ht.moved (hw.ok s hs) h2 hc hc2).fl (Int.le_refl c) hc]
    have := (getS_wf hw' e2).2.2.pos
    omega
theorem getS_perm {S : List Sl} {k : ByteArray} {s : Sl} (hp : S.Pairwise (fun x y => x.key ≠ y.key)) (h : getS S k = some s) : S.Perm (s :: offS k S) := by
  induction S with
  | nil => cases h
  | cons x xs ih =>
    obtain ⟨h1, h2⟩ := List.pairwise_cons.1 hp
    rw [getS_cons] at h
    rw [offS_cons]
    by_cases e : x.key = k
    · rw [if_pos e] at h; cases h
      rw [if_pos e, offS_no (fun y hy e2 => h1 y hy (by rw [e, e2]))]
    · rw [if_neg e] at h
      rw [if_neg e]
      exact ((ih h2 h).cons x).trans (List.Perm.swap _ _ _)
theorem twi_move {m c k2 : Int} {S S' : List Sl} {k : ByteArray} (h : All2 (Twi c) S S') (hw : Wf m c S) (hw' : Wf m c S') (h2 : Is3 k2) (hc2 : c ≤ 4611686018427387904) : ∃ S2, S'.Perm S2 ∧ All2 (Twi c) (mvN c k2 S k) S2 := by
  have hfl := twi_fill h hw hw' h2 hc2
  unfold mvN
  rcases h.get k with ⟨e1, e2⟩ | ⟨s, t, e1, e2, ht⟩
  · rw [e1]; exact ⟨S', List.Perm.refl _, h⟩
  · rw [e1]
    obtain ⟨hs, rfl, ho⟩ := getS_wf hw e1
    refine ⟨_, getS_perm hw'.ap e2, ?_⟩
    dsimp only
    unfold putS
    rw [if_neg (hfl s hs)]
    exact .cons (ht.moved ho h2 hw.cu hc2) (h.off _)
theorem All2.moved {c k2 : Int} {S S' : List Sl} (h : All2 (Twi c) S S') (ho : ∀ s ∈ S, Okt c s) (h2 : Is3 k2) (hc : U c) (hc2 : c ≤ 4611686018427387904) : All2 (Twi c) (S.map (mvS c k2)) S' := by
  induction h with
  | nil => exact .nil
  | cons h _ ih => exact .cons (h.moved (ho _ List.mem_cons_self) h2 hc hc2) (ih (fun s hs => ho s (List.mem_cons_of_mem _ hs)))
/-! ### Entries -/
/-- Until when a key is active. -/
def untK (c : Int) (S : List Sl) (k : ByteArray) : Int := match getS S k with
  | some s => dueS c s
  | none => 0
theorem entS_keys {c : Int} {S xs : List Sl} (hp : S.Pairwise (fun x y => x.key ≠ y.key)) (h : ∀ x ∈ xs, x ∈ S) : xs.map (entS c) = (xs.map (fun x => x.key)).map (fun k => (k, untK c S k)) := by
  rw [List.map_map]
  refine List.map_congr_left (fun x hx => ?_)
  show (x.key, dueS c x) = (x.key, untK c S x.key)
  unfold untK
  rw [getS_of hp (h x hx) rfl]
theorem untK_twi {c : Int} {S S' : List Sl} (h : All2 (Twi c) S S') (hc : U c) (k : ByteArray) : untK c S k = untK c S' k := by
  unfold untK
  rcases h.get k with ⟨e1, e2⟩ | ⟨s, t, e1, e2, ht⟩
  · rw [e1, e2]
  · rw [e1, e2]; exact ht.due hc
/-- Keys in order, in one way alone. -/
theorem allk_one {S S' : List Sl} {ks ks' : List ByteArray} (h : Allk S ks) (h' : Allk S' ks') (e : S.map (fun s => s.key) = S'.map (fun s => s.key)) : ks = ks' := by
  obtain ⟨d, p1, p2, rfl⟩ := h
  obtain ⟨d', q1, q2, rfl⟩ := h'
  have inc : ∀ {d : Array ByteArray}, Sort.SortedIn ltK 0 d.size d → d.toList.Pairwise (fun a b => ltK b a = false) := by
    intro d hs
    rw [List.pairwise_iff_getElem]
    intro i j hi hj hij
    have h1 := hs i j (Nat.zero_le _) hij (by simpa using hj)
    rw [getElem!_pos d i (by simpa using hi), getElem!_pos d j (by simpa using hj)] at h1
    simpa using h1
  refine List.Perm.eq_of_pairwise (le := fun a b => ltK b a = false) (fun a b _ _ h1 h2 => ?_) (inc p2) (inc q2) (p1.trans (by rw [e]; exact q1.symm))
  have t := ls_total (lb a) (lb b)
  rw [show ls (lb a) (lb b) = false from h2, show ls (lb b) (lb a) = false from h1] at t
  simp at t
  exact lb_inj (eq_of_beq (by simpa using t))
theorem ents_same {c : Int} {S S' xs ys : List Sl} (h : All2 (Twi c) S S') (hc : U c) (hp : S.Pairwise (fun x y => x.key ≠ y.key)) (hp' : S'.Pairwise (fun x y => x.key ≠ y.key)) (h1 : ∀ x ∈ xs, x ∈ S) (h2 : ∀ x ∈ ys, x ∈ S') (k1 : Allk S (xs.map (fun x => x.key))) (k2 : Allk S' (ys.map (fun x => x.key))) : xs.map (entS c) = ys.map (entS c) := by
  rw [entS_keys hp h1, entS_keys hp' h2, allk_one k1 k2 h.keys]
  exact List.map_congr_left (fun k _ => by rw [untK_twi h hc k])
end Go.Proofs.YtbejkcdaefkibaaGreat.Wd
namespace Go.Proofs.YtbejkcdaefkibaaGreat.Wd
open Go Go.RowKit Go.Deep Go.Shelf
set_option linter.unusedVariables false
set_option maxRecDepth 100000

/-- A deed as a value. -/
abbrev Dd.v (d : Dd) (ka : Option Addr) (kn kc : Nat) : Value := .agg #[.int .u8 d.kind, .int .u32 d.wait, .int .u8 d.big, .slice ka kn kc, .int .u8 d.rule, .int .u16 d.n, .int .u8 d.dest]
/-- A deed's key. -/
def nameT (d : Dd) : ByteArray := if 240 ≤ d.kind then ⟨#[]⟩ else if 2 < (keyT d.kb).size ∧ d.kind < 200 then (keyT d.kb).extract 0 1 else keyT d.kb
theorem nameT_ok (d : Dd) : (nameT d).size ≤ 12 ∧ ((nameT d).size ≠ 0 → rtB (lb (nameT d)) = true) := by
  have h := keyT_ok d.kb
  unfold nameT
  split
  · exact ⟨by decide, fun h => absurd rfl h⟩
  · split
    · have := first_vis h.2.2 h.1
      exact ⟨by omega, fun _ => this.1⟩
    · exact ⟨by omega, fun _ => by unfold rtB; rw [list_size, decide_eq_true (show 1 ≤ (keyT d.kb).size ∧ (keyT d.kb).size ≤ 128 by omega), h.2.2]; rfl⟩
set_option maxHeartbeats 1000000 in
theorem name_any (d : Dd) (ka : Option Addr) (kn kc : Nat) (w : World) (hk : 0 ≤ d.kind ∧ d.kind ≤ 255) (ht : Txt w ka kn d.kb) (hn : kn ≤ 9223372036854775807) :
    Calls Tryz.prog 54 #[d.v ka kn kc] w fun e w' => e = .returned (.string (nameT d)) ∧ Below w.heap.size w w' := by
  have kr := (Below.refl _ w).alloc (Nat.le_refl _) (.cells #[.int .u8 d.kind, .int .u32 d.wait, .int .u8 d.big, .slice ka kn kc, .int .u8 d.rule, .int .u16 d.n, .int .u8 d.dest] 60)
  have CK := Lib.hid (fun V (g : Below w.heap.size w V) => key_any ka kn kc d.kb V (ht.below g) hn)
  have hko := keyT_ok d.kb
  clear ht
  unfold nameT
  generalize keyT d.kb = kk at *
  have h1 := hko.1
  have h12 := hko.2.1
  clear hko
  obtain ⟨nt, hnt⟩ : ∃ nt : ByteArray, (if 240 ≤ d.kind then ⟨#[]⟩ else if 2 < kk.size ∧ d.kind < 200 then kk.extract 0 1 else kk) = nt := ⟨_, rfl⟩
  rw [hnt]
  have HN := Lib.hid hnt
  clear hnt
  go_enter Tryz.func54, Tryz.ntmps54
  by_cases h240 : 240 ≤ d.kind
  · have hd := decide_eq_true h240
    have HN := HN.out
    rw [if_pos h240] at HN
    subst HN
    clear CK
    go_wp2
    go_ret
    exact ⟨rfl, kr⟩
  · have HM := Lib.hid (HN.out)
    rw [if_neg h240] at HM
    clear HN
    go_wp2_with (go_at_call 45; refine (CK.out _ kr).mono ?_; rintro e w1 ⟨rfl, g⟩; refine stopHere ?_)
    unfold Stop
    have c0 : w1.cell? ⟨w.heap.size, 0, none⟩ = some (.int .u8 d.kind) := celln g (by simp)
    have G := kbq kr g
    clear CK g kr
    by_cases h2 : 2 < kk.size
    · by_cases h200 : d.kind < 200
      · have h2' : (2 : Int) < (kk.size : Int) := by omega
        have HN := HM.out
        rw [if_pos ⟨h2, h200⟩] at HN
        subst HN
        go_wp2
        go_ret
        exact ⟨rfl, G⟩
      · have h2' : (2 : Int) < (kk.size : Int) := by omega
        have h2'' := decide_eq_false h200
        have HN := HM.out
        rw [if_neg (fun x => h200 x.2)] at HN
        subst HN
        go_wp2
        go_ret
        exact ⟨rfl, G⟩
    · have h2' := decide_eq_false (show ¬ (2 : Int) < (kk.size : Int) by omega)
      have HN := HM.out
      rw [if_neg (fun x => h2 x.1)] at HN
      subst HN
      go_wp2
      go_ret
      exact ⟨rfl, G⟩
/-- Is a key among slots? -/
def hasK (xs : List Sl) (k : ByteArray) : Bool := xs.any (fun x => decide (x.key = k))
end Go.Proofs.YtbejkcdaefkibaaGreat.Wd
