/- Elder words: texts, keys, how many bytes two begin with alike, a text's copy, rules in rows; no conditions but those that each names. -/
import Derived.WalkKit
import Derived.Laws.Bits64b
import Derived.Below
import Derived.Deep.Draws
import Derived.Test.YtekpmepcacbloaaRows
import Derived.ProofKit
import Derived.OpenShut
import Derived.Handy
import Derived.Lib.Hide
import Derived.Deep.RegionHeld3
import Derived.Deep.QuietTactic
import Derived.BigQuiet
import Derived.RangeFuncNested
import Derived.RangeFuncBound
import Derived.RangeFuncCalls
import Derived.RangeFuncLeaves
import Derived.Shelf.Abstract
import Derived.Shelf.RegionOpen
import Derived.OwnWalkIn
import Derived.TacticsInMore
import Derived.LoopNIn
import Derived.LoopIn
import Derived.LoopTactic
import Derived.OwnWalk
import Derived.Laws.OwnMore
import Derived.Maps.OwnSet
import Derived.Laws.EntriesVeiled
import Derived.Lib.ReflectliteSwap
import Derived.Deep.CutRange
import Derived.Deep.DeepCutAuto
import Derived.Shelf.LaysM
import Derived.Shelf.Strconv.Clone
import Derived.Lib.ItoaNum
import Derived.Lib.ItoaLen
import Derived.Laws.Strings
import GoSem.Op.String
import Derived.Lib.BufferWrite
import Derived.Laws.IdiomStrings
import Derived.Laws.ResultCell
import Derived.Laws.Rows
import Derived.ScopeJumps
import Derived.WalkMore
import Derived.WalkLawsBesides
import Derived.WalkSpells
import Derived.Deep.WholeRow
import Derived.StillTailTactics
import Derived.Deep.AppendLies
import Derived.Laws.ComplexArith
import Derived.WalkSmall
import Derived.Laws.Entries
import Derived.Laws.AppendOwn
import Derived.Deep.LoopGhost
import Derived.Lib.QuietBelow
import Derived.PlainAid
import Derived.Lib.SlBytesConst
import Derived.Lib.SmallJoins
import Derived.Laws.AppendOwnNone
import Derived.Laws.MakeOwn
import Derived.Lib.AppendStr
import Derived.Deep.RegionLaw
import Derived.Defers
import Derived.Recover
import Derived.Deep.Slices
import Derived.OneCell
namespace Go.Proofs.Ytekpmepcacbloaa.Wd
open Go Go.RowKit Go.Shelf Go.Deep
set_option linter.unusedVariables false
set_option maxRecDepth 100000
/-- A number of 64 bits. -/
def U (a : Int) : Prop := 0 ≤ a ∧ a ≤ 18446744073709551615
theorem list_size (s : ByteArray) : s.data.toList.length = s.size := by cases s; rfl
theorem list_at (s : ByteArray) (i : Nat) (h : i < s.size) (h' : i < s.data.toList.length) : s.data.toList[i] = s[i] := by cases s; rfl
/-- The bytes of a text. -/
abbrev lb (s : ByteArray) : List UInt8 := s.data.toList
/-- How many bytes two begin with alike. -/
def cm : List UInt8 → List UInt8 → Nat
  | a :: x, b :: y => if a = b then cm x y + 1 else 0
  | _, _ => 0
theorem cm_nil_left (y : List UInt8) : cm [] y = 0 := by cases y <;> rfl
theorem cm_nil_right (x : List UInt8) : cm x [] = 0 := by cases x <;> rfl
theorem cm_cons (a b : UInt8) (x y : List UInt8) : cm (a :: x) (b :: y) = if a = b then cm x y + 1 else 0 := by rw [cm]
theorem cm_le_left : ∀ x y, cm x y ≤ x.length
  | [], y => by rw [cm_nil_left]; exact Nat.zero_le _
  | a :: x, [] => by rw [cm_nil_right]; exact Nat.zero_le _
  | a :: x, b :: y => by rw [cm_cons]; have := cm_le_left x y; split <;> simp <;> omega
theorem cm_comm : ∀ x y, cm x y = cm y x
  | [], y => by rw [cm_nil_left, cm_nil_right]
  | a :: x, [] => by rw [cm_nil_left, cm_nil_right]
  | a :: x, b :: y => by
    rw [cm_cons, cm_cons, cm_comm x y]
    by_cases h : a = b
    · rw [if_pos h, if_pos h.symm]
    · rw [if_neg h, if_neg (fun e => h e.symm)]
theorem cm_le_right (x y : List UInt8) : cm x y ≤ y.length := by rw [cm_comm]; exact cm_le_left y x
theorem cm_take : ∀ x y : List UInt8, x.take (cm x y) = y.take (cm x y)
  | [], y => by rw [cm_nil_left]; simp
  | a :: x, [] => by rw [cm_nil_right]; simp
  | a :: x, b :: y => by
    rw [cm_cons]
    by_cases h : a = b
    · rw [if_pos h, h]; simp [cm_take x y]
    · rw [if_neg h]; simp
theorem cm_unlike : ∀ x y (h : cm x y < x.length) (h' : cm x y < y.length), x[cm x y] ≠ y[cm x y]
  | [], y, h, _ => by simp at h
  | a :: x, [], _, h' => by simp at h'
  | a :: x, b :: y, h, h' => by
    by_cases e : a = b
    · have hc : cm (a :: x) (b :: y) = cm x y + 1 := by rw [cm_cons, if_pos e]
      have h1 : cm x y < x.length := by rw [hc] at h; simpa using h
      have h2 : cm x y < y.length := by rw [hc] at h'; simpa using h'
      have := cm_unlike x y h1 h2
      simp only [hc, List.getElem_cons_succ]
      exact this
    · have hc : cm (a :: x) (b :: y) = 0 := by rw [cm_cons, if_neg e]
      simp only [hc, List.getElem_cons_zero]
      exact e
/-- What is alike so far, and no further, is what is common. -/
theorem cm_is : ∀ (n : Nat) (x y : List UInt8), n ≤ x.length → n ≤ y.length → x.take n = y.take n → (∀ (h : n < x.length) (h' : n < y.length), x[n] ≠ y[n]) → cm x y = n
  | 0, [], y, _, _, _, _ => cm_nil_left y
  | 0, a :: x, [], _, _, _, _ => cm_nil_right _
  | 0, a :: x, b :: y, _, _, _, h => by rw [cm_cons, if_neg]; exact h (by simp) (by simp)
  | n + 1, [], y, h, _, _, _ => by simp at h
  | n + 1, a :: x, [], _, h, _, _ => by simp at h
  | n + 1, a :: x, b :: y, h1, h2, h3, h4 => by
    simp only [List.take_succ_cons, List.cons.injEq] at h3
    rw [cm_cons, if_pos h3.1, cm_is n x y (by simpa using h1) (by simpa using h2) h3.2 (fun g g' => by
      have := h4 (by simpa using g) (by simpa using g')
      simpa using this)]
theorem cm_self (x : List UInt8) : cm x x = x.length := cm_is _ _ _ (Nat.le_refl _) (Nat.le_refl _) rfl (fun h => absurd h (Nat.lt_irrefl _))
/-- One begins with the other one, just if all of that is common. -/
theorem cm_has (k p : List UInt8) : cm k p = p.length ↔ p <+: k := by
  constructor
  · intro h
    have := cm_take k p
    rw [h, List.take_length] at this
    rw [← this]; exact List.take_prefix _ _
  · rintro ⟨t, rfl⟩
    exact cm_is _ _ _ (by simp) (Nat.le_refl _) (by simp) (fun _ h => absurd h (Nat.lt_irrefl _))
theorem u8_ne {a b : UInt8} (h : a ≠ b) : ((a.toNat : Int) == (b.toNat : Int)) = false := by
  rw [beq_eq_false_iff_ne]; intro e; exact h (UInt8.toNat_inj.1 (by omega))
theorem zip_all_take : ∀ (x y : List UInt8) (n : Nat), n ≤ x.length → n ≤ y.length → (∀ p ∈ (x.zip y).take n, p.1 = p.2) → x.take n = y.take n
  | _, _, 0, _, _, _ => by simp
  | [], y, n + 1, h, _, _ => by simp at h
  | a :: x, [], n + 1, _, h, _ => by simp at h
  | a :: x, b :: y, n + 1, h1, h2, h => by
    simp only [List.zip_cons_cons, List.take_succ_cons, List.mem_cons, forall_eq_or_imp] at h
    rw [List.take_succ_cons, List.take_succ_cons, h.1, zip_all_take x y n (by simpa using h1) (by simpa using h2) h.2]
/-- All of the pairs are alike. -/
theorem cm_all {x y : List UInt8} (h : ∀ p ∈ x.zip y, p.1 = p.2) : cm x y = (x.zip y).length := by
  have hl : (x.zip y).length = min x.length y.length := by simp
  refine cm_is _ _ _ (by omega) (by omega) (zip_all_take x y _ (by omega) (by omega) (fun p hp => h p (List.mem_of_mem_take hp))) (fun h1 h2 => by omega)
/-- One pair is not. -/
theorem cm_parts {x y : List UInt8} {pre : List (UInt8 × UInt8)} {p : UInt8 × UInt8} (hp : pre ++ [p] <+: x.zip y) (h : ∀ q ∈ pre, q.1 = q.2) (hne : p.1 ≠ p.2) :
    cm x y = pre.length ∧ ∃ (h1 : cm x y < x.length) (h2 : cm x y < y.length), x[cm x y] = p.1 ∧ y[cm x y] = p.2 := by
  obtain ⟨t, ht⟩ := hp
  have hl : (x.zip y).length = min x.length y.length := by simp
  have hk : pre.length < (x.zip y).length := by rw [← ht]; simp
  have h1 : pre.length < x.length := by omega
  have h2 : pre.length < y.length := by omega
  have hg : (x.zip y)[pre.length] = p := by
    have : (x.zip y)[pre.length]? = some p := by rw [← ht]; simp
    rw [List.getElem?_eq_getElem hk] at this
    exact Option.some.inj this
  rw [List.getElem_zip] at hg
  have hx : x[pre.length] = p.1 := by rw [← hg]
  have hy : y[pre.length] = p.2 := by rw [← hg]
  have e : cm x y = pre.length := cm_is _ _ _ (by omega) (by omega) (zip_all_take x y _ (by omega) (by omega) (fun q hq => by
    rw [← ht] at hq
    simp at hq
    exact h q hq)) (fun _ _ => by rw [hx, hy]; exact hne)
  refine ⟨e, by omega, by omega, ?_, ?_⟩
  · simp only [e]; exact hx
  · simp only [e]; exact hy
attribute [local go_sem] Oper.semAt_some
/-- Two blocks, one behind the other, lie as they lay. -/
def Two (p : Nat) (A C : World) : Prop := C.heap[p]? = A.heap[p]? ∧ C.heap[p + 1]? = A.heap[p + 1]?
theorem Two.refl (p : Nat) (A : World) : Two p A A := ⟨rfl, rfl⟩
theorem two_t {p : Nat} {A B C : World} (h : Two p A B) (k : Two p B C) : Two p A C := ⟨k.1.trans h.1, k.2.trans h.2⟩
theorem two_b {p : Nat} {w : World} (hp : p + 1 < w.heap.size) (W : World) (l : Nat) (o o' : Obj) (hl : w.heap.size ≤ l) (h : W.heap[l]? = some o) (_ : o.isCells = false) (_ : o.isWalk = false) : Two p W (W.putObj l o') :=
  ⟨World.putObj_heap_other (by omega), World.putObj_heap_other (by omega)⟩
theorem Two.set {p : Nat} (W : World) (q : Addr) (u : Value) (h : q.block ≠ p) (h' : q.block ≠ p + 1) : Two p W (W.setCell q u) :=
  ⟨Below.heap_setCell _ _ _ _ (by omega), Below.heap_setCell _ _ _ _ (by omega)⟩
theorem Two.box {p : Nat} {A C : World} (h : Two p A C) {t : TypeId} {v : Value} (c : Boxed A p t v) : Boxed C p t v := h.1.trans c
theorem Two.box' {p : Nat} {A C : World} (h : Two p A C) {t : TypeId} {v : Value} (c : Boxed A (p + 1) t v) : Boxed C (p + 1) t v := h.2.trans c
/-- A pair of bytes, as values. -/
abbrev prs (x : UInt8 × UInt8) : Array Value := #[.int .u8 (x.1.toNat : Int), .int .u8 (x.2.toNat : Int)]
theorem pairs_in (F : Fence) (n : Nat) (h : F.fn 30) (hro : F.round = none) (a b : ByteArray) (w : World) :
    CallsIn F n Try.prog 30 #[.string a, .string b] w fun e w' => e = .returned (.func (.func 31) #[] #[.pointer (some ⟨w.heap.size, 0, none⟩), .pointer (some ⟨w.heap.size + 1, 0, none⟩)]) ∧ w' = (w.alloc (.cells #[.string a] 9)).alloc (.cells #[.string b] 9) := by
  refine callsIn_of_wp Try.func30 rfl h ?_ hro
  simp only [Try.ntmps30, List.size_toArray, List.length_cons, List.length_nil, Nat.reduceAdd, Nat.reduceSub, Array.replicate_succ, Array.replicate_zero, List.push_toArray, List.append_toArray, List.nil_append, List.cons_append]
  gi_wp2
  go_ret
  exact ⟨rfl, rfl⟩
set_option maxRecDepth 100000 in
set_option maxHeartbeats 2000000 in
theorem pairs1_stops (n : Nat) (hn : 1 ≤ n) (p : Nat) (a b : ByteArray) (ha : a.size ≤ 9223372036854775807) (hb : b.size ≤ 9223372036854775807) (w : World) (hA : Boxed w p 9 (.string a)) (hB : Boxed w (p + 1) 9 (.string b)) :
    SeqStopsK Fence.wide n Try.prog 31 #[.pointer (some ⟨p, 0, none⟩), .pointer (some ⟨p + 1, 0, none⟩)] prs (Two p) (fun xs => xs = (lb a).zip (lb b)) (fun pre => pre <+: (lb a).zip (lb b)) ((lb a).zip (lb b)).length w := by
  intro l J Jx W hW hJ hJx hY h0
  have bA : Boxed W p 9 (.string a) := (hW.block p hA.lt).trans hA
  have bB : Boxed W (p + 1) 9 (.string b) := (hW.block (p + 1) hB.lt).trans hB
  clear hA hB hW
  have cA := bA.cell
  have cB := bB.cell
  have hza := list_size a
  have hzb := list_size b
  have hl : ((lb a).zip (lb b)).length = min a.size b.size := by simp [hza, hzb]
  obtain ⟨M, hM⟩ : ∃ M, M = min a.size b.size := ⟨_, rfl⟩
  have hm : (if b.size < a.size then (b.size : Int) else (a.size : Int)) = (M : Int) := by split <;> omega
  have hMa : M ≤ a.size := by omega
  have hMb : M ≤ b.size := by omega
  rw [← hM] at hl
  have HG : Hid (∀ (k : Nat) (h1 : k < a.size) (h2 : k < b.size), ((lb a).zip (lb b))[k]? = some (a[k], b[k])) := Lib.hid (fun k h1 h2 => by
    rw [List.getElem?_eq_getElem (by omega), List.getElem_zip, list_at a k h1 (by omega), list_at b k h2 (by omega)])
  have HL := Lib.hid hl
  generalize hX : (lb a).zip (lb b) = X at *
  clear hX hza hzb hl hM
  refine callsIn_of_wp Try.func31 rfl trivial ?_ rfl
  simp only [Try.ntmps31, List.size_toArray, List.length_cons, List.length_nil, Nat.reduceAdd, Nat.reduceSub, Array.replicate_succ, Array.replicate_zero, List.push_toArray, List.append_toArray, List.nil_append, List.cons_append]
  gi_wp2
  gi_loopw [10] (fun i wr => ∃ k : Nat, k ≤ M ∧ i = .int .i64 (k : Int) ∧ J (X.take k) wr ∧ Boxed wr p 9 (.string a) ∧ Boxed wr (p + 1) 9 (.string b)) (fun i _ => M - (intOf i).toNat)
  case atStart => exact ⟨0, Nat.zero_le _, rfl, by simpa using h0, bA, bB⟩
  case round =>
    obtain ⟨k, hk, rfl, hJs, b1, b2⟩ := hrel
    have c1 := b1.cell
    have c2 := b2.cell
    by_cases hlt : k < M
    · have hka : k < a.size := by omega
      have hkb : k < b.size := by omega
      obtain ⟨fn, tmps, assign, body, hy, hR⟩ := hY (X.take k) (a[k], b[k]) wr.drew (hJ _ _ _ none hJs ⟨rfl, rfl, rfl, Nat.le_refl _, fun _ _ _ => rfl⟩ (fun _ e => by cases e)) (by rw [List.length_take, HL.out]; omega)
      dsimp only [prs] at hy
      have hnext : X.take k ++ [(a[k], b[k])] = X.take (k + 1) := by rw [List.take_add_one, HG.out k hka hkb]; rfl
      rw [hnext] at hR
      have HR := Lib.hid (hR.mono (R' := fun e W' => ∃ o : Bool, e = .returned (.bool o) ∧ Hid ((o = true ∧ J (X.take (k + 1)) W' ∧ Two p wr.drew W') ∨ (o = false ∧ Jx (X.take (k + 1)) W'))) (by
        rintro e W' (⟨rfl, h1, h2⟩ | ⟨rfl, h1⟩)
        · exact ⟨true, rfl, Lib.hid (.inl ⟨rfl, h1, h2⟩)⟩
        · exact ⟨false, rfl, Lib.hid (.inr ⟨rfl, h1⟩)⟩))
      clear hR hnext hY cA cB
      have hmix : Try.prog.follows .mixedOrders = true := by kernel_rfl
      gi_wp2
      gi_region_with_o (refine HR.out.mono ?_; rintro e W3 ⟨o, rfl, h3⟩)
      all_goals
        rcases h3.out with ⟨rfl, hJ3, hk3⟩ | ⟨rfl, hJ3⟩
        · gi_wp2
          go_roundw
          case rel => exact ⟨k + 1, by omega, by go_num, hJ3, hk3.box (show Boxed wr.drew p 9 (.string a) from b1), hk3.box' (show Boxed wr.drew (p + 1) 9 (.string b) from b2)⟩
          case measure => simp [intOf]; omega
        · gi_wp2
          refine bodyPost_ret (results_none rfl _ _ _) rfl ?_
          exact ⟨⟨_, rfl⟩, .inr ⟨_, List.take_prefix _ _, hJ3⟩⟩
    · obtain rfl : k = M := by omega
      gi_wp2
      go_end0
      exact ⟨⟨_, rfl⟩, .inl ⟨X, rfl, by have := hJs; rwa [List.take_of_length_le (by rw [HL.out]; exact Nat.le_refl _)] at this⟩⟩
set_option maxRecDepth 100000 in
set_option maxHeartbeats 2000000 in
theorem common_in (n : Nat) (hn : 3 ≤ n) (a b : ByteArray) (ha : a.size ≤ 9223372036854775807) (hb : b.size ≤ 9223372036854775807) (w : World) :
    CallsIn Fence.wide n Try.prog 27 #[.string a, .string b] w fun e w' => e = .returned (.int .i64 (cm (lb a) (lb b) : Int)) ∧ Below w.heap.size w w' := by
  have h1 : 1 ≤ n := by omega
  refine callsIn_of_wp_marks Try.func27 rfl trivial ?_ rfl
  simp only [Try.ntmps27, List.size_toArray, List.length_cons, List.length_nil, Nat.reduceAdd, Nat.reduceSub, Array.replicate_succ, Array.replicate_zero, List.push_toArray, List.append_toArray, List.nil_append, List.cons_append]
  gi_wp2_with (refine ⟨trivial, ?_⟩; gi_at_call 30; refine (pairs_in Fence.wide (n - 1) trivial rfl _ _ _).mono ?_; rintro e w' ⟨rfl, rfl⟩)
  have bR := ((Boxed.new w 3 (.int .i64 0)).alloc (.cells #[.string a] 9)).alloc (.cells #[.string b] 9)
  have bA := (Boxed.new (w.alloc (.cells #[.int .i64 0] 3)) 9 (.string a)).alloc (.cells #[.string b] 9)
  have bB := Boxed.new ((w.alloc (.cells #[.int .i64 0] 3)).alloc (.cells #[.string a] 9)) 9 (.string b)
  simp only [World.size_alloc] at bA bB
  have hB0 : Below w.heap.size w (((w.alloc (.cells #[.int .i64 0] 3)).alloc (.cells #[.string a] 9)).alloc (.cells #[.string b] 9)) := (((Below.refl _ w).alloc (Nat.le_refl _) _).alloc (by simp) _).alloc (by simp; omega) _
  have hsz : (((w.alloc (.cells #[.int .i64 0] 3)).alloc (.cells #[.string a] 9)).alloc (.cells #[.string b] 9)).heap.size = w.heap.size + 3 := by simp
  obtain ⟨W0, hW0⟩ : ∃ W0, ((w.alloc (.cells #[.int .i64 0] 3)).alloc (.cells #[.string a] 9)).alloc (.cells #[.string b] 9) = W0 := ⟨_, rfl⟩
  rw [hW0] at bR bA bB hB0 hsz ⊢
  clear hW0
  have hL : ((lb a).zip (lb b)).length ≤ 9223372036854775807 := by rw [List.length_zip, list_size, list_size]; omega
  refine wpIn_rangeFunc_ownF rfl h1 (gf := 31) (lb := #[.pointer (some ⟨w.heap.size + 1, 0, none⟩), .pointer (some ⟨w.heap.size + 1 + 1, 0, none⟩)]) rfl trivial (enters_of Try.func31 (by kernel_rfl) rfl)
    (pairs1_stops (n - 1) (by omega) (w.heap.size + 1) a b ha hb W0 bA bB) two_t (two_b (by omega)) (Below.refl _ _) (fun _ => rfl)
    (fun pre W => ((∀ q ∈ pre, q.1 = q.2) ∧ W.cell? ⟨w.heap.size, 0, none⟩ = some (.int .i64 (pre.length : Int)) ∧ W.frozen? ⟨w.heap.size, 0, none⟩ = false) ∧ Below w.heap.size w W)
    (fun c pre W => (c = .exit 0 ∧ ∃ pre' x, pre = pre' ++ [x] ∧ (∀ q ∈ pre', q.1 = q.2) ∧ x.1 ≠ x.2 ∧ W.cell? ⟨w.heap.size, 0, none⟩ = some (.int .i64 (pre'.length : Int))) ∧ Below w.heap.size w W)
    (OwnFrom.and (Own.from (fun s A B row hs hg hr => ⟨hs.1, cell_kept hs.2.1 hg hr, (frozen_kept hs.2.1 hg hr).trans hs.2.2⟩) _) (ownFrom_below (Nat.le_refl _) (by omega)))
    (fun c => OwnFrom.and (Own.from (fun s A B row hs hg hr => by obtain ⟨hc, p, x, h1, h2, h3, h4⟩ := hs; exact ⟨hc, p, x, h1, h2, h3, cell_kept h4 hg hr⟩) _) (ownFrom_below (Nat.le_refl _) (by omega)))
    ⟨⟨by simp, bR.cell, bR.frozen⟩, hB0⟩
    (fun x => { tmps := #[.string a, .string b, undef, undef, .int .i64 0, .pointer (some ⟨w.heap.size, 0, none⟩), .int .u8 (x.1.toNat : Int), .int .u8 (x.2.toNat : Int), .string a, .string b, .func (.func 31) #[] #[.pointer (some ⟨w.heap.size + 1, 0, none⟩), .pointer (some ⟨w.heap.size + 1 + 1, 0, none⟩)], .int .u8 (x.1.toNat : Int), .int .u8 (x.2.toNat : Int), undef, undef, undef, undef, undef, undef], defers := [] }) ?assign ?body ?done ?stop
  case assign =>
    intro l x W K hK
    gi_wp2
    exact hK
  case body =>
    rintro l pre x W ⟨⟨hp, hcr, hfr⟩, hB⟩ hlen
    by_cases hx : x.1 = x.2
    · have hx' : ((x.1.toNat : Int) == (x.2.toNat : Int)) = true := by rw [hx]; simp
      have HX := Lib.hid hx
      have hw : IntKind.i64.wrap ((pre.length : Int) + 1) = (pre.length : Int) + 1 := by rw [IntKind.wrap_i64]; omega
      clear hx
      gi_wp2
      refine ⟨KeepsOthers.setCell _ _ _, Two.set _ _ _ (by simp) (by simp; omega), ⟨fun y hy => (List.mem_append.1 hy).elim (hp y) (fun e => by simp at e; subst e; exact HX.out), ?_, by rw [World.frozen?_setCell]; exact hfr⟩, hB.setCell (p := ⟨w.heap.size, 0, none⟩) (by simp) _⟩
      rw [show ((pre ++ [x]).length : Int) = (pre.length : Int) + 1 by simp]
      exact World.cell?_setCell_same' _ _ _ (by rw [hcr]; rfl)
    · have hx' := u8_ne hx
      have HX := Lib.hid hx
      clear hx
      gi_wp2
      exact ⟨KeepsOthers.refl _, ⟨rfl, pre, x, rfl, hp, HX.out, hcr⟩, hB⟩
  case done =>
    rintro D ys W hD rfl ⟨⟨hne, hcr, hfr⟩, hB⟩ hK
    have E := cm_all hne
    rw [List.length_zip, list_size, list_size] at E
    have HE := Lib.hid E
    clear hne E
    gi_wp2
    refine ⟨by simp, .inl ⟨_, _, rfl, run_takeDeferred hK, ?_⟩⟩
    exact ⟨_, results_tmp rfl _ _ _, by rw [HE.out]; rfl, hB.trans (belowK_b (w := w) (Nat.le_refl _) W D _ _ (by omega) hK rfl rfl)⟩
  case stop =>
    rintro D c pre W hD hpre ⟨⟨rfl, pre', x, rfl, hall, hne, hcr⟩, hB⟩ hK
    have HE := Lib.hid (cm_parts hpre hall hne).1
    clear hpre hall hne
    gi_wp2
    refine ⟨by simp, .inl ⟨_, _, rfl, run_takeDeferred hK, ?_⟩⟩
    exact ⟨_, results_tmp rfl _ _ _, by rw [HE.out]; rfl, hB.trans (belowK_b (w := w) (Nat.le_refl _) W D _ _ (by omega) hK rfl rfl)⟩
theorem common_any (a b : ByteArray) (w : World) (ha : a.size ≤ 9223372036854775807) (hb : b.size ≤ 9223372036854775807) :
    Calls Try.prog 27 #[.string a, .string b] w fun e w' => e = .returned (.int .i64 (cm (lb a) (lb b) : Int)) ∧ Below w.heap.size w w' := callsIn_wide.1 (common_in 3 (Nat.le_refl _) a b ha hb w)
theorem has_any (k p : ByteArray) (w : World) (hk : k.size ≤ 9223372036854775807) (hp : p.size ≤ 9223372036854775807) :
    Calls Try.prog 23 #[.string k, .string p] w fun e w' => e = .returned (.bool (decide (cm (lb k) (lb p) = p.size))) ∧ Below w.heap.size w w' := by
  have c1 := fun W => common_any k p W hk hp
  generalize hm : cm (lb k) (lb p) = m at *
  have e : ((m : Int) == (p.size : Int)) = decide (m = p.size) := by
    rw [Bool.eq_iff_iff, beq_iff_eq, decide_eq_true_eq]; omega
  go_enter Try.func23, Try.ntmps23
  go_wp2_with (go_at_call 27; refine (c1 _).mono ?_; rintro e w1 ⟨rfl, b1⟩)
  go_ret
  exact ⟨rfl, b1⟩
/-- Is a byte visible? -/
def visB (c : Int) : Bool := decide (33 ≤ c ∧ c ≤ 126)
/-- May a key be? -/
def rtB (l : List UInt8) : Bool := decide (1 ≤ l.length ∧ l.length ≤ 128) && l.all (fun c => visB (c.toNat : Int))
theorem celln {w w' : World} (h : Below w.heap.size w w') {b o : Nat} {v : Value} (c : w.cell? ⟨b, o, none⟩ = some v) : w'.cell? ⟨b, o, none⟩ = some v := by
  have hb : b < w.heap.size := by
    by_cases hb : b < w.heap.size
    · exact hb
    · simp [World.cell?, hb] at c
  exact (h.cell (p := ⟨b, o, none⟩) hb).trans c
theorem dcell {w : World} {p : Addr} {v : Value} (c : w.cell? p = some v) : w.drew.cell? p = some v := c
/-- A rule, as a value. -/
abbrev rul (p : ByteArray) (e b k : Int) : Value := .agg #[.string p, .int .u64 e, .int .u64 b, .int .u8 k]
/-- May a prefix be? -/
def pfB (p : ByteArray) : Bool := decide (p.size = 0) || rtB (lb p)
/-- A rule, as data. -/
structure Rl where
  p : ByteArray
  e : Int
  b : Int
  k : Int
abbrev Rl.v (r : Rl) : Value := rul r.p r.e r.b r.k
/-- A rule lies in four cells. -/
def R4 (w : World) (B o : Nat) (r : Rl) : Prop := w.cell? ⟨B, o, none⟩ = some (.string r.p) ∧ w.cell? ⟨B, o + 1, none⟩ = some (.int .u64 r.e) ∧ w.cell? ⟨B, o + 2, none⟩ = some (.int .u64 r.b) ∧ w.cell? ⟨B, o + 3, none⟩ = some (.int .u8 r.k)
/-- Four cells may be written. -/
def S4 (w : World) (B o : Nat) : Prop := w.frozen? ⟨B, o, none⟩ = false ∧ w.frozen? ⟨B, o + 1, none⟩ = false ∧ w.frozen? ⟨B, o + 2, none⟩ = false ∧ w.frozen? ⟨B, o + 3, none⟩ = false
theorem R4.of_block {w w' : World} {B o : Nat} {r : Rl} (h : R4 w B o r) (e : w'.heap[B]? = w.heap[B]?) : R4 w' B o r :=
  ⟨(World.cell?_of_block (w := w) e).trans h.1, (World.cell?_of_block (w := w) e).trans h.2.1, (World.cell?_of_block (w := w) e).trans h.2.2.1, (World.cell?_of_block (w := w) e).trans h.2.2.2⟩
theorem S4.of_block {w w' : World} {B o : Nat} (h : S4 w B o) (e : w'.heap[B]? = w.heap[B]?) : S4 w' B o :=
  ⟨(World.frozen?_of_block (w := w) e).trans h.1, (World.frozen?_of_block (w := w) e).trans h.2.1, (World.frozen?_of_block (w := w) e).trans h.2.2.1, (World.frozen?_of_block (w := w) e).trans h.2.2.2⟩
theorem cell_lt {w : World} {b o : Nat} {v : Value} (h : w.cell? ⟨b, o, none⟩ = some v) : b < w.heap.size := by
  by_cases hb : b < w.heap.size
  · exact hb
  · simp [World.cell?, hb] at h
theorem cs_other (W : World) (B o : Nat) (v : Value) (B2 o2 : Nat) (h : B2 ≠ B ∨ o2 ≠ o) : (W.setCell ⟨B, o, none⟩ v).cell? ⟨B2, o2, none⟩ = W.cell? ⟨B2, o2, none⟩ :=
  World.cell?_setCell_other _ _ _ _ (fun e => by injection e with e1 e2; omega)
theorem toList_ne (t : ByteArray) (h : 0 < t.size) : t.toList.isEmpty = false := by
  rw [ByteArray.toList_eq, List.isEmpty_eq_false_iff]
  intro e
  have := congrArg List.length e
  rw [list_size] at this
  have : t.size = 0 := this
  omega
theorem toList_none (t : ByteArray) (h : t.size = 0) : t.toList.isEmpty = true := by
  rw [ByteArray.toList_eq, List.isEmpty_iff]
  exact List.eq_nil_of_length_eq_zero (by rw [list_size]; exact h)
def cloRen : Go.Shelf.Ren := ⟨fun | 316 => 28 | n => n, fun | 9 => 9 | 3 => 3 | 4 => 4 | 37 => 25 | 0 => 0 | 127 => 72 | 5 => 5 | n => n, fun | n => n⟩
theorem cloLays : Go.Proofs.LaysM.n316 Try.prog cloRen := {
  mixed := by kernel_rfl
  f316 := Try.func28.trans (congrArg some (by kernel_rfl))
  t0 := Try.underlying0
  a0 := Try.isAgg0
  z0 := Try.sizeOf0
  v0 := Try.zeroValue0
  t3 := Try.underlying3
  a3 := Try.isAgg3
  z3 := Try.sizeOf3
  v3 := Try.zeroValue3
  t4 := Try.underlying4
  a4 := Try.isAgg4
  z4 := Try.sizeOf4
  v4 := Try.zeroValue4
  t9 := Try.underlying9
  a9 := Try.isAgg9
  z9 := Try.sizeOf9
  v9 := Try.zeroValue9
  t37 := Try.underlying25
  a37 := Try.isAgg25
  z37 := Try.sizeOf25
  v37 := Try.zeroValue25
  t127 := Try.underlying72
  a127 := Try.isAgg72
  z127 := Try.sizeOf72
  v127 := Try.zeroValue72
  t5 := Try.underlying5
  a5 := Try.isAgg5
  z5 := Try.sizeOf5
  v5 := Try.zeroValue5
  i0 := by kernel_rfl
  i3 := by kernel_rfl
  i4 := by kernel_rfl
  i5 := by kernel_rfl
  i9 := by kernel_rfl
  i37 := by kernel_rfl
  i127 := by kernel_rfl }
theorem inner_clone (s : ByteArray) (w : World) (hs : s.size ≤ 281474976710656) :
    Calls Try.prog 28 #[.string s] w fun e w' => e = .returned (.string s) ∧ Below w.heap.size w w' := Any.stringslite_Clone cloLays s w hs
theorem clone_any (s : ByteArray) (w : World) (hs : s.size ≤ 281474976710656) :
    Calls Try.prog 24 #[.string s] w fun e w' => e = .returned (.string s) ∧ Below w.heap.size w w' := by
  go_enter Try.func24, Try.ntmps24
  go_wp2_with (go_at_call 28; refine (inner_clone _ _ hs).mono ?_; rintro e w1 ⟨rfl, b1⟩)
  go_ret
  exact ⟨rfl, b1⟩
theorem lt_heap {w : World} {R : Nat} {o : Obj} (h : w.heap[R]? = some o) : R < w.heap.size := by
  by_cases c : R < w.heap.size
  · exact c
  · rw [Array.getElem?_eq_none (by omega)] at h; cases h
theorem text_same {a b : ByteArray} : (a.toList == b.toList) = decide (a = b) := by
  by_cases h : a = b
  · subst h; simp
  · rw [decide_eq_false h, ← Bool.not_eq_true, beq_iff_eq]
    intro g
    rw [ByteArray.toList_eq, ByteArray.toList_eq] at g
    exact h (by cases a; cases b; simpa using g)
/-- What a rule of choices is: right, and small. -/
structure Own (s : ByteArray) (E B : Nat) (k : Int) : Prop where
  sz : s.size ≤ 12
  pf : pfB s = true
  e1 : 1 ≤ E
  e2 : E ≤ 4294967296
  b1 : 1 ≤ B
  b2 : B ≤ 65536
  k1 : 1 ≤ k
  k2 : k ≤ 3
/-- A place to halt a walk at. -/
def Stop (p : Prop) : Prop := p
theorem stopHere {p : Prop} (h : Stop p) : p := h
abbrev rl0 : Rl := ⟨⟨#[]⟩, 0, 0, 0⟩
/-- A rule that can be handed on. -/
structure Okr (r : Rl) : Prop where
  p : r.p.size ≤ 281474976710656
  e : U r.e
  b : U r.b
  k : 0 ≤ r.k ∧ r.k ≤ 255
abbrev fnOf (rs : List Rl) : Nat → Rl := fun k => rs.getD k rl0
theorem fn_take {rs : List Rl} {k j : Nat} (h : j < k) : fnOf (rs.take k) j = fnOf rs j := by
  simp [fnOf, List.getD_eq_getElem?_getD, List.getElem?_take, if_pos h]
theorem fn_drop {rs : List Rl} {k j : Nat} : fnOf (rs.drop k) j = fnOf rs (k + j) := by
  simp [fnOf, List.getD_eq_getElem?_getD, List.getElem?_drop]
def Rls (w : World) (A : Option Addr) (n : Nat) (rs : List Rl) : Prop :=
  rs.length = n ∧ (∀ r ∈ rs, Okr r) ∧ (0 < n → ∃ b off, A = some ⟨b, off, none⟩ ∧ b < w.heap.size ∧ ∀ k, k < n → R4 w b (off + k * 4) (fnOf rs k))
theorem Rls.below {w w' : World} {A : Option Addr} {n : Nat} {rs : List Rl} (h : Rls w A n rs) (k : Below w.heap.size w w') : Rls w' A n rs :=
  ⟨h.1, h.2.1, fun hn => by
    obtain ⟨b, off, e, hb, hc⟩ := h.2.2 hn
    exact ⟨b, off, e, Nat.lt_of_lt_of_le hb k.size, fun j hj => (hc j hj).of_block (k.block _ hb)⟩⟩
theorem Rls.front {w : World} {A : Option Addr} {n k : Nat} {rs : List Rl} (h : Rls w A n rs) (hk : k ≤ n) : Rls w A k (rs.take k) :=
  ⟨by rw [List.length_take, h.1]; omega, fun x hx => h.2.1 x (List.mem_of_mem_take hx), fun hn => by
    obtain ⟨b, off, e, hb, hc⟩ := h.2.2 (by omega)
    exact ⟨b, off, e, hb, fun j hj => by rw [fn_take hj]; exact hc j (by omega)⟩⟩
theorem Rls.cut {w : World} {b off n k : Nat} {rs : List Rl} (h : Rls w (some ⟨b, off, none⟩) n rs) (hk : k ≤ n) : Rls w (some ⟨b, off + k * 4, none⟩) (n - k) (rs.drop k) :=
  ⟨by rw [List.length_drop, h.1], fun x hx => h.2.1 x (List.mem_of_mem_drop hx), fun hn => by
    obtain ⟨b', off', e, hb, hc⟩ := h.2.2 (by omega)
    simp only [Option.some.injEq, Addr.mk.injEq] at e
    obtain ⟨rfl, rfl, _⟩ := e
    refine ⟨b, off + k * 4, rfl, hb, fun j hj => ?_⟩
    rw [fn_drop, show off + k * 4 + j * 4 = off + (k + j) * 4 by omega]
    exact hc (k + j) (by omega)⟩
end Go.Proofs.Ytekpmepcacbloaa.Wd
