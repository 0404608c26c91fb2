/- Elder words: texts, keys, a text's copy, rows of bytes; no conditions but those that each names. -/
import Derived.WalkKit
import Derived.Laws.Bits64b
import Derived.Below
import Derived.Deep.Draws
import Derived.Test.YtbejkcdaefkibaaRows
import Derived.RangeFuncNested
import Derived.RangeFuncBound
import Derived.RangeFuncCalls
import Derived.RangeFuncLeaves
import Derived.Shelf.Abstract
import Derived.Shelf.RegionOpen
import Derived.OwnWalkIn
import Derived.TacticsInMore
import Derived.LoopNIn
import Derived.LoopIn
import Derived.Lib.Hide
import Derived.ProofKit
import Derived.Handy
import Derived.LoopTactic
import Derived.Deep.RegionHeld3
import Derived.Deep.QuietTactic
import Derived.BigQuiet
import Derived.OwnWalk
import Derived.Laws.OwnMore
import Derived.Shelf.LaysM
import Derived.Shelf.Strconv.Clone
import Derived.OpenShut
import Derived.Maps.OwnSet
import Derived.Laws.EntriesVeiled
import Derived.Lib.ReflectliteSwap
import Derived.Deep.CutRange
import Derived.Deep.DeepCutAuto
import Derived.Lib.ItoaNum
import Derived.Lib.ItoaLen
import Derived.Laws.Strings
import GoSem.Op.String
import Derived.Lib.BufferWrite
import Derived.Laws.IdiomStrings
import Derived.Laws.ResultCell
import Derived.Laws.Rows
import Derived.ScopeJumps
import Derived.WalkMore
import Derived.WalkLawsBesides
import Derived.WalkSpells
import Derived.Deep.WholeRow
import Derived.StillTailTactics
import Derived.Deep.AppendLies
import Derived.Laws.ComplexArith
import Derived.WalkSmall
import Derived.Laws.Entries
import Derived.Laws.AppendOwn
import Derived.Deep.LoopGhost
import Derived.Lib.QuietBelow
import Derived.PlainAid
import Derived.Lib.SlBytesConst
import Derived.Lib.SmallJoins
import Derived.Laws.AppendOwnNone
import Derived.Laws.MakeOwn
import Derived.Lib.AppendStr
import Derived.Deep.RegionLaw
import Derived.Defers
import Derived.Recover
import Derived.Deep.Slices
import Derived.OneCell
import Derived.SizedLaws
import Derived.Laws.Cover3
namespace Go.Proofs.Ytbejkcdaefkibaa.Wd
open Go Go.RowKit Go.Shelf Go.Deep
set_option linter.unusedVariables false
set_option maxRecDepth 100000
def Kept (w w' : World) : Prop := Grown w w' ∧ Below w.heap.size w w'
theorem Kept.refl (w : World) : Kept w w := ⟨Grown.refl _, Below.refl _ _⟩
theorem Kept.trans {a b c : World} (h : Kept a b) (k : Kept b c) : Kept a c :=
  ⟨⟨World.keptBut_trans h.1.1 k.1.1, fun x => (k.1.2.1 x).trans (h.1.2.1 x), Nat.le_trans h.1.2.2 k.1.2.2⟩, h.2.trans (k.2.mono h.2.size)⟩
theorem Kept.alloc {a b : World} (h : Kept a b) (c : Array Value) (t : TypeId) : Kept a (b.alloc (.cells c t)) := ⟨h.1.alloc c t, h.2.alloc h.2.size _⟩
theorem Kept.drew {a b : World} (h : Kept a b) : Kept a b.drew := ⟨h.1.drew, h.2.drew⟩
/-- A call that reads in an open order at most. -/
def Drew (w w' : World) : Prop := ∃ n : Nat, w' = w.drewN n
theorem Drew.refl (w : World) : Drew w w := ⟨0, rfl⟩
theorem Drew.of (w : World) (n : Nat) : Drew w (w.drewN n) := ⟨n, rfl⟩
theorem Drew.trans {a b c : World} (h : Drew a b) (k : Drew b c) : Drew a c := by
  obtain ⟨n, rfl⟩ := h; obtain ⟨m, rfl⟩ := k; exact ⟨n + m, World.drewN_drewN _ _ _⟩
theorem Kept.drewN {a b : World} (h : Kept a b) (n : Nat) : Kept a (b.drewN n) := ⟨h.1, h.2.os, h.2.tape, h.2.output, h.2.size, h.2.block⟩
theorem Drew.kept {a b : World} (h : Drew a b) : Kept a b := by obtain ⟨n, rfl⟩ := h; exact (Kept.refl a).drewN n
theorem list_size (s : ByteArray) : s.data.toList.length = s.size := by cases s; rfl
theorem list_at (s : ByteArray) (i : Nat) (h : i < s.size) (h' : i < s.data.toList.length) : s.data.toList[i] = s[i] := by cases s; rfl
/-- The bytes of a text. -/
abbrev lb (s : ByteArray) : List UInt8 := s.data.toList
/-- How many bytes two begin with alike. -/
def cm : List UInt8 → List UInt8 → Nat
  | a :: x, b :: y => if a = b then cm x y + 1 else 0
  | _, _ => 0
/-- Which is less. -/
abbrev ls (x y : List UInt8) : Bool := Op.bytesLess x y
theorem cm_nil_left (y : List UInt8) : cm [] y = 0 := by cases y <;> rfl
theorem cm_nil_right (x : List UInt8) : cm x [] = 0 := by cases x <;> rfl
theorem cm_cons (a b : UInt8) (x y : List UInt8) : cm (a :: x) (b :: y) = if a = b then cm x y + 1 else 0 := by rw [cm]
theorem ls_cons (a b : UInt8) (x y : List UInt8) : ls (a :: x) (b :: y) = (decide (a < b) || (a == b && ls x y)) := by
  show Op.bytesLess (a :: x) (b :: y) = _
  rw [Op.bytesLess]
theorem ls_nil_right (x : List UInt8) : ls x [] = false := by show Op.bytesLess x [] = false; cases x <;> rfl
theorem ls_nil_left (b : UInt8) (y : List UInt8) : ls [] (b :: y) = true := rfl
theorem cm_le_left : ∀ x y, cm x y ≤ x.length
  | [], y => by rw [cm_nil_left]; exact Nat.zero_le _
  | a :: x, [] => by rw [cm_nil_right]; exact Nat.zero_le _
  | a :: x, b :: y => by rw [cm_cons]; have := cm_le_left x y; split <;> simp <;> omega
theorem cm_comm : ∀ x y, cm x y = cm y x
  | [], y => by rw [cm_nil_left, cm_nil_right]
  | a :: x, [] => by rw [cm_nil_left, cm_nil_right]
  | a :: x, b :: y => by
    rw [cm_cons, cm_cons, cm_comm x y]
    by_cases h : a = b
    · rw [if_pos h, if_pos h.symm]
    · rw [if_neg h, if_neg (fun e => h e.symm)]
theorem cm_le_right (x y : List UInt8) : cm x y ≤ y.length := by rw [cm_comm]; exact cm_le_left y x
/-- What is alike so far, and no further, is what is common. -/
theorem cm_is : ∀ (n : Nat) (x y : List UInt8), n ≤ x.length → n ≤ y.length → x.take n = y.take n → (∀ (h : n < x.length) (h' : n < y.length), x[n] ≠ y[n]) → cm x y = n
  | 0, [], y, _, _, _, _ => cm_nil_left y
  | 0, a :: x, [], _, _, _, _ => cm_nil_right _
  | 0, a :: x, b :: y, _, _, _, h => by rw [cm_cons, if_neg]; exact h (by simp) (by simp)
  | n + 1, [], y, h, _, _, _ => by simp at h
  | n + 1, a :: x, [], _, h, _, _ => by simp at h
  | n + 1, a :: x, b :: y, h1, h2, h3, h4 => by
    simp only [List.take_succ_cons, List.cons.injEq] at h3
    rw [cm_cons, if_pos h3.1, cm_is n x y (by simpa using h1) (by simpa using h2) h3.2 (fun g g' => by
      have := h4 (by simpa using g) (by simpa using g')
      simpa using this)]
theorem u8_lt (a b : UInt8) : decide (a < b) = decide (a.toNat < b.toNat) := by
  rw [Bool.eq_iff_iff]; simp only [decide_eq_true_eq]; rw [UInt8.lt_iff_toNat_lt]
theorem u8_ne {a b : UInt8} (h : a ≠ b) : ((a.toNat : Int) == (b.toNat : Int)) = false := by
  rw [beq_eq_false_iff_ne]; intro e; exact h (UInt8.toNat_inj.1 (by omega))
theorem ls_cm : ∀ x y, ls x y = if h : cm x y < x.length ∧ cm x y < y.length then decide (x[cm x y] < y[cm x y]) else decide (x.length < y.length)
  | [], [] => by rw [dif_neg (by simp)]; rfl
  | [], b :: y => by rw [dif_neg (by simp)]; rw [ls_nil_left]; simp
  | a :: x, [] => by rw [dif_neg (by simp)]; rw [ls_nil_right]; simp
  | a :: x, b :: y => by
    rw [ls_cons]
    by_cases e : a = b
    · subst e
      rw [ls_cm x y]
      have hc : cm (a :: x) (a :: y) = cm x y + 1 := by rw [cm_cons, if_pos rfl]
      simp only [hc, List.length_cons, Nat.add_lt_add_iff_right, List.getElem_cons_succ, BEq.rfl, Bool.true_and]
      simp
    · have hc : cm (a :: x) (b :: y) = 0 := by rw [cm_cons, if_neg e]
      rw [dif_pos (by rw [hc]; simp)]
      simp only [hc, List.getElem_cons_zero]
      rw [beq_eq_false_iff_ne.2 e]
      simp
theorem ls_irrefl : ∀ x, ls x x = false
  | [] => rfl
  | a :: x => by rw [ls_cons, ls_irrefl x]; simp
theorem ls_trans : ∀ x y z, ls x y = true → ls y z = true → ls x z = true
  | x, [], z, h, _ => by rw [ls_nil_right] at h; cases h
  | x, b :: y, [], _, h => by rw [ls_nil_right] at h; cases h
  | [], b :: y, c :: z, _, _ => ls_nil_left _ _
  | a :: x, b :: y, c :: z, h, g => by
    rw [ls_cons] at h g ⊢
    simp only [Bool.or_eq_true, Bool.and_eq_true, decide_eq_true_eq, beq_iff_eq] at h g ⊢
    rw [UInt8.lt_iff_toNat_lt] at h g ⊢
    rcases h with h | ⟨rfl, h⟩
    · rcases g with g | ⟨rfl, g⟩
      · exact .inl (by omega)
      · exact .inl h
    · rcases g with g | ⟨rfl, g⟩
      · exact .inl g
      · exact .inr ⟨rfl, ls_trans x y z h g⟩
theorem ls_asymm (x y : List UInt8) (h : ls x y = true) : ls y x = false := by
  rw [← Bool.not_eq_true]
  intro g
  have := ls_trans x y x h g
  rw [ls_irrefl] at this; cases this
theorem ls_total : ∀ x y, (ls x y || ls y x) = !(x == y)
  | [], [] => rfl
  | [], b :: y => rfl
  | a :: x, [] => rfl
  | a :: x, b :: y => by
    rw [ls_cons, ls_cons]
    have ih := ls_total x y
    by_cases e : a = b
    · subst e
      simp only [BEq.rfl, Bool.true_and, UInt8.lt_irrefl, decide_false, Bool.false_or, ih, List.cons_beq_cons]
    · have h1 : (a == b) = false := beq_eq_false_iff_ne.2 e
      have h2 : (b == a) = false := beq_eq_false_iff_ne.2 (fun h => e h.symm)
      have h3 : a.toNat ≠ b.toNat := fun h => e (UInt8.toNat_inj.1 h)
      rw [List.cons_beq_cons, h1, h2]
      simp only [Bool.false_and, Bool.or_false, Bool.not_false, Bool.or_eq_true, decide_eq_true_eq]
      rw [UInt8.lt_iff_toNat_lt, UInt8.lt_iff_toNat_lt]; omega
theorem zip_all_take : ∀ (x y : List UInt8) (n : Nat), n ≤ x.length → n ≤ y.length → (∀ p ∈ (x.zip y).take n, p.1 = p.2) → x.take n = y.take n
  | _, _, 0, _, _, _ => by simp
  | [], y, n + 1, h, _, _ => by simp at h
  | a :: x, [], n + 1, _, h, _ => by simp at h
  | a :: x, b :: y, n + 1, h1, h2, h => by
    simp only [List.zip_cons_cons, List.take_succ_cons, List.mem_cons, forall_eq_or_imp] at h
    rw [List.take_succ_cons, List.take_succ_cons, h.1, zip_all_take x y n (by simpa using h1) (by simpa using h2) h.2]
/-- All of the pairs are alike. -/
theorem cm_all {x y : List UInt8} (h : ∀ p ∈ x.zip y, p.1 = p.2) : cm x y = (x.zip y).length := by
  have hl : (x.zip y).length = min x.length y.length := by simp
  refine cm_is _ _ _ (by omega) (by omega) (zip_all_take x y _ (by omega) (by omega) (fun p hp => h p (List.mem_of_mem_take hp))) (fun h1 h2 => by omega)
/-- One pair is not. -/
theorem cm_parts {x y : List UInt8} {pre : List (UInt8 × UInt8)} {p : UInt8 × UInt8} (hp : pre ++ [p] <+: x.zip y) (h : ∀ q ∈ pre, q.1 = q.2) (hne : p.1 ≠ p.2) :
    cm x y = pre.length ∧ ∃ (h1 : cm x y < x.length) (h2 : cm x y < y.length), x[cm x y] = p.1 ∧ y[cm x y] = p.2 := by
  obtain ⟨t, ht⟩ := hp
  have hl : (x.zip y).length = min x.length y.length := by simp
  have hk : pre.length < (x.zip y).length := by rw [← ht]; simp
  have h1 : pre.length < x.length := by omega
  have h2 : pre.length < y.length := by omega
  have hg : (x.zip y)[pre.length] = p := by
    have : (x.zip y)[pre.length]? = some p := by rw [← ht]; simp
    rw [List.getElem?_eq_getElem hk] at this
    exact Option.some.inj this
  rw [List.getElem_zip] at hg
  have hx : x[pre.length] = p.1 := by rw [← hg]
  have hy : y[pre.length] = p.2 := by rw [← hg]
  have e : cm x y = pre.length := cm_is _ _ _ (by omega) (by omega) (zip_all_take x y _ (by omega) (by omega) (fun q hq => by
    rw [← ht] at hq
    simp at hq
    exact h q hq)) (fun _ _ => by rw [hx, hy]; exact hne)
  refine ⟨e, by omega, by omega, ?_, ?_⟩
  · simp only [e]; exact hx
  · simp only [e]; exact hy
theorem ls_all {x y : List UInt8} (h : ∀ p ∈ x.zip y, p.1 = p.2) : ls x y = decide (x.length < y.length) := by
  have hl : (x.zip y).length = min x.length y.length := by simp
  rw [ls_cm, dif_neg (by rw [cm_all h]; omega)]
theorem ls_parts {x y : List UInt8} {pre : List (UInt8 × UInt8)} {p : UInt8 × UInt8} (hp : pre ++ [p] <+: x.zip y) (h : ∀ q ∈ pre, q.1 = q.2) (hne : p.1 ≠ p.2) : ls x y = decide (p.1 < p.2) := by
  obtain ⟨_, h1, h2, hx, hy⟩ := cm_parts hp h hne
  rw [ls_cm, dif_pos ⟨h1, h2⟩, hx, hy]
attribute [local go_sem] Oper.semAt_some
/-- Two blocks, one behind the other, lie as they lay. -/
def Two (p : Nat) (A C : World) : Prop := C.heap[p]? = A.heap[p]? ∧ C.heap[p + 1]? = A.heap[p + 1]?
theorem Two.refl (p : Nat) (A : World) : Two p A A := ⟨rfl, rfl⟩
theorem two_t {p : Nat} {A B C : World} (h : Two p A B) (k : Two p B C) : Two p A C := ⟨k.1.trans h.1, k.2.trans h.2⟩
theorem two_b {p : Nat} {w : World} (hp : p + 1 < w.heap.size) (W : World) (l : Nat) (o o' : Obj) (hl : w.heap.size ≤ l) (h : W.heap[l]? = some o) (_ : o.isCells = false) (_ : o.isWalk = false) : Two p W (W.putObj l o') :=
  ⟨World.putObj_heap_other (by omega), World.putObj_heap_other (by omega)⟩
theorem Two.set {p : Nat} (W : World) (q : Addr) (u : Value) (h : q.block ≠ p) (h' : q.block ≠ p + 1) : Two p W (W.setCell q u) :=
  ⟨Below.heap_setCell _ _ _ _ (by omega), Below.heap_setCell _ _ _ _ (by omega)⟩
theorem Two.box {p : Nat} {A C : World} (h : Two p A C) {t : TypeId} {v : Value} (c : Boxed A p t v) : Boxed C p t v := h.1.trans c
theorem Two.box' {p : Nat} {A C : World} (h : Two p A C) {t : TypeId} {v : Value} (c : Boxed A (p + 1) t v) : Boxed C (p + 1) t v := h.2.trans c
/-- A pair of bytes, as values. -/
abbrev prs (x : UInt8 × UInt8) : Array Value := #[.int .u8 (x.1.toNat : Int), .int .u8 (x.2.toNat : Int)]
theorem pairs_in (F : Fence) (n : Nat) (h : F.fn 39) (hro : F.round = none) (a b : ByteArray) (w : World) :
    CallsIn F n Try.prog 39 #[.string a, .string b] w fun e w' => e = .returned (.func (.func 41) #[] #[.pointer (some ⟨w.heap.size, 0, none⟩), .pointer (some ⟨w.heap.size + 1, 0, none⟩)]) ∧ w' = (w.alloc (.cells #[.string a] 9)).alloc (.cells #[.string b] 9) := by
  refine callsIn_of_wp Try.func39 rfl h ?_ hro
  simp only [Try.ntmps39, List.size_toArray, List.length_cons, List.length_nil, Nat.reduceAdd, Nat.reduceSub, Array.replicate_succ, Array.replicate_zero, List.push_toArray, List.append_toArray, List.nil_append, List.cons_append]
  gi_wp2
  go_ret
  exact ⟨rfl, rfl⟩
set_option maxRecDepth 100000 in
set_option maxHeartbeats 2000000 in
theorem pairs1_stops (n : Nat) (hn : 1 ≤ n) (p : Nat) (a b : ByteArray) (ha : a.size ≤ 9223372036854775807) (hb : b.size ≤ 9223372036854775807) (w : World) (hA : Boxed w p 9 (.string a)) (hB : Boxed w (p + 1) 9 (.string b)) :
    SeqStopsK Fence.wide n Try.prog 41 #[.pointer (some ⟨p, 0, none⟩), .pointer (some ⟨p + 1, 0, none⟩)] prs (Two p) (fun xs => xs = (lb a).zip (lb b)) (fun pre => pre <+: (lb a).zip (lb b)) ((lb a).zip (lb b)).length w := by
  intro l J Jx W hW hJ hJx hY h0
  have bA : Boxed W p 9 (.string a) := (hW.block p hA.lt).trans hA
  have bB : Boxed W (p + 1) 9 (.string b) := (hW.block (p + 1) hB.lt).trans hB
  clear hA hB hW
  have cA := bA.cell
  have cB := bB.cell
  have hza := list_size a
  have hzb := list_size b
  have hl : ((lb a).zip (lb b)).length = min a.size b.size := by simp [hza, hzb]
  obtain ⟨M, hM⟩ : ∃ M, M = min a.size b.size := ⟨_, rfl⟩
  have hm : (if b.size < a.size then (b.size : Int) else (a.size : Int)) = (M : Int) := by split <;> omega
  have hMa : M ≤ a.size := by omega
  have hMb : M ≤ b.size := by omega
  rw [← hM] at hl
  have HG : Hid (∀ (k : Nat) (h1 : k < a.size) (h2 : k < b.size), ((lb a).zip (lb b))[k]? = some (a[k], b[k])) := Lib.hid (fun k h1 h2 => by
    rw [List.getElem?_eq_getElem (by omega), List.getElem_zip, list_at a k h1 (by omega), list_at b k h2 (by omega)])
  have HL := Lib.hid hl
  generalize hX : (lb a).zip (lb b) = X at *
  clear hX hza hzb hl hM
  refine callsIn_of_wp Try.func41 rfl trivial ?_ rfl
  simp only [Try.ntmps41, List.size_toArray, List.length_cons, List.length_nil, Nat.reduceAdd, Nat.reduceSub, Array.replicate_succ, Array.replicate_zero, List.push_toArray, List.append_toArray, List.nil_append, List.cons_append]
  gi_wp2
  gi_loopw [10] (fun i wr => ∃ k : Nat, k ≤ M ∧ i = .int .i64 (k : Int) ∧ J (X.take k) wr ∧ Boxed wr p 9 (.string a) ∧ Boxed wr (p + 1) 9 (.string b)) (fun i _ => M - (intOf i).toNat)
  case atStart => exact ⟨0, Nat.zero_le _, rfl, by simpa using h0, bA, bB⟩
  case round =>
    obtain ⟨k, hk, rfl, hJs, b1, b2⟩ := hrel
    have c1 := b1.cell
    have c2 := b2.cell
    by_cases hlt : k < M
    · have hka : k < a.size := by omega
      have hkb : k < b.size := by omega
      obtain ⟨fn, tmps, assign, body, hy, hR⟩ := hY (X.take k) (a[k], b[k]) wr.drew (hJ _ _ _ none hJs ⟨rfl, rfl, rfl, Nat.le_refl _, fun _ _ _ => rfl⟩ (fun _ e => by cases e)) (by rw [List.length_take, HL.out]; omega)
      dsimp only [prs] at hy
      have hnext : X.take k ++ [(a[k], b[k])] = X.take (k + 1) := by rw [List.take_add_one, HG.out k hka hkb]; rfl
      rw [hnext] at hR
      have HR := Lib.hid (hR.mono (R' := fun e W' => ∃ o : Bool, e = .returned (.bool o) ∧ Hid ((o = true ∧ J (X.take (k + 1)) W' ∧ Two p wr.drew W') ∨ (o = false ∧ Jx (X.take (k + 1)) W'))) (by
        rintro e W' (⟨rfl, h1, h2⟩ | ⟨rfl, h1⟩)
        · exact ⟨true, rfl, Lib.hid (.inl ⟨rfl, h1, h2⟩)⟩
        · exact ⟨false, rfl, Lib.hid (.inr ⟨rfl, h1⟩)⟩))
      clear hR hnext hY cA cB
      have hmix : Try.prog.follows .mixedOrders = true := by kernel_rfl
      gi_wp2
      gi_region_with_o (refine HR.out.mono ?_; rintro e W3 ⟨o, rfl, h3⟩)
      all_goals
        rcases h3.out with ⟨rfl, hJ3, hk3⟩ | ⟨rfl, hJ3⟩
        · gi_wp2
          go_roundw
          case rel => exact ⟨k + 1, by omega, by go_num, hJ3, hk3.box (show Boxed wr.drew p 9 (.string a) from b1), hk3.box' (show Boxed wr.drew (p + 1) 9 (.string b) from b2)⟩
          case measure => simp [intOf]; omega
        · gi_wp2
          refine bodyPost_ret (results_none rfl _ _ _) rfl ?_
          exact ⟨⟨_, rfl⟩, .inr ⟨_, List.take_prefix _ _, hJ3⟩⟩
    · obtain rfl : k = M := by omega
      gi_wp2
      go_end0
      exact ⟨⟨_, rfl⟩, .inl ⟨X, rfl, by have := hJs; rwa [List.take_of_length_le (by rw [HL.out]; exact Nat.le_refl _)] at this⟩⟩
theorem kbq {w a b : World} (h : Below w.heap.size w a) (g : Below a.heap.size a b) : Below w.heap.size w b := h.trans (g.mono h.size)
set_option maxRecDepth 100000 in
set_option maxHeartbeats 2000000 in
theorem less_in (n : Nat) (hn : 3 ≤ n) (a b : ByteArray) (ha : a.size ≤ 9223372036854775807) (hb : b.size ≤ 9223372036854775807) (w : World) :
    CallsIn Fence.wide n Try.prog 35 #[.string a, .string b] w fun e w' => e = .returned (.bool (ls (lb a) (lb b))) ∧ Below w.heap.size w w' := by
  have h1 : 1 ≤ n := by omega
  refine callsIn_of_wp_marks Try.func35 rfl trivial ?_ rfl
  simp only [Try.ntmps35, List.size_toArray, List.length_cons, List.length_nil, Nat.reduceAdd, Nat.reduceSub, Array.replicate_succ, Array.replicate_zero, List.push_toArray, List.append_toArray, List.nil_append, List.cons_append]
  gi_wp2_with (refine ⟨trivial, ?_⟩; gi_at_call 39; refine (pairs_in Fence.wide (n - 1) trivial rfl _ _ _).mono ?_; rintro e w' ⟨rfl, rfl⟩)
  have bR := ((Boxed.new w 4 (.bool false)).alloc (.cells #[.string a] 9)).alloc (.cells #[.string b] 9)
  have bA := (Boxed.new (w.alloc (.cells #[.bool false] 4)) 9 (.string a)).alloc (.cells #[.string b] 9)
  have bB := Boxed.new ((w.alloc (.cells #[.bool false] 4)).alloc (.cells #[.string a] 9)) 9 (.string b)
  simp only [World.size_alloc] at bA bB
  have hB0 : Below w.heap.size w (((w.alloc (.cells #[.bool false] 4)).alloc (.cells #[.string a] 9)).alloc (.cells #[.string b] 9)) := (((Below.refl _ w).alloc (Nat.le_refl _) _).alloc (by simp) _).alloc (by simp; omega) _
  have hsz : (((w.alloc (.cells #[.bool false] 4)).alloc (.cells #[.string a] 9)).alloc (.cells #[.string b] 9)).heap.size = w.heap.size + 3 := by simp
  obtain ⟨W0, hW0⟩ : ∃ W0, ((w.alloc (.cells #[.bool false] 4)).alloc (.cells #[.string a] 9)).alloc (.cells #[.string b] 9) = W0 := ⟨_, rfl⟩
  rw [hW0] at bR bA bB hB0 hsz ⊢
  clear hW0
  refine wpIn_rangeFunc_ownF rfl h1 (gf := 41) (lb := #[.pointer (some ⟨w.heap.size + 1, 0, none⟩), .pointer (some ⟨w.heap.size + 1 + 1, 0, none⟩)]) rfl trivial (enters_of Try.func41 (by kernel_rfl) rfl)
    (pairs1_stops (n - 1) (by omega) (w.heap.size + 1) a b ha hb W0 bA bB) two_t (two_b (by omega)) (Below.refl _ _) (fun _ => rfl)
    (fun pre W => ((∀ q ∈ pre, q.1 = q.2) ∧ W.cell? ⟨w.heap.size, 0, none⟩ = some (.bool false) ∧ W.frozen? ⟨w.heap.size, 0, none⟩ = false) ∧ Below w.heap.size w W)
    (fun c pre W => (c = .ret ∧ ∃ pre' x, pre = pre' ++ [x] ∧ (∀ q ∈ pre', q.1 = q.2) ∧ x.1 ≠ x.2 ∧ W.cell? ⟨w.heap.size, 0, none⟩ = some (.bool (decide (x.1 < x.2)))) ∧ Below w.heap.size w W)
    (OwnFrom.and (Own.from (fun s A B row hs hg hr => ⟨hs.1, cell_kept hs.2.1 hg hr, (frozen_kept hs.2.1 hg hr).trans hs.2.2⟩) _) (ownFrom_below (Nat.le_refl _) (by omega)))
    (fun c => OwnFrom.and (Own.from (fun s A B row hs hg hr => by obtain ⟨hc, p, x, h1, h2, h3, h4⟩ := hs; exact ⟨hc, p, x, h1, h2, h3, cell_kept h4 hg hr⟩) _) (ownFrom_below (Nat.le_refl _) (by omega)))
    ⟨⟨by simp, bR.cell, bR.frozen⟩, hB0⟩
    (fun x => { tmps := #[.string a, .string b, undef, undef, .pointer (some ⟨w.heap.size, 0, none⟩), .int .u8 (x.1.toNat : Int), .int .u8 (x.2.toNat : Int), .string a, .string b, .func (.func 41) #[] #[.pointer (some ⟨w.heap.size + 1, 0, none⟩), .pointer (some ⟨w.heap.size + 1 + 1, 0, none⟩)], .int .u8 (x.1.toNat : Int), .int .u8 (x.2.toNat : Int), undef, undef, undef, undef, undef, undef, undef, undef, undef, undef, undef], defers := [] }) ?assign ?body ?done ?stop
  case assign =>
    intro l x W K hK
    gi_wp2
    exact hK
  case body =>
    rintro l pre x W ⟨⟨hp, hcr, hfr⟩, hB⟩ _
    by_cases hx : x.1 = x.2
    · have hx' : ((x.1.toNat : Int) == (x.2.toNat : Int)) = true := by rw [hx]; simp
      have HX := Lib.hid hx
      clear hx
      gi_wp2
      exact ⟨KeepsOthers.refl _, Two.refl _ _, ⟨fun y hy => (List.mem_append.1 hy).elim (hp y) (fun e => by simp at e; subst e; exact HX.out), hcr, hfr⟩, hB⟩
    · have hx' := u8_ne hx
      have HX := Lib.hid hx
      have hd := u8_lt x.1 x.2
      have HD := Lib.hid hd
      clear hx hd
      gi_wp2
      refine ⟨KeepsOthers.setCell _ _ _, ⟨rfl, pre, x, rfl, hp, HX.out, ?_⟩, hB.setCell (p := ⟨w.heap.size, 0, none⟩) (by simp) _⟩
      rw [HD.out]
      exact World.cell?_setCell_same' _ _ _ (by rw [hcr]; rfl)
  case done =>
    rintro D ys W hD rfl ⟨⟨hne, hcr, hfr⟩, hB⟩ hK
    have E := ls_all hne
    rw [list_size, list_size] at E
    have HE := Lib.hid E
    clear E hne
    gi_wp2
    have hK' := (KeepsOthers.setCell W ⟨w.heap.size, 0, none⟩ (.bool (decide (a.size < b.size)))).same D _ hK rfl
    refine ⟨by simp, .inl ⟨_, _, rfl, run_takeDeferred hK', ?_⟩⟩
    have hc5 := cell_kept (World.cell?_setCell_same' W ⟨w.heap.size, 0, none⟩ (.bool (decide (a.size < b.size))) (by rw [hcr]; rfl)) (grownBy_putObj' _ D (.deferred none)) (fun r e => by cases e; exact ⟨_, hK', rfl⟩)
    refine ⟨.bool (decide (a.size < b.size)), ?_, by rw [HE.out], (hB.setCell (p := ⟨w.heap.size, 0, none⟩) (by simp) _).trans (belowK_b (w := w) (Nat.le_refl _) _ D _ _ (by omega) hK' rfl rfl)⟩
    simp [results, Try.f35, go_sem, hc5]
  case stop =>
    rintro D c pre W hD hpre ⟨⟨rfl, pre', x, rfl, hall, hne, hcr⟩, hB⟩ hK
    have HE := Lib.hid (ls_parts hpre hall hne)
    clear hpre hall hne
    gi_wp2
    refine ⟨by simp, .inl ⟨_, _, rfl, run_takeDeferred hK, ?_⟩⟩
    have hc5 := cell_kept hcr (grownBy_putObj' _ D (.deferred none)) (fun r e => by cases e; exact ⟨_, hK, rfl⟩)
    refine ⟨.bool (decide (x.1 < x.2)), ?_, by rw [HE.out], hB.trans (belowK_b (w := w) (Nat.le_refl _) W D _ _ (by omega) hK rfl rfl)⟩
    simp [results, Try.f35, go_sem, hc5]
theorem less_any (a b : ByteArray) (w : World) (ha : a.size ≤ 9223372036854775807) (hb : b.size ≤ 9223372036854775807) :
    Calls Try.prog 35 #[.string a, .string b] w fun e w' => e = .returned (.bool (ls (lb a) (lb b))) ∧ Below w.heap.size w w' := callsIn_wide.1 (less_in 3 (Nat.le_refl _) a b ha hb w)
/-- Is a byte visible? -/
def visB (c : Int) : Bool := decide (33 ≤ c ∧ c ≤ 126)
theorem visible_any (c : Int) (w : World) (h : 0 ≤ c ∧ c ≤ 255) :
    Calls Try.prog 36 #[.int .u8 c] w fun e w' => e = .returned (.bool (visB c)) ∧ w = w' := by
  by_cases h1 : 33 ≤ c
  · by_cases h2 : c ≤ 126
    · rw [show visB c = true from decide_eq_true ⟨h1, h2⟩]
      go_enter Try.func36, Try.ntmps36
      go_wp2
      go_ret
      exact ⟨rfl, rfl⟩
    · rw [show visB c = false from decide_eq_false (fun g => h2 g.2)]
      go_enter Try.func36, Try.ntmps36
      go_wp2
      go_ret
      exact ⟨rfl, rfl⟩
  · rw [show visB c = false from decide_eq_false (fun g => h1 g.1)]
    go_enter Try.func36, Try.ntmps36
    go_wp2
    go_ret
    exact ⟨rfl, rfl⟩
/-- May a key be? -/
def rtB (l : List UInt8) : Bool := decide (1 ≤ l.length ∧ l.length ≤ 128) && l.all (fun c => visB (c.toNat : Int))
theorem rt_none (s : ByteArray) (h : s.size < 1 ∨ 128 < s.size) : rtB (lb s) = false := by
  unfold rtB; rw [list_size, decide_eq_false (by omega)]; rfl
theorem rt_no (s : ByteArray) (j : Nat) (hj : j < s.size) (h : visB (s[j].toNat : Int) = false) : rtB (lb s) = false := by
  unfold rtB
  rw [show (lb s).all (fun c => visB (c.toNat : Int)) = false from ?_, Bool.and_false]
  rw [← Bool.not_eq_true, List.all_eq_true]
  intro g
  have := g s[j] (by rw [← list_at s j hj (by rw [list_size]; exact hj)]; exact List.getElem_mem _)
  rw [h] at this; cases this
theorem rt_yes (s : ByteArray) (h1 : 1 ≤ s.size) (h2 : s.size ≤ 128) (h : ∀ j (hj : j < s.size), visB (s[j].toNat : Int) = true) : rtB (lb s) = true := by
  unfold rtB
  rw [list_size, decide_eq_true ⟨h1, h2⟩, Bool.true_and, List.all_eq_true]
  intro b hb
  obtain ⟨i, hi, rfl⟩ := List.getElem_of_mem hb
  rw [list_at s i (by rw [← list_size]; exact hi)]
  exact h i _
theorem u8_bd (c : UInt8) : 0 ≤ (c.toNat : Int) ∧ (c.toNat : Int) ≤ 255 := ⟨by omega, by have := c.toNat_lt; omega⟩
theorem right_any (s : ByteArray) (w : World) (hs : s.size ≤ 9223372036854775807) :
    Calls Try.prog 28 #[.string s] w fun e w' => e = .returned (.bool (rtB (lb s))) ∧ w = w' := by
  by_cases h0 : s.size < 1
  · rw [rt_none s (.inl h0)]
    go_enter Try.func28, Try.ntmps28
    go_wp2
    go_ret
    exact ⟨rfl, rfl⟩
  · by_cases h1 : 128 < s.size
    · rw [rt_none s (.inr h1)]
      go_enter Try.func28, Try.ntmps28
      go_wp2
      go_ret
      exact ⟨rfl, rfl⟩
    · have Y := Lib.hid (rt_yes s (by omega) (by omega))
      have N := Lib.hid (rt_no s)
      generalize rtB (lb s) = r at *
      go_enter Try.func28, Try.ntmps28
      go_wp2
      go_loop [14] (fun i => ∃ k : Nat, i = .int .i64 k ∧ k ≤ s.size ∧ Hid (∀ j (hj : j < s.size), j < k → visB (s[j].toNat : Int) = true)) (fun i => s.size - (intOf i).toNat)
      case atStart => exact ⟨0, rfl, by omega, Lib.hid (fun j _ hj => absurd hj (by omega))⟩
      case round =>
        obtain ⟨k, rfl, hk, D⟩ := hrel
        by_cases hlt : k < s.size
        · have v1 := fun W => visible_any (s[k].toNat : Int) W (u8_bd _)
          by_cases hb : visB (s[k].toNat : Int) = true
          · rw [hb] at v1
            go_wp2_with (go_at_call 36; refine (v1 _).mono ?_; rintro e w1 ⟨rfl, rfl⟩)
            go_round
            case rel =>
              refine ⟨k + 1, by go_num, by omega, Lib.hid (fun j hj hjk => ?_)⟩
              by_cases e : j = k
              · subst e; exact hb
              · exact D.out j hj (by omega)
            case measure => simp [intOf]; omega
          · have hf : visB (s[k].toNat : Int) = false := by simpa using hb
            rw [hf] at v1
            have e := N.out k hlt hf
            subst e
            clear hb
            go_wp2_with (go_at_call 36; refine (v1 _).mono ?_; rintro e w1 ⟨rfl, rfl⟩)
            go_ret
            exact ⟨rfl, rfl⟩
        · obtain rfl : k = s.size := by omega
          have e := Y.out (fun j hj => D.out j hj hj)
          subst e
          go_wp2
          go_ret
          exact ⟨rfl, rfl⟩
/-- No byte. -/
abbrev nob : ByteArray := ⟨#[]⟩
/-- A row of texts that lies in memory. -/
def Sts (w : World) (A : Option Addr) (n : Nat) (xs : List ByteArray) : Prop :=
  xs.length = n ∧ (∀ x ∈ xs, x.size ≤ 9223372036854775807) ∧ (0 < n → ∃ b off, A = some ⟨b, off, none⟩ ∧ b < w.heap.size ∧ ∀ k, k < n → w.cell? ⟨b, off + k, none⟩ = some (.string (xs.getD k nob)))
theorem Sts.below {w w' : World} {A : Option Addr} {n : Nat} {xs : List ByteArray} (h : Sts w A n xs) (k : Below w.heap.size w w') : Sts w' A n xs :=
  ⟨h.1, h.2.1, fun hn => by
    obtain ⟨b, off, e, hb, hc⟩ := h.2.2 hn
    exact ⟨b, off, e, Nat.lt_of_lt_of_le hb k.size, fun j hj => (k.cell (p := ⟨b, off + j, none⟩) hb).trans (hc j hj)⟩⟩
theorem Sts.front {w : World} {A : Option Addr} {n k : Nat} {xs : List ByteArray} (h : Sts w A n xs) (hk : k ≤ n) : Sts w A k (xs.take k) :=
  ⟨by rw [List.length_take, h.1]; omega, fun x hx => h.2.1 x (List.mem_of_mem_take hx), fun hn => by
    obtain ⟨b, off, e, hb, hc⟩ := h.2.2 (by omega)
    refine ⟨b, off, e, hb, fun j hj => (hc j (by omega)).trans ?_⟩
    simp only [List.getD_eq_getElem?_getD, List.getElem?_take, if_pos hj]⟩
theorem Sts.cut {w : World} {b off n k : Nat} {xs : List ByteArray} (h : Sts w (some ⟨b, off, none⟩) n xs) (hk : k ≤ n) :
    Sts w (some ⟨b, off + k, none⟩) (n - k) (xs.drop k) :=
  ⟨by rw [List.length_drop, h.1], fun x hx => h.2.1 x (List.mem_of_mem_drop hx), fun hn => by
    obtain ⟨b', off', e, hb, hcell⟩ := h.2.2 (by omega)
    simp only [Option.some.injEq, Addr.mk.injEq] at e
    obtain ⟨rfl, rfl, _⟩ := e
    refine ⟨b, off + k, rfl, hb, fun j hj => ?_⟩
    have := hcell (k + j) (by omega)
    rw [Nat.add_assoc, this]
    simp only [List.getD_eq_getElem?_getD, List.getElem?_drop]⟩
theorem Sts.at {w : World} {A : Option Addr} {n : Nat} {xs : List ByteArray} (h : Sts w A n xs) (k : Nat) : (xs.getD k nob).size ≤ 9223372036854775807 := by
  by_cases hk : k < xs.length
  · rw [List.getD_eq_getElem?_getD, List.getElem?_eq_getElem hk]; exact h.2.1 _ (List.getElem_mem hk)
  · rw [List.getD_eq_getElem?_getD, List.getElem?_eq_none (by omega)]; exact Nat.zero_le _
theorem Sts.nil (w : World) (A : Option Addr) : Sts w A 0 [] := ⟨rfl, (fun _ h => nomatch h), fun h => absurd h (Nat.lt_irrefl _)⟩
def soB : List ByteArray → Bool
  | a :: b :: r => ls (lb a) (lb b) && soB (b :: r)
  | _ => true
theorem soB_iff : ∀ xs : List ByteArray, soB xs = true ↔ ∀ i, i + 1 < xs.length → ls (lb (xs.getD i nob)) (lb (xs.getD (i + 1) nob)) = true
  | [] => ⟨fun _ i h => by simp at h, fun _ => rfl⟩
  | [a] => ⟨fun _ i h => by simp at h, fun _ => rfl⟩
  | a :: b :: r => by
    rw [soB, Bool.and_eq_true, soB_iff (b :: r)]
    constructor
    · rintro ⟨h, g⟩ i hi
      cases i with
      | zero => simpa using h
      | succ i => have := g i (by simpa using hi); simpa using this
    · intro h
      refine ⟨by simpa using h 0 (by simp), fun i hi => ?_⟩
      have := h (i + 1) (by simpa using hi)
      simpa using this
theorem soB_no {xs : List ByteArray} (i : Nat) (hi : i + 1 < xs.length) (h : ls (lb (xs.getD i nob)) (lb (xs.getD (i + 1) nob)) = false) : soB xs = false := by
  rw [← Bool.not_eq_true, soB_iff]
  intro g
  rw [g i hi] at h; cases h
/-- What rises rises over whatever is between. -/
theorem so_far {xs : List ByteArray} (h : soB xs = true) : ∀ d i, i + d + 1 < xs.length → ls (lb (xs.getD i nob)) (lb (xs.getD (i + d + 1) nob)) = true := by
  rw [soB_iff] at h
  intro d
  induction d with
  | zero => intro i hi; exact h i (by omega)
  | succ d ih =>
    intro i hi
    exact ls_trans _ _ _ (ih i (by omega)) (h (i + d + 1) (by omega))
theorem so_less {xs : List ByteArray} (h : soB xs = true) {i j : Nat} (hij : i < j) (hj : j < xs.length) : ls (lb (xs.getD i nob)) (lb (xs.getD j nob)) = true := by
  have := so_far h (j - i - 1) i (by omega)
  rwa [show i + (j - i - 1) + 1 = j by omega] at this
theorem so_take {xs : List ByteArray} (h : soB xs = true) (k : Nat) : soB (xs.take k) = true := by
  rw [soB_iff] at h ⊢
  intro i hi
  rw [List.length_take] at hi
  have := h i (by omega)
  simp only [List.getD_eq_getElem?_getD, List.getElem?_take] at this ⊢
  rw [if_pos (by omega), if_pos (by omega)]; exact this
theorem so_drop {xs : List ByteArray} (h : soB xs = true) (k : Nat) : soB (xs.drop k) = true := by
  rw [soB_iff] at h ⊢
  intro i hi
  rw [List.length_drop] at hi
  have := h (k + i) (by omega)
  simp only [List.getD_eq_getElem?_getD, List.getElem?_drop] at this ⊢
  rw [show k + (i + 1) = k + i + 1 by omega]; exact this
theorem so_twice (xs : List ByteArray) (k : Nat) (hk : k < xs.length) : soB (xs.take (k + 1) ++ xs.drop k) = false := by
  refine soB_no k (by simp; omega) ?_
  have e1 : (xs.take (k + 1) ++ xs.drop k).getD k nob = xs.getD k nob := by
    simp only [List.getD_eq_getElem?_getD]
    rw [List.getElem?_append_left (by simp; omega), List.getElem?_take, if_pos (by omega)]
  have e2 : (xs.take (k + 1) ++ xs.drop k).getD (k + 1) nob = xs.getD k nob := by
    simp only [List.getD_eq_getElem?_getD]
    rw [List.getElem?_append_right (by simp; omega), List.getElem?_drop]
    rw [show k + (k + 1 - (xs.take (k + 1)).length) = k by simp; omega]
  rw [e1, e2]
  exact ls_irrefl _
theorem celln {w w' : World} (h : Below w.heap.size w w') {b o : Nat} {v : Value} (c : w.cell? ⟨b, o, none⟩ = some v) : w'.cell? ⟨b, o, none⟩ = some v := by
  have hb : b < w.heap.size := by
    by_cases hb : b < w.heap.size
    · exact hb
    · simp [World.cell?, hb] at c
  exact (h.cell (p := ⟨b, o, none⟩) hb).trans c
theorem dcell {w : World} {p : Addr} {v : Value} (c : w.cell? p = some v) : w.drew.cell? p = some v := c
set_option maxHeartbeats 1000000 in
theorem sorted_any (A : Option Addr) (n cap : Nat) (xs : List ByteArray) (w : World) (h : Sts w A n xs) (hn : n ≤ 9223372036854775807) :
    Calls Try.prog 29 #[.slice A n cap] w fun e w' => e = .returned (.bool (soB xs)) ∧ Below w.heap.size w w' := by
  have Y := Lib.hid ((soB_iff xs).2)
  have N := Lib.hid (@soB_no xs)
  generalize soB xs = r at *
  have H := Lib.hid h
  have HL := Lib.hid h.1
  clear h
  go_enter Try.func29, Try.ntmps29
  go_wp2
  go_loopw [3] (fun i wr => ∃ k : Nat, i = .int .i64 ((k : Int) + 1) ∧ Hid (k < n ∨ k = 0) ∧ Hid (∀ j, j < k → ls (lb (xs.getD j nob)) (lb (xs.getD (j + 1) nob)) = true) ∧ Below w.heap.size w wr) (fun i _ => n - (intOf i).toNat)
  case atStart => exact ⟨0, rfl, Lib.hid (.inr rfl), Lib.hid (fun j hj => absurd hj (by omega)), Below.refl _ _⟩
  case round =>
    obtain ⟨p, rfl, Q, D, hB⟩ := hrel
    by_cases hlt : p + 1 < n
    · have hS := H.out.below hB
      have l1 := fun W => less_any (xs.getD p nob) (xs.getD (p + 1) nob) W (hS.at p) (hS.at (p + 1))
      obtain ⟨b, off, rfl, hb, hc⟩ := hS.2.2 (by omega)
      have c0 := hc p (by omega)
      have c1 := hc (p + 1) hlt
      have hw1 : IntKind.i64.wrap (p : Int) = (p : Int) := by rw [IntKind.wrap_i64]; omega
      have hp0 : (0 : Int) ≤ (p : Int) := by omega
      have hpn : p < n := by omega
      have hpn' : (p : Int) < (n : Int) := by omega
      have hqn' : (p : Int) + 1 < (n : Int) := by omega
      have hq0 : (0 : Int) ≤ (p : Int) + 1 := by omega
      have kW := Below.refl wr.heap.size wr
      obtain ⟨o, hx⟩ : ∃ o, o = ls (lb (xs.getD p nob)) (lb (xs.getD (p + 1) nob)) := ⟨_, rfl⟩
      rw [← hx] at l1
      have HX := Lib.hid hx
      have L1 := Lib.hid l1
      clear hc hS hx l1
      generalize hxa : xs.getD p nob = xa at *
      generalize hxb : xs.getD (p + 1) nob = xb at *
      go_wp2_with fail
      go_region_held3 (fun w' => Below wr.heap.size wr w' ∧ w'.cell? ⟨b, off + p, none⟩ = some (.string xa) ∧ w'.cell? ⟨b, off + (p + 1), none⟩ = some (.string xb))
        (first | with_reducible exact ⟨kW, c0, c1⟩ | with_reducible exact ⟨kW.drew, dcell c0, dcell c1⟩)
        ((go_at_call 35; ((with_reducible refine (L1.out _).mono ?_); rintro e w' ⟨rfl, g⟩; replace c0 := celln g (by first | exact c0 | exact dcell c0); replace c1 := celln g (by first | exact c1 | exact dcell c1); (first | with_reducible (replace kW := kbq kW g) | with_reducible (replace kW := kbq kW.drew g)); clear g)))
      rename_i hH
      have gF := hH.1
      clear hH
      subst hxa hxb
      rcases o with _ | _
      · have e := N.out p (by rw [HL.out]; omega) HX.out.symm
        subst e
        go_wp2
        go_ret
        exact ⟨rfl, kbq hB gF⟩
      · go_wp2
        go_roundw
        case rel =>
          refine ⟨p + 1, by go_num, Lib.hid (.inl hlt), Lib.hid (fun j hj => ?_), kbq hB gF⟩
          by_cases e : j = p
          · subst e; exact HX.out.symm
          · exact D.out j (by omega)
        case measure => simp [intOf]; omega
    · have e := Y.out (fun i hi => D.out i (by rw [HL.out] at hi; omega))
      subst e
      go_wp2
      go_ret
      exact ⟨rfl, hB⟩
theorem rright_any (s : ByteArray) (w : World) (hs : s.size ≤ 9223372036854775807) :
    Calls Try.prog 16 #[.string s] w fun e w' => e = .returned (.bool (rtB (lb s))) ∧ w = w' := by
  by_cases h0 : s.size < 1
  · rw [rt_none s (.inl h0)]
    go_enter Try.func16, Try.ntmps16
    go_wp2
    go_ret
    exact ⟨rfl, rfl⟩
  · by_cases h1 : 128 < s.size
    · rw [rt_none s (.inr h1)]
      go_enter Try.func16, Try.ntmps16
      go_wp2
      go_ret
      exact ⟨rfl, rfl⟩
    · have Y := Lib.hid (rt_yes s (by omega) (by omega))
      have N := Lib.hid (rt_no s)
      generalize rtB (lb s) = r at *
      go_enter Try.func16, Try.ntmps16
      go_wp2
      go_loop [3] (fun i => ∃ k : Nat, i = .int .i64 k ∧ k ≤ s.size ∧ Hid (∀ j (hj : j < s.size), j < k → visB (s[j].toNat : Int) = true)) (fun i => s.size - (intOf i).toNat)
      case atStart => exact ⟨0, rfl, by omega, Lib.hid (fun j _ hj => absurd hj (by omega))⟩
      case round =>
        obtain ⟨k, rfl, hk, D⟩ := hrel
        by_cases hlt : k < s.size
        · by_cases c1 : (s[k].toNat : Int) < 33
          · have e := N.out k hlt (decide_eq_false (fun g => by omega))
            subst e
            go_wp2
            go_ret
            exact ⟨rfl, rfl⟩
          · by_cases c2 : (126 : Int) < (s[k].toNat : Int)
            · have e := N.out k hlt (decide_eq_false (fun g => by omega))
              subst e
              go_wp2
              go_ret
              exact ⟨rfl, rfl⟩
            · have hb : visB (s[k].toNat : Int) = true := decide_eq_true ⟨by omega, by omega⟩
              have HB := Lib.hid hb
              clear hb
              go_wp2
              go_round
              case rel =>
                refine ⟨k + 1, by go_num, by omega, Lib.hid (fun j hj hjk => ?_)⟩
                by_cases e : j = k
                · subst e; exact HB.out
                · exact D.out j hj (by omega)
              case measure => simp [intOf]; omega
        · obtain rfl : k = s.size := by omega
          have e := Y.out (fun j hj => D.out j hj hj)
          subst e
          go_wp2
          go_ret
          exact ⟨rfl, rfl⟩
theorem cm_at (a b : ByteArray) (k : Nat) (h1 : k ≤ a.size) (h2 : k ≤ b.size) (h : ∀ j (ha : j < a.size) (hb : j < b.size), j < k → a[j] = b[j]) (hn : ∀ (ha : k < a.size) (hb : k < b.size), a[k] ≠ b[k]) : cm (lb a) (lb b) = k := by
  refine cm_is k _ _ (by rw [list_size]; exact h1) (by rw [list_size]; exact h2) ?_ (fun g1 g2 => ?_)
  · refine List.ext_getElem (by simp; omega) (fun i i1 i2 => ?_)
    simp at i1 i2
    rw [List.getElem_take, List.getElem_take, list_at a i (by omega), list_at b i (by omega)]
    exact h i _ _ (by omega)
  · rw [list_size] at g1 g2
    rw [list_at a k g1, list_at b k g2]
    exact hn g1 g2
set_option maxHeartbeats 1000000 in
theorem rcommon_any (a b : ByteArray) (w : World) (ha : a.size ≤ 9223372036854775807) (hb : b.size ≤ 9223372036854775807) :
    Calls Try.prog 25 #[.string a, .string b] w fun e w' => e = .returned (.int .i64 (cm (lb a) (lb b) : Int)) ∧ Drew w w' := by
  have E := Lib.hid (cm_at a b)
  generalize cm (lb a) (lb b) = m at *
  go_enter Try.func25, Try.ntmps25
  go_wp2
  go_loopw [5] (fun i wr => ∃ k : Nat, i = .int .i64 (k : Int) ∧ k ≤ a.size ∧ k ≤ b.size ∧ Hid (∀ j (ha : j < a.size) (hb : j < b.size), j < k → a[j] = b[j]) ∧ Drew w wr) (fun i _ => a.size - (intOf i).toNat)
  case atStart => exact ⟨0, rfl, Nat.zero_le _, Nat.zero_le _, Lib.hid (fun j _ _ hj => absurd hj (by omega)), Drew.refl _⟩
  case round =>
    obtain ⟨k, rfl, h1, h2, D, hd⟩ := hrel
    by_cases c1 : k < a.size
    · have d1 : decide ((k : Int) < (a.size : Int)) = true := decide_eq_true (by omega)
      by_cases c2 : k < b.size
      · have d2 : decide ((k : Int) < (b.size : Int)) = true := decide_eq_true (by omega)
        by_cases c3 : a[k] = b[k]
        · have d3 : ((a[k].toNat : Int) == (b[k].toNat : Int)) = true := by rw [c3]; simp
          have C3 := Lib.hid c3
          clear c3
          go_wp2
          go_quiet (fail)
          go_wp2
          go_roundw
          case rel =>
            refine ⟨k + 1, by go_num, by omega, by omega, Lib.hid (fun j g1 g2 hj => ?_), hd.trans ⟨_, rfl⟩⟩
            by_cases e : j = k
            · subst e; exact C3.out
            · exact D.out j g1 g2 (by omega)
          case measure => simp [intOf]; omega
        · have d3 := u8_ne c3
          have e := E.out k h1 h2 D.out (fun _ _ => c3)
          subst e
          clear c3
          go_wp2
          go_quiet (fail)
          go_wp2
          go_ret
          exact ⟨rfl, hd.trans ⟨_, rfl⟩⟩
      · have d2 : decide ((k : Int) < (b.size : Int)) = false := decide_eq_false (by omega)
        have e := E.out k h1 h2 D.out (fun _ g => absurd g c2)
        subst e
        go_wp2
        go_quiet (fail)
        go_wp2
        go_ret
        exact ⟨rfl, hd.trans ⟨_, rfl⟩⟩
    · have d1 : decide ((k : Int) < (a.size : Int)) = false := decide_eq_false (by omega)
      have e := E.out k h1 h2 D.out (fun g _ => absurd g c1)
      subst e
      go_wp2
      go_quiet (fail)
      go_wp2
      go_ret
      exact ⟨rfl, hd.trans ⟨_, rfl⟩⟩
theorem ls_at (a b : ByteArray) (k : Nat) (hk : cm (lb a) (lb b) = k) (h1 : k < a.size) (h2 : k < b.size) : ls (lb a) (lb b) = decide (a[k].toNat < b[k].toNat) := by
  subst hk
  rw [ls_cm, dif_pos ⟨by rw [list_size]; exact h1, by rw [list_size]; exact h2⟩, list_at a _ h1, list_at b _ h2, u8_lt]
theorem ls_end (a b : ByteArray) (k : Nat) (hk : cm (lb a) (lb b) = k) (h : k = a.size ∨ k = b.size) : ls (lb a) (lb b) = decide (a.size < b.size) := by
  rw [ls_cm, dif_neg (by rw [list_size, list_size]; omega), list_size, list_size]
theorem rless_any (a b : ByteArray) (w : World) (ha : a.size ≤ 9223372036854775807) (hb : b.size ≤ 9223372036854775807) :
    Calls Try.prog 15 #[.string a, .string b] w fun e w' => e = .returned (.bool (ls (lb a) (lb b))) ∧ Drew w w' := by
  have c := fun W => rcommon_any a b W ha hb
  have le1 := cm_le_left (lb a) (lb b)
  have le2 := cm_le_right (lb a) (lb b)
  rw [list_size] at le1 le2
  obtain ⟨k, hk⟩ : ∃ k, cm (lb a) (lb b) = k := ⟨_, rfl⟩
  have E1 := ls_at a b k hk
  have E2 := ls_end a b k hk
  rw [hk] at c le1 le2
  generalize ls (lb a) (lb b) = r at *
  clear hk
  by_cases h1 : k = a.size
  · have d1 : ((k : Int) == (a.size : Int)) = true := by rw [h1]; simp
    have e := E2 (.inl h1)
    subst e
    clear E1 E2 h1
    go_enter Try.func15, Try.ntmps15
    go_wp2_with (go_at_call 25; refine (c _).mono ?_; rintro e w1 ⟨rfl, g⟩)
    go_ret
    exact ⟨rfl, g⟩
  · have d1 : ((k : Int) == (a.size : Int)) = false := beq_eq_false_iff_ne.2 (by omega)
    by_cases h2 : k = b.size
    · have d2 : ((k : Int) == (b.size : Int)) = true := by rw [h2]; simp
      have e := E2 (.inr h2)
      subst e
      clear E1 E2 h1 h2
      go_enter Try.func15, Try.ntmps15
      go_wp2_with (go_at_call 25; refine (c _).mono ?_; rintro e w1 ⟨rfl, g⟩)
      go_ret
      exact ⟨rfl, g⟩
    · have d2 : ((k : Int) == (b.size : Int)) = false := beq_eq_false_iff_ne.2 (by omega)
      have k1 : k < a.size := by omega
      have k2 : k < b.size := by omega
      have e := E1 k1 k2
      subst e
      clear E1 E2 h1 h2
      go_enter Try.func15, Try.ntmps15
      go_wp2_with (go_at_call 25; refine (c _).mono ?_; rintro e w1 ⟨rfl, g⟩)
      go_quiet (fail)
      go_wp2
      go_ret
      exact ⟨rfl, g.trans ⟨_, rfl⟩⟩
theorem Sts.drew {w w' : World} {A : Option Addr} {n : Nat} {xs : List ByteArray} (h : Sts w A n xs) (d : Drew w w') : Sts w' A n xs := h.below d.kept.2
theorem lb_append (a b : ByteArray) : lb (a ++ b) = lb a ++ lb b := by simp [lb]
theorem lt_of_cell {w : World} {b o : Nat} {v : Value} (h : w.cell? ⟨b, o, none⟩ = some v) : b < w.heap.size := by
  by_cases hb : b < w.heap.size
  · exact hb
  · simp [World.cell?, hb] at h
/-- A row of bytes that lies in memory. -/
def Byts (w : World) (A : Option Addr) (n : Nat) : Prop :=
  ∀ i, i < n → ∃ b off v, A = some ⟨b, off, none⟩ ∧ w.cell? ⟨b, off + i, none⟩ = some (.int .u8 v) ∧ 0 ≤ v ∧ v ≤ 255
theorem Byts.below {w w' : World} {A : Option Addr} {n : Nat} (h : Byts w A n) (k : Below w.heap.size w w') : Byts w' A n := fun i hi => by
  obtain ⟨b, off, v, e, hc, hv⟩ := h i hi
  exact ⟨b, off, v, e, celln k hc, hv⟩
/-- What a key of choices is: short, of visible bytes. -/
def Short (s : ByteArray) : Prop := (1 ≤ s.size ∧ s.size ≤ 12) ∧ (lb s).all (fun c => visB (c.toNat : Int)) = true
theorem toList_ne (t : ByteArray) (h : 0 < t.size) : t.toList.isEmpty = false := by
  rw [ByteArray.toList_eq, List.isEmpty_eq_false_iff]
  intro e
  have := congrArg List.length e
  rw [list_size] at this
  have : t.size = 0 := this
  omega
theorem toList_none (t : ByteArray) (h : t.size = 0) : t.toList.isEmpty = true := by
  rw [ByteArray.toList_eq, List.isEmpty_iff]
  exact List.eq_nil_of_length_eq_zero (by rw [list_size]; exact h)
set_option maxHeartbeats 1000000 in
theorem key_any (A : Option Addr) (n cap : Nat) (w : World) (h : Byts w A n) (hn : n ≤ 9223372036854775807) :
    Calls Try.prog 14 #[.slice A n cap] w fun e w' => ∃ s, e = .returned (.string s) ∧ Hid (Short s) ∧ s.size ≤ 12 ∧ Below w.heap.size w w' := by
  have H := Lib.hid h
  clear h
  go_enter Try.func14, Try.ntmps14
  go_wp2
  go_loopw [3, 4] (fun s i wr => ∃ (k : Nat) (t : ByteArray), i = .int .i64 (k : Int) ∧ s = .string t ∧ k ≤ 6 ∧ k ≤ t.size ∧ t.size ≤ 2 * k ∧ Hid ((lb t).all (fun c => visB (c.toNat : Int)) = true) ∧ Below w.heap.size w wr) (fun _ i _ => 6 - (intOf i).toNat)
  case atStart => exact ⟨0, ⟨#[]⟩, rfl, rfl, by omega, by decide, by decide, Lib.hid (by decide), Below.refl _ _⟩
  case round =>
    obtain ⟨k, t, rfl, rfl, hk, k1, k2, V, hB⟩ := hrel
    by_cases c1 : k < n
    · by_cases c2 : k < 6
      · obtain ⟨b, off, v, rfl, hc, hv⟩ := (H.out.below hB) k c1
        have hb := lt_of_cell hc
        have c3 : (k : Int) < 6 := by omega
        have hvm : v % 8 = 0 ∨ v % 8 = 1 ∨ v % 8 = 2 ∨ v % 8 = 3 ∨ v % 8 = 4 ∨ v % 8 = 5 ∨ v % 8 = 6 ∨ v % 8 = 7 := by omega
        have VA : Hid (∀ p : ByteArray, (lb p).all (fun c => visB (c.toNat : Int)) = true → (lb (t ++ p)).all (fun c => visB (c.toNat : Int)) = true) := Lib.hid (fun p hp => by rw [lb_append, List.all_append, V.out, hp]; rfl)
        have hs0 : t.size ≤ 12 := by omega
        have SZ : Hid (∀ p : ByteArray, 1 ≤ p.size → p.size ≤ 2 → k + 1 ≤ (t ++ p).size ∧ (t ++ p).size ≤ 2 * (k + 1)) := Lib.hid (fun p h1 h2 => by rw [ByteArray.size_append']; omega)
        rcases hvm with hm | hm | hm | hm | hm | hm | hm | hm
        all_goals
          go_wp2
          go_roundw
          case rel => exact ⟨k + 1, _, by go_num, rfl, by omega, (SZ.out _ (by decide) (by decide)).1, (SZ.out _ (by decide) (by decide)).2, Lib.hid (VA.out _ (by decide)), hB.alloc hB.size _⟩
          case measure => simp [intOf]; omega
      · have c3 : decide ((k : Int) < 6) = false := decide_eq_false (by omega)
        have hz : t.toList.isEmpty = false := toList_ne t (by omega)
        have F : Hid (Short t ∧ t.size ≤ 12) := Lib.hid ⟨⟨⟨by omega, by omega⟩, V.out⟩, by omega⟩
        clear c2 k1 k2 hk
        go_wp2
        go_ret
        exact ⟨t, rfl, Lib.hid F.out.1, F.out.2, hB⟩
    · by_cases c4 : t.size = 0
      · have hz : t.toList.isEmpty = true := toList_none t c4
        clear c4
        go_wp2
        go_ret
        exact ⟨⟨#[107]⟩, rfl, Lib.hid ⟨⟨by decide, by decide⟩, by decide⟩, by decide, hB⟩
      · have hz : t.toList.isEmpty = false := toList_ne t (by omega)
        have F : Hid (Short t ∧ t.size ≤ 12) := Lib.hid ⟨⟨⟨by omega, by omega⟩, V.out⟩, by omega⟩
        clear c4 k1 k2 hk
        go_wp2
        go_ret
        exact ⟨t, rfl, Lib.hid F.out.1, F.out.2, hB⟩
theorem Kept.size {w w' : World} (h : Kept w w') : w.heap.size ≤ w'.heap.size := h.2.size
theorem Kept.setCell {w w' : World} (h : Kept w w') {a : Addr} (ha : w.heap.size ≤ a.block) (v : Value) : Kept w (w'.setCell a v) := ⟨h.1.setCell ha v, h.2.setCell ha v⟩
theorem Kept.cell {w w' : World} (h : Kept w w') {b o : Nat} {v : Value} (c : w.cell? ⟨b, o, none⟩ = some v) : w'.cell? ⟨b, o, none⟩ = some v := by
  have hb : b < w.heap.size := by
    by_cases hb : b < w.heap.size
    · exact hb
    · simp [World.cell?, hb] at c
  exact (h.2.cell (p := ⟨b, o, none⟩) hb).trans c
def cloRen : Go.Shelf.Ren := ⟨fun | 316 => 40 | n => n, fun | 9 => 9 | 3 => 3 | 4 => 4 | 37 => 26 | 0 => 0 | 127 => 85 | 5 => 5 | n => n, fun | n => n⟩
theorem cloLays : Go.Proofs.LaysM.n316 Try.prog cloRen := {
  mixed := by kernel_rfl
  f316 := Try.func40.trans (congrArg some (by kernel_rfl))
  t0 := Try.underlying0
  a0 := Try.isAgg0
  z0 := Try.sizeOf0
  v0 := Try.zeroValue0
  t3 := Try.underlying3
  a3 := Try.isAgg3
  z3 := Try.sizeOf3
  v3 := Try.zeroValue3
  t4 := Try.underlying4
  a4 := Try.isAgg4
  z4 := Try.sizeOf4
  v4 := Try.zeroValue4
  t9 := Try.underlying9
  a9 := Try.isAgg9
  z9 := Try.sizeOf9
  v9 := Try.zeroValue9
  t37 := Try.underlying26
  a37 := Try.isAgg26
  z37 := Try.sizeOf26
  v37 := Try.zeroValue26
  t127 := Try.underlying85
  a127 := Try.isAgg85
  z127 := Try.sizeOf85
  v127 := Try.zeroValue85
  t5 := Try.underlying5
  a5 := Try.isAgg5
  z5 := Try.sizeOf5
  v5 := Try.zeroValue5
  i0 := by kernel_rfl
  i3 := by kernel_rfl
  i4 := by kernel_rfl
  i5 := by kernel_rfl
  i9 := by kernel_rfl
  i37 := by kernel_rfl
  i127 := by kernel_rfl }
theorem inner_clone (s : ByteArray) (w : World) (hs : s.size ≤ 281474976710656) :
    Calls Try.prog 40 #[.string s] w fun e w' => e = .returned (.string s) ∧ Below w.heap.size w w' := Any.stringslite_Clone cloLays s w hs
theorem clone_any (s : ByteArray) (w : World) (hs : s.size ≤ 281474976710656) :
    Calls Try.prog 38 #[.string s] w fun e w' => e = .returned (.string s) ∧ Below w.heap.size w w' := by
  go_enter Try.func38, Try.ntmps38
  go_wp2_with (go_at_call 40; refine (inner_clone _ _ hs).mono ?_; rintro e w1 ⟨rfl, b1⟩)
  go_ret
  exact ⟨rfl, b1⟩
/-- May a prefix be? -/
def pfB (p : ByteArray) : Bool := decide (p.size = 0) || rtB (lb p)
theorem cs_other (W : World) (B o : Nat) (v : Value) (B2 o2 : Nat) (h : B2 ≠ B ∨ o2 ≠ o) : (W.setCell ⟨B, o, none⟩ v).cell? ⟨B2, o2, none⟩ = W.cell? ⟨B2, o2, none⟩ :=
  World.cell?_setCell_other _ _ _ _ (fun e => by injection e with e1 e2; omega)
/-- What a rule of choices is: right, and small. -/
structure Own (s : ByteArray) (E B : Nat) (k : Int) : Prop where
  sz : s.size ≤ 12
  pf : pfB s = true
  e1 : 1 ≤ E
  e2 : E ≤ 4294967296
  b1 : 1 ≤ B
  b2 : B ≤ 65536
  k1 : 1 ≤ k
  k2 : k ≤ 3
/-- A place to halt a walk at. -/
def Stop (p : Prop) : Prop := p
theorem stopHere {p : Prop} (h : Stop p) : p := h
theorem acell {w : World} {o : Obj} {b i : Nat} {v : Value} (h : w.cell? ⟨b, i, none⟩ = some v) : (w.alloc o).cell? ⟨b, i, none⟩ = some v := celln ((Below.refl _ w).alloc (Nat.le_refl _) o) h
theorem heap_lt {w : World} {b : Nat} {o : Obj} (h : w.heap[b]? = some o) : b < w.heap.size := (Array.getElem?_eq_some_iff.1 h).1
theorem fz_of {w : World} {b : Nat} {cs : Array Value} {t : TypeId} (h : w.heap[b]? = some (.cells cs t)) (i : Nat) : w.frozen? ⟨b, i, none⟩ = false := by simp [World.frozen?, h]
/-- A block whose cells are known. -/
def Blk (w : World) (b : Nat) (cs : Array Value) (t : TypeId) : Prop := w.heap[b]? = some (.cells cs t)
theorem Blk.cell {w : World} {b : Nat} {cs : Array Value} {t : TypeId} (h : Blk w b cs t) (i : Nat) : w.cell? ⟨b, i, none⟩ = cs[i]? := by
  have h' : w.heap[b]? = some (.cells cs t) := h
  simp [World.cell?, h']
theorem Blk.fz {w : World} {b : Nat} {cs : Array Value} {t : TypeId} (h : Blk w b cs t) (i : Nat) : w.frozen? ⟨b, i, none⟩ = false := fz_of h i
theorem Blk.new (w : World) (cs : Array Value) (t : TypeId) : Blk (w.alloc (.cells cs t)) w.heap.size cs t := World.alloc_heap_new w _
theorem Blk.lt {w : World} {b : Nat} {cs : Array Value} {t : TypeId} (h : Blk w b cs t) : b < w.heap.size := heap_lt h
theorem Blk.under {w w' : World} {b N : Nat} {cs : Array Value} {t : TypeId} (h : Blk w b cs t) (g : Below N w w') (hN : b < N) : Blk w' b cs t := (g.block b hN).trans h
theorem Blk.below {w w' : World} {b : Nat} {cs : Array Value} {t : TypeId} (h : Blk w b cs t) (g : Below w.heap.size w w') : Blk w' b cs t := h.under g h.lt
theorem Blk.alloc {w : World} {b : Nat} {cs : Array Value} {t : TypeId} (h : Blk w b cs t) (o : Obj) : Blk (w.alloc o) b cs t := h.below ((Below.refl _ w).alloc (Nat.le_refl _) o)
theorem Blk.set {w : World} {b : Nat} {cs : Array Value} {t : TypeId} (h : Blk w b cs t) (i : Nat) (v : Value) : Blk (w.setCell ⟨b, i, none⟩ v) b (cs.setIfInBounds i v) t := by
  have h' : w.heap[b]? = some (.cells cs t) := h
  obtain ⟨hlt, e⟩ := Array.getElem?_eq_some_iff.1 h'
  show (w.heap.modify b _)[b]? = some _
  rw [Array.getElem?_eq_getElem (by rw [Array.size_modify]; exact hlt), Array.getElem_modify_self, e]
  rfl
theorem Blk.other {w : World} {b c : Nat} {cs : Array Value} {t : TypeId} (h : Blk w b cs t) (i : Nat) (v : Value) (hc : b ≠ c) : Blk (w.setCell ⟨c, i, none⟩ v) b cs t := (Below.heap_setCell _ _ _ _ hc).trans h
def Txt (w : World) (A : Option Addr) (n : Nat) (bs : List UInt8) : Prop :=
  bs.length = n ∧ (0 < n → ∃ b off, A = some ⟨b, off, none⟩ ∧ b < w.heap.size ∧ ∀ k, k < n → w.cell? ⟨b, off + k, none⟩ = some (.int .u8 ((bs.getD k 0).toNat : Int)))
theorem Txt.below {w w' : World} {A : Option Addr} {n : Nat} {bs : List UInt8} (h : Txt w A n bs) (k : Below w.heap.size w w') : Txt w' A n bs :=
  ⟨h.1, fun hn => by
    obtain ⟨b, off, e, hb, hc⟩ := h.2 hn
    exact ⟨b, off, e, Nat.lt_of_lt_of_le hb k.size, fun j hj => (k.cell (p := ⟨b, off + j, none⟩) hb).trans (hc j hj)⟩⟩
theorem Txt.belowN {w w' : World} {B : Nat} {A : Option Addr} {n : Nat} {bs : List UInt8} (h : Txt w A n bs) (k : Below B w w') (hA : ∀ b off, A = some ⟨b, off, none⟩ → b < B) : Txt w' A n bs :=
  ⟨h.1, fun hn => by
    obtain ⟨b, off, e, hb, hc⟩ := h.2 hn
    exact ⟨b, off, e, Nat.lt_of_lt_of_le hb k.size, fun j hj => (k.cell (p := ⟨b, off + j, none⟩) (hA b off e)).trans (hc j hj)⟩⟩
/-- The text of some bytes. -/
abbrev str (l : List UInt8) : ByteArray := ⟨l.toArray⟩
theorem cut_str {w : World} {b off N : Nat} {bs : List UInt8} (hT : Txt w (some ⟨b, off, none⟩) N bs) (i L cap : Nat) (hL : i + L ≤ N) : (convert 26 9 (.slice (some ⟨b, off + i, none⟩) L cap)).run Try.prog w = .ok (.string (str ((bs.drop i).take L))) w := by
  have e : ((bs.drop i).take L).length = L := by rw [List.length_take, List.length_drop, hT.1]; omega
  have h := run_convert_bytes_back w 26 9 5 ⟨b, off + i, none⟩ cap ((bs.drop i).take L) Try.underlying26 Try.underlying5 Try.underlying9 (fun j hj => by
    rw [e] at hj
    obtain ⟨b', off', e', hb, hc⟩ := hT.2 (by omega)
    simp only [Option.some.injEq, Addr.mk.injEq] at e'
    obtain ⟨rfl, rfl, _⟩ := e'
    rw [Go.WideShapes.add_plain, Nat.add_assoc, hc (i + j) (by omega)]
    have hij : i + j < bs.length := by rw [hT.1]; omega
    simp [List.getD_eq_getElem?_getD, List.getElem?_eq_getElem hij])
  rw [e] at h
  exact h
theorem own_below {w w' : World} {base : Nat} {e : TypeId} {size : Nat} {v : Value} {n : Nat} {xs : List Value} (h : w.ownsRow base e size v n xs) (g : Below w.heap.size w w') : w'.ownsRow base e size v n xs := by
  refine ⟨h.1, ?_⟩
  rcases h.2 with h0 | ⟨b, cap, cur, h1, h2, h3, h4⟩
  · exact .inl h0
  · exact .inr ⟨b, cap, cur, h1, h2, (g.block b (Array.getElem?_eq_some_iff.1 h3).1).trans h3, h4⟩
theorem own_caps {w : World} {base : Nat} {e : TypeId} {size : Nat} {A : Option Addr} {n c m : Nat} {xs : List Value} (h : w.ownsRow base e size (.slice A n c) m xs) : n ≤ c ∧ c ≤ 9223372036854775807 := by
  rcases h.2 with ⟨h1, _⟩ | ⟨g, cap, cur, h1, _, _, h2, h3, _⟩
  · simp only [Value.slice.injEq] at h1
    omega
  · simp only [Value.slice.injEq] at h1
    unfold maxLen at h3
    omega
theorem own_slice {w : World} {base : Nat} {e : TypeId} {size : Nat} {v : Value} {n : Nat} {xs : List Value} (h : w.ownsRow base e size v n xs) : ∃ A c, v = .slice A n c := by
  rcases h.2 with ⟨rfl, rfl⟩ | ⟨g, cap, cur, rfl, _⟩
  · exact ⟨_, _, rfl⟩
  · exact ⟨_, _, rfl⟩
/-- The cells of bytes. -/
def bvs (l : List UInt8) : List Value := l.map fun b => Value.int .u8 (b.toNat : Int)
theorem bvs_append (a b : List UInt8) : bvs (a ++ b) = bvs a ++ bvs b := List.map_append
theorem bvs_length (a : List UInt8) : (bvs a).length = a.length := List.length_map _
theorem bvs_one (l : List UInt8) : ∀ u ∈ bvs l, u.oneCell' = true := by
  intro u hu
  obtain ⟨x, _, rfl⟩ := List.mem_map.1 hu
  rfl
/-- A row of bytes that is owned. -/
def BRow (w : World) (base : Nat) (v : Value) (l : List UInt8) : Prop := w.ownsRow base 5 1 v l.length (bvs l)
theorem BRow.nil (w : World) (base : Nat) : BRow w base (.slice none 0 0) [] := World.ownsRow_nil _ _ _ _
theorem BRow.txt {w : World} {base : Nat} {v : Value} {l : List UInt8} (h : BRow w base v l) : ∃ A c, v = .slice A l.length c ∧ l.length ≤ c ∧ c ≤ 9223372036854775807 ∧ Txt w A l.length l := by
  obtain ⟨A, c, rfl⟩ := own_slice h
  have hc := own_caps h
  refine ⟨A, c, rfl, hc.1, hc.2, rfl, fun h0 => ?_⟩
  obtain ⟨g, cap, e, _, hlt⟩ := h.form (by omega)
  simp only [Value.slice.injEq] at e
  obtain ⟨rfl, _, rfl⟩ := e
  refine ⟨g, 0, rfl, hlt, fun k hk => ?_⟩
  have := h.cellAt k (by omega)
  rw [Nat.zero_add, this, bvs, List.getElem?_map, List.getD_eq_getElem?_getD, List.getElem?_eq_getElem hk]; rfl
theorem infoByte : (Try.prog.info? 5).map (fun i => (i.zero, i.size, i.bytes)) = some (some (.int .u8 0), 1, 1) := by kernel_rfl
theorem txt_lit {W : World} (l : List UInt8) (cs : Array Value) (t : TypeId) (fr : Nat × Nat) (h : cs.toList = bvs l) : Txt (W.alloc (.cells cs t fr)) (some ⟨W.heap.size, 0, none⟩) l.length l := by
  refine ⟨rfl, fun _ => ⟨W.heap.size, 0, rfl, by simp, fun k hk => ?_⟩⟩
  have e : (W.alloc (.cells cs t fr)).heap[W.heap.size]? = some (.cells cs t fr) := heap_alloc_new W _
  rw [Nat.zero_add, cell_of_row _ _ _ _ _ _ e, ← Array.getElem?_toList, h, bvs, List.getElem?_map, List.getD_eq_getElem?_getD, List.getElem?_eq_getElem hk]; rfl
theorem txt_news {w : World} {b off n : Nat} {l : List UInt8} (h : Txt w (some ⟨b, off, none⟩) n l) : ∀ j u, (bvs l)[j]? = some u → w.cell? ((⟨b, off, none⟩ : Addr).add j) = some u := by
  intro j u hu
  rw [bvs, List.getElem?_map] at hu
  have hj : j < l.length := by
    by_cases hj : j < l.length
    · exact hj
    · rw [List.getElem?_eq_none (by omega)] at hu; cases hu
  rw [List.getElem?_eq_getElem hj] at hu
  obtain ⟨b', off', e, _, hc⟩ := h.2 (by rw [← h.1]; omega)
  simp only [Option.some.injEq, Addr.mk.injEq] at e
  obtain ⟨rfl, rfl, _⟩ := e
  rw [Go.WideShapes.add_plain, hc j (by rw [← h.1]; exact hj), List.getD_eq_getElem?_getD, List.getElem?_eq_getElem hj]
  exact hu
/-- Bytes behind bytes. -/
theorem wpList_app_bytes (w : World) {ops : Array Oper} {rest : List Oper} {o : Oper} {a : Act} {Q : Exit → Act → World → Prop} (hgd : o.guard = none) (s x : Operand)
    (ho : o.op = .call { callee := .builtin .append, args := #[s, x], argTypes := #[26, 26] })
    (base : Nat) (v : Value) (acc : List UInt8) (hs : a.eval s = v) (hown : BRow w base v acc) (ao : Option Addr) (m c : Nat) (l : List UInt8) (hx : a.eval x = .slice ao m c) (hT : Txt w ao m l) (hn : ao = none → c = 0) (ha : ∀ ad, ao = some ad → ad.spot = none)
    (hsz : acc.length + m ≤ 140737488355328) (hbase : base ≤ w.heap.size)
    (h : ∀ v' w', BRow w' base v' (acc ++ l) → w.grownBy w' v.ownBlock → wpList Try.prog ops Q rest (a.put o.dst v') w') : wpList Try.prog ops Q (o :: rest) a w := by
  obtain ⟨i0, hz, hz0, hz1, hz2⟩ := info_parts infoByte
  cases ao with
  | none =>
    obtain rfl := hn rfl
    have hm : m = 0 := by
      by_cases hm : 0 < m
      · obtain ⟨_, _, e, _⟩ := hT.2 hm; cases e
      · omega
    subst hm
    have hl : l = [] := List.eq_nil_of_length_eq_zero hT.1
    subst hl
    exact wpList_append_own_none hgd s x 26 ho base 5 i0 1 Try.underlying26 hz v acc.length (bvs acc) hs hown hx (h _ w (by rw [List.append_nil]; exact hown) (World.grownBy.refl w _))
  | some ad =>
    obtain ⟨b, off, sp⟩ := ad
    obtain rfl : sp = none := ha _ rfl
    refine wpList_append_own w hgd s x 26 ho base 5 i0 (.int .u8 0) 1 1 Try.underlying26 hz hz0 hz1 hz2 rfl (by decide) v acc.length (bvs acc) hs hown ⟨b, off, none⟩ m c (bvs l) hx (by rw [bvs_length, hT.1]; omega) (txt_news hT) (bvs_one l) (by unfold maxLen; omega) (by omega) hbase ?_
    intro v' w' own grow _
    refine h v' w' ?_ grow
    unfold BRow
    rw [bvs_append, List.length_append, hT.1]
    exact own
theorem txt_one (W : World) (b : UInt8) : Txt (W.alloc (.cells #[.int .u8 (b.toNat : Int)] 5)) (some ⟨W.heap.size, 0, none⟩) 1 [b] := txt_lit [b] _ _ _ rfl
theorem BRow.below {w w' : World} {base : Nat} {v : Value} {l : List UInt8} (h : BRow w base v l) (g : Below w.heap.size w w') : BRow w' base v l := own_below h g
/-- A row of bytes, as it is told. -/
theorem BRow.form2 {w : World} {base : Nat} {v : Value} {l : List UInt8} (h : BRow w base v l) : ∃ A c, v = .slice A l.length c ∧ (l.length ≤ c ∧ c ≤ 9223372036854775807) ∧ Txt w A l.length l ∧ (A = none → c = 0) ∧ (∀ ad, A = some ad → ad.spot = none ∧ ad.off = 0) := by
  rcases h.2 with ⟨rfl, h0⟩ | ⟨g, cap, cur, rfl, _⟩
  · refine ⟨none, 0, by rw [h0], by omega, ⟨rfl, fun hn => by omega⟩, fun _ => rfl, fun ad e => by cases e⟩
  · obtain ⟨A, c, e, h1, h2, h3⟩ := h.txt
    simp only [Value.slice.injEq] at e
    obtain ⟨rfl, _, rfl⟩ := e
    exact ⟨_, _, rfl, ⟨h1, h2⟩, h3, (fun e => by cases e), fun ad e => by cases e; exact ⟨rfl, rfl⟩⟩
/-- The front of a row of bytes. -/
theorem Txt.front {w : World} {A : Option Addr} {n i : Nat} {l : List UInt8} (h : Txt w A n l) (hi : i ≤ n) : Txt w A i (l.take i) :=
  ⟨by rw [List.length_take, h.1]; omega, fun h0 => by
    obtain ⟨b, off, e, hb, hc⟩ := h.2 (by omega)
    refine ⟨b, off, e, hb, fun k hk => (hc k (by omega)).trans ?_⟩
    simp only [List.getD_eq_getElem?_getD, List.getElem?_take, if_pos hk]⟩
theorem bslice_front (A : Option Addr) (n cap i : Nat) (hi : i ≤ cap) (hcap : cap ≤ 9223372036854775807) (W : World) : (Instr.slice 26 (.slice A n cap) none (some (.int .i64 (i : Int))) none).run Try.prog W = .ok (.slice A i cap) W := by
  obtain ⟨i0, hz, hz0, hz1, hz2⟩ := info_parts infoByte
  simp [go_sem, Try.underlying26, sizeOf, typeInfo, hz, hz1, hi]
theorem bslice_back (A : Option Addr) (n cap i : Nat) (hi : i ≤ n) (hn : n ≤ cap) : ∃ A', (∀ W : World, (Instr.slice 26 (.slice A n cap) (some (.int .i64 (i : Int))) none none).run Try.prog W = .ok (.slice A' (n - i) (cap - i)) W) ∧
    (∀ (W : World) (l : List UInt8), Txt W A n l → Txt W A' (n - i) (l.drop i)) ∧ (A' = none → A = none) ∧ ((∀ ad, A = some ad → ad.spot = none) → ∀ ad, A' = some ad → ad.spot = none) := by
  obtain ⟨i0, hz, hz0, hz1, hz2⟩ := info_parts infoByte
  refine ⟨if cap = i then A else A.map (·.add (i * 1)), fun W => ?_, fun W l h => ?_, fun h => ?_, fun h ad e => ?_⟩
  · simp [go_sem, Try.underlying26, sizeOf, typeInfo, hz, hz1, hi, sliced]
  · refine ⟨by rw [List.length_drop, h.1], fun h0 => ?_⟩
    obtain ⟨b, off, rfl, hb, hc⟩ := h.2 (by omega)
    rw [if_neg (by omega)]
    refine ⟨b, off + i, by simp [Go.WideShapes.add_plain], hb, fun k hk => ?_⟩
    rw [Nat.add_assoc, hc (i + k) (by omega)]
    simp [List.getD_eq_getElem?_getD]
  · split at h
    · exact h
    · cases A with
      | none => rfl
      | some ad => simp at h
  · split at e
    · exact h ad e
    · cases A with
      | none => simp at e
      | some ad' =>
        have := h ad' rfl
        obtain ⟨b, off, sp⟩ := ad'
        simp at this
        subst this
        simp [Go.WideShapes.add_plain] at e
        rw [← e]
theorem str_cells (x : List UInt8) : Lib.strCells (str x) = bvs x := rfl
/-- All of a row of bytes as a text. -/
theorem all_str {w : World} {A : Option Addr} {N : Nat} {bs : List UInt8} (hT : Txt w A N bs) (cap : Nat) : (convert 26 9 (.slice A N cap)).run Try.prog w = .ok (.string (str bs)) w := by
  cases A with
  | none =>
    have h0 : N = 0 := by
      rcases Nat.eq_zero_or_pos N with h | h
      · exact h
      · obtain ⟨_, _, e, _⟩ := hT.2 h; cases e
    subst h0
    have hb : bs = [] := List.eq_nil_of_length_eq_zero hT.1
    subst hb
    rw [run_convert_bytes_string w 26 9 5 none 0 cap Try.underlying26 Try.underlying5 Try.underlying9]
    rfl
  | some ad =>
    have h := run_convert_bytes_back w 26 9 5 ad cap bs Try.underlying26 Try.underlying5 Try.underlying9 (fun j hj => by
      obtain ⟨b', off', e', hb, hc⟩ := hT.2 (by rw [← hT.1]; omega)
      simp only [Option.some.injEq] at e'
      subst e'
      rw [Go.WideShapes.add_plain, hc j (by rw [← hT.1]; exact hj)]
      simp [List.getD_eq_getElem?_getD, List.getElem?_eq_getElem hj])
    rw [hT.1] at h
    exact h
/-- All lies as it lay, but for some blocks, and new ones. -/
structure Tch (S : Nat → Prop) (w w' : World) : Prop where
  os : w'.os = w.os
  tape : w'.tape = w.tape
  output : w'.output = w.output
  size : w.heap.size ≤ w'.heap.size
  block : ∀ k, k < w.heap.size → ¬ S k → w'.heap[k]? = w.heap[k]?
theorem Tch.refl (S : Nat → Prop) (w : World) : Tch S w w := ⟨rfl, rfl, rfl, Nat.le_refl _, fun _ _ _ => rfl⟩
theorem Tch.trans {S : Nat → Prop} {a b c : World} (h : Tch S a b) (k : Tch S b c) : Tch S a c :=
  ⟨k.os.trans h.os, k.tape.trans h.tape, k.output.trans h.output, Nat.le_trans h.size k.size, fun i hi hn => (k.block i (Nat.lt_of_lt_of_le hi h.size) hn).trans (h.block i hi hn)⟩
theorem Tch.mono {S S' : Nat → Prop} {a b : World} (h : Tch S a b) (hs : ∀ k, k < a.heap.size → S k → S' k) : Tch S' a b := ⟨h.os, h.tape, h.output, h.size, fun k hk hn => h.block k hk (fun e => hn (hs k hk e))⟩
theorem Tch.of {S : Nat → Prop} {a b : World} (h : Below a.heap.size a b) : Tch S a b := ⟨h.os, h.tape, h.output, h.size, fun k hk _ => h.block k hk⟩
theorem Tch.below {S : Nat → Prop} {a b : World} {N : Nat} (h : Tch S a b) (hN : N ≤ a.heap.size) (hs : ∀ k, S k → N ≤ k) : Below N a b := ⟨h.os, h.tape, h.output, h.size, fun k hk => h.block k (by omega) (fun e => by have := hs k e; omega)⟩
theorem Tch.set {S : Nat → Prop} (w : World) (b i : Nat) (v : Value) (hb : S b) : Tch S w (w.setCell ⟨b, i, none⟩ v) :=
  ⟨rfl, rfl, rfl, by simp [World.setCell], fun k _ hn => Below.heap_setCell _ _ _ _ (fun e => hn (by rw [e]; exact hb))⟩
theorem Tch.put {S : Nat → Prop} (w : World) (b : Nat) (o : Obj) (hb : S b) : Tch S w (w.putObj b o) :=
  ⟨rfl, rfl, rfl, by simp, fun k _ hn => World.putObj_heap_other (fun e => hn (by rw [e]; exact hb))⟩
theorem Tch.blk {S : Nat → Prop} {a b : World} (h : Tch S a b) {k : Nat} {cs : Array Value} {t : TypeId} (hb : Blk a k cs t) (hk : ¬ S k) : Blk b k cs t := (h.block k hb.lt hk).trans hb
theorem Drew.tch {S : Nat → Prop} {w w' : World} (g : Drew w w') : Tch S w w' := by
  obtain ⟨m, rfl⟩ := g
  exact ⟨rfl, rfl, rfl, Nat.le_refl _, fun _ _ _ => rfl⟩
/-- Some blocks, and all that come. -/
def Nx (B : Nat → Prop) (w : World) : Nat → Prop := fun k => B k ∨ w.heap.size ≤ k
theorem Tch.next {B : Nat → Prop} {a b c : World} (h : Tch B a b) (g : Tch (Nx B a) b c) : Tch B a c :=
  ⟨g.os.trans h.os, g.tape.trans h.tape, g.output.trans h.output, Nat.le_trans h.size g.size, fun k hk hn =>
    (g.block k (Nat.lt_of_lt_of_le hk h.size) (fun e => e.elim hn (fun x => by omega))).trans (h.block k hk hn)⟩
theorem Nx.next {B : Nat → Prop} {a b : World} (h : a.heap.size ≤ b.heap.size) {k : Nat} (hk : Nx (Nx B a) b k) : Nx B a k := hk.elim id (fun x => .inr (Nat.le_trans h x))
theorem own_tch {S : Nat → Prop} {w w' : World} {base : Nat} {e : TypeId} {size n : Nat} {v : Value} {xs : List Value} (h : w.ownsRow base e size v n xs) (g : Tch S w w') (hS : ∀ k, base ≤ k → k < w.heap.size → ¬ S k) : w'.ownsRow base e size v n xs := by
  refine ⟨h.1, ?_⟩
  rcases h.2 with hn | ⟨b, cap, cur, rfl, hb, hgg, rest⟩
  · exact .inl hn
  · exact .inr ⟨b, cap, cur, rfl, hb, (g.block b (heap_lt hgg) (hS b hb (heap_lt hgg))).trans hgg, rest⟩
theorem Tch.bel {S : Nat → Prop} {a b c : World} (h : Tch S a b) (g : Below a.heap.size b c) : Tch S a c :=
  ⟨g.os.trans h.os, g.tape.trans h.tape, g.output.trans h.output, Nat.le_trans h.size g.size, fun k hk hn => (g.block k hk).trans (h.block k hk hn)⟩
theorem tb {Q : Nat → Prop} {W a b : World} (kr : Tch Q W a) (g : Below a.heap.size a b) : Tch Q W b := kr.bel (g.mono kr.size)
theorem td {Q : Nat → Prop} {W a : World} (kr : Tch Q W a) : Tch Q W a.drew := kr.trans (Drew.tch ⟨1, rfl⟩)
theorem ta {Q : Nat → Prop} {W a : World} {o : Obj} (kr : Tch Q W a) : Tch Q W (a.alloc o) := tb kr ((Below.refl _ a).alloc (Nat.le_refl _) o)
theorem tset {Q : Nat → Prop} {W a : World} {X i : Nat} {v : Value} (kr : Tch Q W a) (h : Q X ∨ W.heap.size ≤ X) : Tch Q W (a.setCell ⟨X, i, none⟩ v) := kr.next (Tch.set a X i v h)
end Go.Proofs.Ytbejkcdaefkibaa.Wd
