/- Elder words: numbers, blocks, rules as data; no conditions but those that each names. Elder words: states of the three kernels; no conditions but those that each names. Elder words: rules, keys, a text's copy; no conditions but those that each names. Plain facts on trees in rows (the one at place k stands under the one at place (k - 1) / 2): one that is put right by going up or down; no conditions but those that each names. A queue of slots in memory: how they lie, and what its methods Len, Less and Swap do; no conditions but those that each names. A queue of slots in memory: which methods an interface value that holds it calls; no conditions but those that each names. A queue of slots in memory: container/heap's up, down, over it; no conditions but those that each names. A queue of slots in memory: who joins it, and who leaves; no conditions but those that each names. A queue of slots in memory, nil too: who joins it, and who leaves, and which blocks are written; no conditions but those that each names. A queue of slots in memory: join and leave, walked; no conditions but those that each names. A map of slots by their keys, in memory; no conditions but those that each names. -/
import Derived.WalkKit
import Derived.Laws.Bits64b
import Derived.Below
import Derived.Deep.Draws
import Derived.Test.YtbejkcdaefkibaaGreatRows
import Derived.ProofKit
import Derived.OpenShut
import Derived.Handy
import Derived.Lib.Hide
import Derived.Deep.RegionHeld3
import Derived.Deep.QuietTactic
import Derived.BigQuiet
import Derived.RangeFuncNested
import Derived.RangeFuncBound
import Derived.RangeFuncCalls
import Derived.RangeFuncLeaves
import Derived.Shelf.Abstract
import Derived.Shelf.RegionOpen
import Derived.OwnWalkIn
import Derived.TacticsInMore
import Derived.LoopNIn
import Derived.LoopIn
import Derived.LoopTactic
import Derived.OwnWalk
import Derived.Laws.OwnMore
import Derived.Maps.OwnSet
import Derived.Laws.EntriesVeiled
import Derived.Shelf.LaysM
import Derived.Shelf.Strconv.Clone
import Derived.ScopeJumps
import Derived.WalkMore
import Derived.Lib.ReflectliteSwap
import Derived.Deep.CutRange
import Derived.Deep.DeepCutAuto
import Derived.Lib.ItoaNum
import Derived.Lib.ItoaLen
import Derived.Laws.Strings
import GoSem.Op.String
import Derived.Lib.BufferWrite
import Derived.Laws.IdiomStrings
import Derived.Laws.ResultCell
import Derived.Laws.Rows
import Derived.WalkLawsBesides
import Derived.WalkSpells
import Derived.Deep.WholeRow
import Derived.StillTailTactics
import Derived.Deep.AppendLies
import Derived.Laws.ComplexArith
import Derived.WalkSmall
import Derived.Laws.Entries
import Derived.Laws.AppendOwn
import Derived.Deep.LoopGhost
import Derived.Lib.QuietBelow
import Derived.PlainAid
import Derived.Lib.SlBytesConst
import Derived.Lib.SmallJoins
import Derived.Laws.AppendOwnNone
import Derived.Laws.MakeOwn
import Derived.Lib.AppendStr
import Derived.Deep.RegionLaw
import Derived.Defers
import Derived.Recover
import Derived.Deep.Slices
import Derived.OneCell
import Derived.Laws.Cover3
namespace Go.Proofs.YtbejkcdaefkibaaGreat.Wd
open Go Go.RowKit Go.Shelf Go.Deep
set_option linter.unusedVariables false
set_option maxRecDepth 100000
def Kept (w w' : World) : Prop := Grown w w' ∧ Below w.heap.size w w'
theorem Kept.refl (w : World) : Kept w w := ⟨Grown.refl _, Below.refl _ _⟩
theorem Kept.trans {a b c : World} (h : Kept a b) (k : Kept b c) : Kept a c :=
  ⟨⟨World.keptBut_trans h.1.1 k.1.1, fun x => (k.1.2.1 x).trans (h.1.2.1 x), Nat.le_trans h.1.2.2 k.1.2.2⟩, h.2.trans (k.2.mono h.2.size)⟩
theorem Kept.alloc {a b : World} (h : Kept a b) (c : Array Value) (t : TypeId) : Kept a (b.alloc (.cells c t)) := ⟨h.1.alloc c t, h.2.alloc h.2.size _⟩
theorem Kept.drew {a b : World} (h : Kept a b) : Kept a b.drew := ⟨h.1.drew, h.2.drew⟩
/-- A call that reads in an open order at most. -/
def Drew (w w' : World) : Prop := ∃ n : Nat, w' = w.drewN n
theorem Drew.refl (w : World) : Drew w w := ⟨0, rfl⟩
theorem Drew.of (w : World) (n : Nat) : Drew w (w.drewN n) := ⟨n, rfl⟩
theorem Drew.trans {a b c : World} (h : Drew a b) (k : Drew b c) : Drew a c := by
  obtain ⟨n, rfl⟩ := h; obtain ⟨m, rfl⟩ := k; exact ⟨n + m, World.drewN_drewN _ _ _⟩
theorem Kept.drewN {a b : World} (h : Kept a b) (n : Nat) : Kept a (b.drewN n) := ⟨h.1, h.2.os, h.2.tape, h.2.output, h.2.size, h.2.block⟩
theorem and_mask32 (a : Int) (h : 0 ≤ a ∧ a ≤ 18446744073709551615) : bits BinOp.and IntKind.u64 a 4294967295 = a % 4294967296 := by
  have e := bits_and_u64_nat a.toNat 4294967295 (by omega) (by omega)
  have h2 : a.toNat &&& 4294967295 = a.toNat % 4294967296 := Nat.and_two_pow_sub_one_eq_mod a.toNat 32
  rw [h2, Int.toNat_of_nonneg h.1] at e
  refine e.trans ?_
  omega
theorem or_low (k : Nat) (x y : Nat) (hy : y < 2 ^ k) (h1 : 2 ^ k * x < 18446744073709551616) (h2 : y < 18446744073709551616) :
    bits BinOp.or IntKind.u64 ((2 ^ k * x : Nat) : Int) (y : Int) = ((2 ^ k * x + y : Nat) : Int) := by
  have e := bits_or_u64_nat (2 ^ k * x) y h1 h2
  rw [← Nat.two_pow_add_eq_or_of_lt hy] at e
  exact e
theorem or_32 (b a : Int) (ha : 0 ≤ a ∧ a ≤ 4294967295) (hb : 0 ≤ b ∧ b ≤ 4294967295) : bits BinOp.or IntKind.u64 (IntKind.u64.wrap (b * 4294967296)) a = b * 4294967296 + a := by
  have e := or_low 32 b.toNat a.toNat (by omega) (by omega) (by omega)
  have g : IntKind.u64.wrap (b * 4294967296) = ((2 ^ 32 * b.toNat : Nat) : Int) := by rw [IntKind.wrap_u64]; omega
  have g' : a = ((a.toNat : Nat) : Int) := by omega
  rw [g, g']
  refine e.trans ?_
  omega
theorem or_32' (b a : Int) (ha : 0 ≤ a ∧ a ≤ 4294967295) (hb : 0 ≤ b ∧ b ≤ 4294967295) : bits BinOp.or IntKind.u64 (b * 4294967296) a = b * 4294967296 + a := by
  have e := or_32 b a ha hb
  rw [IntWalk.u64_in _ (by omega)] at e
  exact e
def muH (a b : Int) : Int := a * b / 18446744073709551616
def muL (a b : Int) : Int := a * b % 18446744073709551616
/-- A number of 64 bits. -/
def U (a : Int) : Prop := 0 ≤ a ∧ a ≤ 18446744073709551615
theorem mu_prod_le (a b : Int) (ha : U a) (hb : U b) : 0 ≤ a * b ∧ a * b ≤ 18446744073709551615 * 18446744073709551615 :=
  ⟨Int.mul_nonneg ha.1 hb.1, Int.mul_le_mul ha.2 hb.2 hb.1 (by omega)⟩
theorem mul_halves (a0 a1 b0 b1 : Int) (h0 : 0 ≤ a0 ∧ a0 ≤ 4294967295) (h1 : 0 ≤ a1 ∧ a1 ≤ 4294967295) (g0 : 0 ≤ b0 ∧ b0 ≤ 4294967295) (g1 : 0 ≤ b1 ∧ b1 ≤ 4294967295) :
    (0 ≤ a0 * b0 ∧ a0 * b0 ≤ 18446744065119617025) ∧ (0 ≤ a1 * b0 ∧ a1 * b0 ≤ 18446744065119617025) ∧ (0 ≤ a0 * b1 ∧ a0 * b1 ≤ 18446744065119617025) ∧ (0 ≤ a1 * b1 ∧ a1 * b1 ≤ 18446744065119617025) ∧
    (a1 * 4294967296 + a0) * (b1 * 4294967296 + b0) = a1 * b1 * 18446744073709551616 + (a1 * b0 + a0 * b1) * 4294967296 + a0 * b0 := by
  have m (x y : Int) (hx : 0 ≤ x ∧ x ≤ 4294967295) (hy : 0 ≤ y ∧ y ≤ 4294967295) : 0 ≤ x * y ∧ x * y ≤ 18446744065119617025 :=
    ⟨Int.mul_nonneg hx.1 hy.1, Int.le_trans (Int.mul_le_mul hx.2 hy.2 hy.1 (by omega)) (by omega)⟩
  refine ⟨m _ _ h0 g0, m _ _ h1 g0, m _ _ h0 g1, m _ _ h1 g1, ?_⟩
  have e1 : (a1 * 4294967296) * (b1 * 4294967296) = a1 * b1 * 18446744073709551616 := by
    rw [Int.mul_assoc, Int.mul_comm 4294967296, Int.mul_assoc, ← Int.mul_assoc a1]; rfl
  have e2 : (a1 * 4294967296) * b0 = a1 * b0 * 4294967296 := by
    rw [Int.mul_assoc, Int.mul_comm 4294967296, ← Int.mul_assoc]
  have e3 : a0 * (b1 * 4294967296) = a0 * b1 * 4294967296 := by rw [Int.mul_assoc]
  rw [Int.add_mul, Int.mul_add, Int.mul_add, e1, e2, e3]
  omega
theorem ret2 {k m : IntKind} {a b c d : Int} (h : a = b) (h' : c = d) : Ending.returned (.tuple #[.int k a, .int m c]) = .returned (.tuple #[.int k b, .int m d]) := by rw [h, h']
theorem split_any (a : Int) (w : World) (ha : 0 ≤ a ∧ a ≤ 18446744073709551615) :
    Calls Tryz.prog 213 #[.int .u64 a] w fun e w' => e = .returned (.agg #[.int .u64 (a % 4294967296), .int .u64 (a / 4294967296)]) ∧ w.alloc (.cells #[.int .u64 (a % 4294967296), .int .u64 (a / 4294967296)] 276) = w' := by
  have e := and_mask32 a ha
  rw [← e]
  clear e
  go_enter Tryz.func213, Tryz.ntmps213
  go_wp2
  exact bodyPost_ret (v := .agg #[.int .u64 (bits BinOp.and IntKind.u64 a 4294967295), .int .u64 (a / 4294967296)]) (by simp [results, Tryz.results213, go_sem]) rfl ⟨rfl, rfl⟩
theorem join_any (a b : Int) (w : World) (ha : 0 ≤ a ∧ a ≤ 4294967295) (hb : 0 ≤ b ∧ b ≤ 4294967295) :
    Calls Tryz.prog 214 #[.agg #[.int .u64 a, .int .u64 b]] w fun e w' => e = .returned (.int .u64 (b * 4294967296 + a)) ∧ w.alloc (.cells #[.int .u64 a, .int .u64 b] 276) = w' := by
  have e := or_32' b a ha hb
  rw [← e]
  clear e
  go_enter Tryz.func214, Tryz.ntmps214
  go_wp2
  go_ret
  exact ⟨rfl, rfl⟩
theorem split_parts (lo hi : Int) (w : World) (h0 : 0 ≤ lo ∧ lo ≤ 4294967295) (h1 : 0 ≤ hi ∧ hi ≤ 4294967295) :
    Calls Tryz.prog 213 #[.int .u64 (hi * 4294967296 + lo)] w fun e w' => e = .returned (.agg #[.int .u64 lo, .int .u64 hi]) ∧ w.alloc (.cells #[.int .u64 lo, .int .u64 hi] 276) = w' := by
  have e := split_any (hi * 4294967296 + lo) w (by omega)
  have e1 : (hi * 4294967296 + lo) % 4294967296 = lo := by omega
  have e2 : (hi * 4294967296 + lo) / 4294967296 = hi := by omega
  rw [e1, e2] at e
  exact e
theorem cell_keep {W : World} {b o : Nat} {v : Value} {x : Obj} (h : W.cell? ⟨b, o, none⟩ = some v) (hb : b < W.heap.size) : (W.alloc x).drew.cell? ⟨b, o, none⟩ = some v := by
  have e : (W.alloc x).drew.cell? ⟨b, o, none⟩ = W.cell? ⟨b, o, none⟩ := ((Below.refl W.heap.size W).alloc (Nat.le_refl _) x).drew.cell (p := ⟨b, o, none⟩) hb
  rw [e]; exact h
theorem size_keep {W : World} {n : Nat} {x : Obj} (h : n ≤ W.heap.size) : n ≤ (W.alloc x).drew.heap.size := by
  have e : (W.alloc x).drew.heap.size = W.heap.size + 1 := by simp
  omega
theorem mul_parts (a0 a1 b0 b1 : Int) (w : World) (h0 : 0 ≤ a0 ∧ a0 ≤ 4294967295) (h1 : 0 ≤ a1 ∧ a1 ≤ 4294967295) (g0 : 0 ≤ b0 ∧ b0 ≤ 4294967295) (g1 : 0 ≤ b1 ∧ b1 ≤ 4294967295) :
    Calls Tryz.prog 176 #[.int .u64 (a1 * 4294967296 + a0), .int .u64 (b1 * 4294967296 + b0)] w fun e w' => e = .returned (.tuple #[.int .u64 (muH (a1 * 4294967296 + a0) (b1 * 4294967296 + b0)), .int .u64 (muL (a1 * 4294967296 + a0) (b1 * 4294967296 + b0))]) ∧ Kept w w' := by
  obtain ⟨m1, m2, m3, m4, m5⟩ := mul_halves a0 a1 b0 b1 h0 h1 g0 g1
  have M5 := Lib.hid m5
  clear m5
  go_enter Tryz.func176, Tryz.ntmps176
  go_wp2_with (go_at_call 213; first | ((with_reducible refine (split_parts _ _ _ (by omega) (by omega)).mono ?_); rintro e w' ⟨rfl, rfl⟩) | ((with_reducible refine (split_any _ _ (by omega)).mono ?_); rintro e w' ⟨rfl, rfl⟩))
  generalize hW : World.alloc _ _ = W
  have gW : Kept w W := by rw [← hW]; clear hW; constructor <;> go_grown
  have sW : w.heap.size + 10 ≤ W.heap.size := by rw [← hW]; clear hW; simp
  have c1 : W.cell? ⟨w.heap.size + 1 + 1, 1, none⟩ = some (.int .u64 a1) := by rw [← hW]; clear hW; go_cell
  have c2 : W.cell? ⟨w.heap.size + 1 + 1 + 1, 1, none⟩ = some (.int .u64 b1) := by rw [← hW]; clear hW; go_cell
  have c3 : W.cell? ⟨w.heap.size + 1 + 1 + 1 + 1 + 1 + 1 + 1, 1, none⟩ = some (.int .u64 ((a1 * b0 + a0 * b0 / 4294967296) / 4294967296)) := by rw [← hW]; clear hW; go_cell
  have c4 : W.cell? ⟨w.heap.size + 1 + 1 + 1 + 1 + 1 + 1 + 1 + 1 + 1, 1, none⟩ = some (.int .u64 ((a0 * b1 + (a1 * b0 + a0 * b0 / 4294967296) % 4294967296) / 4294967296)) := by rw [← hW]; clear hW; go_cell
  have c5 : W.cell? ⟨w.heap.size + 1 + 1 + 1 + 1 + 1, 0, none⟩ = some (.int .u64 (a0 * b0 % 4294967296)) := by rw [← hW]; clear hW; go_cell
  have c6 : W.cell? ⟨w.heap.size + 1 + 1 + 1 + 1 + 1 + 1 + 1 + 1 + 1, 0, none⟩ = some (.int .u64 ((a0 * b1 + (a1 * b0 + a0 * b0 / 4294967296)) % 4294967296)) := by rw [← hW]; clear hW; go_cell
  clear hW
  go_region_held3 (fun w' => Kept w w' ∧ w.heap.size + 10 ≤ w'.heap.size ∧ w'.cell? ⟨w.heap.size + 1 + 1, 1, none⟩ = some (.int .u64 a1) ∧ w'.cell? ⟨w.heap.size + 1 + 1 + 1, 1, none⟩ = some (.int .u64 b1)
    ∧ w'.cell? ⟨w.heap.size + 1 + 1 + 1 + 1 + 1 + 1 + 1, 1, none⟩ = some (.int .u64 ((a1 * b0 + a0 * b0 / 4294967296) / 4294967296))
    ∧ w'.cell? ⟨w.heap.size + 1 + 1 + 1 + 1 + 1 + 1 + 1 + 1 + 1, 1, none⟩ = some (.int .u64 ((a0 * b1 + (a1 * b0 + a0 * b0 / 4294967296) % 4294967296) / 4294967296))
    ∧ w'.cell? ⟨w.heap.size + 1 + 1 + 1 + 1 + 1, 0, none⟩ = some (.int .u64 (a0 * b0 % 4294967296))
    ∧ w'.cell? ⟨w.heap.size + 1 + 1 + 1 + 1 + 1 + 1 + 1 + 1 + 1, 0, none⟩ = some (.int .u64 ((a0 * b1 + (a1 * b0 + a0 * b0 / 4294967296)) % 4294967296)))
    (first | exact ⟨gW, sW, c1, c2, c3, c4, c5, c6⟩ | exact ⟨gW.drew, sW, c1, c2, c3, c4, c5, c6⟩ | exact ⟨(Kept.alloc gW _ _).drew, size_keep sW, cell_keep c1 (by omega), cell_keep c2 (by omega), cell_keep c3 (by omega), cell_keep c4 (by omega), cell_keep c5 (by omega), cell_keep c6 (by omega)⟩)
    (first | (go_at_call 214; ((with_reducible refine (join_any _ _ _ (by omega) (by omega)).mono ?_); rintro e w' ⟨rfl, rfl⟩)))
  rename_i hH
  have gF := hH.1
  clear hH c1 c2 c3 c4 c5 c6 sW gW
  go_wp2
  go_ret2
  refine ⟨ret2 ?_ ?_, gF⟩
  · unfold muH; rw [M5.out]; simp only [IntKind.wrap_u64]; omega
  · unfold muL; rw [M5.out]; omega
theorem mul_any (a b : Int) (w : World) (ha : U a) (hb : U b) :
    Calls Tryz.prog 176 #[.int .u64 a, .int .u64 b] w fun e w' => e = .returned (.tuple #[.int .u64 (muH a b), .int .u64 (muL a b)]) ∧ Kept w w' := by
  unfold U at *
  have h := mul_parts (a % 4294967296) (a / 4294967296) (b % 4294967296) (b / 4294967296) w (by omega) (by omega) (by omega) (by omega)
  have ea : a / 4294967296 * 4294967296 + a % 4294967296 = a := by omega
  have eb : b / 4294967296 * 4294967296 + b % 4294967296 = b := by omega
  rw [ea, eb] at h
  exact h
/-- The end, or what is below it. -/
def sat (x : Int) : Int := if x ≤ 18446744073709551615 then x else 18446744073709551615
def stopV (h l : Int) : Int := if h = 0 then l else 18446744073709551615
def sbI (a b : Int) : Int := if a < b then 0 else a - b
def dvI (a b : Int) : Int := if b = 0 then 18446744073709551615 else a / b
def lfI (a b : Int) : Int := if b = 0 then 0 else a % b
def clI (a b : Int) : Int := if b = 0 then 18446744073709551615 else if a % b = 0 then a / b else a / b + 1
theorem sat_U (x : Int) (h : 0 ≤ x) : U (sat x) := by unfold sat U; split <;> omega
theorem stop_mul (a b : Int) (ha : U a) (hb : U b) : stopV (muH a b) (muL a b) = sat (a * b) := by
  have h := mu_prod_le a b ha hb
  unfold stopV muH muL sat; split <;> split <;> omega
theorem sbI_U (a b : Int) (ha : U a) (hb : U b) : U (sbI a b) := by unfold sbI U at *; split <;> omega
theorem div_le_of (a b : Int) (ha : U a) (hb : U b) : 0 ≤ a / b ∧ a / b ≤ a := ⟨Int.ediv_nonneg ha.1 hb.1, Int.ediv_le_self _ ha.1⟩
theorem stop_any (h l : Int) (w : World) :
    Calls Tryz.prog 170 #[.int .u64 h, .int .u64 l] w fun e w' => e = .returned (.int .u64 (stopV h l)) ∧ w = w' := by
  by_cases c : h = 0
  · subst c
    have e : stopV 0 l = l := by simp [stopV]
    rw [e]; clear e
    go_enter Tryz.func170, Tryz.ntmps170
    go_wp2
    go_ret
    exact ⟨rfl, rfl⟩
  · have e : stopV h l = 18446744073709551615 := by simp [stopV, c]
    rw [e]; clear e
    have c1 : (h == 0) = false := by simpa using c
    have c2 : (h != 0) = true := by simpa using c
    go_enter Tryz.func170, Tryz.ntmps170
    go_wp2
    go_ret
    exact ⟨rfl, rfl⟩
theorem num_mul (a b : Int) (w : World) (ha : U a) (hb : U b) :
    Calls Tryz.prog 135 #[.int .u64 a, .int .u64 b] w fun e w' => e = .returned (.int .u64 (sat (a * b))) ∧ Kept w w' := by
  rw [← stop_mul a b ha hb]
  go_enter Tryz.func135, Tryz.ntmps135
  go_wp2_with (first
    | (go_at_call 176; ((with_reducible refine (mul_any _ _ _ ha hb).mono ?_); rintro e w' ⟨rfl, gw⟩))
    | (go_at_call 170; ((with_reducible refine (stop_any _ _ _).mono ?_); rintro e w'' ⟨rfl, rfl⟩)))
  go_ret
  exact ⟨rfl, gw⟩
/-- The bytes of a text. -/
abbrev lb (s : ByteArray) : List UInt8 := s.data.toList
attribute [local go_sem] Oper.semAt_some
theorem kbq {w a b : World} (h : Below w.heap.size w a) (g : Below a.heap.size a b) : Below w.heap.size w b := h.trans (g.mono h.size)
/-- Is a byte visible? -/
def visB (c : Int) : Bool := decide (33 ≤ c ∧ c ≤ 126)
/-- May a key be? -/
def rtB (l : List UInt8) : Bool := decide (1 ≤ l.length ∧ l.length ≤ 128) && l.all (fun c => visB (c.toNat : Int))
theorem celln {w w' : World} (h : Below w.heap.size w w') {b o : Nat} {v : Value} (c : w.cell? ⟨b, o, none⟩ = some v) : w'.cell? ⟨b, o, none⟩ = some v := by
  have hb : b < w.heap.size := by
    by_cases hb : b < w.heap.size
    · exact hb
    · simp [World.cell?, hb] at c
  exact (h.cell (p := ⟨b, o, none⟩) hb).trans c
theorem dcell {w : World} {p : Addr} {v : Value} (c : w.cell? p = some v) : w.drew.cell? p = some v := c
theorem U_zero : U 0 := ⟨by omega, by omega⟩
/-- A callee that leaves the world alone, inside a region that draws. -/
theorem still_call {P : Program} {f : FuncId} {args : Array Value} {w : World} {n : Nat} {v : Value} (h : Calls P f args (w.drewN n) fun e w' => e = .returned v ∧ w.drewN n = w') :
    Calls P f args (w.drewN n) fun e w' => e = .returned v ∧ ∃ m, w' = w.drewN m := h.mono fun _ _ k => ⟨k.1, n, k.2.symm⟩
theorem Kept.reads {w w' : World} (h : Kept w w') : (∀ b o, b < w.heap.size → w'.cell? ⟨b, o, none⟩ = w.cell? ⟨b, o, none⟩) ∧ (∀ b o, b < w.heap.size → w'.frozen? ⟨b, o, none⟩ = w.frozen? ⟨b, o, none⟩) :=
  ⟨fun b o hb => h.2.cell (p := ⟨b, o, none⟩) hb, fun b o hb => h.2.frozen (p := ⟨b, o, none⟩) hb⟩
theorem Kept.size {w w' : World} (h : Kept w w') : w.heap.size ≤ w'.heap.size := h.2.size
theorem Kept.setCell {w w' : World} (h : Kept w w') {a : Addr} (ha : w.heap.size ≤ a.block) (v : Value) : Kept w (w'.setCell a v) := ⟨h.1.setCell ha v, h.2.setCell ha v⟩
theorem Kept.cell {w w' : World} (h : Kept w w') {b o : Nat} {v : Value} (c : w.cell? ⟨b, o, none⟩ = some v) : w'.cell? ⟨b, o, none⟩ = some v := by
  have hb : b < w.heap.size := by
    by_cases hb : b < w.heap.size
    · exact hb
    · simp [World.cell?, hb] at c
  exact (h.2.cell (p := ⟨b, o, none⟩) hb).trans c
/-- A state, as a value. -/
abbrev sta (k a b : Int) : Value := .agg #[.int .u8 k, .int .u64 a, .int .u64 b]
/-- A rule, as a value. -/
abbrev rul (p : ByteArray) (e b k : Int) : Value := .agg #[.string p, .int .u64 e, .int .u64 b, .int .u8 k]
/-- May a prefix be? -/
def pfB (p : ByteArray) : Bool := decide (p.size = 0) || rtB (lb p)
theorem num_quot (a b : Int) (w : World) (ha : U a) (hb : U b) :
    Calls Tryz.prog 216 #[.int .u64 a, .int .u64 b] w fun e w' => e = .returned (.tuple #[.int .u64 (dvI a b), .int .u64 (lfI a b)]) ∧ Drew w w' := by
  by_cases c : b = 0
  · subst c
    have e : dvI a 0 = 18446744073709551615 := by simp [dvI]
    have e2 : lfI a 0 = 0 := by simp [lfI]
    rw [e, e2]; clear e e2
    go_enter Tryz.func216, Tryz.ntmps216
    go_wp2
    go_ret2
    exact ⟨rfl, Drew.refl _⟩
  · have e : dvI a b = a / b := by simp [dvI, c]
    have e2 : lfI a b = a % b := by simp [lfI, c]
    rw [e, e2]; clear e e2
    have c1 : (b == 0) = false := by simpa using c
    have d := div_le_of a b ha hb
    unfold U at *
    go_enter Tryz.func216, Tryz.ntmps216
    go_wp2
    go_quiet (fail)
    go_wp2
    go_ret2
    exact ⟨rfl, Drew.of _ _⟩
/-- A rule, as data. -/
structure Rl where
  p : ByteArray
  e : Int
  b : Int
  k : Int
abbrev Rl.v (r : Rl) : Value := rul r.p r.e r.b r.k
/-- A rule lies in four cells. -/
def R4 (w : World) (B o : Nat) (r : Rl) : Prop := w.cell? ⟨B, o, none⟩ = some (.string r.p) ∧ w.cell? ⟨B, o + 1, none⟩ = some (.int .u64 r.e) ∧ w.cell? ⟨B, o + 2, none⟩ = some (.int .u64 r.b) ∧ w.cell? ⟨B, o + 3, none⟩ = some (.int .u8 r.k)
/-- Four cells may be written. -/
def S4 (w : World) (B o : Nat) : Prop := w.frozen? ⟨B, o, none⟩ = false ∧ w.frozen? ⟨B, o + 1, none⟩ = false ∧ w.frozen? ⟨B, o + 2, none⟩ = false ∧ w.frozen? ⟨B, o + 3, none⟩ = false
theorem R4.of_block {w w' : World} {B o : Nat} {r : Rl} (h : R4 w B o r) (e : w'.heap[B]? = w.heap[B]?) : R4 w' B o r :=
  ⟨(World.cell?_of_block (w := w) e).trans h.1, (World.cell?_of_block (w := w) e).trans h.2.1, (World.cell?_of_block (w := w) e).trans h.2.2.1, (World.cell?_of_block (w := w) e).trans h.2.2.2⟩
theorem S4.of_block {w w' : World} {B o : Nat} (h : S4 w B o) (e : w'.heap[B]? = w.heap[B]?) : S4 w' B o :=
  ⟨(World.frozen?_of_block (w := w) e).trans h.1, (World.frozen?_of_block (w := w) e).trans h.2.1, (World.frozen?_of_block (w := w) e).trans h.2.2.1, (World.frozen?_of_block (w := w) e).trans h.2.2.2⟩
theorem cell_lt {w : World} {b o : Nat} {v : Value} (h : w.cell? ⟨b, o, none⟩ = some v) : b < w.heap.size := by
  by_cases hb : b < w.heap.size
  · exact hb
  · simp [World.cell?, hb] at h
theorem cs_other (W : World) (B o : Nat) (v : Value) (B2 o2 : Nat) (h : B2 ≠ B ∨ o2 ≠ o) : (W.setCell ⟨B, o, none⟩ v).cell? ⟨B2, o2, none⟩ = W.cell? ⟨B2, o2, none⟩ :=
  World.cell?_setCell_other _ _ _ _ (fun e => by injection e with e1 e2; omega)
theorem text_same {a b : ByteArray} : (a.toList == b.toList) = decide (a = b) := by
  by_cases h : a = b
  · subst h; simp
  · rw [decide_eq_false h, ← Bool.not_eq_true, beq_iff_eq]
    intro g
    rw [ByteArray.toList_eq, ByteArray.toList_eq] at g
    exact h (by cases a; cases b; simpa using g)
/-- A place to halt a walk at. -/
def Stop (p : Prop) : Prop := p
theorem stopHere {p : Prop} (h : Stop p) : p := h
abbrev rl0 : Rl := ⟨⟨#[]⟩, 0, 0, 0⟩
/-- A rule that can be handed on. -/
structure Okr (r : Rl) : Prop where
  p : r.p.size ≤ 281474976710656
  e : U r.e
  b : U r.b
  k : 0 ≤ r.k ∧ r.k ≤ 255
abbrev Rl.cs (r : Rl) : List Value := [.string r.p, .int .u64 r.e, .int .u64 r.b, .int .u8 r.k]
theorem acell {w : World} {o : Obj} {b i : Nat} {v : Value} (h : w.cell? ⟨b, i, none⟩ = some v) : (w.alloc o).cell? ⟨b, i, none⟩ = some v := celln ((Below.refl _ w).alloc (Nat.le_refl _) o) h
theorem heap_lt {w : World} {b : Nat} {o : Obj} (h : w.heap[b]? = some o) : b < w.heap.size := (Array.getElem?_eq_some_iff.1 h).1
theorem fz_of {w : World} {b : Nat} {cs : Array Value} {t : TypeId} (h : w.heap[b]? = some (.cells cs t)) (i : Nat) : w.frozen? ⟨b, i, none⟩ = false := by simp [World.frozen?, h]
/-- A block whose cells are known. -/
def Blk (w : World) (b : Nat) (cs : Array Value) (t : TypeId) : Prop := w.heap[b]? = some (.cells cs t)
theorem Blk.cell {w : World} {b : Nat} {cs : Array Value} {t : TypeId} (h : Blk w b cs t) (i : Nat) : w.cell? ⟨b, i, none⟩ = cs[i]? := by
  have h' : w.heap[b]? = some (.cells cs t) := h
  simp [World.cell?, h']
theorem Blk.fz {w : World} {b : Nat} {cs : Array Value} {t : TypeId} (h : Blk w b cs t) (i : Nat) : w.frozen? ⟨b, i, none⟩ = false := fz_of h i
theorem Blk.new (w : World) (cs : Array Value) (t : TypeId) : Blk (w.alloc (.cells cs t)) w.heap.size cs t := World.alloc_heap_new w _
theorem Blk.lt {w : World} {b : Nat} {cs : Array Value} {t : TypeId} (h : Blk w b cs t) : b < w.heap.size := heap_lt h
theorem Blk.under {w w' : World} {b N : Nat} {cs : Array Value} {t : TypeId} (h : Blk w b cs t) (g : Below N w w') (hN : b < N) : Blk w' b cs t := (g.block b hN).trans h
theorem Blk.below {w w' : World} {b : Nat} {cs : Array Value} {t : TypeId} (h : Blk w b cs t) (g : Below w.heap.size w w') : Blk w' b cs t := h.under g h.lt
theorem Blk.alloc {w : World} {b : Nat} {cs : Array Value} {t : TypeId} (h : Blk w b cs t) (o : Obj) : Blk (w.alloc o) b cs t := h.below ((Below.refl _ w).alloc (Nat.le_refl _) o)
theorem Blk.set {w : World} {b : Nat} {cs : Array Value} {t : TypeId} (h : Blk w b cs t) (i : Nat) (v : Value) : Blk (w.setCell ⟨b, i, none⟩ v) b (cs.setIfInBounds i v) t := by
  have h' : w.heap[b]? = some (.cells cs t) := h
  obtain ⟨hlt, e⟩ := Array.getElem?_eq_some_iff.1 h'
  show (w.heap.modify b _)[b]? = some _
  rw [Array.getElem?_eq_getElem (by rw [Array.size_modify]; exact hlt), Array.getElem_modify_self, e]
  rfl
theorem Blk.other {w : World} {b c : Nat} {cs : Array Value} {t : TypeId} (h : Blk w b cs t) (i : Nat) (v : Value) (hc : b ≠ c) : Blk (w.setCell ⟨c, i, none⟩ v) b cs t := (Below.heap_setCell _ _ _ _ hc).trans h
/-- All lies as it lay, but for some blocks, and new ones. -/
structure Tch (S : Nat → Prop) (w w' : World) : Prop where
  os : w'.os = w.os
  tape : w'.tape = w.tape
  output : w'.output = w.output
  size : w.heap.size ≤ w'.heap.size
  block : ∀ k, k < w.heap.size → ¬ S k → w'.heap[k]? = w.heap[k]?
theorem Tch.refl (S : Nat → Prop) (w : World) : Tch S w w := ⟨rfl, rfl, rfl, Nat.le_refl _, fun _ _ _ => rfl⟩
theorem Tch.trans {S : Nat → Prop} {a b c : World} (h : Tch S a b) (k : Tch S b c) : Tch S a c :=
  ⟨k.os.trans h.os, k.tape.trans h.tape, k.output.trans h.output, Nat.le_trans h.size k.size, fun i hi hn => (k.block i (Nat.lt_of_lt_of_le hi h.size) hn).trans (h.block i hi hn)⟩
theorem Tch.mono {S S' : Nat → Prop} {a b : World} (h : Tch S a b) (hs : ∀ k, k < a.heap.size → S k → S' k) : Tch S' a b := ⟨h.os, h.tape, h.output, h.size, fun k hk hn => h.block k hk (fun e => hn (hs k hk e))⟩
theorem Tch.of {S : Nat → Prop} {a b : World} (h : Below a.heap.size a b) : Tch S a b := ⟨h.os, h.tape, h.output, h.size, fun k hk _ => h.block k hk⟩
theorem Tch.below {S : Nat → Prop} {a b : World} {N : Nat} (h : Tch S a b) (hN : N ≤ a.heap.size) (hs : ∀ k, S k → N ≤ k) : Below N a b := ⟨h.os, h.tape, h.output, h.size, fun k hk => h.block k (by omega) (fun e => by have := hs k e; omega)⟩
theorem Tch.set {S : Nat → Prop} (w : World) (b i : Nat) (v : Value) (hb : S b) : Tch S w (w.setCell ⟨b, i, none⟩ v) :=
  ⟨rfl, rfl, rfl, by simp [World.setCell], fun k _ hn => Below.heap_setCell _ _ _ _ (fun e => hn (by rw [e]; exact hb))⟩
theorem Tch.put {S : Nat → Prop} (w : World) (b : Nat) (o : Obj) (hb : S b) : Tch S w (w.putObj b o) :=
  ⟨rfl, rfl, rfl, by simp, fun k _ hn => World.putObj_heap_other (fun e => hn (by rw [e]; exact hb))⟩
theorem Tch.blk {S : Nat → Prop} {a b : World} (h : Tch S a b) {k : Nat} {cs : Array Value} {t : TypeId} (hb : Blk a k cs t) (hk : ¬ S k) : Blk b k cs t := (h.block k hb.lt hk).trans hb
/-- Two places exchanged. -/
def xch (f : Nat → Nat) (i j : Nat) : Nat → Nat := fun k => if k = i then f j else if k = j then f i else f k
/-- What comes of f by exchanges between a and b. -/
inductive Mv (a b : Nat) (f : Nat → Nat) : (Nat → Nat) → Prop
  | refl : Mv a b f f
  | xch {g : Nat → Nat} (i j : Nat) (h : Mv a b f g) (hi : a ≤ i) (hib : i < b) (hj : a ≤ j) (hjb : j < b) : Mv a b f (xch g i j)
theorem Mv.trans {a b : Nat} {f g h : Nat → Nat} (x : Mv a b f g) (y : Mv a b g h) : Mv a b f h := by
  induction y with
  | refl => exact x
  | xch i j _ hi hib hj hjb ih => exact .xch i j ih hi hib hj hjb
theorem Mv.mono {a b a' b' : Nat} {f g : Nat → Nat} (x : Mv a b f g) (ha : a' ≤ a) (hb : b ≤ b') : Mv a' b' f g := by
  induction x with
  | refl => exact .refl
  | xch i j _ hi hib hj hjb ih => exact .xch i j ih (by omega) (by omega) (by omega) (by omega)
theorem Mv.out {a b : Nat} {f g : Nat → Nat} (x : Mv a b f g) (k : Nat) (hk : k < a ∨ b ≤ k) : g k = f k := by
  induction x with
  | refl => rfl
  | xch i j _ hi hib hj hjb ih => simp only [Wd.xch]; rw [if_neg (by omega), if_neg (by omega)]; exact ih
theorem Mv.back {a b : Nat} {f g : Nat → Nat} (x : Mv a b f g) : ∀ k, a ≤ k → k < b → ∃ j, a ≤ j ∧ j < b ∧ g k = f j := by
  induction x with
  | refl => exact fun k h1 h2 => ⟨k, h1, h2, rfl⟩
  | xch i j _ hi hib hj hjb ih =>
    intro k h1 h2
    simp only [Wd.xch]
    by_cases c : k = i
    · rw [if_pos c]; exact ih j hj hjb
    · rw [if_neg c]
      by_cases d : k = j
      · rw [if_pos d]; exact ih i hi hib
      · rw [if_neg d]; exact ih k h1 h2
def Inj (f : Nat → Nat) : Prop := ∀ i j, f i = f j → i = j
theorem Mv.inj {a b : Nat} {f g : Nat → Nat} (x : Mv a b f g) (hf : Inj f) : Inj g := by
  induction x with
  | refl => exact hf
  | @xch g' i j _ hi hib hj hjb ih =>
    intro p q e
    have tau : ∀ k, Wd.xch g' i j k = g' (if k = i then j else if k = j then i else k) := by
      intro k; unfold Wd.xch
      by_cases c : k = i
      · rw [if_pos c, if_pos c]
      · rw [if_neg c, if_neg c]
        by_cases d : k = j
        · rw [if_pos d, if_pos d]
        · rw [if_neg d, if_neg d]
    rw [tau, tau] at e
    have h := ih _ _ e
    by_cases c : p = i
    · rw [if_pos c] at h
      by_cases d : q = i
      · omega
      · rw [if_neg d] at h
        by_cases d2 : q = j
        · rw [if_pos d2] at h; omega
        · rw [if_neg d2] at h; omega
    · rw [if_neg c] at h
      by_cases c2 : p = j
      · rw [if_pos c2] at h
        by_cases d : q = i
        · rw [if_pos d] at h; omega
        · rw [if_neg d] at h
          by_cases d2 : q = j
          · omega
          · rw [if_neg d2] at h; omega
      · rw [if_neg c2] at h
        by_cases d : q = i
        · rw [if_pos d] at h; omega
        · rw [if_neg d] at h
          by_cases d2 : q = j
          · rw [if_pos d2] at h; omega
          · rw [if_neg d2] at h; exact h
theorem Mv.bound {a b n : Nat} {f g : Nat → Nat} (x : Mv a b f g) (hb : b ≤ n) (hf : ∀ i, i < n → f i < n) : ∀ i, i < n → g i < n := by
  induction x with
  | refl => exact hf
  | xch i j _ hi hib hj hjb ih =>
    intro k hk
    simp only [Wd.xch]
    split
    · exact ih _ (by omega)
    · split
      · exact ih _ (by omega)
      · exact ih _ hk
theorem num_ceil (a b : Int) (w : World) (ha : U a) (hb : U b) :
    Calls Tryz.prog 179 #[.int .u64 a, .int .u64 b] w fun e w' => e = .returned (.int .u64 (clI a b)) ∧ Drew w w' := by
  have q := num_quot a b w ha hb
  by_cases c : lfI a b = 0
  · have e : clI a b = dvI a b := by unfold lfI clI dvI at *; by_cases h : b = 0 <;> simp [h] at c ⊢; omega
    rw [e]; clear e
    rw [c] at q
    clear c
    generalize dvI a b = d at *
    go_enter Tryz.func179, Tryz.ntmps179
    go_wp2_with (go_at_call 216; ((with_reducible refine q.mono ?_); rintro e w' ⟨rfl, gw⟩))
    go_ret
    exact ⟨rfl, gw⟩
  · have hb0 : b ≠ 0 := by intro h; apply c; simp [lfI, h]
    have e : clI a b = dvI a b + 1 := by simp [lfI, hb0] at c; simp [clI, dvI, hb0]; omega
    have c1 : (lfI a b == 0) = false := by simpa using c
    have hd : 0 ≤ dvI a b ∧ dvI a b ≤ 18446744073709551614 := by
      have e2 : dvI a b = a / b := by simp [dvI, hb0]
      have e3 : lfI a b = a % b := by simp [lfI, hb0]
      rw [e2]; rw [e3] at c
      have h0 := div_le_of a b ha hb
      have h1 := Int.mul_ediv_add_emod a b
      unfold U at *
      have h2 := Int.emod_nonneg a hb0
      have h3 : 1 * (a / b) ≤ b * (a / b) := Int.mul_le_mul_of_nonneg_right (by omega) h0.1
      omega
    rw [e]; clear e c
    generalize dvI a b = d at *
    generalize lfI a b = r at *
    go_enter Tryz.func179, Tryz.ntmps179
    go_wp2_with (go_at_call 216; ((with_reducible refine q.mono ?_); rintro e w' ⟨rfl, gw⟩))
    go_ret
    exact ⟨rfl, gw⟩
end Go.Proofs.YtbejkcdaefkibaaGreat.Wd
namespace Go.Proofs.YtbejkcdaefkibaaGreat.Wd
open Go Go.RowKit Go.Shelf Go.Deep
set_option linter.unusedVariables false
set_option maxRecDepth 100000
theorem Drew.kept {a b : World} (h : Drew a b) : Kept a b := by obtain ⟨n, rfl⟩ := h; exact (Kept.refl a).drewN n
def ltB (ah al bh bl : Int) : Bool := decide (ah < bh ∨ (ah = bh ∧ al < bl))
def adL (al bl : Int) : Int := (al + bl) % 18446744073709551616
def adH (ah al bh bl : Int) : Int := (ah + bh + (al + bl) / 18446744073709551616) % 18446744073709551616
def adC (ah al bh bl : Int) : Bool := decide (18446744073709551616 ≤ ah + bh + (al + bl) / 18446744073709551616)
theorem less_any (ah al bh bl : Int) (w : World) :
    Calls Tryz.prog 215 #[.int .u64 ah, .int .u64 al, .int .u64 bh, .int .u64 bl] w fun e w' => e = .returned (.bool (ltB ah al bh bl)) ∧ w = w' := by
  by_cases h : ah = bh
  · subst h
    have e : ltB ah al ah bl = decide (al < bl) := by simp [ltB]
    rw [e]
    clear e
    go_enter Tryz.func215, Tryz.ntmps215
    go_wp2
    all_goals (go_ret; exact ⟨rfl, rfl⟩)
  · have e : ltB ah al bh bl = decide (ah < bh) := by simp [ltB, h]
    rw [e]
    clear e
    go_enter Tryz.func215, Tryz.ntmps215
    go_wp2
    all_goals (go_ret; exact ⟨rfl, rfl⟩)
theorem addCarry_any (a b c : Int) (w : World) (ha : 0 ≤ a ∧ a ≤ 18446744073709551615) (hb : 0 ≤ b ∧ b ≤ 18446744073709551615) (hc : 0 ≤ c ∧ c ≤ 1) :
    Calls Tryz.prog 210 #[.int .u64 a, .int .u64 b, .int .u64 c] w fun e w' => e = .returned (.tuple #[.int .u64 ((a + b + c) % 18446744073709551616), .int .u64 ((a + b + c) / 18446744073709551616)]) ∧ w = w' := by
  go_enter Tryz.func210, Tryz.ntmps210
  go_wp2
  all_goals (go_ret2; refine ⟨ret2 ?_ ?_, rfl⟩ <;> (simp only [IntKind.wrap_u64] at *; omega))
theorem ret3 {k m : IntKind} {a b c d : Int} {p q : Bool} (h : a = b) (h' : c = d) (h'' : p = q) : Ending.returned (.tuple #[.int k a, .int m c, .bool p]) = .returned (.tuple #[.int k b, .int m d, .bool q]) := by rw [h, h', h'']
theorem add_any (ah al bh bl : Int) (w : World) (h1 : U ah) (h2 : U al) (h3 : U bh) (h4 : U bl) :
    Calls Tryz.prog 169 #[.int .u64 ah, .int .u64 al, .int .u64 bh, .int .u64 bl] w fun e w' => e = .returned (.tuple #[.int .u64 (adH ah al bh bl), .int .u64 (adL al bl), .bool (adC ah al bh bl)]) ∧ w = w' := by
  unfold U at *
  go_enter Tryz.func169, Tryz.ntmps169
  go_wp2_with (go_at_call 210; refine (addCarry_any _ _ _ _ (by omega) (by omega) (by omega)).mono ?_; rintro e w' ⟨rfl, rfl⟩)
  go_ret3
  refine ⟨ret3 rfl rfl ?_, rfl⟩
  rw [Bool.eq_iff_iff]
  unfold adC
  simp only [beq_iff_eq, decide_eq_true_eq]
  omega
def addAll (xs : List Int) : Int := xs.foldl (fun s x => sat (s + x)) 0
def ftB (a b c : Int) : Bool := decide (a + b ≤ c)
theorem stop_add (s x : Int) (hs : U s) (hx : U x) : stopV (adH 0 s 0 x) (adL s x) = sat (s + x) := by
  unfold U at *; unfold stopV adH adL sat; split <;> split <;> omega
theorem fits_less (a b c : Int) (ha : U a) (hb : U b) (hc : U c) : (!ltB 0 c (adH 0 a 0 b) (adL a b)) = ftB a b c := by
  unfold U at *
  unfold ltB adH adL ftB
  rw [Bool.eq_iff_iff]
  simp only [Bool.not_eq_true', decide_eq_false_iff_not, decide_eq_true_eq]
  omega
theorem addAll_snoc (xs : List Int) (x : Int) : addAll (xs ++ [x]) = sat (addAll xs + x) := by unfold addAll; rw [List.foldl_append]; rfl
theorem addAll_take (xs : List Int) (k : Nat) (hk : k < xs.length) : addAll (xs.take (k + 1)) = sat (addAll (xs.take k) + xs.getD k 0) := by
  rw [List.take_succ_eq_append_getElem hk, addAll_snoc]
  congr 2
  simp [List.getD, List.getElem?_eq_getElem hk]
theorem addAll_from (xs : List Int) (s : Int) (hs : U s) (hx : ∀ x ∈ xs, U x) : xs.foldl (fun s x => sat (s + x)) s = sat (s + xs.sum) := by
  induction xs generalizing s with
  | nil => simp; unfold sat U at *; split <;> omega
  | cons x xs ih =>
    have h1 := hx x (by simp)
    rw [List.foldl_cons, ih _ (sat_U _ (by unfold U at *; omega)) (fun y hy => hx y (by simp [hy]))]
    have h2 : 0 ≤ xs.sum := by
      clear ih
      induction xs with
      | nil => simp
      | cons y ys ih2 =>
        have := ih2 (fun z hz => hx z (by simp at hz ⊢; rcases hz with h | h; exact .inl h; exact .inr (.inr h)))
        have := hx y (by simp)
        unfold U at *
        simp; omega
    unfold U at *
    rw [List.sum_cons]
    unfold sat; split <;> split <;> split <;> omega
theorem addAll_sum (xs : List Int) (hx : ∀ x ∈ xs, U x) : addAll xs = sat xs.sum := by
  unfold addAll
  rw [addAll_from xs 0 (by unfold U; omega) hx]
  simp
theorem sum_nonneg (xs : List Int) (hx : ∀ x ∈ xs, U x) : 0 ≤ xs.sum := by
  induction xs with
  | nil => simp
  | cons y ys ih =>
    have := ih (fun z hz => hx z (by simp [hz]))
    have := hx y (by simp)
    unfold U at *
    simp; omega
theorem addAll_U (xs : List Int) (hx : ∀ x ∈ xs, U x) : U (addAll xs) := by
  rw [addAll_sum xs hx]; exact sat_U _ (sum_nonneg xs hx)
theorem addAll_two (a b : Int) (ha : U a) : addAll [a, b] = sat (a + b) := by
  unfold addAll
  simp
  unfold U at *
  unfold sat; split <;> split <;> (try split) <;> omega
theorem Kept.allocMap {a b : World} (h : Kept a b) (es : Array MapEntry) (c : Nat) : Kept a (b.alloc (.map es c)) := ⟨h.1.allocMap es c, h.2.alloc h.2.size _⟩
/-- The three fields of a kernel. -/
abbrev kern (f g h : FuncId) : Value := .agg #[.func (Fn.func f) #[] #[], .func (Fn.func g) #[] #[], .func (Fn.func h) #[] #[]]
abbrev kern1 : Value := kern 201 202 203
abbrev kern2 : Value := kern 204 205 206
abbrev kern3 : Value := kern 207 208 209
theorem setBlock_new (w : World) (o o' : Obj) : ({ (w.alloc o) with heap := (w.alloc o).heap.setIfInBounds w.heap.size o' } : World) = w.alloc o' := by
  have e : (w.heap.push o).setIfInBounds w.heap.size o' = w.heap.push o' := by simp [Array.setIfInBounds, Array.set_push]
  show ({ w with heap := (w.heap.push o).setIfInBounds w.heap.size o' } : World) = { w with heap := w.heap.push o' }
  rw [e]
theorem run_put_new (w : World) (es : Array MapEntry) (c : Nat) (a : Int) (v : Value) (hn : Instr.findNow (.int .u8) (.int .u8 a) es.toList 0 = some none) :
    (Instr.mapUpdate 233 (.map (some w.heap.size)) (.int .u8 a) v).run Tryz.prog (w.alloc (.map es c)) = .ok () (w.alloc (.map (es.push ⟨.int .u8 a, v, c⟩) (c + 1))) := by
  have hb : (w.alloc (.map es c)).heap[w.heap.size]? = some (.map es c) := (MapKept.heap_alloc w _).1
  simp [Instr.mapUpdate, run_underlying Tryz.underlying233, MapKept.run_getObj_map hb, MapKept.run_checkKey Tryz.underlying5 (d := .int .u8) (k := .int .u8 a) rfl, MapKept.run_findKey Tryz.underlying5 hn, MapKept.run_setObj_map _ hb, Result.andThen]
  exact setBlock_new w _ _
def kerMap : Obj := .map #[⟨.int .u8 1, kern1, 0⟩, ⟨.int .u8 2, kern2, 1⟩, ⟨.int .u8 3, kern3, 2⟩] 3
theorem kernels_any (w : World) :
    Calls Tryz.prog 168 #[] w fun e w' => e = .returned (.map (some w.heap.size)) ∧ w' = w.alloc kerMap := by
  have hmm := @run_makeMap Tryz.prog
  have h1 := run_put_new w #[] 0 1 kern1 rfl
  have h2 := run_put_new w #[⟨.int .u8 1, kern1, 0⟩] 1 2 kern2 rfl
  have h3 := run_put_new w #[⟨.int .u8 1, kern1, 0⟩, ⟨.int .u8 2, kern2, 1⟩] 2 3 kern3 rfl
  simp only [List.push_toArray, List.cons_append, List.nil_append] at h1 h2 h3
  go_enter Tryz.func168, Tryz.ntmps168
  go_wp2
  go_ret
  exact ⟨rfl, rfl⟩
theorem run_look (w : World) (b : Nat) (k : Int) (v : Value) (is : Bool) (hb : w.heap[b]? = some kerMap) (h : (k = 1 ∧ v = kern1 ∧ is = true) ∨ (k = 2 ∧ v = kern2 ∧ is = true) ∨ (k = 3 ∧ v = kern3 ∧ is = true) ∨ (¬ (1 ≤ k ∧ k ≤ 3) ∧ v = .agg #[.nilFunc, .nilFunc, .nilFunc] ∧ is = false)) :
    (Instr.lookup 233 (.map (some b)) (.int .u8 k) true).run Tryz.prog w = .ok (.tuple #[v, .bool is]) w := by
  unfold kerMap at hb
  rcases h with ⟨rfl, rfl, rfl⟩ | ⟨rfl, rfl, rfl⟩ | ⟨rfl, rfl, rfl⟩ | ⟨hk, rfl, rfl⟩
  · have hn : Instr.findNow (.int .u8) (.int .u8 1) [⟨.int .u8 1, kern1, 0⟩, ⟨.int .u8 2, kern2, 1⟩, ⟨.int .u8 3, kern3, 2⟩] 0 = some (some (0, kern1)) := rfl
    simp [Instr.lookup, run_underlying Tryz.underlying233, MapKept.run_getObj_map hb, MapKept.run_checkKey Tryz.underlying5 (d := .int .u8) (k := .int .u8 1) rfl, MapKept.run_findKey Tryz.underlying5 hn, Result.andThen]
  · have hn : Instr.findNow (.int .u8) (.int .u8 2) [⟨.int .u8 1, kern1, 0⟩, ⟨.int .u8 2, kern2, 1⟩, ⟨.int .u8 3, kern3, 2⟩] 0 = some (some (1, kern2)) := rfl
    simp [Instr.lookup, run_underlying Tryz.underlying233, MapKept.run_getObj_map hb, MapKept.run_checkKey Tryz.underlying5 (d := .int .u8) (k := .int .u8 2) rfl, MapKept.run_findKey Tryz.underlying5 hn, Result.andThen]
  · have hn : Instr.findNow (.int .u8) (.int .u8 3) [⟨.int .u8 1, kern1, 0⟩, ⟨.int .u8 2, kern2, 1⟩, ⟨.int .u8 3, kern3, 2⟩] 0 = some (some (2, kern3)) := rfl
    simp [Instr.lookup, run_underlying Tryz.underlying233, MapKept.run_getObj_map hb, MapKept.run_checkKey Tryz.underlying5 (d := .int .u8) (k := .int .u8 3) rfl, MapKept.run_findKey Tryz.underlying5 hn, Result.andThen]
  · have hn : Instr.findNow (.int .u8) (.int .u8 k) [⟨.int .u8 1, kern1, 0⟩, ⟨.int .u8 2, kern2, 1⟩, ⟨.int .u8 3, kern3, 2⟩] 0 = some none := by
      have h1 : (k == 1) = false := by simp; omega
      have h2 : (k == 2) = false := by simp; omega
      have h3 : (k == 3) = false := by simp; omega
      simp [Instr.findNow, Instr.sameNow, h1, h2, h3]
    simp [Instr.lookup, run_underlying Tryz.underlying233, MapKept.run_getObj_map hb, MapKept.run_checkKey Tryz.underlying5 (d := .int .u8) (k := .int .u8 k) rfl, MapKept.run_findKey Tryz.underlying5 hn, Result.andThen]
/-- Is it a kernel? -/
def isK (k : Int) : Bool := decide (1 ≤ k ∧ k ≤ 3)
def kerV (k : Int) : Value := if k = 1 then kern1 else if k = 2 then kern2 else if k = 3 then kern3 else .agg #[.nilFunc, .nilFunc, .nilFunc]
theorem run_look_any (w : World) (b : Nat) (k : Int) (hb : w.heap[b]? = some kerMap) :
    (Instr.lookup 233 (.map (some b)) (.int .u8 k) true).run Tryz.prog w = .ok (.tuple #[kerV k, .bool (isK k)]) w := by
  refine run_look w b k _ _ hb ?_
  unfold kerV isK
  by_cases h1 : k = 1
  · subst h1; left; simp
  by_cases h2 : k = 2
  · subst h2; right; left; simp
  by_cases h3 : k = 3
  · subst h3; right; right; left; simp
  right; right; right
  simp [h1, h2, h3]; omega
theorem kernels_new (w : World) :
    Calls Tryz.prog 168 #[] w fun e w' => ∃ p : Nat, e = .returned (.map (some p)) ∧ Kept w w' ∧ ∀ k w2, Kept w' w2 → (Instr.lookup 233 (.map (some p)) (.int .u8 k) true).run Tryz.prog w2 = .ok (.tuple #[kerV k, .bool (isK k)]) w2 := by
  refine (kernels_any w).mono ?_
  rintro e w' ⟨rfl, rfl⟩
  exact ⟨_, rfl, (Kept.refl w).allocMap _ _, fun k w2 h => run_look_any _ _ _ ((h.2.block _ (by simp)).trans (MapKept.heap_alloc w _).1)⟩
theorem kerV_no (k : Int) (h : isK k = false) : kerV k = .agg #[.nilFunc, .nilFunc, .nilFunc] := by
  unfold isK at h; simp at h
  unfold kerV; rw [if_neg (by omega), if_neg (by omega), if_neg (by omega)]
theorem isK_yes (k : Int) (h : isK k = true) : k = 1 ∨ k = 2 ∨ k = 3 := by
  unfold isK at h; simp at h; omega
theorem right_core (k : Int) (f g h : Value) (is : Bool) (w : World) (e0 : kerV k = .agg #[f, g, h]) (e1 : isK k = is)
    (hf : f = .nilFunc ∧ g = .nilFunc ∧ h = .nilFunc ∨ ∃ a b c : FuncId, f = .func (Fn.func a) #[] #[] ∧ g = .func (Fn.func b) #[] #[] ∧ h = .func (Fn.func c) #[] #[]) :
    Calls Tryz.prog 171 #[.int .u8 k] w fun e w' => e = .returned (.bool is) ∧ Kept w w' := by
  rcases hf with ⟨rfl, rfl, rfl⟩ | ⟨a, b, c, rfl, rfl, rfl⟩
  all_goals
    go_enter Tryz.func171, Tryz.ntmps171
    go_wp2_with (go_at_call 168; ((with_reducible refine (kernels_new _).mono ?_); rintro e w1 ⟨p, rfl, g1, hl⟩; replace hl := hl k _ (Kept.refl _); rw [e0, e1] at hl))
    go_ret
    exact ⟨rfl, g1.alloc _ _⟩
theorem knright_any (k : Int) (w : World) :
    Calls Tryz.prog 171 #[.int .u8 k] w fun e w' => e = .returned (.bool (isK k)) ∧ Kept w w' := by
  cases h : isK k
  · exact right_core k _ _ _ _ w (kerV_no k h) h (.inl ⟨rfl, rfl, rfl⟩)
  · rcases isK_yes k h with rfl | rfl | rfl
    · exact right_core 1 _ _ _ _ w rfl h (.inr ⟨_, _, _, rfl, rfl, rfl⟩)
    · exact right_core 2 _ _ _ _ w rfl h (.inr ⟨_, _, _, rfl, rfl, rfl⟩)
    · exact right_core 3 _ _ _ _ w rfl h (.inr ⟨_, _, _, rfl, rfl, rfl⟩)
theorem num_sub (a b : Int) (w : World) (ha : U a) (hb : U b) :
    Calls Tryz.prog 114 #[.int .u64 a, .int .u64 b] w fun e w' => e = .returned (.int .u64 (sbI a b)) ∧ w = w' := by
  unfold U at *
  by_cases c : a < b
  · have e : sbI a b = 0 := by simp [sbI, c]
    rw [e]; clear e
    go_enter Tryz.func114, Tryz.ntmps114
    go_wp2
    go_ret
    exact ⟨rfl, rfl⟩
  · have e : sbI a b = a - b := by simp [sbI, c]
    rw [e]; clear e
    go_enter Tryz.func114, Tryz.ntmps114
    go_wp2
    go_ret
    exact ⟨rfl, rfl⟩
theorem num_fits (a b c : Int) (w : World) (ha : U a) (hb : U b) (hc : U c) :
    Calls Tryz.prog 177 #[.int .u64 a, .int .u64 b, .int .u64 c] w fun e w' => e = .returned (.bool (ftB a b c)) ∧ w = w' := by
  rw [← fits_less a b c ha hb hc]
  go_enter Tryz.func177, Tryz.ntmps177
  go_wp2_with (first
    | (go_at_call 169; ((with_reducible refine (add_any _ _ _ _ _ U_zero ha U_zero hb).mono ?_); rintro e w' ⟨rfl, rfl⟩))
    | (go_at_call 215; ((with_reducible refine (less_any _ _ _ _ _).mono ?_); rintro e w' ⟨rfl, rfl⟩)))
  go_ret
  exact ⟨rfl, rfl⟩
theorem of_any (now cap fill : Int) (w : World) :
    Calls Tryz.prog 207 #[.int .u64 now, .int .u64 cap, .int .u64 fill] w fun e w' => e = .returned (sta 3 fill now) ∧ Kept w w' := by
  go_enter Tryz.func207, Tryz.ntmps207
  go_wp2
  exact bodyPost_ret (v := sta 3 fill now) (by simp [results, Tryz.results207, go_sem]) rfl ⟨rfl, (Kept.refl w).alloc _ _⟩
theorem at_any (k a b now : Int) (w : World) (ha : U a) (hb : U b) (hn : U now) :
    Calls Tryz.prog 255 #[.agg #[.int .u8 k, .int .u64 a, .int .u64 b], .int .u64 now] w fun e w' => e = .returned (.int .u64 (sbI a (sbI now b))) ∧ Kept w w' := by
  have h1 := sbI_U now b hn hb
  go_enter Tryz.func255, Tryz.ntmps255
  go_wp2
  go_quiet ((go_at_call 114; first | exact still_call (num_sub _ _ _ hn hb) | exact still_call (num_sub _ _ _ ha h1)))
  go_wp2
  go_ret
  exact ⟨rfl, ((Kept.refl w).alloc _ _).drewN _⟩
theorem reading_any (k a b : Int) (w : World) :
    Calls Tryz.prog 247 #[sta k a b] w fun e w' => e = .returned (.func (Fn.func 255) #[sta k a b] #[]) ∧ Kept w w' := by
  go_enter Tryz.func247, Tryz.ntmps247
  go_wp2
  go_ret
  exact ⟨rfl, (Kept.refl w).alloc _ _⟩
/-- How full a meter is. -/
def fiI (a b now : Int) : Int := sbI a (sbI now b)
theorem fiI_U (a b now : Int) (ha : U a) (hb : U b) (hn : U now) : U (fiI a b now) := sbI_U _ _ ha (sbI_U _ _ hn hb)
theorem fill_any (k a b now cap : Int) (w : World) (ha : U a) (hb : U b) (hn : U now) :
    Calls Tryz.prog 208 #[sta k a b, .int .u64 now, .int .u64 cap] w fun e w' => e = .returned (.int .u64 (fiI a b now)) ∧ Kept w w' := by
  go_enter Tryz.func208, Tryz.ntmps208
  go_wp2_with (first
    | (go_at_call 247; ((with_reducible refine (reading_any _ _ _ _).mono ?_); rintro e w1 ⟨rfl, g1⟩))
    | (go_at_call 255; ((with_reducible refine (at_any _ _ _ _ _ ha hb hn).mono ?_); rintro e w2 ⟨rfl, g2⟩)))
  go_ret
  exact ⟨rfl, (((Kept.refl w).alloc _ _).trans g1).trans g2⟩
/-- What is decided: whether it comes in, and what is kept. -/
def deB (a b now cap v : Int) : Bool := ftB (fiI a b now) v cap
theorem decide_no (k a b now cap v : Int) (w : World) (ha : U a) (hb : U b) (hn : U now) (hc : U cap) (hv : U v) (h : deB a b now cap v = false) :
    Calls Tryz.prog 209 #[sta k a b, .int .u64 now, .int .u64 cap, .int .u64 v] w fun e w' => e = .returned (.tuple #[sta k a b, .bool false]) ∧ Kept w w' := by
  have hf := fiI_U a b now ha hb hn
  have c1 (w : World) := fill_any k a b now cap w ha hb hn
  have c2 (w : World) := num_fits (fiI a b now) v cap w hf hv hc
  unfold deB at h
  rw [h] at c2
  have C1 := Lib.hid c1
  have C2 := Lib.hid c2
  clear c1 c2 h
  generalize fiI a b now = f at *
  go_enter Tryz.func209, Tryz.ntmps209
  go_wp2_with (first
    | (go_at_call 208; ((with_reducible refine (C1.out _).mono ?_); rintro e w1 ⟨rfl, g1⟩; obtain ⟨hc1, hf1⟩ := g1.reads))
    | (go_at_call 177; ((with_reducible refine (C2.out _).mono ?_); rintro e w2 ⟨rfl, rfl⟩)))
  exact bodyPost_ret (v := .tuple #[sta k a b, .bool false]) (by simp [results, Tryz.results209, go_sem, hc1]) rfl
    ⟨rfl, ((((((Kept.refl w).alloc _ _).alloc _ _).trans g1).setCell (by simp) _).setCell (by simp) _).setCell (by simp) _⟩
theorem decide_yes (k a b now cap v : Int) (w : World) (ha : U a) (hb : U b) (hn : U now) (hc : U cap) (hv : U v) (h : deB a b now cap v = true) :
    Calls Tryz.prog 209 #[sta k a b, .int .u64 now, .int .u64 cap, .int .u64 v] w fun e w' => e = .returned (.tuple #[sta 3 (fiI a b now + v) now, .bool true]) ∧ Kept w w' := by
  have hf := fiI_U a b now ha hb hn
  have c1 (w : World) := fill_any k a b now cap w ha hb hn
  have c2 (w : World) := num_fits (fiI a b now) v cap w hf hv hc
  unfold deB at h
  rw [h] at c2
  have hs : U (fiI a b now + v) := by unfold ftB at h; simp at h; unfold U at *; omega
  have C1 := Lib.hid c1
  have C2 := Lib.hid c2
  clear c1 c2 h
  generalize fiI a b now = f at *
  unfold U at hf hv hs
  go_enter Tryz.func209, Tryz.ntmps209
  go_wp2_with (first
    | (go_at_call 208; ((with_reducible refine (C1.out _).mono ?_); rintro e w1 ⟨rfl, g1⟩; obtain ⟨hc1, hf1⟩ := g1.reads; have hz1 : w.heap.size + 1 < w1.heap.size := by (have := g1.size; simp at this; omega)))
    | (go_at_call 177; ((with_reducible refine (C2.out _).mono ?_); rintro e w2 ⟨rfl, rfl⟩))
    | (go_at_call 207; ((with_reducible refine (of_any _ _ _ _).mono ?_); rintro e w2 ⟨rfl, g2⟩; obtain ⟨hc2, hf2⟩ := g2.reads)))
  exact bodyPost_ret (v := .tuple #[sta 3 (f + v) now, .bool true]) (by simp [results, Tryz.results209, go_sem, hc1, hc2, hz1]) rfl
    ⟨rfl, (((((((Kept.refl w).alloc _ _).alloc _ _).trans g1).trans g2).setCell (by simp) _).setCell (by simp) _).setCell (by simp) _⟩
/-- How many tokens a bucket has. -/
def tkI (a b now cap : Int) : Int := if a + sbI now b ≤ cap then a + sbI now b else cap
theorem tkI_U (a b now cap : Int) (ha : U a) (hb : U b) (hn : U now) (hc : U cap) : U (tkI a b now cap) := by
  have := sbI_U now b hn hb
  unfold tkI U at *; split <;> omega
theorem tkI_le (a b now cap : Int) : tkI a b now cap ≤ cap := by
  unfold tkI; split <;> omega
/-- How full a bucket is. -/
def biI (a b now cap : Int) : Int := cap - tkI a b now cap
theorem biI_U (a b now cap : Int) (ha : U a) (hb : U b) (hn : U now) (hc : U cap) : U (biI a b now cap) := by
  have h1 := tkI_U a b now cap ha hb hn hc
  have h2 := tkI_le a b now cap
  unfold biI U at *; omega
/-- The closure keeps the cap in a cell of its own. -/
theorem btokens_any (cap : Int) (w : World) :
    Calls Tryz.prog 246 #[.int .u64 cap] w fun e w' => ∃ p : Nat, e = .returned (.func (Fn.func 254) #[] #[.pointer (some ⟨p, 0, none⟩)]) ∧ w'.cell? ⟨p, 0, none⟩ = some (.int .u64 cap) ∧ Kept w w' := by
  go_enter Tryz.func246, Tryz.ntmps246
  go_wp2
  go_ret
  exact ⟨w.heap.size, rfl, by simp, (Kept.refl w).alloc _ _⟩
theorem btok_any (k a b now cap : Int) (p : Nat) (w : World) (ha : U a) (hb : U b) (hn : U now) (hc : U cap) (hp : w.cell? ⟨p, 0, none⟩ = some (.int .u64 cap)) :
    Calls Tryz.prog 254 #[sta k a b, .int .u64 now, .pointer (some ⟨p, 0, none⟩)] w fun e w' => e = .returned (.int .u64 (tkI a b now cap)) ∧ Kept w w' := by
  have h1 := sbI_U now b hn hb
  have c1 (w : World) := num_sub now b w hn hb
  have c2 (w : World) := num_fits a (sbI now b) cap w ha h1 hc
  have hp1 (c : Array Value) (t : TypeId) : (w.alloc (.cells c t)).cell? ⟨p, 0, none⟩ = some (.int .u64 cap) := ((Kept.refl w).alloc c t).cell hp
  cases h : ftB a (sbI now b) cap
  · have e : tkI a b now cap = cap := by unfold ftB at h; unfold tkI; simp at h; split <;> omega
    rw [e]
    rw [h] at c2
    have C1 := Lib.hid c1
    have C2 := Lib.hid c2
    clear c1 c2 h e
    generalize sbI now b = x at *
    go_enter Tryz.func254, Tryz.ntmps254
    go_wp2_with (first
      | (go_at_call 114; ((with_reducible refine (C1.out _).mono ?_); rintro e w1 ⟨rfl, rfl⟩))
      | (go_at_call 177; ((with_reducible refine (C2.out _).mono ?_); rintro e w2 ⟨rfl, rfl⟩)))
    go_ret
    exact ⟨rfl, (Kept.refl w).alloc _ _⟩
  · have e : tkI a b now cap = a + sbI now b := by unfold ftB at h; unfold tkI; simp at h; split <;> omega
    rw [e]
    have us : U (a + sbI now b) := by unfold ftB at h; simp at h; unfold U at *; omega
    rw [h] at c2
    have C1 := Lib.hid c1
    have C2 := Lib.hid c2
    clear c1 c2 h e
    generalize sbI now b = x at *
    unfold U at us ha h1
    go_enter Tryz.func254, Tryz.ntmps254
    go_wp2_with (first
      | (go_at_call 114; ((with_reducible refine (C1.out _).mono ?_); rintro e w1 ⟨rfl, rfl⟩))
      | (go_at_call 177; ((with_reducible refine (C2.out _).mono ?_); rintro e w2 ⟨rfl, rfl⟩)))
    go_ret
    exact ⟨rfl, (Kept.refl w).alloc _ _⟩
theorem bof_any (now cap fill : Int) (w : World) (hc : U cap) (hf : U fill) :
    Calls Tryz.prog 204 #[.int .u64 now, .int .u64 cap, .int .u64 fill] w fun e w' => e = .returned (sta 2 (sbI cap fill) now) ∧ Kept w w' := by
  have C1 := Lib.hid (fun w => num_sub cap fill w hc hf)
  generalize sbI cap fill = x at *
  go_enter Tryz.func204, Tryz.ntmps204
  go_wp2_with (go_at_call 114; ((with_reducible refine (C1.out _).mono ?_); rintro e w1 ⟨rfl, rfl⟩))
  exact bodyPost_ret (v := sta 2 x now) (by simp [results, Tryz.results204, go_sem]) rfl ⟨rfl, (Kept.refl w).alloc _ _⟩
theorem bfill_any (k a b now cap : Int) (w : World) (ha : U a) (hb : U b) (hn : U now) (hc : U cap) :
    Calls Tryz.prog 205 #[sta k a b, .int .u64 now, .int .u64 cap] w fun e w' => e = .returned (.int .u64 (biI a b now cap)) ∧ Kept w w' := by
  have h1 := tkI_U a b now cap ha hb hn hc
  have h2 := tkI_le a b now cap
  have C1 := Lib.hid (fun p w => btok_any k a b now cap p w ha hb hn hc)
  unfold biI
  generalize tkI a b now cap = n at *
  unfold U at h1 hc
  go_enter Tryz.func205, Tryz.ntmps205
  go_wp2_with (first
    | (go_at_call 246; ((with_reducible refine (btokens_any _ _).mono ?_); rintro e w1 ⟨p, rfl, hp, g1⟩; obtain ⟨hc1, hf1⟩ := g1.reads))
    | (go_at_call 254; ((with_reducible refine (C1.out _ _ hp).mono ?_); rintro e w2 ⟨rfl, g2⟩)))
  go_ret
  exact ⟨rfl, (((Kept.refl w).alloc _ _).trans g1).trans g2⟩
/-- What is decided: whether it comes in, and what is kept. -/
def bdB (a b now cap v : Int) : Bool := decide (v ≤ tkI a b now cap)
theorem bdecide_no (k a b now cap v : Int) (w : World) (ha : U a) (hb : U b) (hn : U now) (hc : U cap) (hv : U v) (h : bdB a b now cap v = false) :
    Calls Tryz.prog 206 #[sta k a b, .int .u64 now, .int .u64 cap, .int .u64 v] w fun e w' => e = .returned (.tuple #[sta k a b, .bool false]) ∧ Kept w w' := by
  have C1 := Lib.hid (fun p w => btok_any k a b now cap p w ha hb hn hc)
  have hlt : tkI a b now cap < v := by unfold bdB at h; simp at h; omega
  clear h
  generalize tkI a b now cap = n at *
  go_enter Tryz.func206, Tryz.ntmps206
  go_wp2_with (first
    | (go_at_call 246; ((with_reducible refine (btokens_any _ _).mono ?_); rintro e w1 ⟨p, rfl, hp, g1⟩; obtain ⟨hc1, hf1⟩ := g1.reads; have hz1 : w.heap.size < w1.heap.size ∧ w.heap.size + 1 < w1.heap.size := by (have := g1.size; simp at this; omega)))
    | (go_at_call 254; ((with_reducible refine (C1.out _ _ hp).mono ?_); rintro e w2 ⟨rfl, g2⟩; obtain ⟨hc2, hf2⟩ := g2.reads)))
  exact bodyPost_ret (v := .tuple #[sta k a b, .bool false]) (by simp [results, Tryz.results206, go_sem, hc1, hc2, hz1]) rfl
    ⟨rfl, (((((((Kept.refl w).alloc _ _).alloc _ _).trans g1).trans g2).setCell (by simp) _).setCell (by simp) _).setCell (by simp) _⟩
theorem bdecide_yes (k a b now cap v : Int) (w : World) (ha : U a) (hb : U b) (hn : U now) (hc : U cap) (hv : U v) (h : bdB a b now cap v = true) :
    Calls Tryz.prog 206 #[sta k a b, .int .u64 now, .int .u64 cap, .int .u64 v] w fun e w' => e = .returned (.tuple #[sta 2 (tkI a b now cap - v) now, .bool true]) ∧ Kept w w' := by
  have C1 := Lib.hid (fun p w => btok_any k a b now cap p w ha hb hn hc)
  have hle : v ≤ tkI a b now cap := by unfold bdB at h; simp at h; omega
  have h1 := tkI_U a b now cap ha hb hn hc
  clear h
  generalize tkI a b now cap = n at *
  unfold U at hv h1
  go_enter Tryz.func206, Tryz.ntmps206
  go_wp2_with (first
    | (go_at_call 246; ((with_reducible refine (btokens_any _ _).mono ?_); rintro e w1 ⟨p, rfl, hp, g1⟩; obtain ⟨hc1, hf1⟩ := g1.reads; have hz1 : w.heap.size < w1.heap.size ∧ w.heap.size + 1 < w1.heap.size := by (have := g1.size; simp at this; omega)))
    | (go_at_call 254; ((with_reducible refine (C1.out _ _ hp).mono ?_); rintro e w2 ⟨rfl, g2⟩; obtain ⟨hc2, hf2⟩ := g2.reads)))
  exact bodyPost_ret (v := .tuple #[sta 2 (n - v) now, .bool true]) (by simp [results, Tryz.results206, go_sem, hc1, hc2, hz1]) rfl
    ⟨rfl, (((((((Kept.refl w).alloc _ _).alloc _ _).trans g1).trans g2).setCell (by simp) _).setCell (by simp) _).setCell (by simp) _⟩
def bdK (k a b now cap v : Int) : Int := if bdB a b now cap v = true then 2 else k
def bdA (a b now cap v : Int) : Int := if bdB a b now cap v = true then tkI a b now cap - v else a
def bdT (a b now cap v : Int) : Int := if bdB a b now cap v = true then now else b
theorem bdecide_any (k a b now cap v : Int) (w : World) (ha : U a) (hb : U b) (hn : U now) (hc : U cap) (hv : U v) :
    Calls Tryz.prog 206 #[sta k a b, .int .u64 now, .int .u64 cap, .int .u64 v] w fun e w' => e = .returned (.tuple #[sta (bdK k a b now cap v) (bdA a b now cap v) (bdT a b now cap v), .bool (bdB a b now cap v)]) ∧ Kept w w' := by
  unfold bdK bdA bdT
  cases h : bdB a b now cap v
  · exact bdecide_no k a b now cap v w ha hb hn hc hv h
  · exact bdecide_yes k a b now cap v w ha hb hn hc hv h
theorem num_add_some (b off n c : Nat) (xs : List Int) (w : World) (hl : xs.length = n) (hx : ∀ x ∈ xs, U x) (hn : n ≤ 9223372036854775807)
    (hc : ∀ k, k < n → w.cell? ⟨b, off + k, none⟩ = some (.int .u64 (xs.getD k 0))) :
    Calls Tryz.prog 117 #[.slice (some ⟨b, off, none⟩) n c] w fun e w' => e = .returned (.int .u64 (addAll xs)) ∧ w = w' := by
  have HL := Lib.hid hl
  have HC := Lib.hid hc
  clear hl hc
  go_enter Tryz.func117, Tryz.ntmps117
  go_wp2
  go_loop [3, 11] (fun s i => ∃ k : Nat, k ≤ n ∧ i = .int .i64 k ∧ s = .int .u64 (addAll (xs.take k))) (fun _ i => n - (intOf i).toNat)
  case atStart => exact ⟨0, Nat.zero_le _, rfl, rfl⟩
  case round =>
    obtain ⟨k, hk, rfl, rfl⟩ := hrel
    by_cases hlt : k < n
    · have hcell := HC.out k hlt
      have us : U (addAll (xs.take k)) := addAll_U _ (fun x h => hx x (List.mem_of_mem_take h))
      have ux : U (xs.getD k 0) := by
        have hh : k < xs.length := by rw [HL.out]; exact hlt
        simp only [List.getD, List.getElem?_eq_getElem hh, Option.getD_some]
        exact hx _ (List.getElem_mem hh)
      have e := addAll_take xs k (by rw [HL.out]; exact hlt)
      rw [← stop_add _ _ us ux] at e
      have E := Lib.hid e
      clear e
      generalize xs.getD k 0 = x at *
      generalize addAll (xs.take k) = s at *
      go_wp2_with (first
        | (go_at_call 169; ((with_reducible refine (add_any _ _ _ _ _ U_zero us U_zero ux).mono ?_); rintro e w' ⟨rfl, rfl⟩))
        | (go_at_call 170; ((with_reducible refine (stop_any _ _ _).mono ?_); rintro e w' ⟨rfl, rfl⟩)))
      go_round
      case rel => exact ⟨k + 1, by omega, by go_num, by rw [E.out]⟩
      case measure => simp [intOf]; omega
    · obtain rfl : n = k := by omega
      have e : xs.take n = xs := List.take_of_length_le (by rw [HL.out]; exact Nat.le_refl _)
      rw [e]
      clear e
      go_wp2
      go_ret
      exact ⟨rfl, rfl⟩
/-- Two, handed over as a row that was just made. -/
theorem num_add_two (g c : Nat) (a b : Int) (w : World) (ha : U a) (hb : U b) (c0 : w.cell? ⟨g, 0, none⟩ = some (.int .u64 a)) (c1 : w.cell? ⟨g, 1, none⟩ = some (.int .u64 b)) :
    Calls Tryz.prog 117 #[.slice (some ⟨g, 0, none⟩) 2 c] w fun e w' => e = .returned (.int .u64 (sat (a + b))) ∧ w = w' := by
  have h := num_add_some g 0 2 c [a, b] w rfl (by intro x h; simp at h; rcases h with rfl | rfl; exact ha; exact hb) (by omega) (by
    intro k hk
    match k, hk with
    | 0, _ => simpa using c0
    | 1, _ => simpa using c1)
  rw [addAll_two a b ha] at h
  exact h
/-- The time from which on it counts. -/
def thI (a now : Int) : Int := if a < now then now else a
theorem thI_U (a now : Int) (ha : U a) (hn : U now) : U (thI a now) := by unfold thI; split <;> assumption
theorem thI_sub (a now : Int) : thI a now - now = sbI a now := by unfold thI sbI; split <;> omega
theorem thI_eq (a now : Int) : thI a now = now + sbI a now := by unfold thI sbI; split <;> omega
theorem garr_any (k a b now : Int) (w : World) :
    Calls Tryz.prog 245 #[sta k a b, .int .u64 now] w fun e w' => e = .returned (.int .u64 (thI a now)) ∧ Kept w w' := by
  by_cases h : a < now
  · have e : thI a now = now := by simp [thI, h]
    rw [e]; clear e
    go_enter Tryz.func245, Tryz.ntmps245
    go_wp2
    go_ret
    exact ⟨rfl, (Kept.refl w).alloc _ _⟩
  · have e : thI a now = a := by simp [thI, h]
    rw [e]; clear e
    go_enter Tryz.func245, Tryz.ntmps245
    go_wp2
    go_ret
    exact ⟨rfl, (Kept.refl w).alloc _ _⟩
theorem gof_any (now cap fill : Int) (w : World) (hn : U now) (hf : U fill) :
    Calls Tryz.prog 201 #[.int .u64 now, .int .u64 cap, .int .u64 fill] w fun e w' => e = .returned (sta 1 (sat (now + fill)) 0) ∧ Kept w w' := by
  have C1 := Lib.hid (fun (g c : Nat) (w : World) => num_add_two g c now fill w hn hf)
  generalize sat (now + fill) = x at *
  go_enter Tryz.func201, Tryz.ntmps201
  go_wp2_with (go_at_call 117; ((with_reducible refine (C1.out _ _ _ (by simp) (by simp)).mono ?_); rintro e w1 ⟨rfl, rfl⟩))
  exact bodyPost_ret (v := sta 1 x 0) (by simp [results, Tryz.results201, go_sem]) rfl ⟨rfl, ((Kept.refl w).alloc _ _).alloc _ _⟩
theorem gfill_any (k a b now cap : Int) (w : World) (ha : U a) (hn : U now) :
    Calls Tryz.prog 202 #[sta k a b, .int .u64 now, .int .u64 cap] w fun e w' => e = .returned (.int .u64 (sbI a now)) ∧ Kept w w' := by
  have C1 := Lib.hid (fun w => num_sub a now w ha hn)
  generalize sbI a now = x at *
  go_enter Tryz.func202, Tryz.ntmps202
  go_wp2_with (go_at_call 114; ((with_reducible refine (C1.out _).mono ?_); rintro e w1 ⟨rfl, rfl⟩))
  go_ret
  exact ⟨rfl, (Kept.refl w).alloc _ _⟩
/-- What is decided: whether it comes in, and what is kept. -/
def gdB (a now cap v : Int) : Bool := ftB (sbI a now) v cap
/-- A scope whose label stands ahead of the return alone: a goto is a return. -/
theorem wp_scope_out {P : Program} {a : Act} {w : World} {Q : Exit → Act → World → Prop} {c : Code} (l : Nat) (hf : findLabel c l = some (Code.skip.seq Code.ret))
    (first : c.wp P (Exit.jump l (fun a w => Q .ret a w) Q) a w) : (Code.scope c).wp P Q a w :=
  wp_scope_jumps l (fun a w => Q .ret a w) (fun _ _ => 0) hf first (fun _ _ h => wp_seq (wp_skip (wp_ret h)))
theorem gdecide_no (k a b now cap v : Int) (w : World) (ha : U a) (hb : U b) (hn : U now) (hc : U cap) (hv : U v) (h : gdB a now cap v = false) :
    Calls Tryz.prog 203 #[sta k a b, .int .u64 now, .int .u64 cap, .int .u64 v] w fun e w' => e = .returned (.tuple #[sta k a b, .bool false]) ∧ Kept w w' := by
  have ut := thI_U a now ha hn
  have us := sbI_U a now ha hn
  have es := thI_sub a now
  have c1 (w : World) := garr_any k a b now w
  have c2 (w : World) := num_fits (sbI a now) v cap w us hv hc
  have c3 (w : World) := gof_any (thI a now) cap v w ut hv
  rw [show ftB (sbI a now) v cap = false from h, ← es] at c2
  have C1 := Lib.hid c1
  have C2 := Lib.hid c2
  have C3 := Lib.hid c3
  rw [← es] at us
  clear c1 c2 c3 h es
  generalize thI a now = t at *
  unfold U at hn ut us
  go_enter Tryz.func203, Tryz.ntmps203
  go_wp2
  refine wp_scope_out 0 rfl ?_
  go_wp2_with (first
    | (go_at_call 245; ((with_reducible refine (C1.out _).mono ?_); rintro e w1 ⟨rfl, g1⟩; obtain ⟨hc1, hf1⟩ := g1.reads; have hz1 : w.heap.size < w1.heap.size ∧ w.heap.size + 1 < w1.heap.size := by (have := g1.size; simp at this; omega)))
    | (go_at_call 177; ((with_reducible refine (C2.out _).mono ?_); rintro e w2 ⟨rfl, rfl⟩))
    | (go_at_call 201; ((with_reducible refine (C3.out _).mono ?_); rintro e w3 ⟨rfl, g3⟩; obtain ⟨hc3, hf3⟩ := g3.reads; have hz3 : w.heap.size + 1 < w3.heap.size := by (have := g3.size; omega))))
  go_step3
  refine ⟨rfl, ?_⟩
  exact bodyPost_ret (v := .tuple #[sta k a b, .bool false]) (by simp [results, Tryz.results203, go_sem, hc1]) rfl
    ⟨rfl, ((((((Kept.refl w).alloc _ _).alloc _ _).trans g1).setCell (by simp) _).setCell (by simp) _).setCell (by simp) _⟩
theorem gdecide_yes (k a b now cap v : Int) (w : World) (ha : U a) (hb : U b) (hn : U now) (hc : U cap) (hv : U v) (h : gdB a now cap v = true) :
    Calls Tryz.prog 203 #[sta k a b, .int .u64 now, .int .u64 cap, .int .u64 v] w fun e w' => e = .returned (.tuple #[sta 1 (sat (thI a now + v)) 0, .bool true]) ∧ Kept w w' := by
  have ut := thI_U a now ha hn
  have us := sbI_U a now ha hn
  have es := thI_sub a now
  have c1 (w : World) := garr_any k a b now w
  have c2 (w : World) := num_fits (sbI a now) v cap w us hv hc
  have c3 (w : World) := gof_any (thI a now) cap v w ut hv
  rw [show ftB (sbI a now) v cap = true from h, ← es] at c2
  have C1 := Lib.hid c1
  have C2 := Lib.hid c2
  have C3 := Lib.hid c3
  rw [← es] at us
  clear c1 c2 c3 h es
  generalize thI a now = t at *
  generalize sat (t + v) = x at *
  unfold U at hn ut us
  go_enter Tryz.func203, Tryz.ntmps203
  go_wp2
  refine wp_scope_out 0 rfl ?_
  go_wp2_with (first
    | (go_at_call 245; ((with_reducible refine (C1.out _).mono ?_); rintro e w1 ⟨rfl, g1⟩; obtain ⟨hc1, hf1⟩ := g1.reads; have hz1 : w.heap.size < w1.heap.size ∧ w.heap.size + 1 < w1.heap.size := by (have := g1.size; simp at this; omega)))
    | (go_at_call 177; ((with_reducible refine (C2.out _).mono ?_); rintro e w2 ⟨rfl, rfl⟩))
    | (go_at_call 201; ((with_reducible refine (C3.out _).mono ?_); rintro e w3 ⟨rfl, g3⟩; obtain ⟨hc3, hf3⟩ := g3.reads; have hz3 : w.heap.size + 1 < w3.heap.size := by (have := g3.size; omega))))
  go_step3
  go_wp2
  simp only [Exit.jump]
  exact bodyPost_ret (v := .tuple #[sta 1 x 0, .bool true]) (by simp [results, Tryz.results203, go_sem, hc1, hc3, hz1]) rfl
    ⟨rfl, (((((((Kept.refl w).alloc _ _).alloc _ _).trans g1).trans g3).setCell (by simp) _).setCell (by simp) _).setCell (by simp) _⟩
def gdK (k a now cap v : Int) : Int := if gdB a now cap v = true then 1 else k
def gdA (a now cap v : Int) : Int := if gdB a now cap v = true then sat (thI a now + v) else a
def gdT (a b now cap v : Int) : Int := if gdB a now cap v = true then 0 else b
theorem gdecide_any (k a b now cap v : Int) (w : World) (ha : U a) (hb : U b) (hn : U now) (hc : U cap) (hv : U v) :
    Calls Tryz.prog 203 #[sta k a b, .int .u64 now, .int .u64 cap, .int .u64 v] w fun e w' => e = .returned (.tuple #[sta (gdK k a now cap v) (gdA a now cap v) (gdT a b now cap v), .bool (gdB a now cap v)]) ∧ Kept w w' := by
  unfold gdK gdA gdT
  cases h : gdB a now cap v
  · exact gdecide_no k a b now cap v w ha hb hn hc hv h
  · exact gdecide_yes k a b now cap v w ha hb hn hc hv h
theorem Kept.set3 {w w' : World} (h : Kept w w') {B : Nat} (hB : w.heap.size ≤ B) (x y z : Value) : Kept w (((w'.setCell ⟨B, 0, none⟩ x).setCell ⟨B, 1, none⟩ y).setCell ⟨B, 2, none⟩ z) :=
  ((h.setCell hB x).setCell hB y).setCell hB z
theorem cell_set3 {w' : World} {B b o : Nat} {v : Value} (hb : b ≠ B) (c : w'.cell? ⟨b, o, none⟩ = some v) (x y z : Value) : (((w'.setCell ⟨B, 0, none⟩ x).setCell ⟨B, 1, none⟩ y).setCell ⟨B, 2, none⟩ z).cell? ⟨b, o, none⟩ = some v := by
  have n (w : World) (i : Nat) (u : Value) : (w.setCell ⟨B, i, none⟩ u).cell? ⟨b, o, none⟩ = w.cell? ⟨b, o, none⟩ := World.cell?_of_block (Below.heap_setCell _ _ _ _ hb)
  rw [n, n, n]; exact c
theorem kfill_no (k a b now cap : Int) (w : World) (hk : isK k = false) :
    Calls Tryz.prog 116 #[sta k a b, .int .u64 now, .int .u64 cap] w fun e w' => e = .returned (.int .u64 0) ∧ Kept w w' := by
  have e0 := kerV_no k hk
  go_enter Tryz.func116, Tryz.ntmps116
  go_wp2
  have kW : Kept w (w.alloc (.cells #[.int .u8 k, .int .u64 a, .int .u64 b] 90)) := (Kept.refl w).alloc _ _
  have c0 : (w.alloc (.cells #[.int .u8 k, .int .u64 a, .int .u64 b] 90)).cell? ⟨w.heap.size, 0, none⟩ = some (.int .u8 k) := by simp
  have hzW : w.heap.size < (w.alloc (.cells #[.int .u8 k, .int .u64 a, .int .u64 b] 90)).heap.size := by simp
  generalize hW : World.alloc _ _ = W at *
  clear hW
  have hzW1 := Nat.le_of_lt hzW
  have hzW2 := Nat.ne_of_lt hzW
  go_region_held3 (fun w' => Kept w w' ∧ w'.cell? ⟨w.heap.size, 0, none⟩ = some (.int .u8 k))
    (first | with_reducible exact ⟨kW, c0⟩ | with_reducible exact ⟨kW.drew, (Kept.refl _).drew.cell c0⟩ | with_reducible exact ⟨kW.alloc _ _, ((Kept.refl _).alloc _ _).cell c0⟩ | with_reducible exact ⟨(kW.alloc _ _).drew, ((Kept.refl _).alloc _ _).drew.cell c0⟩ | with_reducible exact ⟨kW.set3 hzW1 _ _ _, cell_set3 hzW2 c0 _ _ _⟩)
    (first
    | (go_at_call 168; ((with_reducible refine (kernels_new _).mono ?_); rintro e w1 ⟨p, rfl, g, hl⟩; have hl1 (c : Array Value) (t : TypeId) := hl k _ ((Kept.refl _).alloc c t); replace hl := hl k _ (Kept.refl _); rw [e0, hk] at hl; simp only [e0, hk] at hl1; obtain ⟨hc1, hf1⟩ := g.reads; (first | (with_reducible (replace kW := kW.trans g); replace c0 := g.cell c0) | (with_reducible (replace kW := kW.drew.trans g); replace c0 := g.cell ((Kept.refl _).drew.cell c0)) | (have hz : W.heap.size < w1.heap.size := (by (have := g.size; simp at this; omega)); with_reducible (replace kW := (kW.alloc _ _).drew.trans g); replace c0 := g.cell (((Kept.refl _).alloc _ _).drew.cell c0))); clear g)))
  all_goals
    rename_i hH
    replace hH := hH.1
    go_wp2
    go_ret
    exact ⟨rfl, hH⟩
theorem kfill_core1 (a b now cap r : Int) (w : World)
    (C : Hid (∀ w, Calls Tryz.prog 202 #[sta 1 a b, .int .u64 now, .int .u64 cap] w fun e w' => e = .returned (.int .u64 r) ∧ Kept w w')) :
    Calls Tryz.prog 116 #[sta 1 a b, .int .u64 now, .int .u64 cap] w fun e w' => e = .returned (.int .u64 r) ∧ Kept w w' := by
  have hk : isK 1 = true := rfl
  have e0 : kerV 1 = kern1 := rfl
  go_enter Tryz.func116, Tryz.ntmps116
  go_wp2
  have kW : Kept w (w.alloc (.cells #[.int .u8 1, .int .u64 a, .int .u64 b] 90)) := (Kept.refl w).alloc _ _
  have c0 : (w.alloc (.cells #[.int .u8 1, .int .u64 a, .int .u64 b] 90)).cell? ⟨w.heap.size, 0, none⟩ = some (.int .u8 1) := by simp
  have c1 : (w.alloc (.cells #[.int .u8 1, .int .u64 a, .int .u64 b] 90)).cell? ⟨w.heap.size, 1, none⟩ = some (.int .u64 a) := by simp
  have c2 : (w.alloc (.cells #[.int .u8 1, .int .u64 a, .int .u64 b] 90)).cell? ⟨w.heap.size, 2, none⟩ = some (.int .u64 b) := by simp
  have hzW : w.heap.size < (w.alloc (.cells #[.int .u8 1, .int .u64 a, .int .u64 b] 90)).heap.size := by simp
  generalize hW : World.alloc _ _ = W at *
  clear hW
  have hzW1 := Nat.le_of_lt hzW
  have hzW2 := Nat.ne_of_lt hzW
  go_region_held3 (fun w' => Kept w w' ∧ w'.cell? ⟨w.heap.size, 0, none⟩ = some (.int .u8 1) ∧ w'.cell? ⟨w.heap.size, 1, none⟩ = some (.int .u64 a) ∧ w'.cell? ⟨w.heap.size, 2, none⟩ = some (.int .u64 b))
    (first | with_reducible exact ⟨kW, c0, c1, c2⟩ | with_reducible exact ⟨kW.drew, (Kept.refl _).drew.cell c0, (Kept.refl _).drew.cell c1, (Kept.refl _).drew.cell c2⟩ | with_reducible exact ⟨kW.alloc _ _, ((Kept.refl _).alloc _ _).cell c0, ((Kept.refl _).alloc _ _).cell c1, ((Kept.refl _).alloc _ _).cell c2⟩ | with_reducible exact ⟨(kW.alloc _ _).drew, ((Kept.refl _).alloc _ _).drew.cell c0, ((Kept.refl _).alloc _ _).drew.cell c1, ((Kept.refl _).alloc _ _).drew.cell c2⟩ | with_reducible exact ⟨kW.set3 hzW1 _ _ _, cell_set3 hzW2 c0 _ _ _, cell_set3 hzW2 c1 _ _ _, cell_set3 hzW2 c2 _ _ _⟩)
    (first
    | (go_at_call 168; ((with_reducible refine (kernels_new _).mono ?_); rintro e w1 ⟨p, rfl, g, hl⟩; have hl1 (c : Array Value) (t : TypeId) := hl 1 _ ((Kept.refl _).alloc c t); replace hl := hl 1 _ (Kept.refl _); rw [e0, hk] at hl; simp only [e0, hk] at hl1; obtain ⟨hc1, hf1⟩ := g.reads; (first | (with_reducible (replace kW := kW.trans g); replace c0 := g.cell c0; replace c1 := g.cell c1; replace c2 := g.cell c2) | (with_reducible (replace kW := kW.drew.trans g); replace c0 := g.cell ((Kept.refl _).drew.cell c0); replace c1 := g.cell ((Kept.refl _).drew.cell c1); replace c2 := g.cell ((Kept.refl _).drew.cell c2)) | (have hz : W.heap.size < w1.heap.size := (by (have := g.size; simp at this; omega)); with_reducible (replace kW := (kW.alloc _ _).drew.trans g); replace c0 := g.cell (((Kept.refl _).alloc _ _).drew.cell c0); replace c1 := g.cell (((Kept.refl _).alloc _ _).drew.cell c1); replace c2 := g.cell (((Kept.refl _).alloc _ _).drew.cell c2))); clear g)))
  all_goals
    rename_i hH
    obtain ⟨hH, d0, d1, d2⟩ := hH
    go_wp2_with (go_at_call 202; ((with_reducible refine (C.out _).mono ?_); rintro e w5 ⟨rfl, g5⟩))
    go_ret
    exact ⟨rfl, hH.trans g5⟩
theorem kfill_core2 (a b now cap r : Int) (w : World)
    (C : Hid (∀ w, Calls Tryz.prog 205 #[sta 2 a b, .int .u64 now, .int .u64 cap] w fun e w' => e = .returned (.int .u64 r) ∧ Kept w w')) :
    Calls Tryz.prog 116 #[sta 2 a b, .int .u64 now, .int .u64 cap] w fun e w' => e = .returned (.int .u64 r) ∧ Kept w w' := by
  have hk : isK 2 = true := rfl
  have e0 : kerV 2 = kern2 := rfl
  go_enter Tryz.func116, Tryz.ntmps116
  go_wp2
  have kW : Kept w (w.alloc (.cells #[.int .u8 2, .int .u64 a, .int .u64 b] 90)) := (Kept.refl w).alloc _ _
  have c0 : (w.alloc (.cells #[.int .u8 2, .int .u64 a, .int .u64 b] 90)).cell? ⟨w.heap.size, 0, none⟩ = some (.int .u8 2) := by simp
  have c1 : (w.alloc (.cells #[.int .u8 2, .int .u64 a, .int .u64 b] 90)).cell? ⟨w.heap.size, 1, none⟩ = some (.int .u64 a) := by simp
  have c2 : (w.alloc (.cells #[.int .u8 2, .int .u64 a, .int .u64 b] 90)).cell? ⟨w.heap.size, 2, none⟩ = some (.int .u64 b) := by simp
  have hzW : w.heap.size < (w.alloc (.cells #[.int .u8 2, .int .u64 a, .int .u64 b] 90)).heap.size := by simp
  generalize hW : World.alloc _ _ = W at *
  clear hW
  have hzW1 := Nat.le_of_lt hzW
  have hzW2 := Nat.ne_of_lt hzW
  go_region_held3 (fun w' => Kept w w' ∧ w'.cell? ⟨w.heap.size, 0, none⟩ = some (.int .u8 2) ∧ w'.cell? ⟨w.heap.size, 1, none⟩ = some (.int .u64 a) ∧ w'.cell? ⟨w.heap.size, 2, none⟩ = some (.int .u64 b))
    (first | with_reducible exact ⟨kW, c0, c1, c2⟩ | with_reducible exact ⟨kW.drew, (Kept.refl _).drew.cell c0, (Kept.refl _).drew.cell c1, (Kept.refl _).drew.cell c2⟩ | with_reducible exact ⟨kW.alloc _ _, ((Kept.refl _).alloc _ _).cell c0, ((Kept.refl _).alloc _ _).cell c1, ((Kept.refl _).alloc _ _).cell c2⟩ | with_reducible exact ⟨(kW.alloc _ _).drew, ((Kept.refl _).alloc _ _).drew.cell c0, ((Kept.refl _).alloc _ _).drew.cell c1, ((Kept.refl _).alloc _ _).drew.cell c2⟩ | with_reducible exact ⟨kW.set3 hzW1 _ _ _, cell_set3 hzW2 c0 _ _ _, cell_set3 hzW2 c1 _ _ _, cell_set3 hzW2 c2 _ _ _⟩)
    (first
    | (go_at_call 168; ((with_reducible refine (kernels_new _).mono ?_); rintro e w1 ⟨p, rfl, g, hl⟩; have hl1 (c : Array Value) (t : TypeId) := hl 2 _ ((Kept.refl _).alloc c t); replace hl := hl 2 _ (Kept.refl _); rw [e0, hk] at hl; simp only [e0, hk] at hl1; obtain ⟨hc1, hf1⟩ := g.reads; (first | (with_reducible (replace kW := kW.trans g); replace c0 := g.cell c0; replace c1 := g.cell c1; replace c2 := g.cell c2) | (with_reducible (replace kW := kW.drew.trans g); replace c0 := g.cell ((Kept.refl _).drew.cell c0); replace c1 := g.cell ((Kept.refl _).drew.cell c1); replace c2 := g.cell ((Kept.refl _).drew.cell c2)) | (have hz : W.heap.size < w1.heap.size := (by (have := g.size; simp at this; omega)); with_reducible (replace kW := (kW.alloc _ _).drew.trans g); replace c0 := g.cell (((Kept.refl _).alloc _ _).drew.cell c0); replace c1 := g.cell (((Kept.refl _).alloc _ _).drew.cell c1); replace c2 := g.cell (((Kept.refl _).alloc _ _).drew.cell c2))); clear g)))
  all_goals
    rename_i hH
    obtain ⟨hH, d0, d1, d2⟩ := hH
    go_wp2_with (go_at_call 205; ((with_reducible refine (C.out _).mono ?_); rintro e w5 ⟨rfl, g5⟩))
    go_ret
    exact ⟨rfl, hH.trans g5⟩
theorem kfill_core3 (a b now cap r : Int) (w : World)
    (C : Hid (∀ w, Calls Tryz.prog 208 #[sta 3 a b, .int .u64 now, .int .u64 cap] w fun e w' => e = .returned (.int .u64 r) ∧ Kept w w')) :
    Calls Tryz.prog 116 #[sta 3 a b, .int .u64 now, .int .u64 cap] w fun e w' => e = .returned (.int .u64 r) ∧ Kept w w' := by
  have hk : isK 3 = true := rfl
  have e0 : kerV 3 = kern3 := rfl
  go_enter Tryz.func116, Tryz.ntmps116
  go_wp2
  have kW : Kept w (w.alloc (.cells #[.int .u8 3, .int .u64 a, .int .u64 b] 90)) := (Kept.refl w).alloc _ _
  have c0 : (w.alloc (.cells #[.int .u8 3, .int .u64 a, .int .u64 b] 90)).cell? ⟨w.heap.size, 0, none⟩ = some (.int .u8 3) := by simp
  have c1 : (w.alloc (.cells #[.int .u8 3, .int .u64 a, .int .u64 b] 90)).cell? ⟨w.heap.size, 1, none⟩ = some (.int .u64 a) := by simp
  have c2 : (w.alloc (.cells #[.int .u8 3, .int .u64 a, .int .u64 b] 90)).cell? ⟨w.heap.size, 2, none⟩ = some (.int .u64 b) := by simp
  have hzW : w.heap.size < (w.alloc (.cells #[.int .u8 3, .int .u64 a, .int .u64 b] 90)).heap.size := by simp
  generalize hW : World.alloc _ _ = W at *
  clear hW
  have hzW1 := Nat.le_of_lt hzW
  have hzW2 := Nat.ne_of_lt hzW
  go_region_held3 (fun w' => Kept w w' ∧ w'.cell? ⟨w.heap.size, 0, none⟩ = some (.int .u8 3) ∧ w'.cell? ⟨w.heap.size, 1, none⟩ = some (.int .u64 a) ∧ w'.cell? ⟨w.heap.size, 2, none⟩ = some (.int .u64 b))
    (first | with_reducible exact ⟨kW, c0, c1, c2⟩ | with_reducible exact ⟨kW.drew, (Kept.refl _).drew.cell c0, (Kept.refl _).drew.cell c1, (Kept.refl _).drew.cell c2⟩ | with_reducible exact ⟨kW.alloc _ _, ((Kept.refl _).alloc _ _).cell c0, ((Kept.refl _).alloc _ _).cell c1, ((Kept.refl _).alloc _ _).cell c2⟩ | with_reducible exact ⟨(kW.alloc _ _).drew, ((Kept.refl _).alloc _ _).drew.cell c0, ((Kept.refl _).alloc _ _).drew.cell c1, ((Kept.refl _).alloc _ _).drew.cell c2⟩ | with_reducible exact ⟨kW.set3 hzW1 _ _ _, cell_set3 hzW2 c0 _ _ _, cell_set3 hzW2 c1 _ _ _, cell_set3 hzW2 c2 _ _ _⟩)
    (first
    | (go_at_call 168; ((with_reducible refine (kernels_new _).mono ?_); rintro e w1 ⟨p, rfl, g, hl⟩; have hl1 (c : Array Value) (t : TypeId) := hl 3 _ ((Kept.refl _).alloc c t); replace hl := hl 3 _ (Kept.refl _); rw [e0, hk] at hl; simp only [e0, hk] at hl1; obtain ⟨hc1, hf1⟩ := g.reads; (first | (with_reducible (replace kW := kW.trans g); replace c0 := g.cell c0; replace c1 := g.cell c1; replace c2 := g.cell c2) | (with_reducible (replace kW := kW.drew.trans g); replace c0 := g.cell ((Kept.refl _).drew.cell c0); replace c1 := g.cell ((Kept.refl _).drew.cell c1); replace c2 := g.cell ((Kept.refl _).drew.cell c2)) | (have hz : W.heap.size < w1.heap.size := (by (have := g.size; simp at this; omega)); with_reducible (replace kW := (kW.alloc _ _).drew.trans g); replace c0 := g.cell (((Kept.refl _).alloc _ _).drew.cell c0); replace c1 := g.cell (((Kept.refl _).alloc _ _).drew.cell c1); replace c2 := g.cell (((Kept.refl _).alloc _ _).drew.cell c2))); clear g)))
  all_goals
    rename_i hH
    obtain ⟨hH, d0, d1, d2⟩ := hH
    go_wp2_with (go_at_call 208; ((with_reducible refine (C.out _).mono ?_); rintro e w5 ⟨rfl, g5⟩))
    go_ret
    exact ⟨rfl, hH.trans g5⟩
/-- Three cells of one block, that may be written. -/
def Row3 (w : World) (B : Nat) (x y z : Value) : Prop := (w.cell? ⟨B, 0, none⟩ = some x ∧ w.cell? ⟨B, 1, none⟩ = some y ∧ w.cell? ⟨B, 2, none⟩ = some z) ∧ w.frozen? ⟨B, 0, none⟩ = false ∧ w.frozen? ⟨B, 1, none⟩ = false ∧ w.frozen? ⟨B, 2, none⟩ = false
theorem Row3.kept {w w' : World} {B : Nat} {x y z : Value} (h : Row3 w B x y z) (g : Kept w w') : Row3 w' B x y z :=
  ⟨⟨g.cell h.1.1, g.cell h.1.2.1, g.cell h.1.2.2⟩, (g.1.2.1 _).trans h.2.1, (g.1.2.1 _).trans h.2.2.1, (g.1.2.1 _).trans h.2.2.2⟩
theorem Row3.set3 {w : World} {B C : Nat} {x y z : Value} (h : Row3 w B x y z) (hb : B ≠ C) (a b c : Value) : Row3 (((w.setCell ⟨C, 0, none⟩ a).setCell ⟨C, 1, none⟩ b).setCell ⟨C, 2, none⟩ c) B x y z :=
  ⟨⟨cell_set3 hb h.1.1 _ _ _, cell_set3 hb h.1.2.1 _ _ _, cell_set3 hb h.1.2.2 _ _ _⟩, by simp only [World.frozen?_setCell]; exact h.2.1, by simp only [World.frozen?_setCell]; exact h.2.2.1, by simp only [World.frozen?_setCell]; exact h.2.2.2⟩
theorem kdecide_no (k a b now cap v : Int) (w : World) (hk : isK k = false) :
    Calls Tryz.prog 138 #[sta k a b, .int .u64 now, .int .u64 cap, .int .u64 v] w fun e w' => e = .returned (.tuple #[sta k a b, .bool false]) ∧ Kept w w' := by
  have e0 := kerV_no k hk
  go_enter Tryz.func138, Tryz.ntmps138
  go_wp2
  have kW : Kept w ((w.alloc (.cells #[.int .u8 k, .int .u64 a, .int .u64 b] 90)).alloc (.cells #[.int .u8 0, .int .u64 0, .int .u64 0] 90)) := ((Kept.refl w).alloc _ _).alloc _ _
  have c0 : ((w.alloc (.cells #[.int .u8 k, .int .u64 a, .int .u64 b] 90)).alloc (.cells #[.int .u8 0, .int .u64 0, .int .u64 0] 90)).cell? ⟨w.heap.size, 0, none⟩ = some (.int .u8 k) := by simp
  have s0 : Row3 ((w.alloc (.cells #[.int .u8 k, .int .u64 a, .int .u64 b] 90)).alloc (.cells #[.int .u8 0, .int .u64 0, .int .u64 0] 90)) w.heap.size (.int .u8 k) (.int .u64 a) (.int .u64 b) := ⟨⟨by simp, by simp, by simp⟩, by simp, by simp, by simp⟩
  have t0 : Row3 ((w.alloc (.cells #[.int .u8 k, .int .u64 a, .int .u64 b] 90)).alloc (.cells #[.int .u8 0, .int .u64 0, .int .u64 0] 90)) (w.heap.size + 1) (.int .u8 0) (.int .u64 0) (.int .u64 0) := ⟨⟨by simp, by simp, by simp⟩, by simp, by simp, by simp⟩
  have hzW : w.heap.size + 1 < ((w.alloc (.cells #[.int .u8 k, .int .u64 a, .int .u64 b] 90)).alloc (.cells #[.int .u8 0, .int .u64 0, .int .u64 0] 90)).heap.size := by simp
  generalize hW : World.alloc (World.alloc _ _) _ = W at *
  clear hW
  have hzW1 : w.heap.size ≤ W.heap.size := by omega
  have hzW2 : w.heap.size ≠ W.heap.size := by omega
  have hzW3 : w.heap.size + 1 ≠ W.heap.size := by omega
  go_region_held3 (fun w' => Kept w w' ∧ w'.cell? ⟨w.heap.size, 0, none⟩ = some (.int .u8 k) ∧ Row3 w' w.heap.size (.int .u8 k) (.int .u64 a) (.int .u64 b) ∧ Row3 w' (w.heap.size + 1) (.int .u8 0) (.int .u64 0) (.int .u64 0))
    (first | with_reducible exact ⟨kW, c0, s0, t0⟩ | with_reducible exact ⟨kW.drew, (Kept.refl _).drew.cell c0, s0.kept (Kept.refl _).drew, t0.kept (Kept.refl _).drew⟩ | with_reducible exact ⟨kW.alloc _ _, ((Kept.refl _).alloc _ _).cell c0, s0.kept ((Kept.refl _).alloc _ _), t0.kept ((Kept.refl _).alloc _ _)⟩ | with_reducible exact ⟨(kW.alloc _ _).drew, ((Kept.refl _).alloc _ _).drew.cell c0, s0.kept ((Kept.refl _).alloc _ _).drew, t0.kept ((Kept.refl _).alloc _ _).drew⟩ | with_reducible exact ⟨kW.set3 hzW1 _ _ _, cell_set3 hzW2 c0 _ _ _, s0.set3 hzW2 _ _ _, t0.set3 hzW3 _ _ _⟩)
    (first
    | (go_at_call 168; ((with_reducible refine (kernels_new _).mono ?_); rintro e w1 ⟨p, rfl, g, hl⟩; have hl1 (c : Array Value) (t : TypeId) := hl k _ ((Kept.refl _).alloc c t); replace hl := hl k _ (Kept.refl _); rw [e0, hk] at hl; simp only [e0, hk] at hl1; obtain ⟨hc1, hf1⟩ := g.reads; (first | (with_reducible (replace kW := kW.trans g); replace c0 := g.cell c0; replace s0 := s0.kept g; replace t0 := t0.kept g) | (with_reducible (replace kW := kW.drew.trans g); replace c0 := g.cell ((Kept.refl _).drew.cell c0); replace s0 := s0.kept ((Kept.refl _).drew.trans g); replace t0 := t0.kept ((Kept.refl _).drew.trans g)) | (have hz : W.heap.size < w1.heap.size := (by (have := g.size; simp at this; omega)); with_reducible (replace kW := (kW.alloc _ _).drew.trans g); replace c0 := g.cell (((Kept.refl _).alloc _ _).drew.cell c0); replace s0 := s0.kept (((Kept.refl _).alloc _ _).drew.trans g); replace t0 := t0.kept (((Kept.refl _).alloc _ _).drew.trans g))); clear g)))
  all_goals
    rename_i hH
    obtain ⟨hH, d0, s1, t1⟩ := hH
    obtain ⟨⟨a0, a1, a2⟩, b0, b1, b2⟩ := s1
    obtain ⟨⟨x0, x1, x2⟩, y0, y1, y2⟩ := t1
    go_wp2
    exact bodyPost_ret (v := .tuple #[sta k a b, .bool false]) (by simp [results, Tryz.results138, go_sem, *]) rfl
      ⟨rfl, hH.set3 (Nat.le_succ _) _ _ _⟩
theorem kdecide_core1 (a b now cap v dk da dt : Int) (pp : Bool) (w : World)
    (C : Hid (∀ w, Calls Tryz.prog 203 #[sta 1 a b, .int .u64 now, .int .u64 cap, .int .u64 v] w fun e w' => e = .returned (.tuple #[sta dk da dt, .bool pp]) ∧ Kept w w')) :
    Calls Tryz.prog 138 #[sta 1 a b, .int .u64 now, .int .u64 cap, .int .u64 v] w fun e w' => e = .returned (.tuple #[sta dk da dt, .bool pp]) ∧ Kept w w' := by
  have hk : isK 1 = true := rfl
  have e0 : kerV 1 = kern1 := rfl
  go_enter Tryz.func138, Tryz.ntmps138
  go_wp2
  have kW : Kept w ((w.alloc (.cells #[.int .u8 1, .int .u64 a, .int .u64 b] 90)).alloc (.cells #[.int .u8 0, .int .u64 0, .int .u64 0] 90)) := ((Kept.refl w).alloc _ _).alloc _ _
  have c0 : ((w.alloc (.cells #[.int .u8 1, .int .u64 a, .int .u64 b] 90)).alloc (.cells #[.int .u8 0, .int .u64 0, .int .u64 0] 90)).cell? ⟨w.heap.size, 0, none⟩ = some (.int .u8 1) := by simp
  have s0 : Row3 ((w.alloc (.cells #[.int .u8 1, .int .u64 a, .int .u64 b] 90)).alloc (.cells #[.int .u8 0, .int .u64 0, .int .u64 0] 90)) w.heap.size (.int .u8 1) (.int .u64 a) (.int .u64 b) := ⟨⟨by simp, by simp, by simp⟩, by simp, by simp, by simp⟩
  have t0 : Row3 ((w.alloc (.cells #[.int .u8 1, .int .u64 a, .int .u64 b] 90)).alloc (.cells #[.int .u8 0, .int .u64 0, .int .u64 0] 90)) (w.heap.size + 1) (.int .u8 0) (.int .u64 0) (.int .u64 0) := ⟨⟨by simp, by simp, by simp⟩, by simp, by simp, by simp⟩
  have hzW : w.heap.size + 1 < ((w.alloc (.cells #[.int .u8 1, .int .u64 a, .int .u64 b] 90)).alloc (.cells #[.int .u8 0, .int .u64 0, .int .u64 0] 90)).heap.size := by simp
  generalize hW : World.alloc (World.alloc _ _) _ = W at *
  clear hW
  have hzW1 : w.heap.size ≤ W.heap.size := by omega
  have hzW2 : w.heap.size ≠ W.heap.size := by omega
  have hzW3 : w.heap.size + 1 ≠ W.heap.size := by omega
  go_region_held3 (fun w' => Kept w w' ∧ w'.cell? ⟨w.heap.size, 0, none⟩ = some (.int .u8 1) ∧ Row3 w' w.heap.size (.int .u8 1) (.int .u64 a) (.int .u64 b) ∧ Row3 w' (w.heap.size + 1) (.int .u8 0) (.int .u64 0) (.int .u64 0))
    (first | with_reducible exact ⟨kW, c0, s0, t0⟩ | with_reducible exact ⟨kW.drew, (Kept.refl _).drew.cell c0, s0.kept (Kept.refl _).drew, t0.kept (Kept.refl _).drew⟩ | with_reducible exact ⟨kW.alloc _ _, ((Kept.refl _).alloc _ _).cell c0, s0.kept ((Kept.refl _).alloc _ _), t0.kept ((Kept.refl _).alloc _ _)⟩ | with_reducible exact ⟨(kW.alloc _ _).drew, ((Kept.refl _).alloc _ _).drew.cell c0, s0.kept ((Kept.refl _).alloc _ _).drew, t0.kept ((Kept.refl _).alloc _ _).drew⟩ | with_reducible exact ⟨kW.set3 hzW1 _ _ _, cell_set3 hzW2 c0 _ _ _, s0.set3 hzW2 _ _ _, t0.set3 hzW3 _ _ _⟩)
    (first
    | (go_at_call 168; ((with_reducible refine (kernels_new _).mono ?_); rintro e w1 ⟨p, rfl, g, hl⟩; have hl1 (c : Array Value) (t : TypeId) := hl 1 _ ((Kept.refl _).alloc c t); replace hl := hl 1 _ (Kept.refl _); rw [e0, hk] at hl; simp only [e0, hk] at hl1; obtain ⟨hc1, hf1⟩ := g.reads; (first | (with_reducible (replace kW := kW.trans g); replace c0 := g.cell c0; replace s0 := s0.kept g; replace t0 := t0.kept g) | (with_reducible (replace kW := kW.drew.trans g); replace c0 := g.cell ((Kept.refl _).drew.cell c0); replace s0 := s0.kept ((Kept.refl _).drew.trans g); replace t0 := t0.kept ((Kept.refl _).drew.trans g)) | (have hz : W.heap.size < w1.heap.size := (by (have := g.size; simp at this; omega)); with_reducible (replace kW := (kW.alloc _ _).drew.trans g); replace c0 := g.cell (((Kept.refl _).alloc _ _).drew.cell c0); replace s0 := s0.kept (((Kept.refl _).alloc _ _).drew.trans g); replace t0 := t0.kept (((Kept.refl _).alloc _ _).drew.trans g))); clear g)))
  all_goals
    rename_i hH
    obtain ⟨hH, d0, s1, t1⟩ := hH
    have a0 := s1.1
    obtain ⟨a0, a1, a2⟩ := a0
    go_wp2_with (go_at_call 203; ((with_reducible refine (C.out _).mono ?_); rintro e w5 ⟨rfl, g5⟩; replace t1 := t1.kept g5; obtain ⟨⟨x0, x1, x2⟩, y0, y1, y2⟩ := t1))
    exact bodyPost_ret (v := .tuple #[sta dk da dt, .bool pp]) (by simp [results, Tryz.results138, go_sem, *]) rfl
      ⟨rfl, (hH.trans g5).set3 (Nat.le_succ _) _ _ _⟩
theorem kdecide_core2 (a b now cap v dk da dt : Int) (pp : Bool) (w : World)
    (C : Hid (∀ w, Calls Tryz.prog 206 #[sta 2 a b, .int .u64 now, .int .u64 cap, .int .u64 v] w fun e w' => e = .returned (.tuple #[sta dk da dt, .bool pp]) ∧ Kept w w')) :
    Calls Tryz.prog 138 #[sta 2 a b, .int .u64 now, .int .u64 cap, .int .u64 v] w fun e w' => e = .returned (.tuple #[sta dk da dt, .bool pp]) ∧ Kept w w' := by
  have hk : isK 2 = true := rfl
  have e0 : kerV 2 = kern2 := rfl
  go_enter Tryz.func138, Tryz.ntmps138
  go_wp2
  have kW : Kept w ((w.alloc (.cells #[.int .u8 2, .int .u64 a, .int .u64 b] 90)).alloc (.cells #[.int .u8 0, .int .u64 0, .int .u64 0] 90)) := ((Kept.refl w).alloc _ _).alloc _ _
  have c0 : ((w.alloc (.cells #[.int .u8 2, .int .u64 a, .int .u64 b] 90)).alloc (.cells #[.int .u8 0, .int .u64 0, .int .u64 0] 90)).cell? ⟨w.heap.size, 0, none⟩ = some (.int .u8 2) := by simp
  have s0 : Row3 ((w.alloc (.cells #[.int .u8 2, .int .u64 a, .int .u64 b] 90)).alloc (.cells #[.int .u8 0, .int .u64 0, .int .u64 0] 90)) w.heap.size (.int .u8 2) (.int .u64 a) (.int .u64 b) := ⟨⟨by simp, by simp, by simp⟩, by simp, by simp, by simp⟩
  have t0 : Row3 ((w.alloc (.cells #[.int .u8 2, .int .u64 a, .int .u64 b] 90)).alloc (.cells #[.int .u8 0, .int .u64 0, .int .u64 0] 90)) (w.heap.size + 1) (.int .u8 0) (.int .u64 0) (.int .u64 0) := ⟨⟨by simp, by simp, by simp⟩, by simp, by simp, by simp⟩
  have hzW : w.heap.size + 1 < ((w.alloc (.cells #[.int .u8 2, .int .u64 a, .int .u64 b] 90)).alloc (.cells #[.int .u8 0, .int .u64 0, .int .u64 0] 90)).heap.size := by simp
  generalize hW : World.alloc (World.alloc _ _) _ = W at *
  clear hW
  have hzW1 : w.heap.size ≤ W.heap.size := by omega
  have hzW2 : w.heap.size ≠ W.heap.size := by omega
  have hzW3 : w.heap.size + 1 ≠ W.heap.size := by omega
  go_region_held3 (fun w' => Kept w w' ∧ w'.cell? ⟨w.heap.size, 0, none⟩ = some (.int .u8 2) ∧ Row3 w' w.heap.size (.int .u8 2) (.int .u64 a) (.int .u64 b) ∧ Row3 w' (w.heap.size + 1) (.int .u8 0) (.int .u64 0) (.int .u64 0))
    (first | with_reducible exact ⟨kW, c0, s0, t0⟩ | with_reducible exact ⟨kW.drew, (Kept.refl _).drew.cell c0, s0.kept (Kept.refl _).drew, t0.kept (Kept.refl _).drew⟩ | with_reducible exact ⟨kW.alloc _ _, ((Kept.refl _).alloc _ _).cell c0, s0.kept ((Kept.refl _).alloc _ _), t0.kept ((Kept.refl _).alloc _ _)⟩ | with_reducible exact ⟨(kW.alloc _ _).drew, ((Kept.refl _).alloc _ _).drew.cell c0, s0.kept ((Kept.refl _).alloc _ _).drew, t0.kept ((Kept.refl _).alloc _ _).drew⟩ | with_reducible exact ⟨kW.set3 hzW1 _ _ _, cell_set3 hzW2 c0 _ _ _, s0.set3 hzW2 _ _ _, t0.set3 hzW3 _ _ _⟩)
    (first
    | (go_at_call 168; ((with_reducible refine (kernels_new _).mono ?_); rintro e w1 ⟨p, rfl, g, hl⟩; have hl1 (c : Array Value) (t : TypeId) := hl 2 _ ((Kept.refl _).alloc c t); replace hl := hl 2 _ (Kept.refl _); rw [e0, hk] at hl; simp only [e0, hk] at hl1; obtain ⟨hc1, hf1⟩ := g.reads; (first | (with_reducible (replace kW := kW.trans g); replace c0 := g.cell c0; replace s0 := s0.kept g; replace t0 := t0.kept g) | (with_reducible (replace kW := kW.drew.trans g); replace c0 := g.cell ((Kept.refl _).drew.cell c0); replace s0 := s0.kept ((Kept.refl _).drew.trans g); replace t0 := t0.kept ((Kept.refl _).drew.trans g)) | (have hz : W.heap.size < w1.heap.size := (by (have := g.size; simp at this; omega)); with_reducible (replace kW := (kW.alloc _ _).drew.trans g); replace c0 := g.cell (((Kept.refl _).alloc _ _).drew.cell c0); replace s0 := s0.kept (((Kept.refl _).alloc _ _).drew.trans g); replace t0 := t0.kept (((Kept.refl _).alloc _ _).drew.trans g))); clear g)))
  all_goals
    rename_i hH
    obtain ⟨hH, d0, s1, t1⟩ := hH
    have a0 := s1.1
    obtain ⟨a0, a1, a2⟩ := a0
    go_wp2_with (go_at_call 206; ((with_reducible refine (C.out _).mono ?_); rintro e w5 ⟨rfl, g5⟩; replace t1 := t1.kept g5; obtain ⟨⟨x0, x1, x2⟩, y0, y1, y2⟩ := t1))
    exact bodyPost_ret (v := .tuple #[sta dk da dt, .bool pp]) (by simp [results, Tryz.results138, go_sem, *]) rfl
      ⟨rfl, (hH.trans g5).set3 (Nat.le_succ _) _ _ _⟩
theorem kdecide_core3 (a b now cap v dk da dt : Int) (pp : Bool) (w : World)
    (C : Hid (∀ w, Calls Tryz.prog 209 #[sta 3 a b, .int .u64 now, .int .u64 cap, .int .u64 v] w fun e w' => e = .returned (.tuple #[sta dk da dt, .bool pp]) ∧ Kept w w')) :
    Calls Tryz.prog 138 #[sta 3 a b, .int .u64 now, .int .u64 cap, .int .u64 v] w fun e w' => e = .returned (.tuple #[sta dk da dt, .bool pp]) ∧ Kept w w' := by
  have hk : isK 3 = true := rfl
  have e0 : kerV 3 = kern3 := rfl
  go_enter Tryz.func138, Tryz.ntmps138
  go_wp2
  have kW : Kept w ((w.alloc (.cells #[.int .u8 3, .int .u64 a, .int .u64 b] 90)).alloc (.cells #[.int .u8 0, .int .u64 0, .int .u64 0] 90)) := ((Kept.refl w).alloc _ _).alloc _ _
  have c0 : ((w.alloc (.cells #[.int .u8 3, .int .u64 a, .int .u64 b] 90)).alloc (.cells #[.int .u8 0, .int .u64 0, .int .u64 0] 90)).cell? ⟨w.heap.size, 0, none⟩ = some (.int .u8 3) := by simp
  have s0 : Row3 ((w.alloc (.cells #[.int .u8 3, .int .u64 a, .int .u64 b] 90)).alloc (.cells #[.int .u8 0, .int .u64 0, .int .u64 0] 90)) w.heap.size (.int .u8 3) (.int .u64 a) (.int .u64 b) := ⟨⟨by simp, by simp, by simp⟩, by simp, by simp, by simp⟩
  have t0 : Row3 ((w.alloc (.cells #[.int .u8 3, .int .u64 a, .int .u64 b] 90)).alloc (.cells #[.int .u8 0, .int .u64 0, .int .u64 0] 90)) (w.heap.size + 1) (.int .u8 0) (.int .u64 0) (.int .u64 0) := ⟨⟨by simp, by simp, by simp⟩, by simp, by simp, by simp⟩
  have hzW : w.heap.size + 1 < ((w.alloc (.cells #[.int .u8 3, .int .u64 a, .int .u64 b] 90)).alloc (.cells #[.int .u8 0, .int .u64 0, .int .u64 0] 90)).heap.size := by simp
  generalize hW : World.alloc (World.alloc _ _) _ = W at *
  clear hW
  have hzW1 : w.heap.size ≤ W.heap.size := by omega
  have hzW2 : w.heap.size ≠ W.heap.size := by omega
  have hzW3 : w.heap.size + 1 ≠ W.heap.size := by omega
  go_region_held3 (fun w' => Kept w w' ∧ w'.cell? ⟨w.heap.size, 0, none⟩ = some (.int .u8 3) ∧ Row3 w' w.heap.size (.int .u8 3) (.int .u64 a) (.int .u64 b) ∧ Row3 w' (w.heap.size + 1) (.int .u8 0) (.int .u64 0) (.int .u64 0))
    (first | with_reducible exact ⟨kW, c0, s0, t0⟩ | with_reducible exact ⟨kW.drew, (Kept.refl _).drew.cell c0, s0.kept (Kept.refl _).drew, t0.kept (Kept.refl _).drew⟩ | with_reducible exact ⟨kW.alloc _ _, ((Kept.refl _).alloc _ _).cell c0, s0.kept ((Kept.refl _).alloc _ _), t0.kept ((Kept.refl _).alloc _ _)⟩ | with_reducible exact ⟨(kW.alloc _ _).drew, ((Kept.refl _).alloc _ _).drew.cell c0, s0.kept ((Kept.refl _).alloc _ _).drew, t0.kept ((Kept.refl _).alloc _ _).drew⟩ | with_reducible exact ⟨kW.set3 hzW1 _ _ _, cell_set3 hzW2 c0 _ _ _, s0.set3 hzW2 _ _ _, t0.set3 hzW3 _ _ _⟩)
    (first
    | (go_at_call 168; ((with_reducible refine (kernels_new _).mono ?_); rintro e w1 ⟨p, rfl, g, hl⟩; have hl1 (c : Array Value) (t : TypeId) := hl 3 _ ((Kept.refl _).alloc c t); replace hl := hl 3 _ (Kept.refl _); rw [e0, hk] at hl; simp only [e0, hk] at hl1; obtain ⟨hc1, hf1⟩ := g.reads; (first | (with_reducible (replace kW := kW.trans g); replace c0 := g.cell c0; replace s0 := s0.kept g; replace t0 := t0.kept g) | (with_reducible (replace kW := kW.drew.trans g); replace c0 := g.cell ((Kept.refl _).drew.cell c0); replace s0 := s0.kept ((Kept.refl _).drew.trans g); replace t0 := t0.kept ((Kept.refl _).drew.trans g)) | (have hz : W.heap.size < w1.heap.size := (by (have := g.size; simp at this; omega)); with_reducible (replace kW := (kW.alloc _ _).drew.trans g); replace c0 := g.cell (((Kept.refl _).alloc _ _).drew.cell c0); replace s0 := s0.kept (((Kept.refl _).alloc _ _).drew.trans g); replace t0 := t0.kept (((Kept.refl _).alloc _ _).drew.trans g))); clear g)))
  all_goals
    rename_i hH
    obtain ⟨hH, d0, s1, t1⟩ := hH
    have a0 := s1.1
    obtain ⟨a0, a1, a2⟩ := a0
    go_wp2_with (go_at_call 209; ((with_reducible refine (C.out _).mono ?_); rintro e w5 ⟨rfl, g5⟩; replace t1 := t1.kept g5; obtain ⟨⟨x0, x1, x2⟩, y0, y1, y2⟩ := t1))
    exact bodyPost_ret (v := .tuple #[sta dk da dt, .bool pp]) (by simp [results, Tryz.results138, go_sem, *]) rfl
      ⟨rfl, (hH.trans g5).set3 (Nat.le_succ _) _ _ _⟩
/-- What is kept behind a decision. -/
def deK (k a b now cap v : Int) : Int := if deB a b now cap v = true then 3 else k
def deA (a b now cap v : Int) : Int := if deB a b now cap v = true then fiI a b now + v else a
def deT (a b now cap v : Int) : Int := if deB a b now cap v = true then now else b
theorem decide_any (k a b now cap v : Int) (w : World) (ha : U a) (hb : U b) (hn : U now) (hc : U cap) (hv : U v) :
    Calls Tryz.prog 209 #[sta k a b, .int .u64 now, .int .u64 cap, .int .u64 v] w fun e w' => e = .returned (.tuple #[sta (deK k a b now cap v) (deA a b now cap v) (deT a b now cap v), .bool (deB a b now cap v)]) ∧ Kept w w' := by
  unfold deK deA deT
  cases h : deB a b now cap v
  · exact decide_no k a b now cap v w ha hb hn hc hv h
  · exact decide_yes k a b now cap v w ha hb hn hc hv h
theorem num_div (a b : Int) (w : World) (ha : U a) (hb : U b) :
    Calls Tryz.prog 178 #[.int .u64 a, .int .u64 b] w fun e w' => e = .returned (.int .u64 (dvI a b)) ∧ Drew w w' := by
  go_enter Tryz.func178, Tryz.ntmps178
  go_wp2_with (go_at_call 216; ((with_reducible refine (num_quot _ _ _ ha hb).mono ?_); rintro e w' ⟨rfl, gw⟩))
  go_ret
  exact ⟨rfl, gw⟩
def kfI (k a b now cap : Int) : Int := if k = 1 then sbI a now else if k = 2 then biI a b now cap else if k = 3 then fiI a b now else 0
def kdB (k a b now cap v : Int) : Bool := if k = 1 then gdB a now cap v else if k = 2 then bdB a b now cap v else if k = 3 then deB a b now cap v else false
def kdK (k a b now cap v : Int) : Int := if k = 1 then gdK 1 a now cap v else if k = 2 then bdK 2 a b now cap v else if k = 3 then deK 3 a b now cap v else k
def kdA (k a b now cap v : Int) : Int := if k = 1 then gdA a now cap v else if k = 2 then bdA a b now cap v else if k = 3 then deA a b now cap v else a
def kdT (k a b now cap v : Int) : Int := if k = 1 then gdT a b now cap v else if k = 2 then bdT a b now cap v else if k = 3 then deT a b now cap v else b
def koK (k : Int) : Int := if isK k = true then k else 0
def koA (k now cap f : Int) : Int := if k = 1 then sat (now + f) else if k = 2 then sbI cap f else if k = 3 then f else 0
def koB (k now : Int) : Int := if k = 2 then now else if k = 3 then now else 0
def koE (k : Int) : Int := if isK k = true then 0 else 27
def kuI (now f : Int) : Int := if f = 0 then 0 else sat (now + f)
def kwB (f cap v : Int) : Bool := decide (v ≤ cap ∧ cap < f + v)
def kwI (f cap v : Int) : Int := if kwB f cap v = true then f + v - cap else 0
theorem isK_no (k : Int) (h : isK k = false) : k ≠ 1 ∧ k ≠ 2 ∧ k ≠ 3 := by unfold isK at h; simp at h; omega
theorem kfI_U (k a b now cap : Int) (ha : U a) (hb : U b) (hn : U now) (hc : U cap) : U (kfI k a b now cap) := by
  unfold kfI; split; exact sbI_U _ _ ha hn; split; exact biI_U _ _ _ _ ha hb hn hc; split; exact fiI_U _ _ _ ha hb hn; exact U_zero
theorem kfill_any (k a b now cap : Int) (w : World) (ha : U a) (hb : U b) (hn : U now) (hc : U cap) :
    Calls Tryz.prog 116 #[sta k a b, .int .u64 now, .int .u64 cap] w fun e w' => e = .returned (.int .u64 (kfI k a b now cap)) ∧ Kept w w' := by
  cases h : isK k
  · obtain ⟨h1, h2, h3⟩ := isK_no k h
    have e : kfI k a b now cap = 0 := by unfold kfI; rw [if_neg h1, if_neg h2, if_neg h3]
    rw [e]; exact kfill_no k a b now cap w h
  · rcases isK_yes k h with rfl | rfl | rfl
    · exact kfill_core1 a b now cap _ w (Lib.hid fun w => gfill_any 1 a b now cap w ha hn)
    · exact kfill_core2 a b now cap _ w (Lib.hid fun w => bfill_any 2 a b now cap w ha hb hn hc)
    · exact kfill_core3 a b now cap _ w (Lib.hid fun w => fill_any 3 a b now cap w ha hb hn)
theorem kdecide_any (k a b now cap v : Int) (w : World) (ha : U a) (hb : U b) (hn : U now) (hc : U cap) (hv : U v) :
    Calls Tryz.prog 138 #[sta k a b, .int .u64 now, .int .u64 cap, .int .u64 v] w fun e w' => e = .returned (.tuple #[sta (kdK k a b now cap v) (kdA k a b now cap v) (kdT k a b now cap v), .bool (kdB k a b now cap v)]) ∧ Kept w w' := by
  cases h : isK k
  · obtain ⟨h1, h2, h3⟩ := isK_no k h
    have e : kdK k a b now cap v = k ∧ kdA k a b now cap v = a ∧ kdT k a b now cap v = b ∧ kdB k a b now cap v = false := by unfold kdK kdA kdT kdB; simp [h1, h2, h3]
    rw [e.1, e.2.1, e.2.2.1, e.2.2.2]; exact kdecide_no k a b now cap v w h
  · rcases isK_yes k h with rfl | rfl | rfl
    · exact kdecide_core1 a b now cap v _ _ _ _ w (Lib.hid fun w => gdecide_any 1 a b now cap v w ha hb hn hc hv)
    · exact kdecide_core2 a b now cap v _ _ _ _ w (Lib.hid fun w => bdecide_any 2 a b now cap v w ha hb hn hc hv)
    · exact kdecide_core3 a b now cap v _ _ _ _ w (Lib.hid fun w => decide_any 3 a b now cap v w ha hb hn hc hv)
theorem kof_no (k now cap f : Int) (w : World) (hk : isK k = false) :
    Calls Tryz.prog 150 #[.int .u8 k, .int .u64 now, .int .u64 cap, .int .u64 f] w fun e w' => e = .returned (.tuple #[sta 0 0 0, .int .u16 27]) ∧ Kept w w' := by
  have e0 := kerV_no k hk
  have t0 : Row3 (w.alloc (.cells #[.int .u8 0, .int .u64 0, .int .u64 0] 90)) w.heap.size (.int .u8 0) (.int .u64 0) (.int .u64 0) := ⟨⟨by simp, by simp, by simp⟩, by simp, by simp, by simp⟩
  go_enter Tryz.func150, Tryz.ntmps150
  go_wp2_with (go_at_call 168; ((with_reducible refine (kernels_new _).mono ?_); rintro e w1 ⟨p, rfl, g1, hl⟩; replace hl := hl k _ (Kept.refl _); rw [e0, hk] at hl; replace t0 := t0.kept g1; obtain ⟨⟨x0, x1, x2⟩, y0, y1, y2⟩ := t0; have hz1 : w.heap.size < w1.heap.size := by (have := g1.size; simp at this; omega)))
  exact bodyPost_ret (v := .tuple #[sta 0 0 0, .int .u16 27]) (by simp [results, Tryz.results150, go_sem, *]) rfl
    ⟨rfl, ((((Kept.refl w).alloc _ _).trans g1).set3 (Nat.le_refl _) _ _ _).alloc _ _⟩
theorem kof_core1 (now cap f ok oa ob : Int) (w : World)
    (C : Hid (∀ w, Calls Tryz.prog 201 #[.int .u64 now, .int .u64 cap, .int .u64 f] w fun e w' => e = .returned (sta ok oa ob) ∧ Kept w w')) :
    Calls Tryz.prog 150 #[.int .u8 1, .int .u64 now, .int .u64 cap, .int .u64 f] w fun e w' => e = .returned (.tuple #[sta ok oa ob, .int .u16 0]) ∧ Kept w w' := by
  have hk : isK 1 = true := rfl
  have e0 : kerV 1 = kern1 := rfl
  have t0 : Row3 (w.alloc (.cells #[.int .u8 0, .int .u64 0, .int .u64 0] 90)) w.heap.size (.int .u8 0) (.int .u64 0) (.int .u64 0) := ⟨⟨by simp, by simp, by simp⟩, by simp, by simp, by simp⟩
  go_enter Tryz.func150, Tryz.ntmps150
  go_wp2_with (first
    | (go_at_call 168; ((with_reducible refine (kernels_new _).mono ?_); rintro e w1 ⟨p, rfl, g1, hl⟩; replace hl := hl 1 _ (Kept.refl _); rw [e0, hk] at hl; replace t0 := t0.kept g1))
    | (go_at_call 201; ((with_reducible refine (C.out _).mono ?_); rintro e w2 ⟨rfl, g2⟩; replace t0 := t0.kept (((Kept.refl _).alloc _ _).trans g2); obtain ⟨⟨x0, x1, x2⟩, y0, y1, y2⟩ := t0)))
  exact bodyPost_ret (v := .tuple #[sta ok oa ob, .int .u16 0]) (by simp [results, Tryz.results150, go_sem, *]) rfl
    ⟨rfl, (((((Kept.refl w).alloc _ _).trans g1).alloc _ _).trans g2).set3 (Nat.le_refl _) _ _ _⟩
theorem kof_core2 (now cap f ok oa ob : Int) (w : World)
    (C : Hid (∀ w, Calls Tryz.prog 204 #[.int .u64 now, .int .u64 cap, .int .u64 f] w fun e w' => e = .returned (sta ok oa ob) ∧ Kept w w')) :
    Calls Tryz.prog 150 #[.int .u8 2, .int .u64 now, .int .u64 cap, .int .u64 f] w fun e w' => e = .returned (.tuple #[sta ok oa ob, .int .u16 0]) ∧ Kept w w' := by
  have hk : isK 2 = true := rfl
  have e0 : kerV 2 = kern2 := rfl
  have t0 : Row3 (w.alloc (.cells #[.int .u8 0, .int .u64 0, .int .u64 0] 90)) w.heap.size (.int .u8 0) (.int .u64 0) (.int .u64 0) := ⟨⟨by simp, by simp, by simp⟩, by simp, by simp, by simp⟩
  go_enter Tryz.func150, Tryz.ntmps150
  go_wp2_with (first
    | (go_at_call 168; ((with_reducible refine (kernels_new _).mono ?_); rintro e w1 ⟨p, rfl, g1, hl⟩; replace hl := hl 2 _ (Kept.refl _); rw [e0, hk] at hl; replace t0 := t0.kept g1))
    | (go_at_call 204; ((with_reducible refine (C.out _).mono ?_); rintro e w2 ⟨rfl, g2⟩; replace t0 := t0.kept (((Kept.refl _).alloc _ _).trans g2); obtain ⟨⟨x0, x1, x2⟩, y0, y1, y2⟩ := t0)))
  exact bodyPost_ret (v := .tuple #[sta ok oa ob, .int .u16 0]) (by simp [results, Tryz.results150, go_sem, *]) rfl
    ⟨rfl, (((((Kept.refl w).alloc _ _).trans g1).alloc _ _).trans g2).set3 (Nat.le_refl _) _ _ _⟩
theorem kof_core3 (now cap f ok oa ob : Int) (w : World)
    (C : Hid (∀ w, Calls Tryz.prog 207 #[.int .u64 now, .int .u64 cap, .int .u64 f] w fun e w' => e = .returned (sta ok oa ob) ∧ Kept w w')) :
    Calls Tryz.prog 150 #[.int .u8 3, .int .u64 now, .int .u64 cap, .int .u64 f] w fun e w' => e = .returned (.tuple #[sta ok oa ob, .int .u16 0]) ∧ Kept w w' := by
  have hk : isK 3 = true := rfl
  have e0 : kerV 3 = kern3 := rfl
  have t0 : Row3 (w.alloc (.cells #[.int .u8 0, .int .u64 0, .int .u64 0] 90)) w.heap.size (.int .u8 0) (.int .u64 0) (.int .u64 0) := ⟨⟨by simp, by simp, by simp⟩, by simp, by simp, by simp⟩
  go_enter Tryz.func150, Tryz.ntmps150
  go_wp2_with (first
    | (go_at_call 168; ((with_reducible refine (kernels_new _).mono ?_); rintro e w1 ⟨p, rfl, g1, hl⟩; replace hl := hl 3 _ (Kept.refl _); rw [e0, hk] at hl; replace t0 := t0.kept g1))
    | (go_at_call 207; ((with_reducible refine (C.out _).mono ?_); rintro e w2 ⟨rfl, g2⟩; replace t0 := t0.kept (((Kept.refl _).alloc _ _).trans g2); obtain ⟨⟨x0, x1, x2⟩, y0, y1, y2⟩ := t0)))
  exact bodyPost_ret (v := .tuple #[sta ok oa ob, .int .u16 0]) (by simp [results, Tryz.results150, go_sem, *]) rfl
    ⟨rfl, (((((Kept.refl w).alloc _ _).trans g1).alloc _ _).trans g2).set3 (Nat.le_refl _) _ _ _⟩
theorem kof_any (k now cap f : Int) (w : World) (hn : U now) (hc : U cap) (hf : U f) :
    Calls Tryz.prog 150 #[.int .u8 k, .int .u64 now, .int .u64 cap, .int .u64 f] w fun e w' => e = .returned (.tuple #[sta (koK k) (koA k now cap f) (koB k now), .int .u16 (koE k)]) ∧ Kept w w' := by
  cases h : isK k
  · obtain ⟨h1, h2, h3⟩ := isK_no k h
    have e : koK k = 0 ∧ koA k now cap f = 0 ∧ koB k now = 0 ∧ koE k = 27 := by unfold koK koA koB koE; simp [h, h1, h2, h3]
    rw [e.1, e.2.1, e.2.2.1, e.2.2.2]; exact kof_no k now cap f w h
  · rcases isK_yes k h with rfl | rfl | rfl
    · exact kof_core1 now cap f _ _ _ w (Lib.hid fun w => gof_any now cap f w hn hf)
    · exact kof_core2 now cap f _ _ _ w (Lib.hid fun w => bof_any now cap f w hc hf)
    · exact kof_core3 now cap f _ _ _ w (Lib.hid fun w => of_any now cap f w)
theorem kuntil_core (k a b now cap f : Int) (w : World) (hn : U now) (hf : U f)
    (F : Hid (∀ w, Calls Tryz.prog 116 #[sta k a b, .int .u64 now, .int .u64 cap] w fun e w' => e = .returned (.int .u64 f) ∧ Kept w w')) :
    Calls Tryz.prog 67 #[sta k a b, .int .u64 now, .int .u64 cap] w fun e w' => e = .returned (.int .u64 (kuI now f)) ∧ Kept w w' := by
  by_cases c : f = 0
  · subst c
    have e : kuI now 0 = 0 := rfl
    rw [e]; clear e
    go_enter Tryz.func67, Tryz.ntmps67
    go_wp2_with (go_at_call 116; ((with_reducible refine (F.out _).mono ?_); rintro e w1 ⟨rfl, g1⟩))
    go_ret
    exact ⟨rfl, ((Kept.refl w).alloc _ _).trans g1⟩
  · have e : kuI now f = sat (now + f) := by unfold kuI; rw [if_neg c]
    rw [e]; clear e
    have c1 : (f == 0) = false := by simpa using c
    have A := Lib.hid (fun (g c : Nat) (w : World) => num_add_two g c now f w hn hf)
    generalize sat (now + f) = x at *
    go_enter Tryz.func67, Tryz.ntmps67
    go_wp2_with (first
      | (go_at_call 116; ((with_reducible refine (F.out _).mono ?_); rintro e w1 ⟨rfl, g1⟩))
      | (go_at_call 117; ((with_reducible refine (A.out _ _ _ (by simp) (by simp)).mono ?_); rintro e w2 ⟨rfl, rfl⟩)))
    go_ret
    exact ⟨rfl, (((Kept.refl w).alloc _ _).trans g1).alloc _ _⟩
theorem kuntil_any (k a b now cap : Int) (w : World) (ha : U a) (hb : U b) (hn : U now) (hc : U cap) :
    Calls Tryz.prog 67 #[sta k a b, .int .u64 now, .int .u64 cap] w fun e w' => e = .returned (.int .u64 (kuI now (kfI k a b now cap))) ∧ Kept w w' :=
  kuntil_core k a b now cap _ w hn (kfI_U k a b now cap ha hb hn hc) (Lib.hid fun w => kfill_any k a b now cap w ha hb hn hc)
theorem kleft_core (k a b now cap ev f s d : Int) (w : World)
    (F : Hid (∀ w, Calls Tryz.prog 116 #[sta k a b, .int .u64 now, .int .u64 cap] w fun e w' => e = .returned (.int .u64 f) ∧ Kept w w'))
    (S : Hid (∀ w, Calls Tryz.prog 114 #[.int .u64 cap, .int .u64 f] w fun e w' => e = .returned (.int .u64 s) ∧ w = w'))
    (D : Hid (∀ w, Calls Tryz.prog 178 #[.int .u64 s, .int .u64 ev] w fun e w' => e = .returned (.int .u64 d) ∧ Drew w w')) :
    Calls Tryz.prog 139 #[sta k a b, .int .u64 now, .int .u64 cap, .int .u64 ev] w fun e w' => e = .returned (.int .u64 d) ∧ Kept w w' := by
  go_enter Tryz.func139, Tryz.ntmps139
  go_wp2_with (first
    | (go_at_call 116; ((with_reducible refine (F.out _).mono ?_); rintro e w1 ⟨rfl, g1⟩))
    | (go_at_call 114; ((with_reducible refine (S.out _).mono ?_); rintro e w2 ⟨rfl, rfl⟩))
    | (go_at_call 178; ((with_reducible refine (D.out _).mono ?_); rintro e w3 ⟨rfl, g3⟩)))
  go_ret
  exact ⟨rfl, (((Kept.refl w).alloc _ _).trans g1).trans g3.kept⟩
theorem kleft_any (k a b now cap ev : Int) (w : World) (ha : U a) (hb : U b) (hn : U now) (hc : U cap) (he : U ev) :
    Calls Tryz.prog 139 #[sta k a b, .int .u64 now, .int .u64 cap, .int .u64 ev] w fun e w' => e = .returned (.int .u64 (dvI (sbI cap (kfI k a b now cap)) ev)) ∧ Kept w w' :=
  have hf := kfI_U k a b now cap ha hb hn hc
  kleft_core k a b now cap ev _ _ _ w (Lib.hid fun w => kfill_any k a b now cap w ha hb hn hc) (Lib.hid fun w => num_sub _ _ w hc hf) (Lib.hid fun w => num_div _ _ w (sbI_U _ _ hc hf) he)
theorem kwait_core (k a b now cap v f : Int) (w : World) (hc : U cap) (hv : U v) (hf : U f)
    (F : Hid (∀ w, Calls Tryz.prog 116 #[sta k a b, .int .u64 now, .int .u64 cap] w fun e w' => e = .returned (.int .u64 f) ∧ Kept w w')) :
    Calls Tryz.prog 137 #[sta k a b, .int .u64 now, .int .u64 cap, .int .u64 v] w fun e w' => e = .returned (.tuple #[.int .u64 (kwI f cap v), .bool (kwB f cap v)]) ∧ Kept w w' := by
  have c2 (w : World) := num_fits f v cap w hf hv hc
  by_cases h : cap < v
  · have e : kwB f cap v = false := by unfold kwB; simp; omega
    have e2 : kwI f cap v = 0 := by unfold kwI; rw [e]; rfl
    rw [e, e2]; clear e e2
    have C2 := Lib.hid c2
    clear c2
    go_enter Tryz.func137, Tryz.ntmps137
    go_wp2_with (first
      | (go_at_call 116; ((with_reducible refine (F.out _).mono ?_); rintro e w1 ⟨rfl, g1⟩))
      | (go_at_call 177; ((with_reducible refine (C2.out _).mono ?_); rintro e w2 ⟨rfl, rfl⟩)))
    go_ret2
    exact ⟨rfl, ((Kept.refl w).alloc _ _).trans g1⟩
  · by_cases h2 : f + v ≤ cap
    · have e : kwB f cap v = false := by unfold kwB; simp; omega
      have e2 : kwI f cap v = 0 := by unfold kwI; rw [e]; rfl
      have e3 : ftB f v cap = true := by unfold ftB; simpa using h2
      rw [e, e2]; clear e e2
      rw [e3] at c2
      have C2 := Lib.hid c2
      clear c2 e3
      go_enter Tryz.func137, Tryz.ntmps137
      go_wp2_with (first
        | (go_at_call 116; ((with_reducible refine (F.out _).mono ?_); rintro e w1 ⟨rfl, g1⟩))
        | (go_at_call 177; ((with_reducible refine (C2.out _).mono ?_); rintro e w2 ⟨rfl, rfl⟩)))
      go_ret2
      exact ⟨rfl, ((Kept.refl w).alloc _ _).trans g1⟩
    · have e : kwB f cap v = true := by unfold kwB; simp; omega
      have e2 : kwI f cap v = f - (cap - v) := by unfold kwI; rw [e]; simp; omega
      have e3 : ftB f v cap = false := by unfold ftB; simpa using h2
      rw [e, e2]; clear e e2
      rw [e3] at c2
      have C2 := Lib.hid c2
      clear c2 e3
      have b1 : 0 ≤ cap - v ∧ cap - v ≤ 18446744073709551615 := by unfold U at *; omega
      have b2 : 0 ≤ f - (cap - v) ∧ f - (cap - v) ≤ 18446744073709551615 := by unfold U at *; omega
      unfold U at hc hv hf
      go_enter Tryz.func137, Tryz.ntmps137
      go_wp2_with (first
        | (go_at_call 116; ((with_reducible refine (F.out _).mono ?_); rintro e w1 ⟨rfl, g1⟩))
        | (go_at_call 177; ((with_reducible refine (C2.out _).mono ?_); rintro e w2 ⟨rfl, rfl⟩)))
      go_ret2
      exact ⟨rfl, ((Kept.refl w).alloc _ _).trans g1⟩
theorem kwait_any (k a b now cap v : Int) (w : World) (ha : U a) (hb : U b) (hn : U now) (hc : U cap) (hv : U v) :
    Calls Tryz.prog 137 #[sta k a b, .int .u64 now, .int .u64 cap, .int .u64 v] w fun e w' => e = .returned (.tuple #[.int .u64 (kwI (kfI k a b now cap) cap v), .bool (kwB (kfI k a b now cap) cap v)]) ∧ Kept w w' :=
  kwait_core k a b now cap v _ w hc hv (kfI_U k a b now cap ha hb hn hc) (Lib.hid fun w => kfill_any k a b now cap w ha hb hn hc)
def kmK (k kto : Int) : Int := if isK k = true then koK kto else 0
def kmA (k a b kto now cap : Int) : Int := if isK k = true then koA kto now cap (kfI k a b now cap) else 0
def kmB (k kto now : Int) : Int := if isK k = true then koB kto now else 0
def kmE (k kto : Int) : Int := if isK k = true then koE kto else 27
theorem sat_id (x : Int) (h : x ≤ 18446744073709551615) : sat x = x := by unfold sat; split <;> omega
theorem sb_sb (a d e : Int) (hd : 0 ≤ d) (he : 0 ≤ e) : sbI (sbI a d) e = sbI a (d + e) := by
  unfold sbI; (repeat' split) <;> omega
theorem sb_here (a : Int) (ha : 0 ≤ a) : sbI a 0 = a := by unfold sbI; split <;> omega
/-- From t0 on the state tells a FILL of f at t0, less what has passed. -/
def Tells (k a b cap t0 f : Int) : Prop := ∀ t, t0 ≤ t → U t → kfI k a b t cap = sbI f (t - t0)
def Is3 (k : Int) : Prop := k = 1 ∨ k = 2 ∨ k = 3
theorem Is3.isK {k : Int} (h : Is3 k) : isK k = true := by rcases h with rfl | rfl | rfl <;> rfl
theorem is3_mod (k : Int) (h : 0 ≤ k) : Is3 (1 + k % 3) := by unfold Is3; omega
theorem koA_U (k now cap f : Int) (hn : U now) (hc : U cap) (hf : U f) : U (koA k now cap f) := by
  unfold koA; split; exact sat_U _ (by unfold U at *; omega); split; exact sbI_U _ _ hc hf; split; exact hf; exact U_zero
theorem koB_U (k now : Int) (hn : U now) : U (koB k now) := by
  unfold koB; split; exact hn; split; exact hn; exact U_zero
theorem koK_is {k : Int} (h : Is3 k) : koK k = k := by unfold koK; rw [if_pos h.isK]
theorem koE_is {k : Int} (h : Is3 k) : koE k = 0 := by unfold koE; rw [if_pos h.isK]
theorem kmK_is {k kto : Int} (h : Is3 k) (h' : Is3 kto) : kmK k kto = kto := by unfold kmK; rw [if_pos h.isK, koK_is h']
theorem kmA_is {k : Int} (h : Is3 k) (a b kto now cap : Int) : kmA k a b kto now cap = koA kto now cap (kfI k a b now cap) := by unfold kmA; rw [if_pos h.isK]
theorem kmB_is {k : Int} (h : Is3 k) (kto now : Int) : kmB k kto now = koB kto now := by unfold kmB; rw [if_pos h.isK]
theorem kmE_is {k kto : Int} (h : Is3 k) (h' : Is3 kto) : kmE k kto = 0 := by unfold kmE; rw [if_pos h.isK, koE_is h']
theorem tells_of {k : Int} (hk : Is3 k) (t0 cap f : Int) (h0 : 0 ≤ t0) (hf : 0 ≤ f) (hfc : f ≤ cap) (hs : t0 + f ≤ 18446744073709551615) : Tells k (koA k t0 cap f) (koB k t0) cap t0 f := by
  intro t ht hu
  unfold U at hu
  rcases hk with rfl | rfl | rfl
  · show sbI (sat (t0 + f)) t = _
    rw [sat_id _ hs]; unfold sbI; (repeat' split) <;> omega
  · show biI (sbI cap f) t0 t cap = _
    unfold biI tkI sbI; (repeat' split) <;> omega
  · show fiI f t0 t = _
    unfold fiI sbI; (repeat' split) <;> omega
theorem Tells.here {k a b cap t0 f : Int} (h : Tells k a b cap t0 f) (ht : U t0) (hf : 0 ≤ f) : kfI k a b t0 cap = f := by
  rw [h t0 (Int.le_refl _) ht]; unfold sbI; split <;> omega
theorem Tells.later {k a b cap t0 f : Int} (h : Tells k a b cap t0 f) {s : Int} (hs : t0 ≤ s) : Tells k a b cap s (sbI f (s - t0)) := by
  intro t ht hu
  rw [h t (by omega) hu, sb_sb _ _ _ (by omega) (by omega)]
  congr 1; omega
theorem kdB_is {k : Int} (hk : Is3 k) (a b now cap v : Int) : kdB k a b now cap v = ftB (kfI k a b now cap) v cap := by
  rcases hk with rfl | rfl | rfl
  · rfl
  · show bdB a b now cap v = ftB (biI a b now cap) v cap
    unfold bdB ftB biI; rw [Bool.eq_iff_iff]; simp only [decide_eq_true_eq]; omega
  · rfl
theorem kd_no {k : Int} (a b now cap v : Int) (h : kdB k a b now cap v = false) : kdK k a b now cap v = k ∧ kdA k a b now cap v = a ∧ kdT k a b now cap v = b := by
  unfold kdB at h; unfold kdK kdA kdT
  by_cases h1 : k = 1
  · subst h1; simp only [if_true] at h ⊢; unfold gdK gdA gdT; rw [h]; exact ⟨rfl, rfl, rfl⟩
  by_cases h2 : k = 2
  · subst h2; simp only [if_true, show ¬ (2 : Int) = 1 by omega, if_false] at h ⊢; unfold bdK bdA bdT; rw [h]; exact ⟨rfl, rfl, rfl⟩
  by_cases h3 : k = 3
  · subst h3; simp only [if_true, show ¬ (3 : Int) = 1 by omega, show ¬ (3 : Int) = 2 by omega, if_false] at h ⊢; unfold deK deA deT; rw [h]; exact ⟨rfl, rfl, rfl⟩
  simp [h1, h2, h3]
theorem kd_yes {k : Int} (hk : Is3 k) (a b now cap v : Int) (h : kdB k a b now cap v = true) : kdK k a b now cap v = k ∧ kdA k a b now cap v = (if k = 1 then sat (thI a now + v) else if k = 2 then tkI a b now cap - v else fiI a b now + v) ∧ kdT k a b now cap v = (if k = 1 then 0 else now) := by
  unfold kdB at h; unfold kdK kdA kdT
  rcases hk with rfl | rfl | rfl
  · simp only [if_true] at h ⊢; unfold gdK gdA gdT; rw [h]; exact ⟨rfl, rfl, rfl⟩
  · simp only [if_true, show ¬ (2 : Int) = 1 by omega, if_false] at h ⊢; unfold bdK bdA bdT; rw [h]; exact ⟨rfl, rfl, rfl⟩
  · simp only [if_true, show ¬ (3 : Int) = 1 by omega, show ¬ (3 : Int) = 2 by omega, if_false] at h ⊢; unfold deK deA deT; rw [h]; exact ⟨rfl, rfl, rfl⟩
/-- What is decided, and what is told then. -/
theorem Tells.decide {k a b cap t0 f : Int} (h : Tells k a b cap t0 f) (hk : Is3 k) (ha : U a) (hb : U b) (hc : U cap) (ht : U t0) (v : Int) (hv : U v) (hf : 0 ≤ f) (hs : t0 + cap ≤ 18446744073709551615) :
    kdB k a b t0 cap v = ftB f v cap ∧ kdK k a b t0 cap v = k ∧ U (kdA k a b t0 cap v) ∧ U (kdT k a b t0 cap v) ∧ Tells k (kdA k a b t0 cap v) (kdT k a b t0 cap v) cap t0 (if ftB f v cap = true then f + v else f) := by
  have e := h.here ht hf
  have e1 := kdB_is hk a b t0 cap v
  rw [e] at e1
  refine ⟨e1, ?_⟩
  cases c : ftB f v cap
  · rw [c] at e1
    obtain ⟨k1, k2, k3⟩ := kd_no a b t0 cap v e1
    rw [k1, k2, k3]
    exact ⟨rfl, ha, hb, h⟩
  · rw [c] at e1
    obtain ⟨k1, k2, k3⟩ := kd_yes hk a b t0 cap v e1
    rw [k1, k2, k3]
    have c' : f + v ≤ cap := by unfold ftB at c; simpa using c
    unfold U at *
    refine ⟨rfl, ?_⟩
    rcases hk with rfl | rfl | rfl
    · simp only [if_true]
      have e2 : sbI a t0 = f := e
      have e3 : thI a t0 = t0 + f := by rw [thI_eq, e2]
      rw [e3, sat_id _ (by omega)]
      refine ⟨by omega, by omega, ?_⟩
      intro t h1 h2
      unfold U at h2
      show sbI (t0 + f + v) t = _
      unfold sbI; (repeat' split) <;> omega
    · simp only [if_true, show ¬ (2 : Int) = 1 by omega, if_false]
      have e2 : cap - tkI a b t0 cap = f := e
      refine ⟨by omega, by omega, ?_⟩
      intro t h1 h2
      unfold U at h2
      show biI (tkI a b t0 cap - v) t0 t cap = _
      have e3 : tkI a b t0 cap = cap - f := by omega
      rw [e3]
      unfold biI tkI sbI; (repeat' split) <;> omega
    · simp only [if_true, show ¬ (3 : Int) = 1 by omega, show ¬ (3 : Int) = 2 by omega, if_false]
      have e2 : fiI a b t0 = f := e
      rw [e2]
      refine ⟨by omega, by omega, ?_⟩
      intro t h1 h2
      unfold U at h2
      show fiI (f + v) t0 t = _
      unfold fiI sbI; (repeat' split) <;> omega
end Go.Proofs.YtbejkcdaefkibaaGreat.Wd
namespace Go.Proofs.YtbejkcdaefkibaaGreat.Wd
open Go Go.RowKit Go.Shelf Go.Deep
set_option linter.unusedVariables false
set_option maxRecDepth 100000
theorem list_size (s : ByteArray) : s.data.toList.length = s.size := by cases s; rfl
theorem list_at (s : ByteArray) (i : Nat) (h : i < s.size) (h' : i < s.data.toList.length) : s.data.toList[i] = s[i] := by cases s; rfl
theorem visible_any (c : Int) (w : World) (h : 0 ≤ c ∧ c ≤ 255) :
    Calls Tryz.prog 161 #[.int .u8 c] w fun e w' => e = .returned (.bool (visB c)) ∧ w = w' := by
  by_cases h1 : 33 ≤ c
  · by_cases h2 : c ≤ 126
    · rw [show visB c = true from decide_eq_true ⟨h1, h2⟩]
      go_enter Tryz.func161, Tryz.ntmps161
      go_wp2
      go_ret
      exact ⟨rfl, rfl⟩
    · rw [show visB c = false from decide_eq_false (fun g => h2 g.2)]
      go_enter Tryz.func161, Tryz.ntmps161
      go_wp2
      go_ret
      exact ⟨rfl, rfl⟩
  · rw [show visB c = false from decide_eq_false (fun g => h1 g.1)]
    go_enter Tryz.func161, Tryz.ntmps161
    go_wp2
    go_ret
    exact ⟨rfl, rfl⟩
theorem rt_none (s : ByteArray) (h : s.size < 1 ∨ 128 < s.size) : rtB (lb s) = false := by
  unfold rtB; rw [list_size, decide_eq_false (by omega)]; rfl
theorem rt_no (s : ByteArray) (j : Nat) (hj : j < s.size) (h : visB (s[j].toNat : Int) = false) : rtB (lb s) = false := by
  unfold rtB
  rw [show (lb s).all (fun c => visB (c.toNat : Int)) = false from ?_, Bool.and_false]
  rw [← Bool.not_eq_true, List.all_eq_true]
  intro g
  have := g s[j] (by rw [← list_at s j hj (by rw [list_size]; exact hj)]; exact List.getElem_mem _)
  rw [h] at this; cases this
theorem rt_yes (s : ByteArray) (h1 : 1 ≤ s.size) (h2 : s.size ≤ 128) (h : ∀ j (hj : j < s.size), visB (s[j].toNat : Int) = true) : rtB (lb s) = true := by
  unfold rtB
  rw [list_size, decide_eq_true ⟨h1, h2⟩, Bool.true_and, List.all_eq_true]
  intro b hb
  obtain ⟨i, hi, rfl⟩ := List.getElem_of_mem hb
  rw [list_at s i (by rw [← list_size]; exact hi)]
  exact h i _
theorem u8_bd (c : UInt8) : 0 ≤ (c.toNat : Int) ∧ (c.toNat : Int) ≤ 255 := ⟨by omega, by have := c.toNat_lt; omega⟩
theorem kright_any (s : ByteArray) (w : World) (hs : s.size ≤ 9223372036854775807) :
    Calls Tryz.prog 112 #[.string s] w fun e w' => e = .returned (.bool (rtB (lb s))) ∧ w = w' := by
  by_cases h0 : s.size < 1
  · rw [rt_none s (.inl h0)]
    go_enter Tryz.func112, Tryz.ntmps112
    go_wp2
    go_ret
    exact ⟨rfl, rfl⟩
  · by_cases h1 : 128 < s.size
    · rw [rt_none s (.inr h1)]
      go_enter Tryz.func112, Tryz.ntmps112
      go_wp2
      go_ret
      exact ⟨rfl, rfl⟩
    · have Y := Lib.hid (rt_yes s (by omega) (by omega))
      have N := Lib.hid (rt_no s)
      generalize rtB (lb s) = r at *
      go_enter Tryz.func112, Tryz.ntmps112
      go_wp2
      go_loop [14] (fun i => ∃ k : Nat, i = .int .i64 k ∧ k ≤ s.size ∧ Hid (∀ j (hj : j < s.size), j < k → visB (s[j].toNat : Int) = true)) (fun i => s.size - (intOf i).toNat)
      case atStart => exact ⟨0, rfl, by omega, Lib.hid (fun j _ hj => absurd hj (by omega))⟩
      case round =>
        obtain ⟨k, rfl, hk, D⟩ := hrel
        by_cases hlt : k < s.size
        · have v1 := fun W => visible_any (s[k].toNat : Int) W (u8_bd _)
          by_cases hb : visB (s[k].toNat : Int) = true
          · rw [hb] at v1
            go_wp2_with (go_at_call 161; refine (v1 _).mono ?_; rintro e w1 ⟨rfl, rfl⟩)
            go_round
            case rel =>
              refine ⟨k + 1, by go_num, by omega, Lib.hid (fun j hj hjk => ?_)⟩
              by_cases e : j = k
              · subst e; exact hb
              · exact D.out j hj (by omega)
            case measure => simp [intOf]; omega
          · have hf : visB (s[k].toNat : Int) = false := by simpa using hb
            rw [hf] at v1
            have e := N.out k hlt hf
            subst e
            clear hb
            go_wp2_with (go_at_call 161; refine (v1 _).mono ?_; rintro e w1 ⟨rfl, rfl⟩)
            go_ret
            exact ⟨rfl, rfl⟩
        · obtain rfl : k = s.size := by omega
          have e := Y.out (fun j hj => D.out j hj hj)
          subst e
          go_wp2
          go_ret
          exact ⟨rfl, rfl⟩
theorem product_any (p : ByteArray) (e b k : Int) (w : World) (he : U e) (hb : U b) :
    Calls Tryz.prog 118 #[rul p e b k] w fun r w' => r = .returned (.int .u64 (sat (e * b))) ∧ Kept w w' := by
  go_enter Tryz.func118, Tryz.ntmps118
  go_wp2_with (go_at_call 135; refine (num_mul _ _ _ he hb).mono ?_; rintro r w1 ⟨rfl, k1⟩)
  go_ret
  exact ⟨rfl, ((Kept.refl w).alloc _ _).trans k1⟩
theorem need1_any (p : ByteArray) (e b k : Int) (w : World) (hs : p.size ≤ 9223372036854775807) :
    Calls Tryz.prog 219 #[rul p e b k] w fun r w' => r = .returned (.bool (pfB p)) ∧ Kept w w' := by
  by_cases h : p.size = 0
  · have e0 : pfB p = true := by unfold pfB; rw [decide_eq_true h]; rfl
    have hz : p.toList.isEmpty = true := by
      rw [ByteArray.toList_eq, List.isEmpty_iff]
      exact List.eq_nil_of_length_eq_zero (by rw [list_size]; exact h)
    rw [e0]
    clear e0 h
    go_enter Tryz.func219, Tryz.ntmps219
    go_wp2
    go_ret
    exact ⟨rfl, (Kept.refl w).alloc _ _⟩
  · have e0 : pfB p = rtB (lb p) := by unfold pfB; rw [decide_eq_false h]; rfl
    have hz : p.toList.isEmpty = false := by
      rw [ByteArray.toList_eq, List.isEmpty_eq_false_iff]
      intro g
      have := congrArg List.length g
      rw [list_size] at this
      exact h this
    rw [e0]
    clear e0 h
    generalize hR : rtB (lb p) = R
    go_enter Tryz.func219, Tryz.ntmps219
    go_wp2_with (go_at_call 112; refine (kright_any _ _ hs).mono ?_; rintro r w1 ⟨rfl, rfl⟩; rw [hR])
    go_ret
    exact ⟨rfl, (Kept.refl w).alloc _ _⟩
theorem need2_any (p : ByteArray) (e b k : Int) (w : World) :
    Calls Tryz.prog 220 #[rul p e b k] w fun r w' => r = .returned (.bool (decide (0 < e))) ∧ Kept w w' := by
  go_enter Tryz.func220, Tryz.ntmps220
  go_wp2
  go_ret
  exact ⟨rfl, (Kept.refl w).alloc _ _⟩
theorem need3_any (p : ByteArray) (e b k : Int) (w : World) :
    Calls Tryz.prog 221 #[rul p e b k] w fun r w' => r = .returned (.bool (decide (0 < b))) ∧ Kept w w' := by
  go_enter Tryz.func221, Tryz.ntmps221
  go_wp2
  go_ret
  exact ⟨rfl, (Kept.refl w).alloc _ _⟩
theorem need4_any (p : ByteArray) (e b k : Int) (w : World) (he : U e) (hb : U b) :
    Calls Tryz.prog 222 #[rul p e b k] w fun r w' => r = .returned (.bool (decide (sat (e * b) ≤ 4611686018427387904))) ∧ Kept w w' := by
  go_enter Tryz.func222, Tryz.ntmps222
  go_wp2_with (go_at_call 118; refine (product_any _ _ _ _ _ he hb).mono ?_; rintro r w1 ⟨rfl, k1⟩)
  go_ret
  exact ⟨rfl, ((Kept.refl w).alloc _ _).trans k1⟩
theorem need5_any (p : ByteArray) (e b k : Int) (w : World) :
    Calls Tryz.prog 223 #[rul p e b k] w fun r w' => r = .returned (.bool (isK k)) ∧ Kept w w' := by
  go_enter Tryz.func223, Tryz.ntmps223
  go_wp2_with (go_at_call 171; refine (knright_any _ _).mono ?_; rintro r w1 ⟨rfl, k1⟩)
  go_ret
  exact ⟨rfl, ((Kept.refl w).alloc _ _).trans k1⟩
/-- Parts that are asked for, in a row. -/
def Prt (w : World) (A : Option Addr) (os : List Nat) : Prop :=
  0 < os.length → ∃ b off, A = some ⟨b, off, none⟩ ∧ ∀ k, k < os.length → w.cell? ⟨b, off + k, none⟩ = some (.int .u8 ((os.getD k 0 : Nat) : Int))
theorem index_fn (A : Option Addr) (cap n x : Nat) (F : Nat → Nat) (R : Bool) (w : World) (hn : n ≤ 4)
    (H : Hid (0 < n → ∃ b off, A = some ⟨b, off, none⟩ ∧ ∀ k, k < n → w.cell? ⟨b, off + k, none⟩ = some (.int .u8 (F k : Int))))
    (Y : Hid (∀ k, k < n → F k = x → R = true)) (N : Hid ((∀ k, k < n → F k ≠ x) → R = false)) :
    Calls Tryz.prog 224 #[.slice A n cap, .int .u8 x] w fun r w' => (∃ i : Int, r = .returned (.int .i64 i) ∧ decide (0 ≤ i) = R) ∧ w = w' := by
  go_enter Tryz.func224, Tryz.ntmps224
  go_wp2
  go_loop [8] (fun i => ∃ k : Nat, i = .int .i64 k ∧ k ≤ n ∧ Hid (∀ j, j < k → F j ≠ x)) (fun i => n - (intOf i).toNat)
  case atStart => exact ⟨0, rfl, by omega, Lib.hid (fun j hj => absurd hj (by omega))⟩
  case round =>
    obtain ⟨k, rfl, hk, D⟩ := hrel
    by_cases hlt : k < n
    · obtain ⟨b, off, rfl, hc⟩ := H.out (by omega)
      have c := hc k hlt
      have Yk := Y.out k hlt
      clear hc
      by_cases e : F k = x
      · have e1 := Yk e
        subst e1
        rw [e] at c
        clear e Yk
        go_wp2
        go_ret
        exact ⟨⟨_, rfl, by simp⟩, rfl⟩
      · have E := Lib.hid e
        clear Yk
        have c1 : ((x : Int) == (F k : Int)) = false := by simp; omega
        generalize F k = y at c c1
        clear e
        go_wp2
        go_round
        case rel =>
          refine ⟨k + 1, by go_num, by omega, Lib.hid (fun j hj => ?_)⟩
          by_cases g : j = k
          · subst g; exact E.out
          · exact D.out j (by omega)
        case measure => simp [intOf]; omega
    · obtain rfl : k = n := by omega
      have e := N.out (fun j hj => D.out j (by omega))
      subst e
      go_wp2
      go_ret
      exact ⟨⟨-1, rfl, by simp⟩, rfl⟩
theorem index_any (A : Option Addr) (cap : Nat) (os : List Nat) (x : Nat) (w : World) (h : Prt w A os) (hn : os.length ≤ 4) :
    Calls Tryz.prog 224 #[.slice A os.length cap, .int .u8 x] w fun r w' => (∃ i : Int, r = .returned (.int .i64 i) ∧ decide (0 ≤ i) = os.contains x) ∧ w = w' := by
  refine index_fn A cap os.length x (fun k => os.getD k 0) (os.contains x) w hn (Lib.hid h) (Lib.hid (fun k hk e => ?_)) (Lib.hid (fun g => ?_))
  · rw [List.contains_iff_mem, ← e]
    show os.getD k 0 ∈ os
    rw [List.getD_eq_getElem?_getD, List.getElem?_eq_getElem hk]; exact List.getElem_mem hk
  · rw [← Bool.not_eq_true, List.contains_iff_mem]
    intro m
    obtain ⟨i, hi, e⟩ := List.getElem_of_mem m
    refine g i hi ?_
    show os.getD i 0 = x
    rw [List.getD_eq_getElem?_getD, List.getElem?_eq_getElem hi]; exact e
theorem contains_any (A : Option Addr) (cap : Nat) (os : List Nat) (x : Nat) (w : World) (h : Prt w A os) (hn : os.length ≤ 4) :
    Calls Tryz.prog 188 #[.slice A os.length cap, .int .u8 x] w fun r w' => r = .returned (.bool (os.contains x)) ∧ w = w' := by
  have C := index_any A cap os x w h hn
  generalize os.contains x = R at *
  go_enter Tryz.func188, Tryz.ntmps188
  go_wp2_with (go_at_call 224; refine C.mono ?_; rintro r w1 ⟨⟨i, rfl, hi⟩, rfl⟩)
  go_ret
  exact ⟨by rw [← hi]; rfl, rfl⟩
theorem lt_of_cell {w : World} {b o : Nat} {v : Value} (h : w.cell? ⟨b, o, none⟩ = some v) : b < w.heap.size := by
  by_cases hb : b < w.heap.size
  · exact hb
  · simp [World.cell?, hb] at h
theorem Prt.kept {w w' : World} {A : Option Addr} {os : List Nat} (h : Prt w A os) (k : Kept w w') : Prt w' A os := fun hn => by
  obtain ⟨b, off, e, hc⟩ := h hn
  exact ⟨b, off, e, fun j hj => k.cell (hc j hj)⟩
/-- What of a rule is not as it has to be: one need after the other. -/
def badB (os : List Nat) (p : ByteArray) (e b k : Int) : Nat → Bool
  | 0 => os.contains 0 && !pfB p
  | 1 => os.contains 1 && !decide (0 < e)
  | 2 => os.contains 2 && !decide (0 < b)
  | 3 => os.contains 2 && !decide (sat (e * b) ≤ 4611686018427387904)
  | 4 => os.contains 3 && !isK k
  | _ => false
def fauI : Nat → Int
  | 0 => 23
  | 1 => 24
  | 2 => 25
  | 3 => 26
  | _ => 27
/-- The first fault of these parts. -/
def wrE (os : List Nat) (p : ByteArray) (e b k : Int) : Int :=
  if badB os p e b k 0 then 23 else if badB os p e b k 1 then 24 else if badB os p e b k 2 then 25 else if badB os p e b k 3 then 26 else if badB os p e b k 4 then 27 else 0
theorem wr_at {os : List Nat} {p : ByteArray} {e b k : Int} (i : Nat) (hi : i < 5) (h : ∀ j, j < i → badB os p e b k j = false) (g : badB os p e b k i = true) : wrE os p e b k = fauI i := by
  unfold wrE
  match i, hi with
  | 0, _ => rw [if_pos g]; rfl
  | 1, _ => rw [if_neg (by rw [h 0 (by omega)]; decide), if_pos g]; rfl
  | 2, _ => rw [if_neg (by rw [h 0 (by omega)]; decide), if_neg (by rw [h 1 (by omega)]; decide), if_pos g]; rfl
  | 3, _ => rw [if_neg (by rw [h 0 (by omega)]; decide), if_neg (by rw [h 1 (by omega)]; decide), if_neg (by rw [h 2 (by omega)]; decide), if_pos g]; rfl
  | 4, _ => rw [if_neg (by rw [h 0 (by omega)]; decide), if_neg (by rw [h 1 (by omega)]; decide), if_neg (by rw [h 2 (by omega)]; decide), if_neg (by rw [h 3 (by omega)]; decide), if_pos g]; rfl
theorem wr_end {os : List Nat} {p : ByteArray} {e b k : Int} (h : ∀ j, j < 5 → badB os p e b k j = false) : wrE os p e b k = 0 := by
  unfold wrE
  rw [if_neg (by rw [h 0 (by omega)]; decide), if_neg (by rw [h 1 (by omega)]; decide), if_neg (by rw [h 2 (by omega)]; decide), if_neg (by rw [h 3 (by omega)]; decide), if_neg (by rw [h 4 (by omega)]; decide)]
abbrev fnV (f : FuncId) : Value := .func (Fn.func f) #[] #[]
abbrev needCells : Array Value := #[.int .u8 0, fnV 219, .int .u16 23, .int .u8 1, fnV 220, .int .u16 24, .int .u8 2, fnV 221, .int .u16 25, .int .u8 2, fnV 222, .int .u16 26, .int .u8 3, fnV 223, .int .u16 27]
theorem needs_any (w : World) :
    Calls Tryz.prog 187 #[] w fun r w' => r = .returned (.slice (some ⟨w.heap.size, 0, none⟩) 5 5) ∧ w' = w.alloc (.cells needCells 251) := by
  go_enter Tryz.func187, Tryz.ntmps187
  go_wp2
  go_ret
  exact ⟨rfl, rfl⟩
theorem needs_new (w : World) :
    Calls Tryz.prog 187 #[] w fun r w' => ∃ B : Nat, r = .returned (.slice (some ⟨B, 0, none⟩) 5 5) ∧ Kept w w' ∧
      (w'.cell? ⟨B, 0, none⟩ = some (.int .u8 0) ∧ w'.cell? ⟨B, 1, none⟩ = some (fnV 219) ∧ w'.cell? ⟨B, 2, none⟩ = some (.int .u16 23)) ∧
      (w'.cell? ⟨B, 3, none⟩ = some (.int .u8 1) ∧ w'.cell? ⟨B, 4, none⟩ = some (fnV 220) ∧ w'.cell? ⟨B, 5, none⟩ = some (.int .u16 24)) ∧
      (w'.cell? ⟨B, 6, none⟩ = some (.int .u8 2) ∧ w'.cell? ⟨B, 7, none⟩ = some (fnV 221) ∧ w'.cell? ⟨B, 8, none⟩ = some (.int .u16 25)) ∧
      (w'.cell? ⟨B, 9, none⟩ = some (.int .u8 2) ∧ w'.cell? ⟨B, 10, none⟩ = some (fnV 222) ∧ w'.cell? ⟨B, 11, none⟩ = some (.int .u16 26)) ∧
      (w'.cell? ⟨B, 12, none⟩ = some (.int .u8 3) ∧ w'.cell? ⟨B, 13, none⟩ = some (fnV 223) ∧ w'.cell? ⟨B, 14, none⟩ = some (.int .u16 27)) := by
  refine (needs_any w).mono ?_
  rintro r w' ⟨rfl, rfl⟩
  exact ⟨_, rfl, (Kept.refl w).alloc _ _, by simp, by simp, by simp, by simp, by simp⟩
set_option maxRecDepth 100000 in
set_option maxHeartbeats 2000000 in
theorem wrong_any (A : Option Addr) (cap n : Nat) (os : List Nat) (p : ByteArray) (e b k : Int) (w : World) (hP : Prt w A os) (hl : os.length = n) (hn : n ≤ 4) (hs : p.size ≤ 9223372036854775807) (he : U e) (hb : U b) :
    Calls Tryz.prog 155 #[rul p e b k, .slice A n cap] w fun r w' => r = .returned (.int .u16 (wrE os p e b k)) ∧ Kept w w' := by
  have WA := Lib.hid (fun (i : Nat) (hi : i < 5) => wr_at (os := os) (p := p) (e := e) (b := b) (k := k) i hi)
  have WE := Lib.hid (wr_end (os := os) (p := p) (e := e) (b := b) (k := k))
  have CO (x : Nat) (W : World) (hk : Kept w W) : Calls Tryz.prog 188 #[.slice A n cap, .int .u8 x] W fun r w' => r = .returned (.bool (os.contains x)) ∧ W = w' := by
    have h := contains_any A cap os x W (hP.kept hk) (by omega)
    rw [hl] at h
    exact h
  generalize wrE os p e b k = R at *
  have HN := Lib.hid hn
  clear hn hP hl
  go_enter Tryz.func155, Tryz.ntmps155
  go_wp2_with (go_at_call 187; refine (needs_new _).mono ?_; rintro r w1 ⟨B, rfl, k1, c0, c1, c2, c3, c4⟩)
  have kW : Kept w w1 := ((Kept.refl w).alloc _ _).trans k1
  have d0 : w1.cell? ⟨w.heap.size, 0, none⟩ = some (.string p) := k1.cell (by simp)
  have d1 : w1.cell? ⟨w.heap.size, 1, none⟩ = some (.int .u64 e) := k1.cell (by simp)
  have d2 : w1.cell? ⟨w.heap.size, 2, none⟩ = some (.int .u64 b) := k1.cell (by simp)
  have d3 : w1.cell? ⟨w.heap.size, 3, none⟩ = some (.int .u8 k) := k1.cell (by simp)
  clear k1
  go_loopw [9] (fun i wr => ∃ m : Nat, i = .int .i64 m ∧ m ≤ 5 ∧ Kept w1 wr ∧ Hid (∀ j, j < m → badB os p e b k j = false)) (fun i _ => 5 - (intOf i).toNat)
  case atStart => exact ⟨0, rfl, by omega, Kept.refl _, Lib.hid (fun j hj => absurd hj (by omega))⟩
  case round =>
    obtain ⟨m, rfl, hm, kr, D⟩ := hrel
    have kw := kW.trans kr
    obtain ⟨g00, g01, g02⟩ := c0
    obtain ⟨g10, g11, g12⟩ := c1
    obtain ⟨g20, g21, g22⟩ := c2
    obtain ⟨g30, g31, g32⟩ := c3
    obtain ⟨g40, g41, g42⟩ := c4
    replace g00 := kr.cell g00; replace g01 := kr.cell g01; replace g02 := kr.cell g02
    replace g10 := kr.cell g10; replace g11 := kr.cell g11; replace g12 := kr.cell g12
    replace g20 := kr.cell g20; replace g21 := kr.cell g21; replace g22 := kr.cell g22
    replace g30 := kr.cell g30; replace g31 := kr.cell g31; replace g32 := kr.cell g32
    replace g40 := kr.cell g40; replace g41 := kr.cell g41; replace g42 := kr.cell g42
    replace d0 := kr.cell d0; replace d1 := kr.cell d1; replace d2 := kr.cell d2; replace d3 := kr.cell d3
    have hz := lt_of_cell d0
    have hz1 := Nat.ne_of_lt hz
    have hzB := lt_of_cell g00
    have hzB1 := Nat.ne_of_lt hzB
    rcases (by omega : m = 0 ∨ m = 1 ∨ m = 2 ∨ m = 3 ∨ m = 4 ∨ m = 5) with rfl | rfl | rfl | rfl | rfl | rfl
    · have C0 : ∀ W, Kept w W → Calls Tryz.prog 188 #[.slice A n cap, .int .u8 0] W fun r w' => r = .returned (.bool (os.contains 0)) ∧ W = w' := fun W hk => CO 0 W hk
      clear CO
      by_cases ho : os.contains 0 = true
      · rw [ho] at C0
        by_cases hh : pfB p = true
        · have Q : Hid (badB os p e b k 0 = false) := Lib.hid (by show (os.contains 0 && !pfB p) = false; rw [ho, hh]; rfl)
          clear WA WE ho
          go_wp2_with (first
            | (go_at_call 188; refine (C0 _ (kw.alloc _ _)).mono ?_; rintro r w2 ⟨rfl, rfl⟩)
            | (go_at_call 219; refine (need1_any _ _ _ _ _ hs).mono ?_; rintro r w3 ⟨rfl, k3⟩; rw [hh]; have f2 : w3.cell? ⟨wr.heap.size, 2, none⟩ = some (.int .u16 23) := k3.cell (by simp)))
          go_roundw
          case rel => exact ⟨1, by go_num, by omega, (kr.alloc _ _).trans k3, Lib.hid (fun j hj => by
            by_cases g : j = 0
            · subst g; exact Q.out
            · exact D.out j (by omega))⟩
          case measure => simp [intOf]
        · have hh : pfB p = false := by simpa using hh
          have Q : Hid (badB os p e b k 0 = true) := Lib.hid (by show (os.contains 0 && !pfB p) = true; rw [ho, hh]; rfl)
          have e0 : R = 23 := WA.out 0 (by omega) (fun j hj => D.out j hj) Q.out
          subst e0
          clear WA WE ho
          go_wp2_with (first
            | (go_at_call 188; refine (C0 _ (kw.alloc _ _)).mono ?_; rintro r w2 ⟨rfl, rfl⟩)
            | (go_at_call 219; refine (need1_any _ _ _ _ _ hs).mono ?_; rintro r w3 ⟨rfl, k3⟩; rw [hh]; have f2 : w3.cell? ⟨wr.heap.size, 2, none⟩ = some (.int .u16 23) := k3.cell (by simp)))
          go_ret
          exact ⟨rfl, (kw.alloc _ _).trans k3⟩
      · have ho : os.contains 0 = false := by simpa using ho
        rw [ho] at C0
        have Q : Hid (badB os p e b k 0 = false) := Lib.hid (by show (os.contains 0 && !pfB p) = false; rw [ho]; rfl)
        clear WA WE ho
        go_wp2_with (go_at_call 188; refine (C0 _ (kw.alloc _ _)).mono ?_; rintro r w2 ⟨rfl, rfl⟩)
        go_roundw
        case rel => exact ⟨1, by go_num, by omega, kr.alloc _ _, Lib.hid (fun j hj => by
          by_cases g : j = 0
          · subst g; exact Q.out
          · exact D.out j (by omega))⟩
        case measure => simp [intOf]
    · have C1 : ∀ W, Kept w W → Calls Tryz.prog 188 #[.slice A n cap, .int .u8 1] W fun r w' => r = .returned (.bool (os.contains 1)) ∧ W = w' := fun W hk => CO 1 W hk
      clear CO
      by_cases ho : os.contains 1 = true
      · rw [ho] at C1
        by_cases hh : decide (0 < e) = true
        · have Q : Hid (badB os p e b k 1 = false) := Lib.hid (by show (os.contains 1 && !decide (0 < e)) = false; rw [ho, hh]; rfl)
          clear WA WE ho
          go_wp2_with (first
            | (go_at_call 188; refine (C1 _ (kw.alloc _ _)).mono ?_; rintro r w2 ⟨rfl, rfl⟩)
            | (go_at_call 220; refine (need2_any _ _ _ _ _).mono ?_; rintro r w3 ⟨rfl, k3⟩; rw [hh]; have f2 : w3.cell? ⟨wr.heap.size, 2, none⟩ = some (.int .u16 24) := k3.cell (by simp)))
          go_roundw
          case rel => exact ⟨2, by go_num, by omega, (kr.alloc _ _).trans k3, Lib.hid (fun j hj => by
            by_cases g : j = 1
            · subst g; exact Q.out
            · exact D.out j (by omega))⟩
          case measure => simp [intOf]
        · have hh : decide (0 < e) = false := by simpa using hh
          have Q : Hid (badB os p e b k 1 = true) := Lib.hid (by show (os.contains 1 && !decide (0 < e)) = true; rw [ho, hh]; rfl)
          have e0 : R = 24 := WA.out 1 (by omega) (fun j hj => D.out j hj) Q.out
          subst e0
          clear WA WE ho
          go_wp2_with (first
            | (go_at_call 188; refine (C1 _ (kw.alloc _ _)).mono ?_; rintro r w2 ⟨rfl, rfl⟩)
            | (go_at_call 220; refine (need2_any _ _ _ _ _).mono ?_; rintro r w3 ⟨rfl, k3⟩; rw [hh]; have f2 : w3.cell? ⟨wr.heap.size, 2, none⟩ = some (.int .u16 24) := k3.cell (by simp)))
          go_ret
          exact ⟨rfl, (kw.alloc _ _).trans k3⟩
      · have ho : os.contains 1 = false := by simpa using ho
        rw [ho] at C1
        have Q : Hid (badB os p e b k 1 = false) := Lib.hid (by show (os.contains 1 && !decide (0 < e)) = false; rw [ho]; rfl)
        clear WA WE ho
        go_wp2_with (go_at_call 188; refine (C1 _ (kw.alloc _ _)).mono ?_; rintro r w2 ⟨rfl, rfl⟩)
        go_roundw
        case rel => exact ⟨2, by go_num, by omega, kr.alloc _ _, Lib.hid (fun j hj => by
          by_cases g : j = 1
          · subst g; exact Q.out
          · exact D.out j (by omega))⟩
        case measure => simp [intOf]
    · have C2 : ∀ W, Kept w W → Calls Tryz.prog 188 #[.slice A n cap, .int .u8 2] W fun r w' => r = .returned (.bool (os.contains 2)) ∧ W = w' := fun W hk => CO 2 W hk
      clear CO
      by_cases ho : os.contains 2 = true
      · rw [ho] at C2
        by_cases hh : decide (0 < b) = true
        · have Q : Hid (badB os p e b k 2 = false) := Lib.hid (by show (os.contains 2 && !decide (0 < b)) = false; rw [ho, hh]; rfl)
          clear WA WE ho
          go_wp2_with (first
            | (go_at_call 188; refine (C2 _ (kw.alloc _ _)).mono ?_; rintro r w2 ⟨rfl, rfl⟩)
            | (go_at_call 221; refine (need3_any _ _ _ _ _).mono ?_; rintro r w3 ⟨rfl, k3⟩; rw [hh]; have f2 : w3.cell? ⟨wr.heap.size, 2, none⟩ = some (.int .u16 25) := k3.cell (by simp)))
          go_roundw
          case rel => exact ⟨3, by go_num, by omega, (kr.alloc _ _).trans k3, Lib.hid (fun j hj => by
            by_cases g : j = 2
            · subst g; exact Q.out
            · exact D.out j (by omega))⟩
          case measure => simp [intOf]
        · have hh : decide (0 < b) = false := by simpa using hh
          have Q : Hid (badB os p e b k 2 = true) := Lib.hid (by show (os.contains 2 && !decide (0 < b)) = true; rw [ho, hh]; rfl)
          have e0 : R = 25 := WA.out 2 (by omega) (fun j hj => D.out j hj) Q.out
          subst e0
          clear WA WE ho
          go_wp2_with (first
            | (go_at_call 188; refine (C2 _ (kw.alloc _ _)).mono ?_; rintro r w2 ⟨rfl, rfl⟩)
            | (go_at_call 221; refine (need3_any _ _ _ _ _).mono ?_; rintro r w3 ⟨rfl, k3⟩; rw [hh]; have f2 : w3.cell? ⟨wr.heap.size, 2, none⟩ = some (.int .u16 25) := k3.cell (by simp)))
          go_ret
          exact ⟨rfl, (kw.alloc _ _).trans k3⟩
      · have ho : os.contains 2 = false := by simpa using ho
        rw [ho] at C2
        have Q : Hid (badB os p e b k 2 = false) := Lib.hid (by show (os.contains 2 && !decide (0 < b)) = false; rw [ho]; rfl)
        clear WA WE ho
        go_wp2_with (go_at_call 188; refine (C2 _ (kw.alloc _ _)).mono ?_; rintro r w2 ⟨rfl, rfl⟩)
        go_roundw
        case rel => exact ⟨3, by go_num, by omega, kr.alloc _ _, Lib.hid (fun j hj => by
          by_cases g : j = 2
          · subst g; exact Q.out
          · exact D.out j (by omega))⟩
        case measure => simp [intOf]
    · have C3 : ∀ W, Kept w W → Calls Tryz.prog 188 #[.slice A n cap, .int .u8 2] W fun r w' => r = .returned (.bool (os.contains 2)) ∧ W = w' := fun W hk => CO 2 W hk
      clear CO
      by_cases ho : os.contains 2 = true
      · rw [ho] at C3
        by_cases hh : decide (sat (e * b) ≤ 4611686018427387904) = true
        · have Q : Hid (badB os p e b k 3 = false) := Lib.hid (by show (os.contains 2 && !decide (sat (e * b) ≤ 4611686018427387904)) = false; rw [ho, hh]; rfl)
          clear WA WE ho
          go_wp2_with (first
            | (go_at_call 188; refine (C3 _ (kw.alloc _ _)).mono ?_; rintro r w2 ⟨rfl, rfl⟩)
            | (go_at_call 222; refine (need4_any _ _ _ _ _ he hb).mono ?_; rintro r w3 ⟨rfl, k3⟩; rw [hh]; have f2 : w3.cell? ⟨wr.heap.size, 2, none⟩ = some (.int .u16 26) := k3.cell (by simp)))
          go_roundw
          case rel => exact ⟨4, by go_num, by omega, (kr.alloc _ _).trans k3, Lib.hid (fun j hj => by
            by_cases g : j = 3
            · subst g; exact Q.out
            · exact D.out j (by omega))⟩
          case measure => simp [intOf]
        · have hh : decide (sat (e * b) ≤ 4611686018427387904) = false := by simpa using hh
          have Q : Hid (badB os p e b k 3 = true) := Lib.hid (by show (os.contains 2 && !decide (sat (e * b) ≤ 4611686018427387904)) = true; rw [ho, hh]; rfl)
          have e0 : R = 26 := WA.out 3 (by omega) (fun j hj => D.out j hj) Q.out
          subst e0
          clear WA WE ho
          go_wp2_with (first
            | (go_at_call 188; refine (C3 _ (kw.alloc _ _)).mono ?_; rintro r w2 ⟨rfl, rfl⟩)
            | (go_at_call 222; refine (need4_any _ _ _ _ _ he hb).mono ?_; rintro r w3 ⟨rfl, k3⟩; rw [hh]; have f2 : w3.cell? ⟨wr.heap.size, 2, none⟩ = some (.int .u16 26) := k3.cell (by simp)))
          go_ret
          exact ⟨rfl, (kw.alloc _ _).trans k3⟩
      · have ho : os.contains 2 = false := by simpa using ho
        rw [ho] at C3
        have Q : Hid (badB os p e b k 3 = false) := Lib.hid (by show (os.contains 2 && !decide (sat (e * b) ≤ 4611686018427387904)) = false; rw [ho]; rfl)
        clear WA WE ho
        go_wp2_with (go_at_call 188; refine (C3 _ (kw.alloc _ _)).mono ?_; rintro r w2 ⟨rfl, rfl⟩)
        go_roundw
        case rel => exact ⟨4, by go_num, by omega, kr.alloc _ _, Lib.hid (fun j hj => by
          by_cases g : j = 3
          · subst g; exact Q.out
          · exact D.out j (by omega))⟩
        case measure => simp [intOf]
    · have C4 : ∀ W, Kept w W → Calls Tryz.prog 188 #[.slice A n cap, .int .u8 3] W fun r w' => r = .returned (.bool (os.contains 3)) ∧ W = w' := fun W hk => CO 3 W hk
      clear CO
      by_cases ho : os.contains 3 = true
      · rw [ho] at C4
        by_cases hh : isK k = true
        · have Q : Hid (badB os p e b k 4 = false) := Lib.hid (by show (os.contains 3 && !isK k) = false; rw [ho, hh]; rfl)
          clear WA WE ho
          go_wp2_with (first
            | (go_at_call 188; refine (C4 _ (kw.alloc _ _)).mono ?_; rintro r w2 ⟨rfl, rfl⟩)
            | (go_at_call 223; refine (need5_any _ _ _ _ _).mono ?_; rintro r w3 ⟨rfl, k3⟩; rw [hh]; have f2 : w3.cell? ⟨wr.heap.size, 2, none⟩ = some (.int .u16 27) := k3.cell (by simp)))
          go_roundw
          case rel => exact ⟨5, by go_num, by omega, (kr.alloc _ _).trans k3, Lib.hid (fun j hj => by
            by_cases g : j = 4
            · subst g; exact Q.out
            · exact D.out j (by omega))⟩
          case measure => simp [intOf]
        · have hh : isK k = false := by simpa using hh
          have Q : Hid (badB os p e b k 4 = true) := Lib.hid (by show (os.contains 3 && !isK k) = true; rw [ho, hh]; rfl)
          have e0 : R = 27 := WA.out 4 (by omega) (fun j hj => D.out j hj) Q.out
          subst e0
          clear WA WE ho
          go_wp2_with (first
            | (go_at_call 188; refine (C4 _ (kw.alloc _ _)).mono ?_; rintro r w2 ⟨rfl, rfl⟩)
            | (go_at_call 223; refine (need5_any _ _ _ _ _).mono ?_; rintro r w3 ⟨rfl, k3⟩; rw [hh]; have f2 : w3.cell? ⟨wr.heap.size, 2, none⟩ = some (.int .u16 27) := k3.cell (by simp)))
          go_ret
          exact ⟨rfl, (kw.alloc _ _).trans k3⟩
      · have ho : os.contains 3 = false := by simpa using ho
        rw [ho] at C4
        have Q : Hid (badB os p e b k 4 = false) := Lib.hid (by show (os.contains 3 && !isK k) = false; rw [ho]; rfl)
        clear WA WE ho
        go_wp2_with (go_at_call 188; refine (C4 _ (kw.alloc _ _)).mono ?_; rintro r w2 ⟨rfl, rfl⟩)
        go_roundw
        case rel => exact ⟨5, by go_num, by omega, kr.alloc _ _, Lib.hid (fun j hj => by
          by_cases g : j = 4
          · subst g; exact Q.out
          · exact D.out j (by omega))⟩
        case measure => simp [intOf]
    · have e0 : R = 0 := WE.out (fun j hj => D.out j hj)
      subst e0
      clear WA WE CO
      go_wp2
      go_ret
      exact ⟨rfl, kw⟩
/-- The first fault of a rule. -/
def ruE (p : ByteArray) (e b k : Int) : Int := wrE [0, 1, 2, 3] p e b k
/-- How full a key may be. -/
def caI (p : ByteArray) (e b k : Int) : Int := if ruE p e b k = 0 then sat (e * b) else 0
theorem wr_U (os : List Nat) (p : ByteArray) (e b k : Int) : 0 ≤ wrE os p e b k ∧ wrE os p e b k ≤ 27 := by unfold wrE; (repeat' split) <;> omega
theorem ru_is (p : ByteArray) (e b k : Int) : ruE p e b k = if pfB p = false then 23 else if ¬ 0 < e then 24 else if ¬ 0 < b then 25 else if ¬ sat (e * b) ≤ 4611686018427387904 then 26 else if isK k = false then 27 else 0 := by
  unfold ruE wrE badB
  simp only [show ([0, 1, 2, 3] : List Nat).contains 0 = true from rfl, show ([0, 1, 2, 3] : List Nat).contains 1 = true from rfl, show ([0, 1, 2, 3] : List Nat).contains 2 = true from rfl, show ([0, 1, 2, 3] : List Nat).contains 3 = true from rfl, Bool.true_and, Bool.not_eq_true', decide_eq_false_iff_not]
theorem right_any (p : ByteArray) (e b k : Int) (w : World) (hs : p.size ≤ 9223372036854775807) (he : U e) (hb : U b) :
    Calls Tryz.prog 106 #[rul p e b k] w fun r w' => r = .returned (.int .u16 (ruE p e b k)) ∧ Kept w w' := by
  unfold ruE
  have W (W : World) (B : Nat) (h : W.cell? ⟨B, 0, none⟩ = some (.int .u8 0) ∧ W.cell? ⟨B, 1, none⟩ = some (.int .u8 1) ∧ W.cell? ⟨B, 2, none⟩ = some (.int .u8 2) ∧ W.cell? ⟨B, 3, none⟩ = some (.int .u8 3)) := wrong_any (some ⟨B, 0, none⟩) 4 4 [0, 1, 2, 3] p e b k W (fun _ => ⟨B, 0, rfl, fun j hj => by
    obtain ⟨h0, h1, h2, h3⟩ := h
    match j, hj with
    | 0, _ => simpa using h0
    | 1, _ => simpa using h1
    | 2, _ => simpa using h2
    | 3, _ => simpa using h3⟩) rfl (by omega) hs he hb
  generalize wrE [0, 1, 2, 3] p e b k = R at *
  go_enter Tryz.func106, Tryz.ntmps106
  go_wp2_with (go_at_call 155; refine (W _ _ (by simp)).mono ?_; rintro r w1 ⟨rfl, k1⟩)
  go_ret
  exact ⟨rfl, (((Kept.refl w).alloc _ _).alloc _ _).trans k1⟩
theorem cap_any (p : ByteArray) (e b k : Int) (w : World) (hs : p.size ≤ 9223372036854775807) (he : U e) (hb : U b) :
    Calls Tryz.prog 68 #[rul p e b k] w fun r w' => r = .returned (.int .u64 (caI p e b k)) ∧ Kept w w' := by
  have RA := fun W => right_any p e b k W hs he hb
  by_cases h : ruE p e b k = 0
  · have e0 : caI p e b k = sat (e * b) := by unfold caI; rw [if_pos h]
    rw [e0]
    rw [h] at RA
    clear e0 h
    go_enter Tryz.func68, Tryz.ntmps68
    go_wp2_with (first
      | (go_at_call 106; refine (RA _).mono ?_; rintro r w1 ⟨rfl, k1⟩; have f0 : w1.cell? ⟨w.heap.size, 0, none⟩ = some (.string p) := k1.cell (by simp); have f1 : w1.cell? ⟨w.heap.size, 1, none⟩ = some (.int .u64 e) := k1.cell (by simp); have f2 : w1.cell? ⟨w.heap.size, 2, none⟩ = some (.int .u64 b) := k1.cell (by simp); have f3 : w1.cell? ⟨w.heap.size, 3, none⟩ = some (.int .u8 k) := k1.cell (by simp))
      | (go_at_call 118; refine (product_any _ _ _ _ _ he hb).mono ?_; rintro r w2 ⟨rfl, k2⟩))
    go_ret
    exact ⟨rfl, (((Kept.refl w).alloc _ _).trans k1).trans k2⟩
  · have e0 : caI p e b k = 0 := by unfold caI; rw [if_neg h]
    rw [e0]
    have c1 : (ruE p e b k != 0) = true := by simpa using h
    have c2 : (ruE p e b k == 0) = false := by simpa using h
    generalize ruE p e b k = R at *
    clear e0 h
    go_enter Tryz.func68, Tryz.ntmps68
    go_wp2_with (go_at_call 106; refine (RA _).mono ?_; rintro r w1 ⟨rfl, k1⟩)
    go_ret
    exact ⟨rfl, ((Kept.refl w).alloc _ _).trans k1⟩
def cloRen : Go.Shelf.Ren := ⟨fun | 316 => 119 | n => n, fun | 9 => 9 | 3 => 3 | 4 => 4 | 37 => 31 | 0 => 0 | 127 => 238 | 5 => 5 | n => n, fun | n => n⟩
theorem cloLays : Go.Proofs.LaysM.n316 Tryz.prog cloRen := {
  mixed := by kernel_rfl
  f316 := Tryz.func119.trans (congrArg some (by kernel_rfl))
  t0 := Tryz.underlying0
  a0 := Tryz.isAgg0
  z0 := Tryz.sizeOf0
  v0 := Tryz.zeroValue0
  t3 := Tryz.underlying3
  a3 := Tryz.isAgg3
  z3 := Tryz.sizeOf3
  v3 := Tryz.zeroValue3
  t4 := Tryz.underlying4
  a4 := Tryz.isAgg4
  z4 := Tryz.sizeOf4
  v4 := Tryz.zeroValue4
  t9 := Tryz.underlying9
  a9 := Tryz.isAgg9
  z9 := Tryz.sizeOf9
  v9 := Tryz.zeroValue9
  t37 := Tryz.underlying31
  a37 := Tryz.isAgg31
  z37 := Tryz.sizeOf31
  v37 := Tryz.zeroValue31
  t127 := Tryz.underlying238
  a127 := Tryz.isAgg238
  z127 := Tryz.sizeOf238
  v127 := Tryz.zeroValue238
  t5 := Tryz.underlying5
  a5 := Tryz.isAgg5
  z5 := Tryz.sizeOf5
  v5 := Tryz.zeroValue5
  i0 := by kernel_rfl
  i3 := by kernel_rfl
  i4 := by kernel_rfl
  i5 := by kernel_rfl
  i9 := by kernel_rfl
  i37 := by kernel_rfl
  i127 := by kernel_rfl }
theorem inner_clone (s : ByteArray) (w : World) (hs : s.size ≤ 281474976710656) :
    Calls Tryz.prog 119 #[.string s] w fun e w' => e = .returned (.string s) ∧ Below w.heap.size w w' := Any.stringslite_Clone cloLays s w hs
theorem clone_any (s : ByteArray) (w : World) (hs : s.size ≤ 281474976710656) :
    Calls Tryz.prog 69 #[.string s] w fun e w' => e = .returned (.string s) ∧ Below w.heap.size w w' := by
  go_enter Tryz.func69, Tryz.ntmps69
  go_wp2_with (go_at_call 119; refine (inner_clone _ _ hs).mono ?_; rintro e w1 ⟨rfl, b1⟩)
  go_ret
  exact ⟨rfl, b1⟩
theorem ru_fit (p : ByteArray) (e b k : Int) (he : U e) (hb : U b) (h : ruE p e b k = 0) : sat (e * b) = e * b ∧ 0 < e * b ∧ e * b ≤ 4611686018427387904 := by
  rw [ru_is] at h
  by_cases c0 : pfB p = false
  · rw [if_pos c0] at h; cases h
  rw [if_neg c0] at h
  by_cases c1 : 0 < e
  · rw [if_neg (by omega)] at h
    by_cases c2 : 0 < b
    · rw [if_neg (by omega)] at h
      by_cases c3 : sat (e * b) ≤ 4611686018427387904
      · have hm : 0 < e * b := Int.mul_pos c1 c2
        unfold sat at c3 ⊢
        split at c3
        · rename_i g; rw [if_pos g]; exact ⟨rfl, hm, c3⟩
        · omega
      · rw [if_pos c3] at h; cases h
    · rw [if_pos c2] at h; cases h
  · rw [if_pos c1] at h; cases h
end Go.Proofs.YtbejkcdaefkibaaGreat.Wd
namespace Go.Proofs.YtbejkcdaefkibaaGreat.Wd
set_option linter.unusedVariables false

/-- Over which one it stands. -/
def par (i : Nat) : Nat := (i - 1) / 2
theorem par_lt {k : Nat} (h : 0 < k) : par k < k := by unfold par; omega
theorem par_le (k : Nat) : par k ≤ k := by unfold par; omega
theorem par_left (i : Nat) : par (2 * i + 1) = i := by unfold par; omega
theorem par_right (i : Nat) : par (2 * i + 2) = i := by unfold par; omega
theorem par_kids {k i : Nat} (h : 0 < k) (e : par k = i) : k = 2 * i + 1 ∨ k = 2 * i + 2 := by unfold par at e; omega

/-- All under lo stand as R asks. -/
def Ord (R : Nat → Nat → Prop) (lo n : Nat) (g : Nat → Nat) : Prop := ∀ k, 0 < k → k < n → lo ≤ par k → R (g (par k)) (g k)
/-- .. but for the one at i, and who stand under it. -/
structure Off (R : Nat → Nat → Prop) (lo n i : Nat) (g : Nat → Nat) : Prop where
  far : ∀ k, 0 < k → k < n → lo ≤ par k → k ≠ i → par k ≠ i → R (g (par k)) (g k)
  over : 0 < i → lo ≤ par i → ∀ k, 0 < k → k < n → par k = i → R (g (par i)) (g k)
/-- .. but for the one at i, over which it stands. -/
structure Upw (R : Nat → Nat → Prop) (n i : Nat) (g : Nat → Nat) : Prop where
  far : ∀ k, 0 < k → k < n → k ≠ i → R (g (par k)) (g k)
  over : 0 < i → ∀ k, 0 < k → k < n → par k = i → R (g (par i)) (g k)

theorem Ord.more {R : Nat → Nat → Prop} {n : Nat} {g : Nat → Nat} (h : Ord R 0 n g) : Upw R (n + 1) n g :=
  ⟨fun k h0 hk hn => h k h0 (by omega) (Nat.zero_le _), fun h0 k k0 hk e => by have := par_lt k0; omega⟩
theorem Upw.stop {R : Nat → Nat → Prop} {n i : Nat} {g : Nat → Nat} (h : Upw R n i g) (hi : 0 < i → R (g (par i)) (g i)) : Ord R 0 n g := fun k h0 hk _ => by
  by_cases e : k = i
  · rw [e]; exact hi (by omega)
  · exact h.far k h0 hk e
theorem xch_at (g : Nat → Nat) (i j k : Nat) : xch g i j k = if k = i then g j else if k = j then g i else g k := rfl
theorem xch_l (g : Nat → Nat) (i j : Nat) : xch g i j i = g j := by rw [xch_at, if_pos rfl]
theorem xch_r (g : Nat → Nat) (i j : Nat) : xch g i j j = g i := by
  rw [xch_at]
  by_cases h : j = i
  · rw [if_pos h, h]
  · rw [if_neg h, if_pos rfl]
theorem xch_o (g : Nat → Nat) {i j k : Nat} (h : k ≠ i) (h' : k ≠ j) : xch g i j k = g k := by rw [xch_at, if_neg h, if_neg h']
theorem xch_swap (g : Nat → Nat) (i j : Nat) : xch g i j = xch g j i := by
  funext k
  rw [xch_at, xch_at]
  by_cases h : k = i
  · rw [if_pos h]
    by_cases h2 : k = j
    · rw [if_pos h2, ← h, ← h2]
    · rw [if_neg h2, if_pos h]
  · rw [if_neg h]
    by_cases h2 : k = j
    · rw [if_pos h2, if_pos h2]
    · rw [if_neg h2, if_neg h2, if_neg h]
theorem Upw.step {R : Nat → Nat → Prop} (tr : ∀ x y z, R x y → R y z → R x z) {n j : Nat} {g : Nat → Nat} (h : Upw R n j g) (h0 : 0 < j) (hj : j < n) (hR : R (g j) (g (par j))) : Upw R n (par j) (xch g (par j) j) := by
  have hp := par_lt h0
  constructor
  · intro k k0 hk hne
    by_cases e : k = j
    · subst e; rw [xch_l, xch_r]; exact hR
    · by_cases e2 : par k = j
      · have := par_lt k0
        rw [e2, xch_r, xch_o g hne e]
        exact h.over h0 k k0 hk e2
      · by_cases e3 : par k = par j
        · rw [e3, xch_l, xch_o g hne e]
          exact tr _ _ _ hR (e3 ▸ h.far k k0 hk e)
        · rw [xch_o g e3 e2, xch_o g hne e]
          exact h.far k k0 hk e
  · intro p0 k k0 hk e
    have hpp := par_lt p0
    have f1 := h.far (par j) p0 (by omega) (by omega)
    rw [xch_o g (by omega) (by omega)]
    by_cases e2 : k = j
    · subst e2; rw [xch_r]; exact f1
    · have := par_lt k0
      rw [xch_o g (by omega) e2]
      exact tr _ _ _ f1 (e ▸ h.far k k0 hk e2)

/-- Down: those under i stand right. -/
theorem Off.stop {R : Nat → Nat → Prop} {lo n i : Nat} {g : Nat → Nat} (h : Off R lo n i g) (hk : ∀ k, 0 < k → k < n → par k = i → R (g i) (g k)) (hi : 0 < i → lo ≤ par i → i < n → R (g (par i)) (g i)) : Ord R lo n g := fun k h0 k1 hl => by
  by_cases e : k = i
  · subst e; exact hi h0 hl k1
  · by_cases e2 : par k = i
    · rw [e2]; exact hk k h0 k1 e2
    · exact h.far k h0 k1 hl e e2
theorem Off.upw {R : Nat → Nat → Prop} {n i : Nat} {g : Nat → Nat} (h : Off R 0 n i g) (hk : ∀ k, 0 < k → k < n → par k = i → R (g i) (g k)) : Upw R n i g :=
  ⟨fun k h0 k1 hne => by
    by_cases e2 : par k = i
    · rw [e2]; exact hk k h0 k1 e2
    · exact h.far k h0 k1 (Nat.zero_le _) hne e2, fun h0 k k0 k1 e => h.over h0 (Nat.zero_le _) k k0 k1 e⟩
theorem Off.step {R : Nat → Nat → Prop} {lo n i j : Nat} {g : Nat → Nat} (h : Off R lo n i g) (hlo : lo ≤ i) (j0 : 0 < j) (hj : j < n) (e : par j = i) (hR : ∀ k, 0 < k → k < n → par k = i → k ≠ j → R (g j) (g k)) : Off R lo n j (xch g i j) := by
  have hij := par_lt j0
  rw [e] at hij
  constructor
  · intro k k0 hk hl hne hpn
    by_cases e2 : k = i
    · subst e2
      have := par_lt k0
      rw [xch_l, xch_o g (by omega) (by omega)]
      exact h.over k0 hl j j0 hj e
    · by_cases e3 : par k = i
      · rw [e3, xch_l, xch_o g e2 hne]
        exact hR k k0 hk e3 hne
      · rw [xch_o g e3 hpn, xch_o g e2 hne]
        exact h.far k k0 hk hl e2 e3
  · intro _ _ k k0 hk e2
    have := par_lt k0
    rw [e, xch_l, xch_o g (by omega) (by omega)]
    have := h.far k k0 hk (by omega) (by omega) (by omega)
    rw [e2] at this; exact this
/-- The last one in the place of one that goes. -/
theorem Ord.less {R : Nat → Nat → Prop} {n : Nat} {g : Nat → Nat} (h : Ord R 0 (n + 1) g) : Ord R 0 n g := fun k h0 hk hl => h k h0 (by omega) hl
theorem Ord.gone {R : Nat → Nat → Prop} (tr : ∀ x y z, R x y → R y z → R x z) {n i : Nat} {g : Nat → Nat} (h : Ord R 0 (n + 1) g) (hi : i < n) : Off R 0 n i (xch g i n) := by
  constructor
  · intro k k0 hk _ hne hpn
    have := par_lt k0
    rw [xch_o g hpn (by omega), xch_o g hne (by omega)]
    exact h k k0 (by omega) (Nat.zero_le _)
  · intro i0 _ k k0 hk e
    have := par_lt k0
    have := par_lt i0
    rw [xch_o g (by omega) (by omega), xch_o g (by omega) (by omega)]
    exact tr _ _ _ (h i i0 (by omega) (Nat.zero_le _)) (e ▸ h k k0 (by omega) (Nat.zero_le _))
/-- The first one stands over all. -/
theorem Ord.top {R : Nat → Nat → Prop} (tr : ∀ x y z, R x y → R y z → R x z) (rf : ∀ x, R x x) {n : Nat} {g : Nat → Nat} (h : Ord R 0 n g) : ∀ k, k < n → R (g 0) (g k) := by
  intro k
  induction k using Nat.strongRecOn with
  | _ k ih =>
    intro hk
    by_cases k0 : 0 < k
    · exact tr _ _ _ (ih (par k) (par_lt k0) (by have := par_lt k0; omega)) (h k k0 hk (Nat.zero_le _))
    · obtain rfl : k = 0 := by omega
      exact rf _
end Go.Proofs.YtbejkcdaefkibaaGreat.Wd
namespace Go.Proofs.YtbejkcdaefkibaaGreat.Wd
open Go Go.RowKit Go.Shelf
set_option linter.unusedVariables false
set_option maxRecDepth 100000

/-- A slot, as data. -/
structure Sl where
  key : ByteArray
  r : Rl
  k : Int
  a : Int
  b : Int
abbrev Sl.cs (s : Sl) : Array Value := #[.string s.key, .string s.r.p, .int .u64 s.r.e, .int .u64 s.r.b, .int .u8 s.r.k, .int .u8 s.k, .int .u64 s.a, .int .u64 s.b]
abbrev Sl.v (s : Sl) : Value := .agg s.cs
/-- What the queue keeps of one: when it is due, and where it stands. -/
def kcs (x : Sl × Int) (i : Int) : Array Value := #[.string x.1.key, .string x.1.r.p, .int .u64 x.1.r.e, .int .u64 x.1.r.b, .int .u8 x.1.r.k, .int .u8 x.1.k, .int .u64 x.1.a, .int .u64 x.1.b, .int .u64 x.2, .int .i64 i]
abbrev ptr (b : Nat) : Value := .pointer (some ⟨b, 0, none⟩)
abbrev Tsl : TypeId := 150
abbrev Tps : TypeId := 147

/-- n slots stand in a queue whose variable is the fourth cell of block T; its row lies in block A. -/
structure Que (w : World) (T A n cap : Nat) (q : Nat → Nat) (F : Nat → Sl × Int) : Prop where
  var : w.cell? ⟨T, 3, none⟩ = some (.slice (some ⟨A, 0, none⟩) n cap)
  row : ∃ cur : Array Value, Blk w A cur Tps ∧ cur.size = cap ∧ n ≤ cap ∧ cap ≤ 9223372036854775807 ∧ ∀ i, i < n → cur[i]? = some (ptr (q i))
  few : n ≤ 1099511627776
  nd : ∀ i, i < n → Blk w (q i) (kcs (F (q i)) i) Tsl
  inj : ∀ i j, i < n → j < n → q i = q j → i = j
  one : A ≠ T
  two : ∀ i, i < n → q i ≠ A ∧ q i ≠ T

theorem kcs_set (x : Sl × Int) (i j : Int) : (kcs x i).setIfInBounds 9 (.int .i64 j) = kcs x j := rfl
theorem Que.cap {w : World} {T A n cap : Nat} {q : Nat → Nat} {F : Nat → Sl × Int} (h : Que w T A n cap q F) : n ≤ cap ∧ n ≤ 1099511627776 ∧ cap ≤ 9223372036854775807 := by
  obtain ⟨cur, _, _, h1, h2, _⟩ := h.row; exact ⟨h1, h.few, h2⟩
theorem Que.at {w : World} {T A n cap : Nat} {q : Nat → Nat} {F : Nat → Sl × Int} (h : Que w T A n cap q F) {i : Nat} (hi : i < n) : w.cell? ⟨A, i, none⟩ = some (ptr (q i)) ∧ w.frozen? ⟨A, i, none⟩ = false := by
  obtain ⟨cur, hb, _, _, _, h1⟩ := h.row; exact ⟨(hb.cell i).trans (h1 i hi), hb.fz i⟩
theorem Que.due {w : World} {T A n cap : Nat} {q : Nat → Nat} {F : Nat → Sl × Int} (h : Que w T A n cap q F) {i : Nat} (hi : i < n) : w.cell? ⟨q i, 8, none⟩ = some (.int .u64 (F (q i)).2) := (h.nd i hi).cell 8
theorem Que.place {w : World} {T A n cap : Nat} {q : Nat → Nat} {F : Nat → Sl × Int} (h : Que w T A n cap q F) {i : Nat} (hi : i < n) : w.cell? ⟨q i, 9, none⟩ = some (.int .i64 i) ∧ w.frozen? ⟨q i, 9, none⟩ = false := ⟨(h.nd i hi).cell 9, (h.nd i hi).fz 9⟩
/-- Which blocks it takes. -/
def QB (A n : Nat) (q : Nat → Nat) : Nat → Prop := fun k => k = A ∨ ∃ i, i < n ∧ k = q i
theorem QB.of_mv {A n : Nat} {q q' : Nat → Nat} (h : Mv 0 n q q') {k : Nat} (hk : QB A n q' k) : QB A n q k := by
  rcases hk with e | ⟨i, hi, e⟩
  · exact .inl e
  · obtain ⟨j, _, hj, e2⟩ := h.back i (Nat.zero_le _) hi
    exact .inr ⟨j, hj, e.trans e2⟩
theorem Que.drew {w w' : World} {T A n cap : Nat} {q : Nat → Nat} {F : Nat → Sl × Int} (h : Que w T A n cap q F) (g : Drew w w') : Que w' T A n cap q F := by
  obtain ⟨m, rfl⟩ := g
  exact ⟨h.var, h.row, h.few, h.nd, h.inj, h.one, h.two⟩
theorem Drew.tch {S : Nat → Prop} {w w' : World} (g : Drew w w') : Tch S w w' := by
  obtain ⟨m, rfl⟩ := g
  exact ⟨rfl, rfl, rfl, Nat.le_refl _, fun _ _ _ => rfl⟩
/-- Those who stand at i and j change places, and know it. -/
theorem Que.swap {w : World} {T A n cap : Nat} {q : Nat → Nat} {F : Nat → Sl × Int} (h : Que w T A n cap q F) {i j : Nat} (hi : i < n) (hj : j < n) (hij : i ≠ j) :
    Que ((((w.setCell ⟨A, i, none⟩ (ptr (q j))).setCell ⟨A, j, none⟩ (ptr (q i))).setCell ⟨q j, 9, none⟩ (.int .i64 i)).setCell ⟨q i, 9, none⟩ (.int .i64 j)) T A n cap (xch q i j) F ∧
    Tch (QB A n q) w ((((w.setCell ⟨A, i, none⟩ (ptr (q j))).setCell ⟨A, j, none⟩ (ptr (q i))).setCell ⟨q j, 9, none⟩ (.int .i64 i)).setCell ⟨q i, 9, none⟩ (.int .i64 j)) := by
  have ne : q i ≠ q j := fun e => hij (h.inj i j hi hj e)
  have ti := h.two i hi
  have tj := h.two j hj
  obtain ⟨cur, hb, h1, h2, h3, h4⟩ := h.row
  refine ⟨⟨?_, ?_, h.few, ?_, ?_, h.one, ?_⟩, ?_⟩
  · rw [cs_other _ _ _ _ _ _ (.inl (Ne.symm ti.2)), cs_other _ _ _ _ _ _ (.inl (Ne.symm tj.2)), cs_other _ _ _ _ _ _ (.inl (Ne.symm h.one)), cs_other _ _ _ _ _ _ (.inl (Ne.symm h.one))]
    exact h.var
  · refine ⟨_, (((hb.set i (ptr (q j))).set j (ptr (q i))).other 9 _ (Ne.symm tj.1)).other 9 _ (Ne.symm ti.1), by simp [h1], h2, h3, fun k hk => ?_⟩
    rw [xch_at]
    by_cases e : k = i
    · rw [if_pos e, e, Array.getElem?_setIfInBounds_ne (by omega), Array.getElem?_setIfInBounds_self_of_lt (by omega)]
    · rw [if_neg e]
      by_cases e2 : k = j
      · rw [if_pos e2, e2, Array.getElem?_setIfInBounds_self_of_lt (by simp; omega)]
      · rw [if_neg e2, Array.getElem?_setIfInBounds_ne (by omega), Array.getElem?_setIfInBounds_ne (by omega)]
        exact h4 k hk
  · intro k hk
    have tk := h.two k hk
    rw [xch_at]
    by_cases e : k = i
    · rw [if_pos e, e]
      have z := ((((h.nd j hj).other i (ptr (q j)) tj.1).other j (ptr (q i)) tj.1).set 9 (.int .i64 i)).other 9 (.int .i64 j) (Ne.symm ne)
      rw [kcs_set] at z; exact z
    · rw [if_neg e]
      by_cases e2 : k = j
      · rw [if_pos e2, e2]
        have z := ((((h.nd i hi).other i (ptr (q j)) ti.1).other j (ptr (q i)) ti.1).other 9 (.int .i64 i) ne).set 9 (.int .i64 j)
        rw [kcs_set] at z; exact z
      · rw [if_neg e2]
        exact ((((h.nd k hk).other i (ptr (q j)) tk.1).other j (ptr (q i)) tk.1).other 9 _ (fun x => e2 (h.inj k j hk hj x))).other 9 _ (fun x => e (h.inj k i hk hi x))
  · intro a b ha hb' e
    rw [xch_at, xch_at] at e
    by_cases a1 : a = i
    · rw [if_pos a1] at e
      by_cases b1 : b = i
      · omega
      · rw [if_neg b1] at e
        by_cases b2 : b = j
        · rw [if_pos b2] at e; exact absurd e.symm ne
        · rw [if_neg b2] at e; exact absurd (h.inj _ _ hj hb' e) (fun x => b2 x.symm)
    · rw [if_neg a1] at e
      by_cases a2 : a = j
      · rw [if_pos a2] at e
        by_cases b1 : b = i
        · rw [if_pos b1] at e; exact absurd e ne
        · rw [if_neg b1] at e
          by_cases b2 : b = j
          · omega
          · rw [if_neg b2] at e; exact absurd (h.inj _ _ hi hb' e) (fun x => b1 x.symm)
      · rw [if_neg a2] at e
        by_cases b1 : b = i
        · rw [if_pos b1] at e; exact absurd (h.inj _ _ ha hj e) a2
        · rw [if_neg b1] at e
          by_cases b2 : b = j
          · rw [if_pos b2] at e; exact absurd (h.inj _ _ ha hi e) a1
          · rw [if_neg b2] at e; exact h.inj _ _ ha hb' e
  · intro k hk
    rw [xch_at]
    by_cases e : k = i
    · rw [if_pos e]; exact tj
    · rw [if_neg e]
      by_cases e2 : k = j
      · rw [if_pos e2]; exact ti
      · rw [if_neg e2]; exact h.two k hk
  · exact (((Tch.set w A i _ (.inl rfl)).trans (Tch.set _ A j _ (.inl rfl))).trans (Tch.set _ (q j) 9 _ (.inr ⟨j, hj, rfl⟩))).trans (Tch.set _ (q i) 9 _ (.inr ⟨i, hi, rfl⟩))

/-- Of block T the fourth cell alone was written. -/
def Top3 (T : Nat) (w w' : World) : Prop := ∀ cs t, Blk w T cs t → ∃ v, Blk w' T (cs.setIfInBounds 3 v) t
theorem Top3.same {T : Nat} {w w' : World} (h : w'.heap[T]? = w.heap[T]?) : Top3 T w w' := fun cs t hb => by
  refine ⟨cs.getD 3 undef, ?_⟩
  have e : cs.setIfInBounds 3 (cs.getD 3 undef) = cs := by
    apply Array.ext_getElem?
    intro i
    by_cases hi : i = 3
    · subst hi
      by_cases h3 : 3 < cs.size
      · rw [Array.getElem?_setIfInBounds_self_of_lt h3]; simp [Array.getD, h3]
      · simp [h3]
    · rw [Array.getElem?_setIfInBounds_ne (by omega)]
  rw [e]; exact h.trans hb
theorem Top3.trans {T : Nat} {a b c : World} (h : Top3 T a b) (g : Top3 T b c) : Top3 T a c := fun cs t hb => by
  obtain ⟨v, hv⟩ := h cs t hb
  obtain ⟨u, hu⟩ := g _ t hv
  exact ⟨u, by rw [Array.setIfInBounds_setIfInBounds] at hu; exact hu⟩
theorem Top3.set (T : Nat) (w : World) (v : Value) : Top3 T w (w.setCell ⟨T, 3, none⟩ v) := fun cs t hb => ⟨v, hb.set 3 v⟩
theorem Top3.other {T A i : Nat} (w : World) (v : Value) (h : A ≠ T) : Top3 T w (w.setCell ⟨A, i, none⟩ v) := Top3.same (Below.heap_setCell _ _ _ _ (Ne.symm h))
theorem Top3.tch {S : Nat → Prop} {T : Nat} {w w' : World} (h : Tch S w w') (hT : ¬ S T) (hlt : T < w.heap.size) : Top3 T w w' := Top3.same (h.block T hlt hT)

theorem qlen_any (A : Option Addr) (n cap : Nat) (w : World) : Calls Tryz.prog 275 #[.slice A n cap] w fun e w' => e = .returned (.int .i64 n) ∧ w = w' := by
  go_enter Tryz.func275, Tryz.ntmps275
  go_wp2
  go_ret
  exact ⟨rfl, rfl⟩

theorem qless_any (T A n cap : Nat) (q : Nat → Nat) (F : Nat → Sl × Int) (i j : Nat) (w : World) (h : Que w T A n cap q F) (hi : i < n) (hj : j < n) :
    Calls Tryz.prog 276 #[.slice (some ⟨A, 0, none⟩) n cap, .int .i64 i, .int .i64 j] w fun e w' => e = .returned (.bool (decide ((F (q i)).2 < (F (q j)).2))) ∧ Drew w w' := by
  obtain ⟨a1, f1⟩ := h.at hi
  obtain ⟨a2, f2⟩ := h.at hj
  have d1 := h.due hi
  have d2 := h.due hj
  have i1 : (i : Int) < (n : Int) := by omega
  have j1 : (j : Int) < (n : Int) := by omega
  have i0 : (0 : Int) ≤ (i : Int) := by omega
  have j0 : (0 : Int) ≤ (j : Int) := by omega
  clear h
  generalize (F (q i)).2 = x at *
  generalize (F (q j)).2 = y at *
  generalize q i = B at *
  generalize q j = C at *
  go_enter Tryz.func276, Tryz.ntmps276
  go_wp2
  go_quiet (fail)
  go_wp2
  go_ret
  exact ⟨rfl, Drew.of _ _⟩

theorem qswap_any (T A n cap : Nat) (q : Nat → Nat) (F : Nat → Sl × Int) (i j : Nat) (w : World) (h : Que w T A n cap q F) (hi : i < n) (hj : j < n) (hij : i ≠ j) :
    Calls Tryz.prog 277 #[.slice (some ⟨A, 0, none⟩) n cap, .int .i64 i, .int .i64 j] w fun e w' => e = .returned (.tuple #[]) ∧ Que w' T A n cap (xch q i j) F ∧ Tch (QB A n q) w w' := by
  obtain ⟨a1, f1⟩ := h.at hi
  obtain ⟨a2, f2⟩ := h.at hj
  obtain ⟨p1, g1⟩ := h.place hi
  obtain ⟨p2, g2⟩ := h.place hj
  have i1 : (i : Int) < (n : Int) := by omega
  have j1 : (j : Int) < (n : Int) := by omega
  have i0 : (0 : Int) ≤ (i : Int) := by omega
  have j0 : (0 : Int) ≤ (j : Int) := by omega
  have HS := Lib.hid (h.swap hi hj hij)
  have n1 := (h.two i hi).1
  have n2 := (h.two j hj).1
  have ne : q i ≠ q j := fun e => hij (h.inj i j hi hj e)
  have H0 := Lib.hid h
  clear h
  generalize hB : q i = B at *
  generalize hC : q j = C at *
  go_enter Tryz.func277, Tryz.ntmps277
  go_wp2
  go_region
  have b1 : ((w.setCell ⟨A, i, none⟩ (ptr C)).setCell ⟨A, j, none⟩ (ptr B)).cell? ⟨A, i, none⟩ = some (ptr C) := by
    rw [cs_other _ _ _ _ _ _ (.inr hij)]; exact World.cell?_setCell_same _ _ _ a1
  have b2 : ((w.setCell ⟨A, i, none⟩ (ptr C)).setCell ⟨A, j, none⟩ (ptr B)).cell? ⟨A, j, none⟩ = some (ptr B) :=
    World.cell?_setCell_same _ _ _ ((cs_other _ _ _ _ _ _ (.inr (Ne.symm hij))).trans a2)
  have q1 : ((w.setCell ⟨A, i, none⟩ (ptr C)).setCell ⟨A, j, none⟩ (ptr B)).cell? ⟨B, 9, none⟩ = some (.int .i64 i) := by
    rw [cs_other _ _ _ _ _ _ (.inl n1), cs_other _ _ _ _ _ _ (.inl n1)]; exact p1
  have q2 : ((w.setCell ⟨A, i, none⟩ (ptr C)).setCell ⟨A, j, none⟩ (ptr B)).cell? ⟨C, 9, none⟩ = some (.int .i64 j) := by
    rw [cs_other _ _ _ _ _ _ (.inl n2), cs_other _ _ _ _ _ _ (.inl n2)]; exact p2
  have q3 : (((w.setCell ⟨A, i, none⟩ (ptr C)).setCell ⟨A, j, none⟩ (ptr B)).setCell ⟨C, 9, none⟩ (.int .i64 i)).cell? ⟨A, i, none⟩ = some (ptr C) := by
    rw [cs_other _ _ _ _ _ _ (.inl (Ne.symm n2))]; exact b1
  have q4 : (((w.setCell ⟨A, i, none⟩ (ptr C)).setCell ⟨A, j, none⟩ (ptr B)).setCell ⟨C, 9, none⟩ (.int .i64 i)).cell? ⟨A, j, none⟩ = some (ptr B) := by
    rw [cs_other _ _ _ _ _ _ (.inl (Ne.symm n2))]; exact b2
  have q5 : (((w.setCell ⟨A, i, none⟩ (ptr C)).setCell ⟨A, j, none⟩ (ptr B)).setCell ⟨C, 9, none⟩ (.int .i64 i)).cell? ⟨B, 9, none⟩ = some (.int .i64 i) := by
    rw [cs_other _ _ _ _ _ _ (.inl ne)]; exact q1
  have r1 : ((w.setCell ⟨A, i, none⟩ (ptr C)).setCell ⟨A, j, none⟩ (ptr B)).frozen? ⟨B, 9, none⟩ = false := by simp only [World.frozen?_setCell]; exact g1
  have r2 : ((w.setCell ⟨A, i, none⟩ (ptr C)).setCell ⟨A, j, none⟩ (ptr B)).frozen? ⟨C, 9, none⟩ = false := by simp only [World.frozen?_setCell]; exact g2
  generalize World.setCell (World.setCell w ⟨A, i, none⟩ (ptr C)) ⟨A, j, none⟩ (ptr B) = W at *
  clear a1 a2 p1 p2 f1 f2 g1 g2
  go_wp2
  go_region
  go_wp2
  go_end0
  exact ⟨rfl, HS.out.1.drew ⟨2, rfl⟩, HS.out.2.trans (Drew.tch ⟨2, rfl⟩)⟩
end Go.Proofs.YtbejkcdaefkibaaGreat.Wd
namespace Go.Proofs.YtbejkcdaefkibaaGreat.Wd
open Go Go.RowKit Go.Shelf
set_option linter.unusedVariables false
set_option maxRecDepth 100000

abbrev Tpq : TypeId := 243
abbrev Tq : TypeId := 113
theorem wrapnil (a b : TypeId) (p : Addr) (name : String) : Builtin.ssaWrapNilChk_ #[a] b #[.pointer (some p), strVal "", strVal name] = pure (.pointer (some p)) := rfl
set_option linter.unusedSimpArgs false in
theorem meth (name : String) (fp : FuncId × Bool) (h : ((Tryz.prog.info? Tpq).bind fun i => (i.methods.find? (·.name == name)).map fun m => (m.path.toList, m.func)) = some ([], some fp)) (n : Nat) (p : Addr) (w : World) :
    (method (n + 1) Tpq (.pointer (some p)) name).run Tryz.prog w = (if fp.2 then .ok (fp.1, .pointer (some p)) w else (loadVar Tq p).run Tryz.prog w |>.andThen fun v w => .ok (fp.1, v) w) := by
  cases hi : Tryz.prog.info? Tpq with
  | none => rw [hi] at h; cases h
  | some i =>
    rw [hi] at h
    simp only [Option.bind_some] at h
    cases hm : i.methods.find? (·.name == name) with
    | none => rw [hm] at h; cases h
    | some m =>
      rw [hm] at h
      simp only [Option.map_some, Option.some.injEq, Prod.mk.injEq] at h
      obtain ⟨h1, h2⟩ := h
      have h3 : m.path = #[] := by simpa using h1
      obtain ⟨f, b⟩ := fp
      unfold method
      cases b
      · simp [typeInfo, hi, hm, h1, h2, h3, follow, receiverAt, run_underlying Tryz.underlying243, Result.andThen, Place.get, wrapnil, asAddr]
      · simp [typeInfo, hi, hm, h1, h2, h3, follow, receiverAt, run_underlying Tryz.underlying243, Result.andThen, Place.get, wrapnil, asAddr]
theorem m_val (name : String) (f : FuncId) (h : ((Tryz.prog.info? Tpq).bind fun i => (i.methods.find? (·.name == name)).map fun m => (m.path.toList, m.func)) = some ([], some (f, false))) (T : Nat) (v : Value) (w : World) (hc : w.cell? ⟨T, 3, none⟩ = some v) :
    (method 424 Tpq (.pointer (some ⟨T, 3, none⟩)) name).run Tryz.prog w = .ok (f, v) w := by
  rw [show (424 : Nat) = (424 - 1) + 1 from rfl, meth name (f, false) h]
  simp [hc, loadVar]
theorem m_ptr (name : String) (f : FuncId) (h : ((Tryz.prog.info? Tpq).bind fun i => (i.methods.find? (·.name == name)).map fun m => (m.path.toList, m.func)) = some ([], some (f, true))) (p : Addr) (w : World) :
    (method 424 Tpq (.pointer (some p)) name).run Tryz.prog w = .ok (f, .pointer (some p)) w := by
  rw [show (424 : Nat) = (424 - 1) + 1 from rfl, meth name (f, true) h]
  simp
theorem m_len (T : Nat) (v : Value) (w : World) (h : w.cell? ⟨T, 3, none⟩ = some v) : (method 424 Tpq (.pointer (some ⟨T, 3, none⟩)) "Len").run Tryz.prog w = .ok (275, v) w := m_val _ _ (by kernel_rfl) T v w h
theorem m_less (T : Nat) (v : Value) (w : World) (h : w.cell? ⟨T, 3, none⟩ = some v) : (method 424 Tpq (.pointer (some ⟨T, 3, none⟩)) "Less").run Tryz.prog w = .ok (276, v) w := m_val _ _ (by kernel_rfl) T v w h
theorem m_swap (T : Nat) (v : Value) (w : World) (h : w.cell? ⟨T, 3, none⟩ = some v) : (method 424 Tpq (.pointer (some ⟨T, 3, none⟩)) "Swap").run Tryz.prog w = .ok (277, v) w := m_val _ _ (by kernel_rfl) T v w h
theorem m_pop (p : Addr) (w : World) : (method 424 Tpq (.pointer (some p)) "Pop").run Tryz.prog w = .ok (279, .pointer (some p)) w := m_ptr _ _ (by kernel_rfl) p w
theorem m_push (p : Addr) (w : World) : (method 424 Tpq (.pointer (some p)) "Push").run Tryz.prog w = .ok (280, .pointer (some p)) w := m_ptr _ _ (by kernel_rfl) p w
end Go.Proofs.YtbejkcdaefkibaaGreat.Wd
namespace Go.Proofs.YtbejkcdaefkibaaGreat.Wd
open Go Go.RowKit Go.Shelf
set_option linter.unusedVariables false
set_option maxRecDepth 100000

/-- Who is due no later. -/
abbrev dueR (F : Nat → Sl × Int) : Nat → Nat → Prop := fun x y => (F x).2 ≤ (F y).2
theorem dueR_tr (F : Nat → Sl × Int) (x y z : Nat) (h : dueR F x y) (g : dueR F y z) : dueR F x z := Int.le_trans h g
theorem dueR_rf (F : Nat → Sl × Int) (x : Nat) : dueR F x x := Int.le_refl _
abbrev qif (T : Nat) : Value := .iface Tpq (.pointer (some ⟨T, 3, none⟩))
theorem i_par {k : Nat} (h : 0 < k) : ((k : Int) - 1) / 2 = (par k : Int) := by unfold par; omega

theorem up_any (T A n cap n0 : Nat) (F : Nat → Sl × Int) (j : Nat) (q : Nat → Nat) (w : World) (h : Que w T A n cap q F) (hn : n0 ≤ n) (hj : j < n0) (hu : Upw (dueR F) n0 j q) :
    Calls Tryz.prog 212 #[qif T, .int .i64 j] w fun e w' => e = .returned (.tuple #[]) ∧ ∃ q', Mv 0 n0 q q' ∧ Ord (dueR F) 0 n0 q' ∧ Que w' T A n cap q' F ∧ Tch (QB A n q) w w' := by
  have hcap := h.cap
  have H0 := Lib.hid h
  have HU := Lib.hid hu
  clear h hu
  go_enter Tryz.func212, Tryz.ntmps212
  go_wp2
  go_loopw [1] (fun i wr => ∃ (k : Nat) (g : Nat → Nat), i = .int .i64 (k : Int) ∧ k < n0 ∧ Hid (Upw (dueR F) n0 k g) ∧ Mv 0 n0 q g ∧ Hid (Que wr T A n cap g F) ∧ Tch (QB A n q) w wr) (fun i _ => (intOf i).toNat)
  case atStart => exact ⟨j, q, rfl, hj, HU, .refl, H0, Tch.refl _ _⟩
  case round =>
    clear H0 HU
    obtain ⟨k, g, rfl, hk, hu, hm, hQ, hg⟩ := hrel
    have ml := m_less T _ wr hQ.out.var
    have hpl := par_le k
    by_cases h0 : 0 < k
    · have hpk := par_lt h0
      have hw := i_par h0
      have e1 : ((par k : Int) == (k : Int)) = false := by simp; omega
      have C := Lib.hid (qless_any T A n cap g F k (par k) wr hQ.out (by omega) (by omega))
      by_cases hd : (F (g k)).2 < (F (g (par k))).2
      · have hd' := decide_eq_true hd
        rw [hd'] at C
        have HD := Lib.hid hd
        clear hd hd'
        go_wp2_with (first
          | (go_at_call 276; refine C.out.mono ?_; rintro e w1 ⟨rfl, gd⟩; have hQ1 := Lib.hid (hQ.out.drew gd); have ms := m_swap T _ w1 hQ1.out.var; have C2 := Lib.hid (qswap_any T A n cap g F (par k) k w1 hQ1.out (by omega) (by omega) (by omega)))
          | (go_at_call 277; refine C2.out.mono ?_; rintro e w2 ⟨rfl, hQ2, hg2⟩))
        go_roundw
        case rel => exact ⟨par k, xch g (par k) k, rfl, by omega, Lib.hid (hu.out.step (dueR_tr F) h0 hk (Int.le_of_lt HD.out)), .xch _ _ hm (Nat.zero_le _) (by omega) (Nat.zero_le _) hk, Lib.hid hQ2, hg.trans ((Drew.tch gd).trans (hg2.mono (fun x _ hx => QB.of_mv (hm.mono (Nat.le_refl _) hn) hx)))⟩
        case measure => simp [intOf]; omega
      · have hd' := decide_eq_false hd
        rw [hd'] at C
        have HD := Lib.hid hd
        clear hd hd'
        go_wp2_with (go_at_call 276; refine C.out.mono ?_; rintro e w1 ⟨rfl, gd⟩; have hQ1 := Lib.hid (hQ.out.drew gd))
        go_end0
        exact ⟨rfl, g, hm, hu.out.stop (fun _ => by have := HD.out; simp only [dueR]; omega), hQ1.out, hg.trans (Drew.tch gd)⟩
    · obtain rfl : k = 0 := by omega
      have e1 : (((par 0 : Nat) : Int) == ((0 : Nat) : Int)) = true := by rfl
      go_wp2
      go_end0
      exact ⟨rfl, g, hm, hu.out.stop (fun x => absurd x h0), hQ.out, hg⟩

/-- What is told of who went down. -/
def DownP (F : Nat → Sl × Int) (T A n cap n0 i0 : Nat) (q : Nat → Nat) (w : World) (e : Ending) (w' : World) : Prop :=
  ∃ (b : Bool) (q' : Nat → Nat), e = .returned (.bool b) ∧ Mv 0 n0 q q' ∧ (b = true → Ord (dueR F) 0 n0 q') ∧ (b = false → Upw (dueR F) n0 i0 q') ∧ Que w' T A n cap q' F ∧ Tch (QB A n q) w w'
theorem down_end {F : Nat → Sl × Int} {T A n cap n0 i0 k : Nat} {q g : Nat → Nat} {w wr w1 : World} (hi : i0 ≤ k) (hk : k < n0 ∨ k = i0) (hu : Hid (Off (dueR F) 0 n0 k g)) (ho : Hid (i0 < k → dueR F (g (par k)) (g k))) (hm : Mv 0 n0 q g)
    (hQ : Que w1 T A n cap g F) (hg : Tch (QB A n q) w wr) (hg1 : Drew wr w1) (hs : ∀ c, 0 < c → c < n0 → par c = k → dueR F (g k) (g c)) : DownP F T A n cap n0 i0 q w (.returned (.bool (decide (i0 < k)))) w1 := by
  refine ⟨_, g, rfl, hm, ?_, ?_, hQ, hg.trans (Drew.tch hg1)⟩
  · intro h
    have h' : i0 < k := by simpa using h
    exact hu.out.stop hs (fun _ _ _ => ho.out h')
  · intro h
    have h' : ¬ i0 < k := by simpa using h
    obtain rfl : k = i0 := by omega
    exact hu.out.upw hs

set_option maxHeartbeats 2000000 in
theorem down_any (T A n cap n0 i0 : Nat) (F : Nat → Sl × Int) (q : Nat → Nat) (w : World) (h : Que w T A n cap q F) (hn : n0 ≤ n) (hi : i0 ≤ n0) (hu : Off (dueR F) 0 n0 i0 q) :
    Calls Tryz.prog 211 #[qif T, .int .i64 i0, .int .i64 n0] w (DownP F T A n cap n0 i0 q w) := by
  have hcap := h.cap
  have H0 := Lib.hid h
  have HU := Lib.hid hu
  clear h hu
  go_enter Tryz.func211, Tryz.ntmps211
  go_wp2
  go_loopw [7] (fun i wr => ∃ (k : Nat) (g : Nat → Nat), i = .int .i64 (k : Int) ∧ (i0 ≤ k ∧ (k < n0 ∨ k = i0)) ∧ Hid (Off (dueR F) 0 n0 k g) ∧ Hid (i0 < k → dueR F (g (par k)) (g k)) ∧ Mv 0 n0 q g ∧ Hid (Que wr T A n cap g F) ∧ Tch (QB A n q) w wr) (fun i _ => n0 - (intOf i).toNat)
  case atStart => exact ⟨i0, q, rfl, ⟨Nat.le_refl _, .inr rfl⟩, HU, Lib.hid (fun x => absurd x (Nat.lt_irrefl _)), .refl, H0, Tch.refl _ _⟩
  case round =>
    clear H0 HU
    obtain ⟨k, g, rfl, ⟨hik, hkn⟩, hu, ho, hm, hQ, hg⟩ := hrel
    have ml := m_less T _ wr hQ.out.var
    have eik : ((i0 : Int) < (k : Int)) ↔ i0 < k := by omega
    by_cases h1 : 2 * k + 1 < n0
    · have n1 : decide ((n0 : Int) ≤ 2 * (k : Int) + 1) = false := by simp; omega
      have n2 : decide (2 * (k : Int) + 1 < 0) = false := by simp; omega
      have c1 : ((2 * k + 1 : Nat) : Int) = 2 * (k : Int) + 1 := by omega
      have c2 : ((2 * k + 2 : Nat) : Int) = 2 * (k : Int) + 1 + 1 := by omega
      by_cases h2 : 2 * k + 2 < n0
      · have n3 : decide (2 * (k : Int) + 1 + 1 < (n0 : Int)) = true := by simp; omega
        have C := Lib.hid (qless_any T A n cap g F (2 * k + 2) (2 * k + 1) wr hQ.out (by omega) (by omega))
        rw [c1, c2] at C
        by_cases hd : (F (g (2 * k + 2))).2 < (F (g (2 * k + 1))).2
        · have hd' := decide_eq_true hd
          rw [hd'] at C
          have HD := Lib.hid hd
          clear hd hd' c1 c2
          by_cases he : (F (g (2 * k + 2))).2 < (F (g k)).2
          · have HE := Lib.hid (decide_eq_true he)
            have HF := Lib.hid he
            have CC : Hid ((((2 * k + 1 : Nat) : Int) = 2 * (k : Int) + 1) ∧ (((2 * k + 2 : Nat) : Int) = 2 * (k : Int) + 1 + 1)) := Lib.hid ⟨by omega, by omega⟩
            clear he
            go_wp2_with (first
              | (go_at_call 276; with_reducible refine C.out.mono ?_; rintro e w1 ⟨rfl, gd⟩; clear C; have hQ1 := Lib.hid (hQ.out.drew gd); have ml1 := m_less T _ w1 hQ1.out.var; have C2 := Lib.hid (qless_any T A n cap g F (2 * k + 2) k w1 hQ1.out (by omega) (by omega)); rw [CC.out.2, HE.out] at C2)
              | (go_at_call 276; with_reducible refine C2.out.mono ?_; rintro e w2 ⟨rfl, gd2⟩; clear C2; have hQ2 := Lib.hid (hQ1.out.drew gd2); have ms := m_swap T _ w2 hQ2.out.var; have C3 := Lib.hid (qswap_any T A n cap g F k (2 * k + 2) w2 hQ2.out (by omega) (by omega) (by omega)); rw [CC.out.2] at C3)
              | (go_at_call 277; refine C3.out.mono ?_; rintro e w3 ⟨rfl, hQ3, hg3⟩))
            go_roundw
            case rel =>
              refine ⟨2 * k + 2, xch g k (2 * k + 2), by rw [CC.out.2], ⟨by omega, .inl (by omega)⟩, Lib.hid (hu.out.step (Nat.zero_le _) (by omega) (by omega) (par_right k) ?_), Lib.hid (fun _ => ?_), .xch _ _ hm (Nat.zero_le _) (by omega) (Nat.zero_le _) (by omega), Lib.hid hQ3, hg.trans ((Drew.tch (gd.trans gd2)).trans (hg3.mono (fun x _ hx => QB.of_mv (hm.mono (Nat.le_refl _) hn) hx)))⟩
              · intro c x0 x1 x2 x3
                have HF' := HF.out
                have HD' := HD.out
                rcases par_kids x0 x2 with rfl | rfl
                · simp only [dueR]; omega
                · exact absurd rfl x3
              · rw [par_right k, xch_l, xch_r]; exact Int.le_of_lt HF.out
            case measure => simp [intOf]; omega
          · have HE := Lib.hid (decide_eq_false he)
            have HF := Lib.hid he
            have CC : Hid ((((2 * k + 1 : Nat) : Int) = 2 * (k : Int) + 1) ∧ (((2 * k + 2 : Nat) : Int) = 2 * (k : Int) + 1 + 1)) := Lib.hid ⟨by omega, by omega⟩
            clear he
            go_wp2_with (first
              | (go_at_call 276; with_reducible refine C.out.mono ?_; rintro e w1 ⟨rfl, gd⟩; clear C; have hQ1 := Lib.hid (hQ.out.drew gd); have ml1 := m_less T _ w1 hQ1.out.var; have C2 := Lib.hid (qless_any T A n cap g F (2 * k + 2) k w1 hQ1.out (by omega) (by omega)); rw [CC.out.2, HE.out] at C2)
              | (go_at_call 276; with_reducible refine C2.out.mono ?_; rintro e w2 ⟨rfl, gd2⟩; clear C2; have hQ2 := Lib.hid (hQ1.out.drew gd2)))
            go_ret
            have Z := down_end hik hkn hu ho hm hQ2.out hg (gd.trans gd2) (fun c x0 x1 x2 => by
              have HF' := HF.out
              have HD' := HD.out
              rcases par_kids x0 x2 with rfl | rfl
              · simp only [dueR]; omega
              · simp only [dueR]; omega)
            simpa [eik] using Z
        · have hd' := decide_eq_false hd
          rw [hd'] at C
          have HD := Lib.hid hd
          clear hd hd' c1 c2
          by_cases he : (F (g (2 * k + 1))).2 < (F (g k)).2
          · have HE := Lib.hid (decide_eq_true he)
            have HF := Lib.hid he
            have CC : Hid ((((2 * k + 1 : Nat) : Int) = 2 * (k : Int) + 1) ∧ (((2 * k + 2 : Nat) : Int) = 2 * (k : Int) + 1 + 1)) := Lib.hid ⟨by omega, by omega⟩
            clear he
            go_wp2_with (first
              | (go_at_call 276; with_reducible refine C.out.mono ?_; rintro e w1 ⟨rfl, gd⟩; clear C; have hQ1 := Lib.hid (hQ.out.drew gd); have ml1 := m_less T _ w1 hQ1.out.var; have C2 := Lib.hid (qless_any T A n cap g F (2 * k + 1) k w1 hQ1.out (by omega) (by omega)); rw [CC.out.1, HE.out] at C2)
              | (go_at_call 276; with_reducible refine C2.out.mono ?_; rintro e w2 ⟨rfl, gd2⟩; clear C2; have hQ2 := Lib.hid (hQ1.out.drew gd2); have ms := m_swap T _ w2 hQ2.out.var; have C3 := Lib.hid (qswap_any T A n cap g F k (2 * k + 1) w2 hQ2.out (by omega) (by omega) (by omega)); rw [CC.out.1] at C3)
              | (go_at_call 277; refine C3.out.mono ?_; rintro e w3 ⟨rfl, hQ3, hg3⟩))
            go_roundw
            case rel =>
              refine ⟨2 * k + 1, xch g k (2 * k + 1), by rw [CC.out.1], ⟨by omega, .inl (by omega)⟩, Lib.hid (hu.out.step (Nat.zero_le _) (by omega) (by omega) (par_left k) ?_), Lib.hid (fun _ => ?_), .xch _ _ hm (Nat.zero_le _) (by omega) (Nat.zero_le _) (by omega), Lib.hid hQ3, hg.trans ((Drew.tch (gd.trans gd2)).trans (hg3.mono (fun x _ hx => QB.of_mv (hm.mono (Nat.le_refl _) hn) hx)))⟩
              · intro c x0 x1 x2 x3
                have HF' := HF.out
                have HD' := HD.out
                rcases par_kids x0 x2 with rfl | rfl
                · exact absurd rfl x3
                · simp only [dueR]; omega
              · rw [par_left k, xch_l, xch_r]; exact Int.le_of_lt HF.out
            case measure => simp [intOf]; omega
          · have HE := Lib.hid (decide_eq_false he)
            have HF := Lib.hid he
            have CC : Hid ((((2 * k + 1 : Nat) : Int) = 2 * (k : Int) + 1) ∧ (((2 * k + 2 : Nat) : Int) = 2 * (k : Int) + 1 + 1)) := Lib.hid ⟨by omega, by omega⟩
            clear he
            go_wp2_with (first
              | (go_at_call 276; with_reducible refine C.out.mono ?_; rintro e w1 ⟨rfl, gd⟩; clear C; have hQ1 := Lib.hid (hQ.out.drew gd); have ml1 := m_less T _ w1 hQ1.out.var; have C2 := Lib.hid (qless_any T A n cap g F (2 * k + 1) k w1 hQ1.out (by omega) (by omega)); rw [CC.out.1, HE.out] at C2)
              | (go_at_call 276; with_reducible refine C2.out.mono ?_; rintro e w2 ⟨rfl, gd2⟩; clear C2; have hQ2 := Lib.hid (hQ1.out.drew gd2)))
            go_ret
            have Z := down_end hik hkn hu ho hm hQ2.out hg (gd.trans gd2) (fun c x0 x1 x2 => by
              have HF' := HF.out
              have HD' := HD.out
              rcases par_kids x0 x2 with rfl | rfl
              · simp only [dueR]; omega
              · simp only [dueR]; omega)
            simpa [eik] using Z
      · have n3 : decide (2 * (k : Int) + 1 + 1 < (n0 : Int)) = false := by simp; omega
        clear c1 c2
        by_cases he : (F (g (2 * k + 1))).2 < (F (g k)).2
        · have HE := Lib.hid (decide_eq_true he)
          have HF := Lib.hid he
          have CC : Hid ((((2 * k + 1 : Nat) : Int) = 2 * (k : Int) + 1) ∧ (((2 * k + 2 : Nat) : Int) = 2 * (k : Int) + 1 + 1)) := Lib.hid ⟨by omega, by omega⟩
          clear he
          have C2 := Lib.hid (qless_any T A n cap g F (2 * k + 1) k wr hQ.out (by omega) (by omega))
          rw [CC.out.1, HE.out] at C2
          go_wp2_with (first
            | (go_at_call 276; with_reducible refine C2.out.mono ?_; rintro e w2 ⟨rfl, gd2⟩; clear C2; have hQ2 := Lib.hid (hQ.out.drew gd2); have ms := m_swap T _ w2 hQ2.out.var; have C3 := Lib.hid (qswap_any T A n cap g F k (2 * k + 1) w2 hQ2.out (by omega) (by omega) (by omega)); rw [CC.out.1] at C3)
            | (go_at_call 277; refine C3.out.mono ?_; rintro e w3 ⟨rfl, hQ3, hg3⟩))
          go_roundw
          case rel =>
            refine ⟨2 * k + 1, xch g k (2 * k + 1), by rw [CC.out.1], ⟨by omega, .inl (by omega)⟩, Lib.hid (hu.out.step (Nat.zero_le _) (by omega) (by omega) (par_left k) ?_), Lib.hid (fun _ => ?_), .xch _ _ hm (Nat.zero_le _) (by omega) (Nat.zero_le _) (by omega), Lib.hid hQ3, hg.trans ((Drew.tch (gd2)).trans (hg3.mono (fun x _ hx => QB.of_mv (hm.mono (Nat.le_refl _) hn) hx)))⟩
            · intro c x0 x1 x2 x3
              have HF' := HF.out
              rcases par_kids x0 x2 with rfl | rfl
              · exact absurd rfl x3
              · omega
            · rw [par_left k, xch_l, xch_r]; exact Int.le_of_lt HF.out
          case measure => simp [intOf]; omega
        · have HE := Lib.hid (decide_eq_false he)
          have HF := Lib.hid he
          have CC : Hid ((((2 * k + 1 : Nat) : Int) = 2 * (k : Int) + 1) ∧ (((2 * k + 2 : Nat) : Int) = 2 * (k : Int) + 1 + 1)) := Lib.hid ⟨by omega, by omega⟩
          clear he
          have C2 := Lib.hid (qless_any T A n cap g F (2 * k + 1) k wr hQ.out (by omega) (by omega))
          rw [CC.out.1, HE.out] at C2
          go_wp2_with (first
            | (go_at_call 276; with_reducible refine C2.out.mono ?_; rintro e w2 ⟨rfl, gd2⟩; clear C2; have hQ2 := Lib.hid (hQ.out.drew gd2)))
          go_ret
          have Z := down_end hik hkn hu ho hm hQ2.out hg (gd2) (fun c x0 x1 x2 => by
            have HF' := HF.out
            rcases par_kids x0 x2 with rfl | rfl
            · simp only [dueR]; omega
            · omega)
          simpa [eik] using Z
    · have n1 : decide ((n0 : Int) ≤ 2 * (k : Int) + 1) = true := by simp; omega
      go_wp2
      go_ret
      have Z := down_end hik hkn hu ho hm hQ.out hg (Drew.refl _) (fun c x0 x1 x2 => by
        rcases par_kids x0 x2 with rfl | rfl <;> omega)
      simpa [eik] using Z
end Go.Proofs.YtbejkcdaefkibaaGreat.Wd
namespace Go.Proofs.YtbejkcdaefkibaaGreat.Wd
open Go Go.RowKit Go.Shelf
set_option linter.unusedVariables false
set_option maxRecDepth 100000

theorem Mv.here {n : Nat} {q q' : Nat → Nat} (h : Mv 0 n q q') : ∀ i, i < n → ∃ j, j < n ∧ q' j = q i := by
  induction h with
  | refl => exact fun i hi => ⟨i, hi, rfl⟩
  | xch a b _ ha hb hc hd ih =>
    intro i hi
    obtain ⟨j, hj, e⟩ := ih i hi
    by_cases e1 : j = a
    · exact ⟨b, hd, by rw [xch_r, ← e1, e]⟩
    · by_cases e2 : j = b
      · exact ⟨a, hb, by rw [xch_l, ← e2, e]⟩
      · exact ⟨j, hj, by rw [xch_o _ e1 e2, e]⟩

/-- The last one is gone. -/
theorem Que.less {w : World} {T A n cap : Nat} {q : Nat → Nat} {F : Nat → Sl × Int} (h : Que w T A (n + 1) cap q F) (hf : w.frozen? ⟨T, 3, none⟩ = false) :
    Que ((w.setCell ⟨A, n, none⟩ (.pointer none)).setCell ⟨T, 3, none⟩ (.slice (some ⟨A, 0, none⟩) n cap)) T A n cap q F := by
  obtain ⟨cur, hb, h1, h2, h3, h4⟩ := h.row
  refine ⟨?_, ⟨_, (hb.set n _).other 3 _ h.one, by simp [h1], by omega, h3, fun i hi => ?_⟩, by have := h.few; omega, fun i hi => ?_, fun i j hi hj => h.inj i j (by omega) (by omega), h.one, fun i hi => h.two i (by omega)⟩
  · exact World.cell?_setCell_same _ _ _ ((cs_other _ _ _ _ _ _ (.inl (Ne.symm h.one))).trans h.var)
  · rw [Array.getElem?_setIfInBounds_ne (by omega)]; exact h4 i (by omega)
  · exact ((h.nd i (by omega)).other n _ (h.two i (by omega)).1).other 3 _ (h.two i (by omega)).2

theorem qpop_any (T A n cap : Nat) (q : Nat → Nat) (F : Nat → Sl × Int) (w : World) (h : Que w T A (n + 1) cap q F) (hf : w.frozen? ⟨T, 3, none⟩ = false) :
    Calls Tryz.prog 279 #[.pointer (some ⟨T, 3, none⟩)] w fun e w' => e = .returned (.iface Tps (ptr (q n))) ∧ Que w' T A n cap q F ∧ Tch (fun k => k = A ∨ k = T) w w' ∧ Top3 T w w' := by
  have hcap := h.cap
  have hv := h.var
  obtain ⟨ha, hfa⟩ := h.at (show n < n + 1 by omega)
  have HL := Lib.hid (h.less hf)
  have hone := h.one
  have s1 : (w.setCell ⟨A, n, none⟩ (.pointer none)).cell? ⟨T, 3, none⟩ = some (.slice (some ⟨A, 0, none⟩) (n + 1) cap) := by rw [cs_other _ _ _ _ _ _ (.inl (Ne.symm hone))]; exact hv
  have s2 : (w.setCell ⟨A, n, none⟩ (.pointer none)).frozen? ⟨T, 3, none⟩ = false := by simp only [World.frozen?_setCell]; exact hf
  clear h
  generalize q n = B at *
  go_enter Tryz.func279, Tryz.ntmps279
  go_wp2
  go_ret
  exact ⟨rfl, HL.out, (Tch.set w A n _ (.inl rfl)).trans (Tch.set _ T 3 _ (.inr rfl)), (Top3.other w _ hone).trans (Top3.set T _ _)⟩

/-- Who stands in it. -/
def In (n : Nat) (q : Nat → Nat) (x : Nat) : Prop := ∃ k, k < n ∧ q k = x
theorem In.mv {n : Nat} {q q' : Nat → Nat} (h : Mv 0 n q q') (x : Nat) : In n q' x ↔ In n q x := by
  constructor
  · rintro ⟨k, hk, e⟩
    obtain ⟨j, _, hj, e2⟩ := h.back k (Nat.zero_le _) hk
    exact ⟨j, hj, e2.symm.trans e⟩
  · rintro ⟨k, hk, e⟩
    obtain ⟨j, hj, e2⟩ := h.here k hk
    exact ⟨j, hj, e2.trans e⟩
/-- Which blocks may be written by who joins, or leaves. -/
def QT (T A n : Nat) (q : Nat → Nat) : Nat → Prop := fun k => k = T ∨ QB A n q k
theorem fz_tch {S : Nat → Prop} {w w' : World} (h : Tch S w w') {T o : Nat} {v : Value} (hc : w.cell? ⟨T, o, none⟩ = some v) (hT : ¬ S T) : w'.frozen? ⟨T, o, none⟩ = w.frozen? ⟨T, o, none⟩ := World.frozen?_of_block (h.block T (cell_lt hc) hT)
theorem Que.out {w : World} {T A n cap : Nat} {q : Nat → Nat} {F : Nat → Sl × Int} (h : Que w T A n cap q F) : ¬ QB A n q T := by
  rintro (e | ⟨i, hi, e⟩)
  · exact h.one e.symm
  · exact (h.two i hi).2 e.symm

theorem remove_any (T A n cap i : Nat) (q : Nat → Nat) (F : Nat → Sl × Int) (w : World) (h : Que w T A (n + 1) cap q F) (hf : w.frozen? ⟨T, 3, none⟩ = false) (hi : i ≤ n) (ho : Ord (dueR F) 0 (n + 1) q) :
    Calls Tryz.prog 175 #[qif T, .int .i64 i] w fun e w' => ∃ v q', e = .returned v ∧ Que w' T A n cap q' F ∧ Ord (dueR F) 0 n q' ∧ (∀ x, In n q' x ↔ (In (n + 1) q x ∧ x ≠ q i)) ∧ Tch (QT T A (n + 1) q) w w' ∧ Top3 T w w' := by
  have hcap := h.cap
  have H := Lib.hid h
  have HO := Lib.hid ho
  have ml := m_len T _ w h.var
  by_cases hin : i = n
  · subst hin
    have mp := m_pop ⟨T, 3, none⟩ w
    have C := Lib.hid (qpop_any T A i cap q F w h hf)
    have C0 := Lib.hid (qlen_any (some ⟨A, 0, none⟩) (i + 1) cap)
    clear h ho hf
    go_enter Tryz.func175, Tryz.ntmps175
    go_wp2_with (first
      | (go_at_call 275; refine (C0.out _).mono ?_; rintro e w1 ⟨rfl, rfl⟩)
      | (go_at_call 279; refine C.out.mono ?_; rintro e w1 ⟨rfl, hQ, hg, ht⟩))
    go_ret
    refine ⟨_, q, rfl, hQ, HO.out.less, fun x => ?_, hg.mono (fun k _ hk => hk.elim (fun e => .inr (.inl e)) .inl), ht⟩
    constructor
    · rintro ⟨k, hk, e⟩
      exact ⟨⟨k, by omega, e⟩, fun e2 => by have := H.out.inj k i (by omega) (by omega) (e.trans e2); omega⟩
    · rintro ⟨⟨k, hk, e⟩, hne⟩
      exact ⟨k, by have : k ≠ i := fun x => hne (by rw [← e, x]); omega, e⟩
  · have hlt : i < n := by omega
    have e1 : ((n : Int) != (i : Int)) = true := by simp; omega
    have ms := m_swap T _ w h.var
    have C0 := Lib.hid (qlen_any (some ⟨A, 0, none⟩) (n + 1) cap)
    have C1 := Lib.hid (qswap_any T A (n + 1) cap q F i n w h (by omega) (by omega) hin)
    have HG := Lib.hid (ho.gone (dueR_tr F) hlt)
    have HT := Lib.hid h.out
    have hv := h.var
    have HE : Hid (∀ (q' : Nat → Nat), Mv 0 n (xch q i n) q' → (∀ x, In n q' x ↔ (In (n + 1) q x ∧ x ≠ q i)) ∧ q' n = q i ∧ ∀ k, QB A (n + 1) q' k → QB A (n + 1) q k) := Lib.hid (fun q' hm => by
      have m1 : Mv 0 (n + 1) q q' := (Mv.xch i n .refl (Nat.zero_le _) (by omega) (Nat.zero_le _) (by omega)).trans (hm.mono (Nat.le_refl _) (by omega))
      refine ⟨fun x => ?_, by rw [hm.out n (.inr (Nat.le_refl _)), xch_r], fun k hk => QB.of_mv m1 hk⟩
      rw [In.mv hm]
      constructor
      · rintro ⟨k, hk, e⟩
        by_cases z : k = i
        · rw [z, xch_l] at e
          exact ⟨⟨n, by omega, e⟩, fun e2 => by have := H.out.inj n i (by omega) (by omega) (e.trans e2); omega⟩
        · rw [xch_o _ z (by omega)] at e
          exact ⟨⟨k, by omega, e⟩, fun e2 => by have := H.out.inj k i (by omega) (by omega) (e.trans e2); omega⟩
      · rintro ⟨⟨k, hk, e⟩, hne⟩
        by_cases z : k = n
        · exact ⟨i, hlt, by rw [xch_l, ← z, e]⟩
        · exact ⟨k, by omega, by rw [xch_o _ (fun x => hne (by rw [← e, x])) z, e]⟩)
    clear h ho
    go_enter Tryz.func175, Tryz.ntmps175
    go_wp2_with (first
      | (go_at_call 275; refine (C0.out _).mono ?_; rintro e w1 ⟨rfl, rfl⟩)
      | (go_at_call 277; refine C1.out.mono ?_; rintro e w1 ⟨rfl, hQ1, hg1⟩; have C2 := Lib.hid (down_any T A (n + 1) cap n i F (xch q i n) w1 hQ1 (by omega) (by omega) HG.out); clear ms C1 ml)
      | (go_at_call 211; refine C2.out.mono ?_; rintro e w2 ⟨b, q2, rfl, hm2, h2t, h2f, hQ2, hg2⟩; refine stopHere ?_))
    unfold Stop
    have f2 : w2.frozen? ⟨T, 3, none⟩ = false := by
      rw [fz_tch hg2 hQ1.var (fun x => HT.out (QB.of_mv (Mv.xch i n .refl (Nat.zero_le _) (by omega) (Nat.zero_le _) (by omega)) x)), fz_tch hg1 hv HT.out]; exact hf
    have G2 : Tch (QB A (n + 1) q) w w2 := hg1.trans (hg2.mono (fun k _ hk => QB.of_mv (Mv.xch i n .refl (Nat.zero_le _) (by omega) (Nat.zero_le _) (by omega)) hk))
    obtain ⟨z1, z2, z3⟩ := HE.out q2 hm2
    have P2 : Top3 T w w2 := Top3.tch G2 HT.out (cell_lt hv)
    have T2 := hQ2.out
    have V2 := hQ2.var
    clear HG hg1 hg2 hQ1 C2
    cases b
    · have C3 := Lib.hid (up_any T A (n + 1) cap n F i q2 w2 hQ2 (by omega) hlt (h2f rfl))
      clear h2t h2f
      have HZ := Lib.hid z1
      have HZ2 := Lib.hid z2
      have HZ3 := Lib.hid z3
      clear z1 z2 z3
      go_wp2_with (go_at_call 212; refine C3.out.mono ?_; rintro e w3 ⟨rfl, q3, hm3, ho3, hQ3, hg3⟩; have f3 : w3.frozen? ⟨T, 3, none⟩ = false := (by rw [fz_tch hg3 V2 T2]; exact f2); have mp := m_pop ⟨T, 3, none⟩ w3; have C4 := Lib.hid (qpop_any T A n cap q3 F w3 hQ3 f3); refine stopHere ?_)
      unfold Stop
      clear C3
      go_wp2_with (go_at_call 279; refine C4.out.mono ?_; rintro e w4 ⟨rfl, hQ4, hg4, ht4⟩)
      go_ret
      obtain ⟨y1, y2, y3⟩ := HE.out q3 (hm2.trans hm3)
      exact ⟨_, q3, rfl, hQ4, ho3, y1, (G2.trans (hg3.mono (fun k _ hk => HZ3.out k hk))).mono (fun k _ hk => .inr hk) |>.trans (hg4.mono (fun k _ hk => hk.elim (fun e => .inr (.inl e)) .inl)), (P2.trans (Top3.tch hg3 T2 (cell_lt V2))).trans ht4⟩
    · have ho2 := Lib.hid (h2t rfl)
      have HZ := Lib.hid z1
      clear h2t h2f z1 z2 z3
      have mp := m_pop ⟨T, 3, none⟩ w2
      have C4 := Lib.hid (qpop_any T A n cap q2 F w2 hQ2 f2)
      go_wp2_with (go_at_call 279; refine C4.out.mono ?_; rintro e w4 ⟨rfl, hQ4, hg4, ht4⟩)
      go_ret
      exact ⟨_, q2, rfl, hQ4, ho2.out, HZ.out, G2.mono (fun k _ hk => .inr hk) |>.trans (hg4.mono (fun k _ hk => hk.elim (fun e => .inr (.inl e)) .inl)), P2.trans ht4⟩
end Go.Proofs.YtbejkcdaefkibaaGreat.Wd
namespace Go.Proofs.YtbejkcdaefkibaaGreat.Wd
open Go Go.RowKit Go.Shelf Go.Deep
set_option linter.unusedVariables false
set_option maxRecDepth 100000

/-- Some blocks, and all that come. -/
def Nx (B : Nat → Prop) (w : World) : Nat → Prop := fun k => B k ∨ w.heap.size ≤ k
theorem Tch.next {B : Nat → Prop} {a b c : World} (h : Tch B a b) (g : Tch (Nx B a) b c) : Tch B a c :=
  ⟨g.os.trans h.os, g.tape.trans h.tape, g.output.trans h.output, Nat.le_trans h.size g.size, fun k hk hn =>
    (g.block k (Nat.lt_of_lt_of_le hk h.size) (fun e => e.elim hn (fun x => by omega))).trans (h.block k hk hn)⟩
theorem Nx.next {B : Nat → Prop} {a b : World} (h : a.heap.size ≤ b.heap.size) {k : Nat} (hk : Nx (Nx B a) b k) : Nx B a k := hk.elim id (fun x => .inr (Nat.le_trans h x))

/-- A queue, its row not made yet, or in one of some blocks. -/
structure Qub (w : World) (T n : Nat) (q : Nat → Nat) (F : Nat → Sl × Int) (B : Nat → Prop) : Prop where
  que : (∃ A cap, Que w T A n cap q F ∧ B A) ∨ (n = 0 ∧ w.cell? ⟨T, 3, none⟩ = some (.slice none 0 0))
  mem : ∀ i, i < n → B (q i)
  top : B T
theorem Qub.mono {w : World} {T n : Nat} {q : Nat → Nat} {F : Nat → Sl × Int} {B C : Nat → Prop} (h : Qub w T n q F B) (hs : ∀ k, B k → C k) : Qub w T n q F C :=
  ⟨h.que.imp (fun ⟨A, cap, x, y⟩ => ⟨A, cap, x, hs A y⟩) id, fun i hi => hs _ (h.mem i hi), hs _ h.top⟩
/-- Who joins stands behind all. -/
def qpu (q : Nat → Nat) (n x : Nat) : Nat → Nat := fun k => if k = n then x else q k
theorem qpu_n (q : Nat → Nat) (n x : Nat) : qpu q n x n = x := if_pos rfl
theorem qpu_o (q : Nat → Nat) (n x : Nat) {k : Nat} (h : k ≠ n) : qpu q n x k = q k := if_neg h
def qrow (q : Nat → Nat) (n : Nat) : List Value := (List.range n).map (fun i => ptr (q i))
theorem qrow_len (q : Nat → Nat) (n : Nat) : (qrow q n).length = n := by simp [qrow]
theorem qrow_at (q : Nat → Nat) (n i : Nat) (h : i < n) : (qrow q n)[i]? = some (ptr (q i)) := by simp [qrow, h]
theorem Que.owns {w : World} {T A n cap : Nat} {q : Nat → Nat} {F : Nat → Sl × Int} (h : Que w T A n cap q F) : w.ownsRow 0 Tps 1 (.slice (some ⟨A, 0, none⟩) n cap) n (qrow q n) := by
  obtain ⟨cur, hb, h1, h2, h3, h4⟩ := h.row
  refine ⟨by rw [qrow_len, Nat.mul_one], .inr ⟨A, cap, cur, rfl, Nat.zero_le _, hb, h2, h3, by rw [h1, Nat.mul_one], ?_⟩⟩
  apply List.ext_getElem?
  intro i
  rw [Nat.mul_one, List.getElem?_take]
  by_cases hi : i < n
  · rw [if_pos hi, qrow_at q n i hi, ← h4 i hi]; simp
  · rw [if_neg hi, List.getElem?_eq_none (by rw [qrow_len]; omega)]
theorem zeroPs : (Tryz.prog.info? Tps).map (fun i => (i.zero, i.size, i.bytes)) = some (some (.pointer none), 1, 8) := by kernel_rfl

/-- What is asked of one who joins. -/
structure Fresh (w : World) (T n : Nat) (q : Nat → Nat) (F : Nat → Sl × Int) (x : Nat) (p : Int) : Prop where
  blk : Blk w x (kcs (F x) p) Tsl
  new : ¬ In n q x
  ne : x ≠ T
theorem fz_cs {w : World} {a b o p : Nat} {v : Value} : (w.setCell ⟨a, o, none⟩ v).frozen? ⟨b, p, none⟩ = w.frozen? ⟨b, p, none⟩ := by simp only [World.frozen?_setCell]
theorem ownb (a : Nat) (n c : Nat) : Value.ownBlock (.slice (some ⟨a, 0, none⟩) n c) = some a := rfl

/-- The row has grown by one, and the variable holds it. -/
theorem que_push {w w1 w2 : World} {T n cap g x : Nat} {q : Nat → Nat} {F : Nat → Sl × Int} {v : Value} {o : Option Nat} (p : Int) (hw : w1 = (w.setCell ⟨x, 9, none⟩ (.int .i64 n)).alloc (.cells #[ptr x] Tps)) (hx : Fresh w T n q F x p)
    (hv : w.cell? ⟨T, 3, none⟩ = some v) (hnd : ∀ i, i < n → Blk w (q i) (kcs (F (q i)) i) Tsl) (hin : ∀ i j, i < n → j < n → q i = q j → i = j) (htw : ∀ i, i < n → q i ≠ T) (hn : n + 1 ≤ 1099511627776)
    (own : w2.ownsRow 0 Tps 1 (.slice (some ⟨g, 0, none⟩) (n + 1) cap) (n + 1) (qrow q n ++ [ptr x])) (grow : w1.grownBy w2 o) (ho : ∀ a, o = some a → ∃ cs, Blk w a cs Tps) (hg : o = some g ∨ g = w1.heap.size) (hT : ∀ cs, ¬ Blk w T cs Tps) :
    Que (w2.setCell ⟨T, 3, none⟩ (.slice (some ⟨g, 0, none⟩) (n + 1) cap)) T g (n + 1) cap (qpu q n x) F := by
  subst hw
  have nt : ¬ (Tps = Tsl) := by decide
  have keep : ∀ b cs, Blk w b cs Tsl → b ≠ x → Blk w2 b cs Tsl := by
    intro b cs hb hbx
    have h1 : Blk (w.setCell ⟨x, 9, none⟩ (.int .i64 n)) b cs Tsl := hb.other 9 _ hbx
    have h2 := h1.alloc (.cells #[ptr x] Tps)
    refine (grow.block b h2.lt (fun e => ?_)).trans h2
    obtain ⟨cs', hc⟩ := ho b e.symm
    have hc' : w.heap[b]? = some (.cells cs' Tps) := hc
    have hb' : w.heap[b]? = some (.cells cs Tsl) := hb
    rw [hc'] at hb'
    injection hb' with hb'
    injection hb' with _ e2
    exact nt e2
  have gT : g ≠ T := by
    intro e
    have hlt := cell_lt hv
    rcases hg with h | h
    · obtain ⟨cs, hc⟩ := ho g h
      rw [e] at hc
      exact hT cs hc
    · rw [e] at h; simp at h; omega
  have tx : T < w2.heap.size := by
    have := grow.size; simp at this; have := cell_lt hv; omega
  have hcT : ∃ u, w2.cell? ⟨T, 3, none⟩ = some u := by
    refine ⟨v, ?_⟩
    have h1 : (w.setCell ⟨x, 9, none⟩ (.int .i64 n)).cell? ⟨T, 3, none⟩ = some v := by rw [cs_other _ _ _ _ _ _ (.inl (Ne.symm hx.ne))]; exact hv
    have h2 := acell (o := .cells #[ptr x] Tps) h1
    refine (World.cell?_of_block (grow.block T (cell_lt h2) (fun e => ?_))).trans h2
    obtain ⟨cs', hc⟩ := ho T e.symm
    exact hT cs' hc
  have hbx : Blk w2 x (kcs (F x) n) Tsl := by
    have h1 := hx.blk.set 9 (.int .i64 n)
    rw [kcs_set] at h1
    have h2 := h1.alloc (.cells #[ptr x] Tps)
    refine (grow.block x h2.lt (fun e => ?_)).trans h2
    obtain ⟨cs', hc⟩ := ho x e.symm
    have hc' : w.heap[x]? = some (.cells cs' Tps) := hc
    have hb' : w.heap[x]? = some (.cells (kcs (F x) p) Tsl) := hx.blk
    rw [hc'] at hb'
    injection hb' with hb'
    injection hb' with _ e2
    exact nt e2
  obtain ⟨hl, hn2 | ⟨g', c', cur, e, _, hgb, h1, h2, h3, h4⟩⟩ := own
  · cases hn2.1
  · simp only [Value.slice.injEq, Option.some.injEq, Addr.mk.injEq, and_true, true_and] at e
    obtain ⟨e1, e2⟩ := e
    subst e1; subst e2
    have nd' : ∀ i, i < n + 1 → Blk w2 (qpu q n x i) (kcs (F (qpu q n x i)) i) Tsl := by
      intro i hi
      by_cases z : i = n
      · rw [z, qpu_n]; exact hbx
      · rw [qpu_o _ _ _ z]
        exact keep _ _ (hnd i (by omega)) (fun e => hx.new ⟨i, by omega, e⟩)
    have tw' : ∀ i, i < n + 1 → qpu q n x i ≠ g ∧ qpu q n x i ≠ T := by
      intro i hi
      constructor
      · intro e
        have h5 := nd' i hi
        rw [e] at h5
        have h5' : w2.heap[g]? = some (.cells _ Tsl) := h5
        rw [hgb] at h5'
        injection h5' with h5'
        injection h5' with _ e2
        exact nt e2
      · by_cases z : i = n
        · rw [z, qpu_n]; exact hx.ne
        · rw [qpu_o _ _ _ z]; exact htw i (by omega)
    refine ⟨?_, ⟨cur, Blk.other hgb 3 _ gT, by rw [h3, Nat.mul_one], h1, h2, fun i hi => ?_⟩, hn, fun i hi => (nd' i hi).other 3 _ (tw' i hi).2, ?_, gT, tw'⟩
    · obtain ⟨u, hu⟩ := hcT
      exact World.cell?_setCell_same _ _ _ hu
    · have h6 : (cur.toList.take ((n + 1) * 1))[i]? = (qrow q n ++ [ptr x])[i]? := by rw [h4]
      rw [Nat.mul_one, List.getElem?_take, if_pos hi] at h6
      rw [← Array.getElem?_toList, h6]
      by_cases z : i = n
      · rw [z, qpu_n, List.getElem?_append_right (by rw [qrow_len]; omega), qrow_len]; simp
      · rw [qpu_o _ _ _ z, List.getElem?_append_left (by rw [qrow_len]; omega), qrow_at _ _ _ (by omega)]
    · intro i j hi hj e
      by_cases z : i = n
      · by_cases y : j = n
        · omega
        · rw [z, qpu_n, qpu_o _ _ _ y] at e
          exact absurd ⟨j, by omega, e.symm⟩ hx.new
      · by_cases y : j = n
        · rw [y, qpu_n, qpu_o _ _ _ z] at e
          exact absurd ⟨i, by omega, e⟩ hx.new
        · rw [qpu_o _ _ _ z, qpu_o _ _ _ y] at e
          exact hin i j (by omega) (by omega) e
end Go.Proofs.YtbejkcdaefkibaaGreat.Wd
namespace Go.Proofs.YtbejkcdaefkibaaGreat.Wd
open Go Go.RowKit Go.Shelf Go.Deep
set_option linter.unusedVariables false
set_option maxRecDepth 100000

theorem gb_set (w : World) (b o : Nat) (v : Value) : w.grownBy (w.setCell ⟨b, o, none⟩ v) (some b) := ⟨rfl, rfl, rfl, by simp [World.setCell], fun k _ hn => Below.heap_setCell _ _ _ _ (fun e => hn (by rw [e]))⟩
theorem Fresh.untyped {w : World} {T n : Nat} {q : Nat → Nat} {F : Nat → Sl × Int} {x : Nat} {p : Int} (h : Fresh w T n q F x p) {cs : Array Value} (hb : Blk w x cs Tps) : False := by
  have nt : ¬ (Tps = Tsl) := by decide
  have hb' : w.heap[x]? = some (.cells (kcs (F x) p) Tsl) := h.blk
  have hc' : w.heap[x]? = some (.cells cs Tps) := hb
  rw [hc'] at hb'
  injection hb' with hb'
  injection hb' with _ e2
  exact nt e2
theorem as_slot (x : Nat) (w : World) : (Instr.typeAssert (.iface Tps (ptr x)) 20 Tps false).run Tryz.prog w = .ok (ptr x) w := by kernel_rfl

theorem qpush_any (T n x : Nat) (q : Nat → Nat) (F : Nat → Sl × Int) (p : Int) (B : Nat → Prop) (w : World) (h : Qub w T n q F B) (hf : w.frozen? ⟨T, 3, none⟩ = false) (hx : Fresh w T n q F x p) (hT : ∀ cs, ¬ Blk w T cs Tps) (hB : B x) (hn : n + 1 ≤ 1099511627776) :
    Calls Tryz.prog 280 #[.pointer (some ⟨T, 3, none⟩), .iface Tps (ptr x)] w fun e w' => e = .returned (.tuple #[]) ∧ (∃ A cap, Que w' T A (n + 1) cap (qpu q n x) F ∧ Nx B w A) ∧ Tch B w w' ∧ Top3 T w w' := by
  obtain ⟨v, hv, hl, hown, hnd, hin, htw, hob⟩ : ∃ v, w.cell? ⟨T, 3, none⟩ = some v ∧ (∃ a c, v = .slice a n c) ∧ w.ownsRow 0 Tps 1 v n (qrow q n) ∧ (∀ i, i < n → Blk w (q i) (kcs (F (q i)) i) Tsl) ∧ (∀ i j, i < n → j < n → q i = q j → i = j) ∧ (∀ i, i < n → q i ≠ T) ∧ (∀ a, v.ownBlock = some a → (∃ cs, Blk w a cs Tps) ∧ B a) := by
    rcases h.que with ⟨A, cap, hQ, hA⟩ | ⟨h0, hv⟩
    · refine ⟨_, hQ.var, ⟨_, _, rfl⟩, hQ.owns, hQ.nd, hQ.inj, fun i hi => (hQ.two i hi).2, fun a ha => ?_⟩
      rw [ownb] at ha
      injection ha with ha
      obtain ⟨cur, hb, _⟩ := hQ.row
      exact ⟨⟨cur, ha ▸ hb⟩, ha ▸ hA⟩
    · subst h0
      exact ⟨_, hv, ⟨_, _, rfl⟩, World.ownsRow_nil _ _ _ _, fun i hi => absurd hi (Nat.not_lt_zero _), fun i j hi => absurd hi (Nat.not_lt_zero _), fun i hi => absurd hi (Nat.not_lt_zero _), fun a ha => by cases ha⟩
  obtain ⟨a0, c0, rfl⟩ := hl
  have p0 := hx.blk.cell 9
  have p1 := hx.blk.fz 9
  have hTop := h.top
  have HX := Lib.hid hx
  have c9 : w.cell? ⟨x, 9, none⟩ = some (.int .i64 p) := p0
  have s1 : (w.setCell ⟨x, 9, none⟩ (.int .i64 n)).cell? ⟨T, 3, none⟩ = some (.slice a0 n c0) := by rw [cs_other _ _ _ _ _ _ (.inl (Ne.symm hx.ne))]; exact hv
  have HV := Lib.hid hv
  have HO := Lib.hid hown
  have HN := Lib.hid hnd
  have HI := Lib.hid hin
  have HW := Lib.hid htw
  have HB := Lib.hid hob
  clear h hx hown hnd hin htw hob p0
  obtain ⟨i0, hi, hy0, hy1, hy2⟩ := info_parts zeroPs
  go_enter Tryz.func280, Tryz.ntmps280
  have hta := as_slot x w
  go_wp2_with (at_builtin; refine wpList_append_lies _ rfl _ _ 113 rfl 0 Tps i0 (.pointer none) 1 8 Tryz.underlying113 hi hy0 hy1 hy2 rfl (by decide) (.slice a0 n c0) n (qrow q n) rfl ?o ⟨w.heap.size, 0, none⟩ 1 1 [ptr x] rfl rfl ?c1 ?c2 (by decide) (by unfold maxLen; omega) (by omega) (Nat.zero_le _) _ rfl ?_)
  case o =>
    refine (HO.out.kept (row := some x) (gb_set w x 9 _) ?_).alloc _
    cases e : (Value.slice a0 n c0).ownBlock with
    | none => exact .inl rfl
    | some a =>
      refine .inr fun e2 => ?_
      injection e2 with e2
      obtain ⟨⟨cs, hb⟩, _⟩ := HB.out a e
      rw [e2] at hb
      exact HX.out.untyped hb
  case c1 =>
    intro j u hu
    match j, hu with
    | 0, hu => simp at hu; subst hu; have z := (Blk.new (w.setCell ⟨x, 9, none⟩ (.int .i64 n)) #[ptr x] Tps).cell 0; simpa [Addr.add, World.setCell] using z
    | j + 1, hu => simp at hu
  case c2 =>
    intro u hu
    simp at hu; subst hu; rfl
  · intro g cap w2 own grow hg hgs
    have hgT : ∀ k, k < w.heap.size → k ≠ x → (Value.slice a0 n c0).ownBlock ≠ some k → w2.heap[k]? = w.heap[k]? := fun k hk hx ho =>
      (grow.block k (by simp; omega) (fun e => ho e.symm)).trans (((Below.refl _ _).alloc (Nat.le_refl _) _ |>.block k (by simpa using hk)).trans (Below.heap_setCell _ _ _ _ hx))
    have hTn : (Value.slice a0 n c0).ownBlock ≠ some T := fun e => by
      obtain ⟨⟨cs, hb⟩, _⟩ := HB.out T e
      exact hT cs hb
    have hT2 := hgT T (cell_lt hv) (Ne.symm HX.out.ne) hTn
    have t3 : w2.cell? ⟨T, 3, none⟩ = some (.slice a0 n c0) := (World.cell?_of_block hT2).trans hv
    have f3 : w2.frozen? ⟨T, 3, none⟩ = false := (World.frozen?_of_block hT2).trans hf
    have Z := Lib.hid (que_push p rfl HX.out HV.out HN.out HI.out HW.out hn own grow (fun a ha => (HB.out a ha).1) (by simpa using hg) hT)
    have Y : Tch B w w2 := ⟨grow.os, grow.tape, grow.output, by have := grow.size; simp at this; omega, fun k hk hn => hgT k hk (fun e => hn (e ▸ hB)) (fun e => hn (HB.out k e).2)⟩
    have X : Nx B w g := by
      rcases hg with e | e
      · exact .inl (HB.out g e).2
      · exact .inr (by rw [e]; simp)
    have P3 : Top3 T w w2 := Top3.same hT2
    clear own grow hg hgs hgT hT2 hv
    go_wp2
    go_end0
    exact ⟨rfl, ⟨g, cap, Z.out, X⟩, Y.trans (Tch.set _ T 3 _ hTop), P3.trans (Top3.set T _ _)⟩

theorem tch_nx {B : Nat → Prop} {a b : World} (h : Tch B a b) : Tch (Nx B a) a b := h.mono (fun _ _ x => .inl x)
/-- In a queue that stands right one more. -/
theorem hpush_any (T n x : Nat) (q : Nat → Nat) (F : Nat → Sl × Int) (p : Int) (B : Nat → Prop) (w : World) (h : Qub w T n q F B) (ho : Ord (dueR F) 0 n q) (hf : w.frozen? ⟨T, 3, none⟩ = false) (hx : Fresh w T n q F x p) (hT : ∀ cs, ¬ Blk w T cs Tps) (hB : B x) (hn : n + 1 ≤ 1099511627776) :
    Calls Tryz.prog 186 #[qif T, .iface Tps (ptr x)] w fun e w' => e = .returned (.tuple #[]) ∧ (∃ q', Qub w' T (n + 1) q' F (Nx B w) ∧ Ord (dueR F) 0 (n + 1) q' ∧ ∀ y, In (n + 1) q' y ↔ (In n q y ∨ y = x)) ∧ Tch B w w' ∧ Top3 T w w' := by
  have C := Lib.hid (qpush_any T n x q F p B w h hf hx hT hB hn)
  have mp := m_push ⟨T, 3, none⟩ w
  have HT := Lib.hid h.top
  have HM := Lib.hid h.mem
  have HO : Hid (Ord (dueR F) 0 n (qpu q n x)) := Lib.hid (fun k h0 hk hl => by
    have := par_lt h0
    rw [qpu_o _ _ _ (by omega), qpu_o _ _ _ (by omega)]; exact ho k h0 hk hl)
  clear h ho hx hf
  go_enter Tryz.func186, Tryz.ntmps186
  go_wp2_with (go_at_call 280; refine C.out.mono ?_; rintro e w1 ⟨rfl, ⟨A, cap, hQ, hA⟩, hg, hp⟩; refine stopHere ?_)
  unfold Stop
  have ml := m_len T _ w1 hQ.var
  have C0 := Lib.hid (qlen_any (some ⟨A, 0, none⟩) (n + 1) cap)
  have C2 := Lib.hid (up_any T A (n + 1) cap (n + 1) F n (qpu q n x) w1 hQ (Nat.le_refl _) (by omega) HO.out.more)
  have HQ := Lib.hid hQ
  clear C mp hQ
  go_wp2_with (first
    | (go_at_call 275; refine (C0.out _).mono ?_; rintro e w2 ⟨rfl, rfl⟩)
    | (go_at_call 212; refine C2.out.mono ?_; rintro e w3 ⟨rfl, q', hm, ho', hQ', hg'⟩))
  go_end0
  have hmem : ∀ y, In (n + 1) q' y ↔ (In n q y ∨ y = x) := fun y => by
    rw [In.mv hm]
    constructor
    · rintro ⟨k, hk, e⟩
      by_cases z : k = n
      · rw [z, qpu_n] at e; exact .inr e.symm
      · rw [qpu_o _ _ _ z] at e; exact .inl ⟨k, by omega, e⟩
    · rintro (⟨k, hk, e⟩ | e)
      · exact ⟨k, by omega, by rw [qpu_o _ _ _ (by omega)]; exact e⟩
      · exact ⟨n, by omega, by rw [qpu_n]; exact e.symm⟩
  have hq : ∀ k, k < n + 1 → Nx B w (q' k) := fun k hk => by
    rcases (hmem (q' k)).1 ⟨k, hk, rfl⟩ with ⟨j, hj, e⟩ | e
    · rw [← e]; exact .inl (HM.out j hj)
    · rw [e]; exact .inl hB
  refine ⟨rfl, ⟨q', ⟨.inl ⟨A, cap, hQ', hA⟩, hq, .inl HT.out⟩, ho', hmem⟩, hg.next (hg'.mono (fun k _ hk => ?_)), hp.trans (Top3.tch hg' HQ.out.out (cell_lt HQ.out.var))⟩
  rcases hk with e | ⟨i, hi, e⟩
  · rw [e]; exact hA
  · obtain ⟨j, hj, e2⟩ := hm.here i hi
    rw [e, ← e2]; exact hq j hj

/-- One joins. -/
theorem qjoin_any (T n x : Nat) (q : Nat → Nat) (F : Nat → Sl × Int) (p : Int) (B : Nat → Prop) (w : World) (h : Qub w T n q F B) (ho : Ord (dueR F) 0 n q) (hf : w.frozen? ⟨T, 3, none⟩ = false) (hx : Fresh w T n q F x p) (hT : ∀ cs, ¬ Blk w T cs Tps) (hB : B x) (hn : n + 1 ≤ 1099511627776) :
    Calls Tryz.prog 154 #[.pointer (some ⟨T, 3, none⟩), ptr x] w fun e w' => e = .returned (.tuple #[]) ∧ (∃ q', Qub w' T (n + 1) q' F (Nx B w) ∧ Ord (dueR F) 0 (n + 1) q' ∧ ∀ y, In (n + 1) q' y ↔ (In n q y ∨ y = x)) ∧ Tch B w w' ∧ Top3 T w w' := by
  have C := Lib.hid (hpush_any T n x q F p B w h ho hf hx hT hB hn)
  clear h ho hx hf hT hB
  go_enter Tryz.func154, Tryz.ntmps154
  go_wp2_with (go_at_call 186; refine C.out.mono ?_; rintro e w1 ⟨rfl, hr⟩)
  go_end0
  exact ⟨rfl, hr⟩

/-- One leaves. -/
theorem qleave_any (T n i : Nat) (q : Nat → Nat) (F : Nat → Sl × Int) (B : Nat → Prop) (w : World) (h : Qub w T (n + 1) q F B) (ho : Ord (dueR F) 0 (n + 1) q) (hf : w.frozen? ⟨T, 3, none⟩ = false) (hi : i < n + 1) :
    Calls Tryz.prog 134 #[.pointer (some ⟨T, 3, none⟩), ptr (q i)] w fun e w' => e = .returned (.tuple #[]) ∧ (∃ q', Qub w' T n q' F B ∧ Ord (dueR F) 0 n q' ∧ ∀ y, In n q' y ↔ (In (n + 1) q y ∧ y ≠ q i)) ∧ Tch B w w' ∧ Top3 T w w' := by
  rcases h.que with ⟨A, cap, hQ, hA⟩ | ⟨h0, _⟩
  · have C := Lib.hid (remove_any T A n cap i q F w hQ hf (by omega) ho)
    have p1 := (hQ.place hi).1
    have HM := Lib.hid h.mem
    have HT := Lib.hid h.top
    clear h ho hQ hf
    generalize hb : q i = b at *
    go_enter Tryz.func134, Tryz.ntmps134
    go_wp2_with (go_at_call 175; refine C.out.mono ?_; rintro e w1 ⟨v, q', rfl, hQ', ho', hm, hg, hp⟩)
    go_end0
    have hq : ∀ k, k < n → B (q' k) := fun k hk => by
      obtain ⟨⟨j, hj, e⟩, _⟩ := (hm (q' k)).1 ⟨k, hk, rfl⟩
      rw [← e]; exact HM.out j hj
    refine ⟨rfl, ⟨q', ⟨.inl ⟨A, cap, hQ', hA⟩, hq, HT.out⟩, ho', hm⟩, hg.mono (fun k _ hk => ?_), hp⟩
    rcases hk with e | e | ⟨j, hj, e⟩
    · rw [e]; exact HT.out
    · rw [e]; exact hA
    · rw [e]; exact HM.out j hj
  · omega
end Go.Proofs.YtbejkcdaefkibaaGreat.Wd
namespace Go.Proofs.YtbejkcdaefkibaaGreat.Wd
open Go Go.RowKit Go.Shelf Go.Deep
set_option linter.unusedVariables false
set_option maxRecDepth 100000

/-- How a slot's place reads. -/
def ptrR : Value → Option (DataW Unit × List MemPlace)
  | .pointer (some ⟨b, 0, none⟩) => some (.lit (.int .i64 (b : Int)), [])
  | .pointer none => some (.nil, [])
  | _ => none
theorem ptrR_ptr (b : Nat) : ptrR (ptr b) = some (.lit (.int .i64 (b : Int)), []) := rfl
theorem ptrR_inv {v : Value} {b : Nat} {ps : List MemPlace} (h : ptrR v = some (.lit (.int .i64 (b : Int)), ps)) : v = ptr b := by
  unfold ptrR at h
  split at h
  · rename_i c
    simp at h
    have e : c = b := by omega
    rw [e]
  · simp at h
  · cases h
theorem ptrR_nil {v : Value} {ps : List MemPlace} (h : ptrR v = some (.nil, ps)) : v = .pointer none := by
  unfold ptrR at h
  split at h
  · simp at h
  · rfl
  · cases h

abbrev Tmap : TypeId := 111
abbrev Tstr : TypeId := 9
abbrev lks (k : ByteArray) : Lit := .string (lb k)
/-- What a map of these reads as, in some order. -/
def mapL (F : Nat → Sl × Int) (bs : List Nat) : List (Lit × DataW Unit) := bs.map (fun b => (lks (F b).1.key, .lit (.int .i64 (b : Int))))
/-- Block M is a map of the slots in these blocks, by their keys. -/
def Mp (w : World) (M : Nat) (F : Nat → Sl × Int) (bs : List Nat) : Prop := ∃ es, w.ownsMap Tryz.prog Tstr ptrR M bs.length (.map es) ∧ es.Perm (mapL F bs)
/-- No two keys are the same. -/
def Ap (F : Nat → Sl × Int) (bs : List Nat) : Prop := bs.Pairwise (fun x y => (F x).1.key ≠ (F y).1.key)

theorem ins_perm (x : Lit × DataW Unit) : ∀ l : List (Lit × DataW Unit), (DataW.insert x l).Perm (x :: l)
  | [] => List.Perm.refl _
  | y :: r => by
    unfold DataW.insert
    split
    · exact List.Perm.refl _
    · exact ((ins_perm x r).cons y).trans (List.Perm.swap x y r)
theorem KS : Maps.Keyed Tryz.prog Tstr := Maps.string_keyed Tryz.underlying9
theorem lb_inj {a b : ByteArray} (h : lb a = lb b) : a = b := by
  cases a with | mk x => cases b with | mk y => exact congrArg ByteArray.mk (Array.ext' h)
theorem keyOf_s (k : ByteArray) (h : k.size ≤ 9223372036854775807) : keyOf Tryz.prog Tstr (.string k) = some (lks k) := Go.WideMaps.keyOf_string_mk Tryz.underlying9 h
theorem same_s (a b : ByteArray) : (lks a).sameKey (lks b) = decide (a = b) := by
  show (lb a == lb b) = _
  by_cases h : a = b
  · simp [h]
  · rw [decide_eq_false h, beq_eq_false_iff_ne]; exact fun e => h (lb_inj e)
theorem mapL_mem {F : Nat → Sl × Int} {bs : List Nat} {p : Lit × DataW Unit} : p ∈ mapL F bs ↔ ∃ b ∈ bs, p = (lks (F b).1.key, .lit (.int .i64 (b : Int))) := by
  simp only [mapL, List.mem_map]
  exact ⟨fun ⟨b, h, e⟩ => ⟨b, h, e.symm⟩, fun ⟨b, h, e⟩ => ⟨b, h, e.symm⟩⟩
/-- Is there one of this key? -/
def Has (F : Nat → Sl × Int) (bs : List Nat) (k : ByteArray) : Prop := ∃ b ∈ bs, (F b).1.key = k
theorem has_yes {F : Nat → Sl × Int} {bs : List Nat} {es : List (Lit × DataW Unit)} (h : es.Perm (mapL F bs)) {k : ByteArray} {b : Nat} (hb : b ∈ bs) (hk : (F b).1.key = k) : Maps.has (.map es) (lks k) = true := by
  rw [Maps.has_eq, h.any_eq, List.any_eq_true]
  exact ⟨_, mapL_mem.2 ⟨b, hb, rfl⟩, by rw [same_s, hk]; simp⟩
theorem has_no {F : Nat → Sl × Int} {bs : List Nat} {es : List (Lit × DataW Unit)} (h : es.Perm (mapL F bs)) {k : ByteArray} (hk : ¬ Has F bs k) : Maps.has (.map es) (lks k) = false := by
  rw [Maps.has_eq, h.any_eq, List.any_eq_false]
  rintro p hp
  obtain ⟨b, hb, rfl⟩ := mapL_mem.1 hp
  rw [same_s]
  simp only [decide_eq_true_eq]
  exact fun e => hk ⟨b, hb, e⟩
theorem ap_one {F : Nat → Sl × Int} {bs : List Nat} (h : Ap F bs) {b c : Nat} (hb : b ∈ bs) (hc : c ∈ bs) (e : (F b).1.key = (F c).1.key) : b = c := by
  induction bs with
  | nil => cases hb
  | cons x xs ih =>
    obtain ⟨h1, h2⟩ := List.pairwise_cons.1 h
    rcases List.mem_cons.1 hb with eb | hb'
    · rcases List.mem_cons.1 hc with ec | hc'
      · exact eb.trans ec.symm
      · exact absurd (eb ▸ e) (h1 c hc')
    · rcases List.mem_cons.1 hc with ec | hc'
      · exact absurd (ec ▸ e).symm (h1 b hb')
      · exact ih h2 hb' hc'
theorem at_yes {F : Nat → Sl × Int} {bs : List Nat} {es : List (Lit × DataW Unit)} (h : es.Perm (mapL F bs)) (ha : Ap F bs) {k : ByteArray} {b : Nat} (hb : b ∈ bs) (hk : (F b).1.key = k) (zd : DataW Unit) : (DataW.map es).atKey (lks k) zd = .lit (.int .i64 (b : Int)) := by
  unfold DataW.atKey
  dsimp only
  cases e : es.find? (fun p => p.1.sameKey (lks k)) with
  | none =>
    have := List.find?_eq_none.1 e _ (h.mem_iff.2 (mapL_mem.2 ⟨b, hb, rfl⟩))
    rw [same_s, hk] at this; simp at this
  | some p =>
    have h1 := List.find?_some e
    obtain ⟨c, hc, rfl⟩ := mapL_mem.1 (h.mem_iff.1 (List.mem_of_find?_eq_some e))
    rw [same_s] at h1
    have h2 : (F c).1.key = k := by simpa using h1
    rw [ap_one ha hc hb (h2.trans hk.symm)]
theorem at_no {F : Nat → Sl × Int} {bs : List Nat} {es : List (Lit × DataW Unit)} (h : es.Perm (mapL F bs)) {k : ByteArray} (hk : ¬ Has F bs k) (zd : DataW Unit) : (DataW.map es).atKey (lks k) zd = zd := by
  unfold DataW.atKey
  dsimp only
  cases e : es.find? (fun p => p.1.sameKey (lks k)) with
  | none => rfl
  | some p =>
    have h1 := List.find?_some e
    obtain ⟨c, hc, rfl⟩ := mapL_mem.1 (h.mem_iff.1 (List.mem_of_find?_eq_some e))
    rw [same_s] at h1
    exact absurd ⟨c, hc, by simpa using h1⟩ hk
theorem zeroPtr (w : World) : (zeroValue Tps).run Tryz.prog w = .ok (.pointer none) w := by
  obtain ⟨i0, hi, hy0, hy1, hy2⟩ := info_parts zeroPs
  simp [zeroValue, typeInfo, hi, hy0]
/-- What is looked up. -/
theorem Mp.look_yes {w : World} {M : Nat} {F : Nat → Sl × Int} {bs : List Nat} (h : Mp w M F bs) (ha : Ap F bs) {k : ByteArray} (hs : k.size ≤ 9223372036854775807) {b : Nat} (hb : b ∈ bs) (hk : (F b).1.key = k) :
    (Instr.lookup Tmap (.map (some M)) (.string k) true).run Tryz.prog w = .ok (.tuple #[ptr b, .bool true]) w := by
  obtain ⟨es, ho, hp⟩ := h
  obtain ⟨v, ps, hrun, hv⟩ := ho.look_ok KS Tryz.underlying111 (zeroPtr w) (zd := .nil) (zp := []) rfl (keyOf_s k hs)
  rw [at_yes hp ha hb hk] at hv
  rw [hrun, ptrR_inv hv, has_yes hp hb hk]
theorem Mp.look_no {w : World} {M : Nat} {F : Nat → Sl × Int} {bs : List Nat} (h : Mp w M F bs) {k : ByteArray} (hs : k.size ≤ 9223372036854775807) (hk : ¬ Has F bs k) :
    (Instr.lookup Tmap (.map (some M)) (.string k) true).run Tryz.prog w = .ok (.tuple #[.pointer none, .bool false]) w := by
  obtain ⟨es, ho, hp⟩ := h
  obtain ⟨v, ps, hrun, hv⟩ := ho.look_ok KS Tryz.underlying111 (zeroPtr w) (zd := .nil) (zp := []) rfl (keyOf_s k hs)
  rw [at_no hp hk] at hv
  rw [hrun, ptrR_nil hv, has_no hp hk]
theorem ownsMap_fit {w : World} {M n : Nat} {es : List (Lit × DataW Unit)} (h : w.ownsMap Tryz.prog Tstr ptrR M n (.map es)) : w.ownsMap Tryz.prog Tstr ptrR M es.length (.map es) := by
  obtain ⟨e, clock, hb, F, hs, hD⟩ := h
  refine ⟨e, clock, hb, F, ?_, hD⟩
  injection hD with hD
  rw [hD, Go.length_read]; exact Nat.le_refl _
theorem mapL_len (F : Nat → Sl × Int) (bs : List Nat) : (mapL F bs).length = bs.length := by simp [mapL]
theorem Mp.of {w : World} {M n : Nat} {F : Nat → Sl × Int} {bs : List Nat} {es : List (Lit × DataW Unit)} (h : w.ownsMap Tryz.prog Tstr ptrR M n (.map es)) (hp : es.Perm (mapL F bs)) : Mp w M F bs :=
  ⟨es, by have := ownsMap_fit h; rw [hp.length_eq, mapL_len] at this; exact this, hp⟩
/-- How many there are. -/
theorem Mp.len {w : World} {M : Nat} {F : Nat → Sl × Int} {bs : List Nat} (h : Mp w M F bs) (ty : TypeId) : (Builtin.len_ #[Tmap] ty #[.map (some M)]).run Tryz.prog w = .ok (.int .i64 bs.length) w := by
  obtain ⟨es, ho, hp⟩ := h
  rw [ho.len Tryz.underlying111 ty, Maps.size_eq, hp.length_eq, mapL_len]
/-- Without a key. -/
def offB (F : Nat → Sl × Int) (k : ByteArray) (bs : List Nat) : List Nat := bs.filter (fun b => decide ((F b).1.key ≠ k))
theorem mapL_off {F : Nat → Sl × Int} {bs : List Nat} {k : ByteArray} : (mapL F bs).filter (fun p => !p.1.sameKey (lks k)) = mapL F (offB F k bs) := by
  unfold mapL offB
  rw [List.filter_map]
  congr 1
  apply List.filter_congr
  intro b _
  simp only [Function.comp, same_s]
  by_cases h : (F b).1.key = k <;> simp [h]
theorem Mp.drop {w : World} {M : Nat} {F : Nat → Sl × Int} {bs : List Nat} (h : Mp w M F bs) {k : ByteArray} (hs : k.size ≤ 9223372036854775807) (ty : TypeId) :
    ∃ w', (Builtin.delete_ #[Tmap, Tstr] ty #[.map (some M), .string k]).run Tryz.prog w = .ok (.tuple #[]) w' ∧ Mp w' M F (offB F k bs) ∧ w.grownBy w' (some M) ∧ w'.heap.size = w.heap.size := by
  obtain ⟨es, ho, hp⟩ := h
  obtain ⟨w', hrun, hown, ht⟩ := ho.drop KS Tryz.underlying111 (keyOf_s k hs) ty
  refine ⟨w', hrun, Mp.of hown ?_, ht.grown, ?_⟩
  · rw [← mapL_off]; exact hp.filter _
  · obtain ⟨_, _, _, _, _, rfl⟩ := ht
    simp [ChangeMaps.setBlock]
/-- A map that nobody wrote is there still. -/
theorem Mp.kept {w w' : World} {M : Nat} {F : Nat → Sl × Int} {bs : List Nat} (h : Mp w M F bs) (e : w'.heap[M]? = w.heap[M]?) : Mp w' M F bs := by
  obtain ⟨es, ⟨a, c, hb, r⟩, hp⟩ := h
  exact ⟨es, ⟨a, c, e.trans hb, r⟩, hp⟩
theorem Mp.congr {w : World} {M : Nat} {F G : Nat → Sl × Int} {bs : List Nat} (h : Mp w M F bs) (e : ∀ b ∈ bs, (G b).1.key = (F b).1.key) : Mp w M G bs := by
  obtain ⟨es, ho, hp⟩ := h
  refine ⟨es, ho, ?_⟩
  have : mapL G bs = mapL F bs := List.map_congr_left (fun b hb => by rw [e b hb])
  rw [this]; exact hp
theorem Mp.lt {w : World} {M : Nat} {F : Nat → Sl × Int} {bs : List Nat} (h : Mp w M F bs) : M < w.heap.size := by
  obtain ⟨es, ho, _⟩ := h; exact ho.lt
theorem Mp.nocells {w : World} {M : Nat} {F : Nat → Sl × Int} {bs : List Nat} (h : Mp w M F bs) {cs : Array Value} {t : TypeId} : ¬ Blk w M cs t := by
  obtain ⟨es, ⟨a, c, hb, r⟩, hp⟩ := h
  intro (x : w.heap[M]? = _)
  rw [hb] at x; cases x
/-- One of a key that was not there is put in: whatever was drawn ahead of it. -/
theorem Mp.put {w : World} {M : Nat} {F : Nat → Sl × Int} {bs : List Nat} (h : Mp w M F bs) {k : ByteArray} (hs : k.size ≤ 9223372036854775807) (hk : ¬ Has F bs k) (x : Nat) (hn : bs.length < 9223372036854775807) :
    ∃ o : Obj, (∀ w1 : World, w1.heap[M]? = w.heap[M]? → (Instr.mapUpdate Tmap (.map (some M)) (.string k) (ptr x)).run Tryz.prog w1 = .ok () (w1.putObj M o)) ∧
      ∀ (w1 : World) (G : Nat → Sl × Int), w1.heap[M]? = w.heap[M]? → (∀ b ∈ bs, (G b).1.key = (F b).1.key) → (G x).1.key = k → Mp (w1.putObj M o) M G (x :: bs) := by
  obtain ⟨es, ho, hp⟩ := h
  have ho' := ho
  obtain ⟨a, c, hb, ft, hsz, hD⟩ := ho
  have habs : ∀ e ∈ a.toList, e.key ≠ .string k := by
    intro e he e2
    rcases Maps.fit_look (w := w) true KS Tryz.underlying111 (zeroPtr w) hb ft (keyOf_s k hs) with ⟨_, h2, _⟩ | ⟨e0, y, _, _, _, _, hat, _⟩
    · exact h2 e he e2
    · have h3 := hat (.lit (.bool true))
      have h4 := hat .nil
      rw [← hD, at_no hp hk] at h3 h4
      rw [← h4] at h3; cases h3
  have raw : ∀ w1 : World, w1.heap[M]? = w.heap[M]? → (Instr.mapUpdate Tmap (.map (some M)) (.string k) (ptr x)).run Tryz.prog w1 = .ok () (w1.putObj M (.map (a.push ⟨.string k, ptr x, c⟩) (c + 1))) := by
    intro w1 h1
    have hb1 := h1.trans hb
    rcases KS.find w1 (keyOf_s k hs) a.toList ft.keys with ⟨q1, q2⟩ | ⟨j, e0, q1, q2, q3⟩
    · simp [Instr.mapUpdate, run_underlying Tryz.underlying111, MapKept.run_getObj_map hb1, KS.check w1 false (keyOf_s k hs), q1, MapKept.run_setObj_map _ hb1, Result.andThen, World.putObj]
    · exact absurd q3 (habs e0 (List.mem_of_getElem? q2))
  refine ⟨_, raw, fun w1 G h1 hG hGx => ?_⟩
  have ho1 : w1.ownsMap Tryz.prog Tstr ptrR M bs.length (.map es) := ⟨a, c, h1.trans hb, ft, hsz, hD⟩
  obtain ⟨w', hrun, hown, _⟩ := ho1.store KS Tryz.underlying111 (by unfold maxLen; omega) (keyOf_s k hs) (ptrR_ptr x)
  rw [raw w1 h1] at hrun
  injection hrun with _ hw
  subst hw
  refine Mp.of hown ?_
  have e1 : mapL G (x :: bs) = (lks k, .lit (.int .i64 (x : Int))) :: mapL F bs := by
    unfold mapL
    rw [List.map_cons, hGx]
    congr 1
    exact List.map_congr_left (fun b hb => by rw [hG b hb])
  rw [e1]
  have e2 : (mapL F bs).filter (fun p => !p.1.sameKey (lks k)) = mapL F bs := by
    refine List.filter_eq_self.2 (fun p hp => ?_)
    obtain ⟨b, hb, rfl⟩ := mapL_mem.1 hp
    rw [same_s]
    simp only [Bool.not_eq_true', decide_eq_false_iff_not]
    exact fun e => hk ⟨b, hb, e⟩
  have e3 := (hp.filter (fun p => !p.1.sameKey (lks k)))
  rw [e2] at e3
  exact (ins_perm _ _).trans (e3.cons _)
end Go.Proofs.YtbejkcdaefkibaaGreat.Wd
