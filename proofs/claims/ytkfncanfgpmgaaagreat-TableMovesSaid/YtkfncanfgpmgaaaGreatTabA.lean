/- Elder words: numbers, blocks, rules as data; no conditions but those that each names. -/
import Derived.WalkKit
import Derived.Laws.Bits64b
import Derived.Below
import Derived.Deep.Draws
import Derived.Test.YtkfncanfgpmgaaaGreatRows
import Derived.ProofKit
import Derived.OpenShut
import Derived.Handy
import Derived.Lib.Hide
import Derived.Deep.RegionHeld3
import Derived.Deep.QuietTactic
import Derived.BigQuiet
import Derived.RangeFuncNested
import Derived.RangeFuncBound
import Derived.RangeFuncCalls
import Derived.RangeFuncLeaves
import Derived.Shelf.Abstract
import Derived.Shelf.RegionOpen
import Derived.OwnWalkIn
import Derived.TacticsInMore
import Derived.LoopNIn
import Derived.LoopIn
import Derived.LoopTactic
import Derived.OwnWalk
import Derived.Laws.OwnMore
import Derived.Maps.OwnSet
import Derived.Laws.EntriesVeiled
import Derived.Shelf.LaysM
import Derived.Shelf.Strconv.Clone
import Derived.ScopeJumps
import Derived.WalkMore
import Derived.Lib.ReflectliteSwap
import Derived.Deep.CutRange
import Derived.Deep.DeepCutAuto
import Derived.Lib.ItoaNum
import Derived.Lib.ItoaLen
import Derived.Laws.Strings
import GoSem.Op.String
import Derived.Lib.BufferWrite
import Derived.Laws.IdiomStrings
import Derived.Laws.ResultCell
import Derived.Laws.Rows
import Derived.WalkLawsBesides
import Derived.WalkSpells
import Derived.Deep.WholeRow
import Derived.StillTailTactics
import Derived.Deep.AppendLies
import Derived.Laws.ComplexArith
import Derived.WalkSmall
import Derived.Laws.Entries
import Derived.Laws.AppendOwn
import Derived.Deep.LoopGhost
import Derived.Lib.QuietBelow
import Derived.PlainAid
import Derived.Lib.SlBytesConst
import Derived.Lib.SmallJoins
import Derived.Laws.AppendOwnNone
import Derived.Laws.MakeOwn
import Derived.Lib.AppendStr
import Derived.Deep.RegionLaw
import Derived.Defers
import Derived.Recover
import Derived.Deep.Slices
import Derived.OneCell
import Derived.Laws.Cover3
namespace Go.Proofs.YtkfncanfgpmgaaaGreat.Wd
open Go Go.RowKit Go.Shelf Go.Deep
set_option linter.unusedVariables false
set_option maxRecDepth 100000
def Kept (w w' : World) : Prop := Grown w w' ∧ Below w.heap.size w w'
theorem Kept.refl (w : World) : Kept w w := ⟨Grown.refl _, Below.refl _ _⟩
theorem Kept.trans {a b c : World} (h : Kept a b) (k : Kept b c) : Kept a c :=
  ⟨⟨World.keptBut_trans h.1.1 k.1.1, fun x => (k.1.2.1 x).trans (h.1.2.1 x), Nat.le_trans h.1.2.2 k.1.2.2⟩, h.2.trans (k.2.mono h.2.size)⟩
theorem Kept.alloc {a b : World} (h : Kept a b) (c : Array Value) (t : TypeId) : Kept a (b.alloc (.cells c t)) := ⟨h.1.alloc c t, h.2.alloc h.2.size _⟩
theorem Kept.drew {a b : World} (h : Kept a b) : Kept a b.drew := ⟨h.1.drew, h.2.drew⟩
/-- A call that reads in an open order at most. -/
def Drew (w w' : World) : Prop := ∃ n : Nat, w' = w.drewN n
theorem Drew.refl (w : World) : Drew w w := ⟨0, rfl⟩
theorem Drew.of (w : World) (n : Nat) : Drew w (w.drewN n) := ⟨n, rfl⟩
theorem Drew.trans {a b c : World} (h : Drew a b) (k : Drew b c) : Drew a c := by
  obtain ⟨n, rfl⟩ := h; obtain ⟨m, rfl⟩ := k; exact ⟨n + m, World.drewN_drewN _ _ _⟩
theorem Kept.drewN {a b : World} (h : Kept a b) (n : Nat) : Kept a (b.drewN n) := ⟨h.1, h.2.os, h.2.tape, h.2.output, h.2.size, h.2.block⟩
theorem and_mask32 (a : Int) (h : 0 ≤ a ∧ a ≤ 18446744073709551615) : bits BinOp.and IntKind.u64 a 4294967295 = a % 4294967296 := by
  have e := bits_and_u64_nat a.toNat 4294967295 (by omega) (by omega)
  have h2 : a.toNat &&& 4294967295 = a.toNat % 4294967296 := Nat.and_two_pow_sub_one_eq_mod a.toNat 32
  rw [h2, Int.toNat_of_nonneg h.1] at e
  refine e.trans ?_
  omega
theorem or_low (k : Nat) (x y : Nat) (hy : y < 2 ^ k) (h1 : 2 ^ k * x < 18446744073709551616) (h2 : y < 18446744073709551616) :
    bits BinOp.or IntKind.u64 ((2 ^ k * x : Nat) : Int) (y : Int) = ((2 ^ k * x + y : Nat) : Int) := by
  have e := bits_or_u64_nat (2 ^ k * x) y h1 h2
  rw [← Nat.two_pow_add_eq_or_of_lt hy] at e
  exact e
theorem or_32 (b a : Int) (ha : 0 ≤ a ∧ a ≤ 4294967295) (hb : 0 ≤ b ∧ b ≤ 4294967295) : bits BinOp.or IntKind.u64 (IntKind.u64.wrap (b * 4294967296)) a = b * 4294967296 + a := by
  have e := or_low 32 b.toNat a.toNat (by omega) (by omega) (by omega)
  have g : IntKind.u64.wrap (b * 4294967296) = ((2 ^ 32 * b.toNat : Nat) : Int) := by rw [IntKind.wrap_u64]; omega
  have g' : a = ((a.toNat : Nat) : Int) := by omega
  rw [g, g']
  refine e.trans ?_
  omega
theorem or_32' (b a : Int) (ha : 0 ≤ a ∧ a ≤ 4294967295) (hb : 0 ≤ b ∧ b ≤ 4294967295) : bits BinOp.or IntKind.u64 (b * 4294967296) a = b * 4294967296 + a := by
  have e := or_32 b a ha hb
  rw [IntWalk.u64_in _ (by omega)] at e
  exact e
def muH (a b : Int) : Int := a * b / 18446744073709551616
def muL (a b : Int) : Int := a * b % 18446744073709551616
/-- A number of 64 bits. -/
def U (a : Int) : Prop := 0 ≤ a ∧ a ≤ 18446744073709551615
theorem mu_prod_le (a b : Int) (ha : U a) (hb : U b) : 0 ≤ a * b ∧ a * b ≤ 18446744073709551615 * 18446744073709551615 :=
  ⟨Int.mul_nonneg ha.1 hb.1, Int.mul_le_mul ha.2 hb.2 hb.1 (by omega)⟩
theorem mul_halves (a0 a1 b0 b1 : Int) (h0 : 0 ≤ a0 ∧ a0 ≤ 4294967295) (h1 : 0 ≤ a1 ∧ a1 ≤ 4294967295) (g0 : 0 ≤ b0 ∧ b0 ≤ 4294967295) (g1 : 0 ≤ b1 ∧ b1 ≤ 4294967295) :
    (0 ≤ a0 * b0 ∧ a0 * b0 ≤ 18446744065119617025) ∧ (0 ≤ a1 * b0 ∧ a1 * b0 ≤ 18446744065119617025) ∧ (0 ≤ a0 * b1 ∧ a0 * b1 ≤ 18446744065119617025) ∧ (0 ≤ a1 * b1 ∧ a1 * b1 ≤ 18446744065119617025) ∧
    (a1 * 4294967296 + a0) * (b1 * 4294967296 + b0) = a1 * b1 * 18446744073709551616 + (a1 * b0 + a0 * b1) * 4294967296 + a0 * b0 := by
  have m (x y : Int) (hx : 0 ≤ x ∧ x ≤ 4294967295) (hy : 0 ≤ y ∧ y ≤ 4294967295) : 0 ≤ x * y ∧ x * y ≤ 18446744065119617025 :=
    ⟨Int.mul_nonneg hx.1 hy.1, Int.le_trans (Int.mul_le_mul hx.2 hy.2 hy.1 (by omega)) (by omega)⟩
  refine ⟨m _ _ h0 g0, m _ _ h1 g0, m _ _ h0 g1, m _ _ h1 g1, ?_⟩
  have e1 : (a1 * 4294967296) * (b1 * 4294967296) = a1 * b1 * 18446744073709551616 := by
    rw [Int.mul_assoc, Int.mul_comm 4294967296, Int.mul_assoc, ← Int.mul_assoc a1]; rfl
  have e2 : (a1 * 4294967296) * b0 = a1 * b0 * 4294967296 := by
    rw [Int.mul_assoc, Int.mul_comm 4294967296, ← Int.mul_assoc]
  have e3 : a0 * (b1 * 4294967296) = a0 * b1 * 4294967296 := by rw [Int.mul_assoc]
  rw [Int.add_mul, Int.mul_add, Int.mul_add, e1, e2, e3]
  omega
theorem ret2 {k m : IntKind} {a b c d : Int} (h : a = b) (h' : c = d) : Ending.returned (.tuple #[.int k a, .int m c]) = .returned (.tuple #[.int k b, .int m d]) := by rw [h, h']
theorem split_any (a : Int) (w : World) (ha : 0 ≤ a ∧ a ≤ 18446744073709551615) :
    Calls Tryz.prog 148 #[.int .u64 a] w fun e w' => e = .returned (.agg #[.int .u64 (a % 4294967296), .int .u64 (a / 4294967296)]) ∧ w.alloc (.cells #[.int .u64 (a % 4294967296), .int .u64 (a / 4294967296)] 197) = w' := by
  have e := and_mask32 a ha
  rw [← e]
  clear e
  go_enter Tryz.func148, Tryz.ntmps148
  go_wp2
  exact bodyPost_ret (v := .agg #[.int .u64 (bits BinOp.and IntKind.u64 a 4294967295), .int .u64 (a / 4294967296)]) (by simp [results, Tryz.results148, go_sem]) rfl ⟨rfl, rfl⟩
theorem join_any (a b : Int) (w : World) (ha : 0 ≤ a ∧ a ≤ 4294967295) (hb : 0 ≤ b ∧ b ≤ 4294967295) :
    Calls Tryz.prog 149 #[.agg #[.int .u64 a, .int .u64 b]] w fun e w' => e = .returned (.int .u64 (b * 4294967296 + a)) ∧ w.alloc (.cells #[.int .u64 a, .int .u64 b] 197) = w' := by
  have e := or_32' b a ha hb
  rw [← e]
  clear e
  go_enter Tryz.func149, Tryz.ntmps149
  go_wp2
  go_ret
  exact ⟨rfl, rfl⟩
theorem split_parts (lo hi : Int) (w : World) (h0 : 0 ≤ lo ∧ lo ≤ 4294967295) (h1 : 0 ≤ hi ∧ hi ≤ 4294967295) :
    Calls Tryz.prog 148 #[.int .u64 (hi * 4294967296 + lo)] w fun e w' => e = .returned (.agg #[.int .u64 lo, .int .u64 hi]) ∧ w.alloc (.cells #[.int .u64 lo, .int .u64 hi] 197) = w' := by
  have e := split_any (hi * 4294967296 + lo) w (by omega)
  have e1 : (hi * 4294967296 + lo) % 4294967296 = lo := by omega
  have e2 : (hi * 4294967296 + lo) / 4294967296 = hi := by omega
  rw [e1, e2] at e
  exact e
theorem cell_keep {W : World} {b o : Nat} {v : Value} {x : Obj} (h : W.cell? ⟨b, o, none⟩ = some v) (hb : b < W.heap.size) : (W.alloc x).drew.cell? ⟨b, o, none⟩ = some v := by
  have e : (W.alloc x).drew.cell? ⟨b, o, none⟩ = W.cell? ⟨b, o, none⟩ := ((Below.refl W.heap.size W).alloc (Nat.le_refl _) x).drew.cell (p := ⟨b, o, none⟩) hb
  rw [e]; exact h
theorem size_keep {W : World} {n : Nat} {x : Obj} (h : n ≤ W.heap.size) : n ≤ (W.alloc x).drew.heap.size := by
  have e : (W.alloc x).drew.heap.size = W.heap.size + 1 := by simp
  omega
theorem mul_parts (a0 a1 b0 b1 : Int) (w : World) (h0 : 0 ≤ a0 ∧ a0 ≤ 4294967295) (h1 : 0 ≤ a1 ∧ a1 ≤ 4294967295) (g0 : 0 ≤ b0 ∧ b0 ≤ 4294967295) (g1 : 0 ≤ b1 ∧ b1 ≤ 4294967295) :
    Calls Tryz.prog 109 #[.int .u64 (a1 * 4294967296 + a0), .int .u64 (b1 * 4294967296 + b0)] w fun e w' => e = .returned (.tuple #[.int .u64 (muH (a1 * 4294967296 + a0) (b1 * 4294967296 + b0)), .int .u64 (muL (a1 * 4294967296 + a0) (b1 * 4294967296 + b0))]) ∧ Kept w w' := by
  obtain ⟨m1, m2, m3, m4, m5⟩ := mul_halves a0 a1 b0 b1 h0 h1 g0 g1
  have M5 := Lib.hid m5
  clear m5
  go_enter Tryz.func109, Tryz.ntmps109
  go_wp2_with (go_at_call 148; first | ((with_reducible refine (split_parts _ _ _ (by omega) (by omega)).mono ?_); rintro e w' ⟨rfl, rfl⟩) | ((with_reducible refine (split_any _ _ (by omega)).mono ?_); rintro e w' ⟨rfl, rfl⟩))
  generalize hW : World.alloc _ _ = W
  have gW : Kept w W := by rw [← hW]; clear hW; constructor <;> go_grown
  have sW : w.heap.size + 10 ≤ W.heap.size := by rw [← hW]; clear hW; simp
  have c1 : W.cell? ⟨w.heap.size + 1 + 1, 1, none⟩ = some (.int .u64 a1) := by rw [← hW]; clear hW; go_cell
  have c2 : W.cell? ⟨w.heap.size + 1 + 1 + 1, 1, none⟩ = some (.int .u64 b1) := by rw [← hW]; clear hW; go_cell
  have c3 : W.cell? ⟨w.heap.size + 1 + 1 + 1 + 1 + 1 + 1 + 1, 1, none⟩ = some (.int .u64 ((a1 * b0 + a0 * b0 / 4294967296) / 4294967296)) := by rw [← hW]; clear hW; go_cell
  have c4 : W.cell? ⟨w.heap.size + 1 + 1 + 1 + 1 + 1 + 1 + 1 + 1 + 1, 1, none⟩ = some (.int .u64 ((a0 * b1 + (a1 * b0 + a0 * b0 / 4294967296) % 4294967296) / 4294967296)) := by rw [← hW]; clear hW; go_cell
  have c5 : W.cell? ⟨w.heap.size + 1 + 1 + 1 + 1 + 1, 0, none⟩ = some (.int .u64 (a0 * b0 % 4294967296)) := by rw [← hW]; clear hW; go_cell
  have c6 : W.cell? ⟨w.heap.size + 1 + 1 + 1 + 1 + 1 + 1 + 1 + 1 + 1, 0, none⟩ = some (.int .u64 ((a0 * b1 + (a1 * b0 + a0 * b0 / 4294967296)) % 4294967296)) := by rw [← hW]; clear hW; go_cell
  clear hW
  go_region_held3 (fun w' => Kept w w' ∧ w.heap.size + 10 ≤ w'.heap.size ∧ w'.cell? ⟨w.heap.size + 1 + 1, 1, none⟩ = some (.int .u64 a1) ∧ w'.cell? ⟨w.heap.size + 1 + 1 + 1, 1, none⟩ = some (.int .u64 b1)
    ∧ w'.cell? ⟨w.heap.size + 1 + 1 + 1 + 1 + 1 + 1 + 1, 1, none⟩ = some (.int .u64 ((a1 * b0 + a0 * b0 / 4294967296) / 4294967296))
    ∧ w'.cell? ⟨w.heap.size + 1 + 1 + 1 + 1 + 1 + 1 + 1 + 1 + 1, 1, none⟩ = some (.int .u64 ((a0 * b1 + (a1 * b0 + a0 * b0 / 4294967296) % 4294967296) / 4294967296))
    ∧ w'.cell? ⟨w.heap.size + 1 + 1 + 1 + 1 + 1, 0, none⟩ = some (.int .u64 (a0 * b0 % 4294967296))
    ∧ w'.cell? ⟨w.heap.size + 1 + 1 + 1 + 1 + 1 + 1 + 1 + 1 + 1, 0, none⟩ = some (.int .u64 ((a0 * b1 + (a1 * b0 + a0 * b0 / 4294967296)) % 4294967296)))
    (first | exact ⟨gW, sW, c1, c2, c3, c4, c5, c6⟩ | exact ⟨gW.drew, sW, c1, c2, c3, c4, c5, c6⟩ | exact ⟨(Kept.alloc gW _ _).drew, size_keep sW, cell_keep c1 (by omega), cell_keep c2 (by omega), cell_keep c3 (by omega), cell_keep c4 (by omega), cell_keep c5 (by omega), cell_keep c6 (by omega)⟩)
    (first | (go_at_call 149; ((with_reducible refine (join_any _ _ _ (by omega) (by omega)).mono ?_); rintro e w' ⟨rfl, rfl⟩)))
  rename_i hH
  have gF := hH.1
  clear hH c1 c2 c3 c4 c5 c6 sW gW
  go_wp2
  go_ret2
  refine ⟨ret2 ?_ ?_, gF⟩
  · unfold muH; rw [M5.out]; simp only [IntKind.wrap_u64]; omega
  · unfold muL; rw [M5.out]; omega
theorem mul_any (a b : Int) (w : World) (ha : U a) (hb : U b) :
    Calls Tryz.prog 109 #[.int .u64 a, .int .u64 b] w fun e w' => e = .returned (.tuple #[.int .u64 (muH a b), .int .u64 (muL a b)]) ∧ Kept w w' := by
  unfold U at *
  have h := mul_parts (a % 4294967296) (a / 4294967296) (b % 4294967296) (b / 4294967296) w (by omega) (by omega) (by omega) (by omega)
  have ea : a / 4294967296 * 4294967296 + a % 4294967296 = a := by omega
  have eb : b / 4294967296 * 4294967296 + b % 4294967296 = b := by omega
  rw [ea, eb] at h
  exact h
/-- The end, or what is below it. -/
def sat (x : Int) : Int := if x ≤ 18446744073709551615 then x else 18446744073709551615
def stopV (h l : Int) : Int := if h = 0 then l else 18446744073709551615
def sbI (a b : Int) : Int := if a < b then 0 else a - b
def dvI (a b : Int) : Int := if b = 0 then 18446744073709551615 else a / b
def lfI (a b : Int) : Int := if b = 0 then 0 else a % b
def clI (a b : Int) : Int := if b = 0 then 18446744073709551615 else if a % b = 0 then a / b else a / b + 1
theorem sat_U (x : Int) (h : 0 ≤ x) : U (sat x) := by unfold sat U; split <;> omega
theorem stop_mul (a b : Int) (ha : U a) (hb : U b) : stopV (muH a b) (muL a b) = sat (a * b) := by
  have h := mu_prod_le a b ha hb
  unfold stopV muH muL sat; split <;> split <;> omega
theorem sbI_U (a b : Int) (ha : U a) (hb : U b) : U (sbI a b) := by unfold sbI U at *; split <;> omega
theorem div_le_of (a b : Int) (ha : U a) (hb : U b) : 0 ≤ a / b ∧ a / b ≤ a := ⟨Int.ediv_nonneg ha.1 hb.1, Int.ediv_le_self _ ha.1⟩
theorem stop_any (h l : Int) (w : World) :
    Calls Tryz.prog 108 #[.int .u64 h, .int .u64 l] w fun e w' => e = .returned (.int .u64 (stopV h l)) ∧ w = w' := by
  by_cases c : h = 0
  · subst c
    have e : stopV 0 l = l := by simp [stopV]
    rw [e]; clear e
    go_enter Tryz.func108, Tryz.ntmps108
    go_wp2
    go_ret
    exact ⟨rfl, rfl⟩
  · have e : stopV h l = 18446744073709551615 := by simp [stopV, c]
    rw [e]; clear e
    have c1 : (h == 0) = false := by simpa using c
    have c2 : (h != 0) = true := by simpa using c
    go_enter Tryz.func108, Tryz.ntmps108
    go_wp2
    go_ret
    exact ⟨rfl, rfl⟩
theorem num_mul (a b : Int) (w : World) (ha : U a) (hb : U b) :
    Calls Tryz.prog 72 #[.int .u64 a, .int .u64 b] w fun e w' => e = .returned (.int .u64 (sat (a * b))) ∧ Kept w w' := by
  rw [← stop_mul a b ha hb]
  go_enter Tryz.func72, Tryz.ntmps72
  go_wp2_with (first
    | (go_at_call 109; ((with_reducible refine (mul_any _ _ _ ha hb).mono ?_); rintro e w' ⟨rfl, gw⟩))
    | (go_at_call 108; ((with_reducible refine (stop_any _ _ _).mono ?_); rintro e w'' ⟨rfl, rfl⟩)))
  go_ret
  exact ⟨rfl, gw⟩
/-- The bytes of a text. -/
abbrev lb (s : ByteArray) : List UInt8 := s.data.toList
attribute [local go_sem] Oper.semAt_some
theorem kbq {w a b : World} (h : Below w.heap.size w a) (g : Below a.heap.size a b) : Below w.heap.size w b := h.trans (g.mono h.size)
/-- Is a byte visible? -/
def visB (c : Int) : Bool := decide (33 ≤ c ∧ c ≤ 126)
/-- May a key be? -/
def rtB (l : List UInt8) : Bool := decide (1 ≤ l.length ∧ l.length ≤ 128) && l.all (fun c => visB (c.toNat : Int))
theorem celln {w w' : World} (h : Below w.heap.size w w') {b o : Nat} {v : Value} (c : w.cell? ⟨b, o, none⟩ = some v) : w'.cell? ⟨b, o, none⟩ = some v := by
  have hb : b < w.heap.size := by
    by_cases hb : b < w.heap.size
    · exact hb
    · simp [World.cell?, hb] at c
  exact (h.cell (p := ⟨b, o, none⟩) hb).trans c
theorem dcell {w : World} {p : Addr} {v : Value} (c : w.cell? p = some v) : w.drew.cell? p = some v := c
theorem U_zero : U 0 := ⟨by omega, by omega⟩
/-- A callee that leaves the world alone, inside a region that draws. -/
theorem still_call {P : Program} {f : FuncId} {args : Array Value} {w : World} {n : Nat} {v : Value} (h : Calls P f args (w.drewN n) fun e w' => e = .returned v ∧ w.drewN n = w') :
    Calls P f args (w.drewN n) fun e w' => e = .returned v ∧ ∃ m, w' = w.drewN m := h.mono fun _ _ k => ⟨k.1, n, k.2.symm⟩
theorem Kept.reads {w w' : World} (h : Kept w w') : (∀ b o, b < w.heap.size → w'.cell? ⟨b, o, none⟩ = w.cell? ⟨b, o, none⟩) ∧ (∀ b o, b < w.heap.size → w'.frozen? ⟨b, o, none⟩ = w.frozen? ⟨b, o, none⟩) :=
  ⟨fun b o hb => h.2.cell (p := ⟨b, o, none⟩) hb, fun b o hb => h.2.frozen (p := ⟨b, o, none⟩) hb⟩
theorem Kept.size {w w' : World} (h : Kept w w') : w.heap.size ≤ w'.heap.size := h.2.size
theorem Kept.setCell {w w' : World} (h : Kept w w') {a : Addr} (ha : w.heap.size ≤ a.block) (v : Value) : Kept w (w'.setCell a v) := ⟨h.1.setCell ha v, h.2.setCell ha v⟩
theorem Kept.cell {w w' : World} (h : Kept w w') {b o : Nat} {v : Value} (c : w.cell? ⟨b, o, none⟩ = some v) : w'.cell? ⟨b, o, none⟩ = some v := by
  have hb : b < w.heap.size := by
    by_cases hb : b < w.heap.size
    · exact hb
    · simp [World.cell?, hb] at c
  exact (h.2.cell (p := ⟨b, o, none⟩) hb).trans c
/-- A state, as a value. -/
abbrev sta (k a b : Int) : Value := .agg #[.int .u8 k, .int .u64 a, .int .u64 b]
/-- A rule, as a value. -/
abbrev rul (p : ByteArray) (e b k : Int) : Value := .agg #[.string p, .int .u64 e, .int .u64 b, .int .u8 k]
/-- May a prefix be? -/
def pfB (p : ByteArray) : Bool := decide (p.size = 0) || rtB (lb p)
theorem num_quot (a b : Int) (w : World) (ha : U a) (hb : U b) :
    Calls Tryz.prog 151 #[.int .u64 a, .int .u64 b] w fun e w' => e = .returned (.tuple #[.int .u64 (dvI a b), .int .u64 (lfI a b)]) ∧ Drew w w' := by
  by_cases c : b = 0
  · subst c
    have e : dvI a 0 = 18446744073709551615 := by simp [dvI]
    have e2 : lfI a 0 = 0 := by simp [lfI]
    rw [e, e2]; clear e e2
    go_enter Tryz.func151, Tryz.ntmps151
    go_wp2
    go_ret2
    exact ⟨rfl, Drew.refl _⟩
  · have e : dvI a b = a / b := by simp [dvI, c]
    have e2 : lfI a b = a % b := by simp [lfI, c]
    rw [e, e2]; clear e e2
    have c1 : (b == 0) = false := by simpa using c
    have d := div_le_of a b ha hb
    unfold U at *
    go_enter Tryz.func151, Tryz.ntmps151
    go_wp2
    go_quiet (fail)
    go_wp2
    go_ret2
    exact ⟨rfl, Drew.of _ _⟩
/-- A rule, as data. -/
structure Rl where
  p : ByteArray
  e : Int
  b : Int
  k : Int
abbrev Rl.v (r : Rl) : Value := rul r.p r.e r.b r.k
/-- A rule lies in four cells. -/
def R4 (w : World) (B o : Nat) (r : Rl) : Prop := w.cell? ⟨B, o, none⟩ = some (.string r.p) ∧ w.cell? ⟨B, o + 1, none⟩ = some (.int .u64 r.e) ∧ w.cell? ⟨B, o + 2, none⟩ = some (.int .u64 r.b) ∧ w.cell? ⟨B, o + 3, none⟩ = some (.int .u8 r.k)
/-- Four cells may be written. -/
def S4 (w : World) (B o : Nat) : Prop := w.frozen? ⟨B, o, none⟩ = false ∧ w.frozen? ⟨B, o + 1, none⟩ = false ∧ w.frozen? ⟨B, o + 2, none⟩ = false ∧ w.frozen? ⟨B, o + 3, none⟩ = false
theorem R4.of_block {w w' : World} {B o : Nat} {r : Rl} (h : R4 w B o r) (e : w'.heap[B]? = w.heap[B]?) : R4 w' B o r :=
  ⟨(World.cell?_of_block (w := w) e).trans h.1, (World.cell?_of_block (w := w) e).trans h.2.1, (World.cell?_of_block (w := w) e).trans h.2.2.1, (World.cell?_of_block (w := w) e).trans h.2.2.2⟩
theorem S4.of_block {w w' : World} {B o : Nat} (h : S4 w B o) (e : w'.heap[B]? = w.heap[B]?) : S4 w' B o :=
  ⟨(World.frozen?_of_block (w := w) e).trans h.1, (World.frozen?_of_block (w := w) e).trans h.2.1, (World.frozen?_of_block (w := w) e).trans h.2.2.1, (World.frozen?_of_block (w := w) e).trans h.2.2.2⟩
theorem cell_lt {w : World} {b o : Nat} {v : Value} (h : w.cell? ⟨b, o, none⟩ = some v) : b < w.heap.size := by
  by_cases hb : b < w.heap.size
  · exact hb
  · simp [World.cell?, hb] at h
theorem cs_other (W : World) (B o : Nat) (v : Value) (B2 o2 : Nat) (h : B2 ≠ B ∨ o2 ≠ o) : (W.setCell ⟨B, o, none⟩ v).cell? ⟨B2, o2, none⟩ = W.cell? ⟨B2, o2, none⟩ :=
  World.cell?_setCell_other _ _ _ _ (fun e => by injection e with e1 e2; omega)
theorem text_same {a b : ByteArray} : (a.toList == b.toList) = decide (a = b) := by
  by_cases h : a = b
  · subst h; simp
  · rw [decide_eq_false h, ← Bool.not_eq_true, beq_iff_eq]
    intro g
    rw [ByteArray.toList_eq, ByteArray.toList_eq] at g
    exact h (by cases a; cases b; simpa using g)
/-- A place to halt a walk at. -/
def Stop (p : Prop) : Prop := p
theorem stopHere {p : Prop} (h : Stop p) : p := h
abbrev rl0 : Rl := ⟨⟨#[]⟩, 0, 0, 0⟩
/-- A rule that can be handed on. -/
structure Okr (r : Rl) : Prop where
  p : r.p.size ≤ 281474976710656
  e : U r.e
  b : U r.b
  k : 0 ≤ r.k ∧ r.k ≤ 255
abbrev Rl.cs (r : Rl) : List Value := [.string r.p, .int .u64 r.e, .int .u64 r.b, .int .u8 r.k]
theorem acell {w : World} {o : Obj} {b i : Nat} {v : Value} (h : w.cell? ⟨b, i, none⟩ = some v) : (w.alloc o).cell? ⟨b, i, none⟩ = some v := celln ((Below.refl _ w).alloc (Nat.le_refl _) o) h
theorem heap_lt {w : World} {b : Nat} {o : Obj} (h : w.heap[b]? = some o) : b < w.heap.size := (Array.getElem?_eq_some_iff.1 h).1
theorem fz_of {w : World} {b : Nat} {cs : Array Value} {t : TypeId} (h : w.heap[b]? = some (.cells cs t)) (i : Nat) : w.frozen? ⟨b, i, none⟩ = false := by simp [World.frozen?, h]
/-- A block whose cells are known. -/
def Blk (w : World) (b : Nat) (cs : Array Value) (t : TypeId) : Prop := w.heap[b]? = some (.cells cs t)
theorem Blk.cell {w : World} {b : Nat} {cs : Array Value} {t : TypeId} (h : Blk w b cs t) (i : Nat) : w.cell? ⟨b, i, none⟩ = cs[i]? := by
  have h' : w.heap[b]? = some (.cells cs t) := h
  simp [World.cell?, h']
theorem Blk.fz {w : World} {b : Nat} {cs : Array Value} {t : TypeId} (h : Blk w b cs t) (i : Nat) : w.frozen? ⟨b, i, none⟩ = false := fz_of h i
theorem Blk.new (w : World) (cs : Array Value) (t : TypeId) : Blk (w.alloc (.cells cs t)) w.heap.size cs t := World.alloc_heap_new w _
theorem Blk.lt {w : World} {b : Nat} {cs : Array Value} {t : TypeId} (h : Blk w b cs t) : b < w.heap.size := heap_lt h
theorem Blk.under {w w' : World} {b N : Nat} {cs : Array Value} {t : TypeId} (h : Blk w b cs t) (g : Below N w w') (hN : b < N) : Blk w' b cs t := (g.block b hN).trans h
theorem Blk.below {w w' : World} {b : Nat} {cs : Array Value} {t : TypeId} (h : Blk w b cs t) (g : Below w.heap.size w w') : Blk w' b cs t := h.under g h.lt
theorem Blk.alloc {w : World} {b : Nat} {cs : Array Value} {t : TypeId} (h : Blk w b cs t) (o : Obj) : Blk (w.alloc o) b cs t := h.below ((Below.refl _ w).alloc (Nat.le_refl _) o)
theorem Blk.set {w : World} {b : Nat} {cs : Array Value} {t : TypeId} (h : Blk w b cs t) (i : Nat) (v : Value) : Blk (w.setCell ⟨b, i, none⟩ v) b (cs.setIfInBounds i v) t := by
  have h' : w.heap[b]? = some (.cells cs t) := h
  obtain ⟨hlt, e⟩ := Array.getElem?_eq_some_iff.1 h'
  show (w.heap.modify b _)[b]? = some _
  rw [Array.getElem?_eq_getElem (by rw [Array.size_modify]; exact hlt), Array.getElem_modify_self, e]
  rfl
theorem Blk.other {w : World} {b c : Nat} {cs : Array Value} {t : TypeId} (h : Blk w b cs t) (i : Nat) (v : Value) (hc : b ≠ c) : Blk (w.setCell ⟨c, i, none⟩ v) b cs t := (Below.heap_setCell _ _ _ _ hc).trans h
/-- All lies as it lay, but for some blocks, and new ones. -/
structure Tch (S : Nat → Prop) (w w' : World) : Prop where
  os : w'.os = w.os
  tape : w'.tape = w.tape
  output : w'.output = w.output
  size : w.heap.size ≤ w'.heap.size
  block : ∀ k, k < w.heap.size → ¬ S k → w'.heap[k]? = w.heap[k]?
theorem Tch.refl (S : Nat → Prop) (w : World) : Tch S w w := ⟨rfl, rfl, rfl, Nat.le_refl _, fun _ _ _ => rfl⟩
theorem Tch.trans {S : Nat → Prop} {a b c : World} (h : Tch S a b) (k : Tch S b c) : Tch S a c :=
  ⟨k.os.trans h.os, k.tape.trans h.tape, k.output.trans h.output, Nat.le_trans h.size k.size, fun i hi hn => (k.block i (Nat.lt_of_lt_of_le hi h.size) hn).trans (h.block i hi hn)⟩
theorem Tch.mono {S S' : Nat → Prop} {a b : World} (h : Tch S a b) (hs : ∀ k, k < a.heap.size → S k → S' k) : Tch S' a b := ⟨h.os, h.tape, h.output, h.size, fun k hk hn => h.block k hk (fun e => hn (hs k hk e))⟩
theorem Tch.of {S : Nat → Prop} {a b : World} (h : Below a.heap.size a b) : Tch S a b := ⟨h.os, h.tape, h.output, h.size, fun k hk _ => h.block k hk⟩
theorem Tch.below {S : Nat → Prop} {a b : World} {N : Nat} (h : Tch S a b) (hN : N ≤ a.heap.size) (hs : ∀ k, S k → N ≤ k) : Below N a b := ⟨h.os, h.tape, h.output, h.size, fun k hk => h.block k (by omega) (fun e => by have := hs k e; omega)⟩
theorem Tch.set {S : Nat → Prop} (w : World) (b i : Nat) (v : Value) (hb : S b) : Tch S w (w.setCell ⟨b, i, none⟩ v) :=
  ⟨rfl, rfl, rfl, by simp [World.setCell], fun k _ hn => Below.heap_setCell _ _ _ _ (fun e => hn (by rw [e]; exact hb))⟩
theorem Tch.put {S : Nat → Prop} (w : World) (b : Nat) (o : Obj) (hb : S b) : Tch S w (w.putObj b o) :=
  ⟨rfl, rfl, rfl, by simp, fun k _ hn => World.putObj_heap_other (fun e => hn (by rw [e]; exact hb))⟩
theorem Tch.blk {S : Nat → Prop} {a b : World} (h : Tch S a b) {k : Nat} {cs : Array Value} {t : TypeId} (hb : Blk a k cs t) (hk : ¬ S k) : Blk b k cs t := (h.block k hb.lt hk).trans hb
/-- Two places exchanged. -/
def xch (f : Nat → Nat) (i j : Nat) : Nat → Nat := fun k => if k = i then f j else if k = j then f i else f k
/-- What comes of f by exchanges between a and b. -/
inductive Mv (a b : Nat) (f : Nat → Nat) : (Nat → Nat) → Prop
  | refl : Mv a b f f
  | xch {g : Nat → Nat} (i j : Nat) (h : Mv a b f g) (hi : a ≤ i) (hib : i < b) (hj : a ≤ j) (hjb : j < b) : Mv a b f (xch g i j)
theorem Mv.trans {a b : Nat} {f g h : Nat → Nat} (x : Mv a b f g) (y : Mv a b g h) : Mv a b f h := by
  induction y with
  | refl => exact x
  | xch i j _ hi hib hj hjb ih => exact .xch i j ih hi hib hj hjb
theorem Mv.mono {a b a' b' : Nat} {f g : Nat → Nat} (x : Mv a b f g) (ha : a' ≤ a) (hb : b ≤ b') : Mv a' b' f g := by
  induction x with
  | refl => exact .refl
  | xch i j _ hi hib hj hjb ih => exact .xch i j ih (by omega) (by omega) (by omega) (by omega)
theorem Mv.out {a b : Nat} {f g : Nat → Nat} (x : Mv a b f g) (k : Nat) (hk : k < a ∨ b ≤ k) : g k = f k := by
  induction x with
  | refl => rfl
  | xch i j _ hi hib hj hjb ih => simp only [Wd.xch]; rw [if_neg (by omega), if_neg (by omega)]; exact ih
theorem Mv.back {a b : Nat} {f g : Nat → Nat} (x : Mv a b f g) : ∀ k, a ≤ k → k < b → ∃ j, a ≤ j ∧ j < b ∧ g k = f j := by
  induction x with
  | refl => exact fun k h1 h2 => ⟨k, h1, h2, rfl⟩
  | xch i j _ hi hib hj hjb ih =>
    intro k h1 h2
    simp only [Wd.xch]
    by_cases c : k = i
    · rw [if_pos c]; exact ih j hj hjb
    · rw [if_neg c]
      by_cases d : k = j
      · rw [if_pos d]; exact ih i hi hib
      · rw [if_neg d]; exact ih k h1 h2
def Inj (f : Nat → Nat) : Prop := ∀ i j, f i = f j → i = j
theorem Mv.inj {a b : Nat} {f g : Nat → Nat} (x : Mv a b f g) (hf : Inj f) : Inj g := by
  induction x with
  | refl => exact hf
  | @xch g' i j _ hi hib hj hjb ih =>
    intro p q e
    have tau : ∀ k, Wd.xch g' i j k = g' (if k = i then j else if k = j then i else k) := by
      intro k; unfold Wd.xch
      by_cases c : k = i
      · rw [if_pos c, if_pos c]
      · rw [if_neg c, if_neg c]
        by_cases d : k = j
        · rw [if_pos d, if_pos d]
        · rw [if_neg d, if_neg d]
    rw [tau, tau] at e
    have h := ih _ _ e
    by_cases c : p = i
    · rw [if_pos c] at h
      by_cases d : q = i
      · omega
      · rw [if_neg d] at h
        by_cases d2 : q = j
        · rw [if_pos d2] at h; omega
        · rw [if_neg d2] at h; omega
    · rw [if_neg c] at h
      by_cases c2 : p = j
      · rw [if_pos c2] at h
        by_cases d : q = i
        · rw [if_pos d] at h; omega
        · rw [if_neg d] at h
          by_cases d2 : q = j
          · omega
          · rw [if_neg d2] at h; omega
      · rw [if_neg c2] at h
        by_cases d : q = i
        · rw [if_pos d] at h; omega
        · rw [if_neg d] at h
          by_cases d2 : q = j
          · rw [if_pos d2] at h; omega
          · rw [if_neg d2] at h; exact h
theorem Mv.bound {a b n : Nat} {f g : Nat → Nat} (x : Mv a b f g) (hb : b ≤ n) (hf : ∀ i, i < n → f i < n) : ∀ i, i < n → g i < n := by
  induction x with
  | refl => exact hf
  | xch i j _ hi hib hj hjb ih =>
    intro k hk
    simp only [Wd.xch]
    split
    · exact ih _ (by omega)
    · split
      · exact ih _ (by omega)
      · exact ih _ hk
theorem num_ceil (a b : Int) (w : World) (ha : U a) (hb : U b) :
    Calls Tryz.prog 114 #[.int .u64 a, .int .u64 b] w fun e w' => e = .returned (.int .u64 (clI a b)) ∧ Drew w w' := by
  have q := num_quot a b w ha hb
  by_cases c : lfI a b = 0
  · have e : clI a b = dvI a b := by unfold lfI clI dvI at *; by_cases h : b = 0 <;> simp [h] at c ⊢; omega
    rw [e]; clear e
    rw [c] at q
    clear c
    generalize dvI a b = d at *
    go_enter Tryz.func114, Tryz.ntmps114
    go_wp2_with (go_at_call 151; ((with_reducible refine q.mono ?_); rintro e w' ⟨rfl, gw⟩))
    go_ret
    exact ⟨rfl, gw⟩
  · have hb0 : b ≠ 0 := by intro h; apply c; simp [lfI, h]
    have e : clI a b = dvI a b + 1 := by simp [lfI, hb0] at c; simp [clI, dvI, hb0]; omega
    have c1 : (lfI a b == 0) = false := by simpa using c
    have hd : 0 ≤ dvI a b ∧ dvI a b ≤ 18446744073709551614 := by
      have e2 : dvI a b = a / b := by simp [dvI, hb0]
      have e3 : lfI a b = a % b := by simp [lfI, hb0]
      rw [e2]; rw [e3] at c
      have h0 := div_le_of a b ha hb
      have h1 := Int.mul_ediv_add_emod a b
      unfold U at *
      have h2 := Int.emod_nonneg a hb0
      have h3 : 1 * (a / b) ≤ b * (a / b) := Int.mul_le_mul_of_nonneg_right (by omega) h0.1
      omega
    rw [e]; clear e c
    generalize dvI a b = d at *
    generalize lfI a b = r at *
    go_enter Tryz.func114, Tryz.ntmps114
    go_wp2_with (go_at_call 151; ((with_reducible refine q.mono ?_); rintro e w' ⟨rfl, gw⟩))
    go_ret
    exact ⟨rfl, gw⟩
end Go.Proofs.YtkfncanfgpmgaaaGreat.Wd
