import Derived.Test.YtbejkcdaefkibaaGreatZAA
import Derived.Test.YtbejkcdaefkibaaGreatZAB
import Derived.Test.YtbejkcdaefkibaaGreatZAC
import Derived.Test.YtbejkcdaefkibaaGreatZAD
import Derived.Test.YtbejkcdaefkibaaGreatZAE
import Derived.Deep.AppendLies
import Derived.WalkKit
import Derived.Laws.Bits64b
import Derived.Below
import Derived.Deep.Draws
import Derived.ProofKit
import Derived.OpenShut
import Derived.Handy
import Derived.Lib.Hide
import Derived.Deep.RegionHeld3
import Derived.Deep.QuietTactic
import Derived.BigQuiet
import Derived.RangeFuncNested
import Derived.RangeFuncBound
import Derived.RangeFuncCalls
import Derived.RangeFuncLeaves
import Derived.Shelf.Abstract
import Derived.Shelf.RegionOpen
import Derived.OwnWalkIn
import Derived.TacticsInMore
import Derived.LoopNIn
import Derived.LoopIn
import Derived.LoopTactic
import Derived.OwnWalk
import Derived.Laws.OwnMore
import Derived.Maps.OwnSet
import Derived.Laws.EntriesVeiled
import Derived.Lib.ReflectliteSwap
import Derived.Deep.CutRange
import Derived.Deep.DeepCutAuto
import Derived.Shelf.LaysM
import Derived.Shelf.Strconv.Clone
import Derived.Lib.ItoaNum
import Derived.Lib.ItoaLen
import Derived.Laws.Strings
import GoSem.Op.String
import Derived.Lib.BufferWrite
import Derived.Laws.IdiomStrings
import Derived.Laws.ResultCell
import Derived.Laws.Rows
import Derived.ScopeJumps
import Derived.WalkMore
import Derived.WalkLawsBesides
import Derived.WalkSpells
import Derived.Deep.WholeRow
import Derived.StillTailTactics
import Derived.Laws.ComplexArith
import Derived.WalkSmall
import Derived.Laws.Entries
import Derived.Laws.AppendOwn
import Derived.Deep.LoopGhost
import Derived.Lib.QuietBelow
import Derived.PlainAid
import Derived.Lib.SlBytesConst
import Derived.Lib.SmallJoins
import Derived.Laws.AppendOwnNone
import Derived.Laws.MakeOwn
import Derived.Lib.AppendStr
import Derived.Deep.RegionLaw
import Derived.Defers
import Derived.Recover
import Derived.Deep.Slices
import Derived.OneCell
import Derived.Test.YtbejkcdaefkibaaGreatRows
import Derived.Deep.CutBlock

namespace Go.Proofs.YtbejkcdaefkibaaGreat.Wd
open Go Go.RowKit Go.Deep Go.Shelf
set_option linter.unusedVariables false
set_option maxRecDepth 100000
theorem tch_blk {Q : Nat → Prop} {w w' : World} {b : Nat} {cs : Array Value} {t : TypeId} (g : Tch Q w w') (h : Blk w b cs t) (hb : ¬ Q b) : Blk w' b cs t := (g.block b h.lt hb).trans h
set_option maxHeartbeats 4000000 in
theorem rcharge_key (m c : Int) (A : Option Addr) (n0 cap : Nat) (k : ByteArray) (r : Rl) (n : Int) (w : World) (hk : k.size ≤ 281474976710656) (h : rtB (lb k) = false) :
    Calls Tryz.prog 55 #[rtv m c (.slice A n0 cap), .string k, r.v, .int .u64 n] w fun e w' => e = .returned (.tuple #[rtv m c (.slice A n0 cap), An.v ⟨5, 12, 0, 0, 0, 0, 0, false⟩]) ∧ Below w.heap.size w w' := by
  have CK := Lib.hid (fun W => rkright_any k W (by omega))
  rw [h] at CK
  clear h
  have b0 := Lib.hid (show Blk ((((w.alloc (.cells (rcs m c (.slice A n0 cap)) Trf)).alloc (.cells #[.string r.p, .int .u64 r.e, .int .u64 r.b, .int .u8 r.k] 79)).alloc (.cells #[.int .i64 0, .int .u64 0, .slice none 0 0] Trf)).alloc (.cells #[.int .u8 0, .int .u16 0, .int .u64 0, .int .u64 0, .int .u64 0, .int .u64 0, .int .u64 0, .bool false, .int .i64 0, .slice none 0 0] 57)) (w.heap.size) (rcs m c (.slice A n0 cap)) Trf from ((((Blk.new w (rcs m c (.slice A n0 cap)) Trf).alloc (.cells #[.string r.p, .int .u64 r.e, .int .u64 r.b, .int .u8 r.k] 79)).alloc (.cells #[.int .i64 0, .int .u64 0, .slice none 0 0] Trf)).alloc (.cells #[.int .u8 0, .int .u16 0, .int .u64 0, .int .u64 0, .int .u64 0, .int .u64 0, .int .u64 0, .bool false, .int .i64 0, .slice none 0 0] 57)))
  have b1 := Lib.hid (show Blk ((((w.alloc (.cells (rcs m c (.slice A n0 cap)) Trf)).alloc (.cells #[.string r.p, .int .u64 r.e, .int .u64 r.b, .int .u8 r.k] 79)).alloc (.cells #[.int .i64 0, .int .u64 0, .slice none 0 0] Trf)).alloc (.cells #[.int .u8 0, .int .u16 0, .int .u64 0, .int .u64 0, .int .u64 0, .int .u64 0, .int .u64 0, .bool false, .int .i64 0, .slice none 0 0] 57)) (w.heap.size + 1) #[.string r.p, .int .u64 r.e, .int .u64 r.b, .int .u8 r.k] 79 by have z := (((Blk.new (w.alloc (.cells (rcs m c (.slice A n0 cap)) Trf)) #[.string r.p, .int .u64 r.e, .int .u64 r.b, .int .u8 r.k] 79).alloc (.cells #[.int .i64 0, .int .u64 0, .slice none 0 0] Trf)).alloc (.cells #[.int .u8 0, .int .u16 0, .int .u64 0, .int .u64 0, .int .u64 0, .int .u64 0, .int .u64 0, .bool false, .int .i64 0, .slice none 0 0] 57)); rwa [show (w.alloc (.cells (rcs m c (.slice A n0 cap)) Trf)).heap.size = w.heap.size + 1 by simp] at z)
  have b2 := Lib.hid (show Blk ((((w.alloc (.cells (rcs m c (.slice A n0 cap)) Trf)).alloc (.cells #[.string r.p, .int .u64 r.e, .int .u64 r.b, .int .u8 r.k] 79)).alloc (.cells #[.int .i64 0, .int .u64 0, .slice none 0 0] Trf)).alloc (.cells #[.int .u8 0, .int .u16 0, .int .u64 0, .int .u64 0, .int .u64 0, .int .u64 0, .int .u64 0, .bool false, .int .i64 0, .slice none 0 0] 57)) (w.heap.size + 2) #[.int .i64 0, .int .u64 0, .slice none 0 0] Trf by have z := ((Blk.new ((w.alloc (.cells (rcs m c (.slice A n0 cap)) Trf)).alloc (.cells #[.string r.p, .int .u64 r.e, .int .u64 r.b, .int .u8 r.k] 79)) #[.int .i64 0, .int .u64 0, .slice none 0 0] Trf).alloc (.cells #[.int .u8 0, .int .u16 0, .int .u64 0, .int .u64 0, .int .u64 0, .int .u64 0, .int .u64 0, .bool false, .int .i64 0, .slice none 0 0] 57)); rwa [show ((w.alloc (.cells (rcs m c (.slice A n0 cap)) Trf)).alloc (.cells #[.string r.p, .int .u64 r.e, .int .u64 r.b, .int .u8 r.k] 79)).heap.size = w.heap.size + 2 by simp] at z)
  have b3 := Lib.hid (show Blk ((((w.alloc (.cells (rcs m c (.slice A n0 cap)) Trf)).alloc (.cells #[.string r.p, .int .u64 r.e, .int .u64 r.b, .int .u8 r.k] 79)).alloc (.cells #[.int .i64 0, .int .u64 0, .slice none 0 0] Trf)).alloc (.cells #[.int .u8 0, .int .u16 0, .int .u64 0, .int .u64 0, .int .u64 0, .int .u64 0, .int .u64 0, .bool false, .int .i64 0, .slice none 0 0] 57)) (w.heap.size + 3) #[.int .u8 0, .int .u16 0, .int .u64 0, .int .u64 0, .int .u64 0, .int .u64 0, .int .u64 0, .bool false, .int .i64 0, .slice none 0 0] 57 by have z := (Blk.new (((w.alloc (.cells (rcs m c (.slice A n0 cap)) Trf)).alloc (.cells #[.string r.p, .int .u64 r.e, .int .u64 r.b, .int .u8 r.k] 79)).alloc (.cells #[.int .i64 0, .int .u64 0, .slice none 0 0] Trf)) #[.int .u8 0, .int .u16 0, .int .u64 0, .int .u64 0, .int .u64 0, .int .u64 0, .int .u64 0, .bool false, .int .i64 0, .slice none 0 0] 57); rwa [show (((w.alloc (.cells (rcs m c (.slice A n0 cap)) Trf)).alloc (.cells #[.string r.p, .int .u64 r.e, .int .u64 r.b, .int .u8 r.k] 79)).alloc (.cells #[.int .i64 0, .int .u64 0, .slice none 0 0] Trf)).heap.size = w.heap.size + 3 by simp] at z)
  have k0 := Lib.hid (show Below w.heap.size w ((((w.alloc (.cells (rcs m c (.slice A n0 cap)) Trf)).alloc (.cells #[.string r.p, .int .u64 r.e, .int .u64 r.b, .int .u8 r.k] 79)).alloc (.cells #[.int .i64 0, .int .u64 0, .slice none 0 0] Trf)).alloc (.cells #[.int .u8 0, .int .u16 0, .int .u64 0, .int .u64 0, .int .u64 0, .int .u64 0, .int .u64 0, .bool false, .int .i64 0, .slice none 0 0] 57)) from (((((Below.refl w.heap.size w).alloc (Nat.le_refl _) (.cells (rcs m c (.slice A n0 cap)) Trf)).alloc (by simp) (.cells #[.string r.p, .int .u64 r.e, .int .u64 r.b, .int .u8 r.k] 79)).alloc (by simp; omega) (.cells #[.int .i64 0, .int .u64 0, .slice none 0 0] Trf)).alloc (by simp; omega) (.cells #[.int .u8 0, .int .u16 0, .int .u64 0, .int .u64 0, .int .u64 0, .int .u64 0, .int .u64 0, .bool false, .int .i64 0, .slice none 0 0] 57)))
  have z0 := Lib.hid (show w.heap.size + 4 ≤ ((((w.alloc (.cells (rcs m c (.slice A n0 cap)) Trf)).alloc (.cells #[.string r.p, .int .u64 r.e, .int .u64 r.b, .int .u8 r.k] 79)).alloc (.cells #[.int .i64 0, .int .u64 0, .slice none 0 0] Trf)).alloc (.cells #[.int .u8 0, .int .u16 0, .int .u64 0, .int .u64 0, .int .u64 0, .int .u64 0, .int .u64 0, .bool false, .int .i64 0, .slice none 0 0] 57)).heap.size by simp)
  go_enter Tryz.func55, Tryz.ntmps55
  go_wp2_with fail
  generalize ((((w.alloc (.cells (rcs m c (.slice A n0 cap)) Trf)).alloc (.cells #[.string r.p, .int .u64 r.e, .int .u64 r.b, .int .u8 r.k] 79)).alloc (.cells #[.int .i64 0, .int .u64 0, .slice none 0 0] Trf)).alloc (.cells #[.int .u8 0, .int .u16 0, .int .u64 0, .int .u64 0, .int .u64 0, .int .u64 0, .int .u64 0, .bool false, .int .i64 0, .slice none 0 0] 57)) = W at *
  obtain ⟨t0, t1, t2, _⟩ := blk3 b0.out
  obtain ⟨u0, u1, u2, uf0, uf1, uf2⟩ := blk3 b2.out
  obtain ⟨y0, y1, y2, y3, y4, y5, y6, y7, y8, y9, f0, f1, f2, f3, f4, f5, f6, f7, f8, f9⟩ := blk10 b3.out
  go_wp2_with (go_at_call 87; ((with_reducible refine (CK.out _).mono ?_); rintro e w1 ⟨rfl, rfl⟩))
  have z2 := Lib.hid (bset3 (p0 := .int .i64 m) (p1 := .int .u64 c) (p2 := .slice A n0 cap) b2.out)
  have z3 := Lib.hid (((b3.out.other (c := w.heap.size + 2) 0 (.int .i64 m) (by omega)).other (c := w.heap.size + 2) 1 (.int .u64 c) (by omega)).other (c := w.heap.size + 2) 2 (.slice A n0 cap) (by omega))
  have kz := Lib.hid (ts3 (p0 := .int .i64 m) (p1 := .int .u64 c) (p2 := .slice A n0 cap) (Tch.refl (fun k => w.heap.size ≤ k) W) (X := w.heap.size + 2) (.inl (show w.heap.size ≤ w.heap.size + 2 by omega)))
  clear t0 t1 t2 u0 u1 u2 uf0 uf1 uf2 y0 y1 y2 y3 y4 y5 y6 y7 y8 y9 f0 f1 f2 f3 f4 f5 f6 f7 f8 f9 b2 b3
  revert z2 z3 kz
  generalize World.setCell _ ⟨w.heap.size + 2, 2, none⟩ _ = V
  intro z2 z3 kz
  have z4 := Lib.hid (bset10 (p0 := .int .u8 5) (p1 := .int .u16 12) (p2 := .int .u64 0) (p3 := .int .u64 0) (p4 := .int .u64 0) (p5 := .int .u64 0) (p6 := .int .u64 0) (p7 := .bool false) (p8 := .int .i64 0) (p9 := .slice none 0 0) z3.out)
  have kq := Lib.hid (ts10 (p0 := .int .u8 5) (p1 := .int .u16 12) (p2 := .int .u64 0) (p3 := .int .u64 0) (p4 := .int .u64 0) (p5 := .int .u64 0) (p6 := .int .u64 0) (p7 := .bool false) (p8 := .int .i64 0) (p9 := .slice none 0 0) (X := w.heap.size + 3) kz.out (.inl (show w.heap.size ≤ w.heap.size + 3 by omega)))
  have z5 := Lib.hid ((tch_blk (Q := fun k => k = w.heap.size + 3) (ts10 (p0 := .int .u8 5) (p1 := .int .u16 12) (p2 := .int .u64 0) (p3 := .int .u64 0) (p4 := .int .u64 0) (p5 := .int .u64 0) (p6 := .int .u64 0) (p7 := .bool false) (p8 := .int .i64 0) (p9 := .slice none 0 0) (X := w.heap.size + 3) (Tch.refl (fun k => k = w.heap.size + 3) V) (.inl rfl)) z2.out (show ¬ (w.heap.size + 2 = w.heap.size + 3) by omega)))
  revert z4 kq z5
  generalize World.setCell _ ⟨w.heap.size + 3, 9, none⟩ _ = V9
  intro z4 kq z5
  obtain ⟨q0, q1, q2, q3, q4, q5, q6, q7, q8, q9, _⟩ := blk10 z4.out
  obtain ⟨v0, v1, v2, _⟩ := blk3 z5.out
  refine bodyPost_ret (v := .tuple #[rtv m c (.slice A n0 cap), An.v ⟨5, 12, 0, 0, 0, 0, 0, false⟩]) ?_ rfl ⟨rfl, tch_below k0.out kq.out (Nat.le_refl _) (fun k hk hq => by omega)⟩
  simp [results, Tryz.results55, go_sem, q0, q1, q2, q3, q4, q5, q6, q7, q8, q9, v0, v1, v2]
set_option maxHeartbeats 8000000 in
theorem rcharge_rule (m c : Int) (A : Option Addr) (n0 cap : Nat) (k : ByteArray) (r : Rl) (n : Int) (w : World) (hk : k.size ≤ 281474976710656) (hr : Okr r) (hrk : 0 ≤ r.k ∧ r.k ≤ 255) (h : rtB (lb k) = true) (h0 : ruE r.p r.e r.b r.k ≠ 0) (hE : 0 ≤ ruE r.p r.e r.b r.k ∧ ruE r.p r.e r.b r.k ≤ 65535) :
    Calls Tryz.prog 55 #[rtv m c (.slice A n0 cap), .string k, r.v, .int .u64 n] w fun e w' => e = .returned (.tuple #[rtv m c (.slice A n0 cap), An.v ⟨5, ruE r.p r.e r.b r.k, 0, 0, 0, 0, 0, false⟩]) ∧ Below w.heap.size w w' := by
  have CK := Lib.hid (fun W => rkright_any k W (by omega))
  have CR := Lib.hid (fun W => refRight_any r.p r.e r.b r.k W (by have := hr.p; omega) hr.e hr.b hrk)
  rw [h] at CK
  have e0 : (ruE r.p r.e r.b r.k != 0) = true := by simpa using h0
  have ew : IntKind.u16.wrap (ruE r.p r.e r.b r.k) = ruE r.p r.e r.b r.k := by rw [IntKind.wrap_u16]; omega
  generalize ruE r.p r.e r.b r.k = E at *
  clear h h0
  have b0 := Lib.hid (show Blk ((((w.alloc (.cells (rcs m c (.slice A n0 cap)) Trf)).alloc (.cells #[.string r.p, .int .u64 r.e, .int .u64 r.b, .int .u8 r.k] 79)).alloc (.cells #[.int .i64 0, .int .u64 0, .slice none 0 0] Trf)).alloc (.cells #[.int .u8 0, .int .u16 0, .int .u64 0, .int .u64 0, .int .u64 0, .int .u64 0, .int .u64 0, .bool false, .int .i64 0, .slice none 0 0] 57)) (w.heap.size) (rcs m c (.slice A n0 cap)) Trf from ((((Blk.new w (rcs m c (.slice A n0 cap)) Trf).alloc (.cells #[.string r.p, .int .u64 r.e, .int .u64 r.b, .int .u8 r.k] 79)).alloc (.cells #[.int .i64 0, .int .u64 0, .slice none 0 0] Trf)).alloc (.cells #[.int .u8 0, .int .u16 0, .int .u64 0, .int .u64 0, .int .u64 0, .int .u64 0, .int .u64 0, .bool false, .int .i64 0, .slice none 0 0] 57)))
  have b1 := Lib.hid (show Blk ((((w.alloc (.cells (rcs m c (.slice A n0 cap)) Trf)).alloc (.cells #[.string r.p, .int .u64 r.e, .int .u64 r.b, .int .u8 r.k] 79)).alloc (.cells #[.int .i64 0, .int .u64 0, .slice none 0 0] Trf)).alloc (.cells #[.int .u8 0, .int .u16 0, .int .u64 0, .int .u64 0, .int .u64 0, .int .u64 0, .int .u64 0, .bool false, .int .i64 0, .slice none 0 0] 57)) (w.heap.size + 1) #[.string r.p, .int .u64 r.e, .int .u64 r.b, .int .u8 r.k] 79 by have z := (((Blk.new (w.alloc (.cells (rcs m c (.slice A n0 cap)) Trf)) #[.string r.p, .int .u64 r.e, .int .u64 r.b, .int .u8 r.k] 79).alloc (.cells #[.int .i64 0, .int .u64 0, .slice none 0 0] Trf)).alloc (.cells #[.int .u8 0, .int .u16 0, .int .u64 0, .int .u64 0, .int .u64 0, .int .u64 0, .int .u64 0, .bool false, .int .i64 0, .slice none 0 0] 57)); rwa [show (w.alloc (.cells (rcs m c (.slice A n0 cap)) Trf)).heap.size = w.heap.size + 1 by simp] at z)
  have b2 := Lib.hid (show Blk ((((w.alloc (.cells (rcs m c (.slice A n0 cap)) Trf)).alloc (.cells #[.string r.p, .int .u64 r.e, .int .u64 r.b, .int .u8 r.k] 79)).alloc (.cells #[.int .i64 0, .int .u64 0, .slice none 0 0] Trf)).alloc (.cells #[.int .u8 0, .int .u16 0, .int .u64 0, .int .u64 0, .int .u64 0, .int .u64 0, .int .u64 0, .bool false, .int .i64 0, .slice none 0 0] 57)) (w.heap.size + 2) #[.int .i64 0, .int .u64 0, .slice none 0 0] Trf by have z := ((Blk.new ((w.alloc (.cells (rcs m c (.slice A n0 cap)) Trf)).alloc (.cells #[.string r.p, .int .u64 r.e, .int .u64 r.b, .int .u8 r.k] 79)) #[.int .i64 0, .int .u64 0, .slice none 0 0] Trf).alloc (.cells #[.int .u8 0, .int .u16 0, .int .u64 0, .int .u64 0, .int .u64 0, .int .u64 0, .int .u64 0, .bool false, .int .i64 0, .slice none 0 0] 57)); rwa [show ((w.alloc (.cells (rcs m c (.slice A n0 cap)) Trf)).alloc (.cells #[.string r.p, .int .u64 r.e, .int .u64 r.b, .int .u8 r.k] 79)).heap.size = w.heap.size + 2 by simp] at z)
  have b3 := Lib.hid (show Blk ((((w.alloc (.cells (rcs m c (.slice A n0 cap)) Trf)).alloc (.cells #[.string r.p, .int .u64 r.e, .int .u64 r.b, .int .u8 r.k] 79)).alloc (.cells #[.int .i64 0, .int .u64 0, .slice none 0 0] Trf)).alloc (.cells #[.int .u8 0, .int .u16 0, .int .u64 0, .int .u64 0, .int .u64 0, .int .u64 0, .int .u64 0, .bool false, .int .i64 0, .slice none 0 0] 57)) (w.heap.size + 3) #[.int .u8 0, .int .u16 0, .int .u64 0, .int .u64 0, .int .u64 0, .int .u64 0, .int .u64 0, .bool false, .int .i64 0, .slice none 0 0] 57 by have z := (Blk.new (((w.alloc (.cells (rcs m c (.slice A n0 cap)) Trf)).alloc (.cells #[.string r.p, .int .u64 r.e, .int .u64 r.b, .int .u8 r.k] 79)).alloc (.cells #[.int .i64 0, .int .u64 0, .slice none 0 0] Trf)) #[.int .u8 0, .int .u16 0, .int .u64 0, .int .u64 0, .int .u64 0, .int .u64 0, .int .u64 0, .bool false, .int .i64 0, .slice none 0 0] 57); rwa [show (((w.alloc (.cells (rcs m c (.slice A n0 cap)) Trf)).alloc (.cells #[.string r.p, .int .u64 r.e, .int .u64 r.b, .int .u8 r.k] 79)).alloc (.cells #[.int .i64 0, .int .u64 0, .slice none 0 0] Trf)).heap.size = w.heap.size + 3 by simp] at z)
  have k0 := Lib.hid (show Below w.heap.size w ((((w.alloc (.cells (rcs m c (.slice A n0 cap)) Trf)).alloc (.cells #[.string r.p, .int .u64 r.e, .int .u64 r.b, .int .u8 r.k] 79)).alloc (.cells #[.int .i64 0, .int .u64 0, .slice none 0 0] Trf)).alloc (.cells #[.int .u8 0, .int .u16 0, .int .u64 0, .int .u64 0, .int .u64 0, .int .u64 0, .int .u64 0, .bool false, .int .i64 0, .slice none 0 0] 57)) from (((((Below.refl w.heap.size w).alloc (Nat.le_refl _) (.cells (rcs m c (.slice A n0 cap)) Trf)).alloc (by simp) (.cells #[.string r.p, .int .u64 r.e, .int .u64 r.b, .int .u8 r.k] 79)).alloc (by simp; omega) (.cells #[.int .i64 0, .int .u64 0, .slice none 0 0] Trf)).alloc (by simp; omega) (.cells #[.int .u8 0, .int .u16 0, .int .u64 0, .int .u64 0, .int .u64 0, .int .u64 0, .int .u64 0, .bool false, .int .i64 0, .slice none 0 0] 57)))
  have z0 := Lib.hid (show w.heap.size + 4 ≤ ((((w.alloc (.cells (rcs m c (.slice A n0 cap)) Trf)).alloc (.cells #[.string r.p, .int .u64 r.e, .int .u64 r.b, .int .u8 r.k] 79)).alloc (.cells #[.int .i64 0, .int .u64 0, .slice none 0 0] Trf)).alloc (.cells #[.int .u8 0, .int .u16 0, .int .u64 0, .int .u64 0, .int .u64 0, .int .u64 0, .int .u64 0, .bool false, .int .i64 0, .slice none 0 0] 57)).heap.size by simp)
  go_enter Tryz.func55, Tryz.ntmps55
  go_wp2_with fail
  generalize ((((w.alloc (.cells (rcs m c (.slice A n0 cap)) Trf)).alloc (.cells #[.string r.p, .int .u64 r.e, .int .u64 r.b, .int .u8 r.k] 79)).alloc (.cells #[.int .i64 0, .int .u64 0, .slice none 0 0] Trf)).alloc (.cells #[.int .u8 0, .int .u16 0, .int .u64 0, .int .u64 0, .int .u64 0, .int .u64 0, .int .u64 0, .bool false, .int .i64 0, .slice none 0 0] 57)) = W at *
  obtain ⟨r0, r1, r2, r3, _⟩ := blk4 b1.out
  go_wp2_with (first
    | (go_at_call 87; ((with_reducible refine (CK.out _).mono ?_); rintro e w1 ⟨rfl, rfl⟩))
    | (go_at_call 90; ((with_reducible refine (CR.out _).mono ?_); rintro e w1 ⟨rfl, _, g⟩; refine stopHere ?_)))
  unfold Stop
  have c0 := Lib.hid (b0.out.below g)
  have c1 := Lib.hid (b1.out.below g)
  have c2 := Lib.hid (b2.out.below g)
  have c3 := Lib.hid (b3.out.below g)
  have k1 := Lib.hid (kbq k0.out g)
  clear b0 b1 b2 b3 k0 g r0 r1 r2 r3 z0
  obtain ⟨r0, r1, r2, r3, _⟩ := blk4 c1.out
  obtain ⟨t0, t1, t2, _⟩ := blk3 c0.out
  go_wp2_with fail
  go_region_with (go_at_call 90; ((with_reducible refine (CR.out _).mono ?_); rintro e w2 ⟨rfl, _, g⟩; clear r0 r1 r2 r3 t0 t1 t2; have d0 : Hid (Blk w2 _ _ _) := Lib.hid (by first | exact Blk.below (Blk.dr c0.out) g | exact Blk.below c0.out g); have d2 : Hid (Blk w2 _ _ _) := Lib.hid (by first | exact Blk.below (Blk.dr c2.out) g | exact Blk.below c2.out g); have d3 : Hid (Blk w2 _ _ _) := Lib.hid (by first | exact Blk.below (Blk.dr c3.out) g | exact Blk.below c3.out g); have k2 : Hid (Below w.heap.size w w2) := Lib.hid (by first | exact kbq k1.out.drew g | exact kbq k1.out g); obtain ⟨t0, t1, t2, _⟩ := blk3 d0.out; obtain ⟨u0, u1, u2, uf0, uf1, uf2⟩ := blk3 d2.out; obtain ⟨y0, y1, y2, y3, y4, y5, y6, y7, y8, y9, f0, f1, f2, f3, f4, f5, f6, f7, f8, f9⟩ := blk10 d3.out))
  all_goals
    have z2 := Lib.hid (bset3 (p0 := .int .i64 m) (p1 := .int .u64 c) (p2 := .slice A n0 cap) d2.out)
    have z3 := Lib.hid (((d3.out.other (c := w.heap.size + 2) 0 (.int .i64 m) (by omega)).other (c := w.heap.size + 2) 1 (.int .u64 c) (by omega)).other (c := w.heap.size + 2) 2 (.slice A n0 cap) (by omega))
    have kz := Lib.hid (ts3 (p0 := .int .i64 m) (p1 := .int .u64 c) (p2 := .slice A n0 cap) (Tch.refl (fun k => w.heap.size ≤ k) w2) (X := w.heap.size + 2) (.inl (show w.heap.size ≤ w.heap.size + 2 by omega)))
    clear t0 t1 t2 u0 u1 u2 uf0 uf1 uf2 y0 y1 y2 y3 y4 y5 y6 y7 y8 y9 f0 f1 f2 f3 f4 f5 f6 f7 f8 f9 d2 d3
    revert z2 z3 kz
    generalize World.setCell _ ⟨w.heap.size + 2, 2, none⟩ _ = V
    intro z2 z3 kz
    have z4 := Lib.hid (bset10 (p0 := .int .u8 5) (p1 := .int .u16 E) (p2 := .int .u64 0) (p3 := .int .u64 0) (p4 := .int .u64 0) (p5 := .int .u64 0) (p6 := .int .u64 0) (p7 := .bool false) (p8 := .int .i64 0) (p9 := .slice none 0 0) z3.out)
    have kq := Lib.hid (ts10 (p0 := .int .u8 5) (p1 := .int .u16 E) (p2 := .int .u64 0) (p3 := .int .u64 0) (p4 := .int .u64 0) (p5 := .int .u64 0) (p6 := .int .u64 0) (p7 := .bool false) (p8 := .int .i64 0) (p9 := .slice none 0 0) (X := w.heap.size + 3) kz.out (.inl (show w.heap.size ≤ w.heap.size + 3 by omega)))
    have z5 := Lib.hid ((tch_blk (Q := fun k => k = w.heap.size + 3) (ts10 (p0 := .int .u8 5) (p1 := .int .u16 E) (p2 := .int .u64 0) (p3 := .int .u64 0) (p4 := .int .u64 0) (p5 := .int .u64 0) (p6 := .int .u64 0) (p7 := .bool false) (p8 := .int .i64 0) (p9 := .slice none 0 0) (X := w.heap.size + 3) (Tch.refl (fun k => k = w.heap.size + 3) V) (.inl rfl)) z2.out (show ¬ (w.heap.size + 2 = w.heap.size + 3) by omega)))
    revert z4 kq z5
    generalize World.setCell _ ⟨w.heap.size + 3, 9, none⟩ _ = V9
    intro z4 kq z5
    obtain ⟨q0, q1, q2, q3, q4, q5, q6, q7, q8, q9, _⟩ := blk10 z4.out
    obtain ⟨v0, v1, v2, _⟩ := blk3 z5.out
    go_wp2
    refine bodyPost_ret (v := .tuple #[rtv m c (.slice A n0 cap), An.v ⟨5, E, 0, 0, 0, 0, 0, false⟩]) ?_ rfl ⟨rfl, tch_below k2.out kq.out (Nat.le_refl _) (fun k hk hq => by omega)⟩
    simp [results, Tryz.results55, go_sem, q0, q1, q2, q3, q4, q5, q6, q7, q8, q9, v0, v1, v2]
end Go.Proofs.YtbejkcdaefkibaaGreat.Wd


namespace Go.Proofs.YtbejkcdaefkibaaGreat.Wd
open Go Go.RowKit Go.Deep Go.Shelf
set_option linter.unusedVariables false
set_option maxRecDepth 100000
abbrev zan : Array Value := #[.int .u8 0, .int .u16 0, .int .u64 0, .int .u64 0, .int .u64 0, .int .u64 0, .int .u64 0, .bool false, .int .i64 0, .slice none 0 0]
theorem bset_one {w : World} {X : Nat} {m c : Int} {v : Value} {t : TypeId} (h : Blk w X (rcs m c v) t) (u : Value) : Blk (w.setCell ⟨X, 2, none⟩ u) X (rcs m c u) t := h.set 2 u
def OffV (u : Value) (Q : Nat → Prop) : Prop := ∀ b n cap, u = .slice (some ⟨b, 0, none⟩) n cap → ¬ Q b
theorem own_off {Q : Nat → Prop} {w w' : World} {base : Nat} {u : Value} {xs : List Sl} (h : OwS w base u xs) (g : Tch Q w w') (hQ : OffV u Q) : OwS w' base u xs := by
  refine ⟨h.1, ?_⟩
  rcases h.2 with hn | ⟨b, cap, cur, rfl, hb, hgg, rest⟩
  · exact .inl hn
  · exact .inr ⟨b, cap, cur, rfl, hb, (g.block b (heap_lt hgg) (hQ b _ _ rfl)).trans hgg, rest⟩
theorem own_at {w : World} {base Y : Nat} {u : Value} {xs : List Sl} (h : OwS w base u xs) (hY : w.heap.size ≤ Y) : OffV u (fun k => k = Y) := by
  intro b n cap e x
  rcases h.2 with ⟨hn, _⟩ | ⟨g, cap', cur, hv, hb, hgg, rest⟩
  · rw [hn] at e; cases e
  · rw [hv] at e
    have := heap_lt hgg
    injection e with e1
    injection e1 with e1
    injection e1 with e1
    omega
structure Ch (w wx : World) (base : Nat) (m c : Int) (u : Value) (S : List Sl) (r : Rl) : Prop where
  t : Blk wx w.heap.size (rcs m c u) Trf
  r : Blk wx (w.heap.size + 1) #[.string r.p, .int .u64 r.e, .int .u64 r.b, .int .u8 r.k] 79
  p : Blk wx (w.heap.size + 2) #[.int .i64 0, .int .u64 0, .slice none 0 0] Trf
  a : Blk wx (w.heap.size + 3) zan 57
  o : OwS wx base u S
  k : Below w.heap.size w wx
  z : w.heap.size + 4 ≤ base
  y : base ≤ wx.heap.size
theorem Ch.below {w wx wy : World} {base : Nat} {m c : Int} {u : Value} {S : List Sl} {r : Rl} (h : Ch w wx base m c u S r) (g : Below wx.heap.size wx wy) : Ch w wy base m c u S r :=
  ⟨h.t.below g, h.r.below g, h.p.below g, h.a.below g, own_below h.o g, kbq h.k g, h.z, Nat.le_trans h.y g.size⟩
theorem Ch.drew {w wx wy : World} {base : Nat} {m c : Int} {u : Value} {S : List Sl} {r : Rl} (h : Ch w wx base m c u S r) (g : Drew wx wy) : Ch w wy base m c u S r := h.below (g.lo (Nat.le_refl _))
theorem Ch.dr {w wx : World} {base : Nat} {m c : Int} {u : Value} {S : List Sl} {r : Rl} (h : Ch w wx base m c u S r) : Ch w wx.drew base m c u S r := h.drew ⟨1, rfl⟩
theorem Ch.alloc {w wx : World} {base : Nat} {m c : Int} {u : Value} {S : List Sl} {r : Rl} (h : Ch w wx base m c u S r) (o : Obj) : Ch w (wx.alloc o) base m c u S r := h.below ((Below.refl _ wx).alloc (Nat.le_refl _) o)
theorem Ch.off {w wx : World} {base : Nat} {m c : Int} {u : Value} {S : List Sl} {r : Rl} (h : Ch w wx base m c u S r) {Y i : Nat} (v : Value) (hY : w.heap.size + 4 ≤ Y) (hu : OffV u (fun k => k = Y)) : Ch w (wx.setCell ⟨Y, i, none⟩ v) base m c u S r :=
  ⟨h.t.other _ _ (by omega), h.r.other _ _ (by omega), h.p.other _ _ (by omega), h.a.other _ _ (by omega), own_off (Q := fun k => k = Y) h.o (tset (Tch.refl _ _) (.inl rfl)) hu, h.k.setCell (p := ⟨Y, i, none⟩) (show w.heap.size ≤ Y by omega) v, h.z, by simpa using h.y⟩
theorem Ch.put {w wx : World} {base base' : Nat} {m c : Int} {u u' : Value} {S S' : List Sl} {r : Rl} (h : Ch w wx base m c u S r) (o : OwS wx base' u' S') (hb : base ≤ base') : Ch w (wx.setCell ⟨w.heap.size, 2, none⟩ u') base m c u' S' r := by
  have hz := h.z
  exact ⟨bset_one h.t u', h.r.other _ _ (by omega), h.p.other _ _ (by omega), h.a.other _ _ (by omega), own_base hb (own_tch o (tset (Tch.refl (fun k => k = w.heap.size) _) (.inl rfl)) (fun k h1 _ e => by omega)), h.k.setCell (p := ⟨w.heap.size, 2, none⟩) (Nat.le_refl _) u', hz, by simpa using h.y⟩
theorem Ch.lt {w wx : World} {base : Nat} {m c : Int} {u : Value} {S : List Sl} {r : Rl} (h : Ch w wx base m c u S r) : w.heap.size + 4 ≤ wx.heap.size := h.a.lt
structure Fin3 (w V : World) (base : Nat) (m c : Int) (u : Value) (S : List Sl) : Prop where
  p : Blk V (w.heap.size + 2) (rcs m c u) Trf
  a : Blk V (w.heap.size + 3) zan 57
  o : OwS V base u S
  k : Below w.heap.size w V
  z : w.heap.size + 4 ≤ base
structure Fin10 (w V : World) (m c : Int) (u : Value) (S : List Sl) (an : An) : Prop where
  p : Blk V (w.heap.size + 2) (rcs m c u) Trf
  a : Blk V (w.heap.size + 3) an.cs 57
  o : OwS V w.heap.size u S
  k : Below w.heap.size w V
theorem Ch.res3 {w wx : World} {base : Nat} {m c : Int} {u : Value} {S : List Sl} {r : Rl} (h : Ch w wx base m c u S r) : Fin3 w (((wx.setCell ⟨w.heap.size + 2, 0, none⟩ (.int .i64 m)).setCell ⟨w.heap.size + 2, 1, none⟩ (.int .u64 c)).setCell ⟨w.heap.size + 2, 2, none⟩ u) base m c u S := by
  have hz := h.z
  have g := ts3 (p0 := .int .i64 m) (p1 := .int .u64 c) (p2 := u) (Tch.refl (fun k => k = w.heap.size + 2) wx) (X := w.heap.size + 2) (.inl rfl)
  exact ⟨bset3 h.p, tch_blk g h.a (show ¬ (w.heap.size + 3 = w.heap.size + 2) by omega), own_tch h.o g (fun k h1 _ e => by omega), tch_below h.k g (Nat.le_refl _) (fun k h1 e => by omega), hz⟩
theorem Fin3.res10 {w V : World} {base : Nat} {m c : Int} {u : Value} {S : List Sl} (h : Fin3 w V base m c u S) (an : An) : Fin10 w ((((((((((V.setCell ⟨w.heap.size + 3, 0, none⟩ (.int .u8 an.code)).setCell ⟨w.heap.size + 3, 1, none⟩ (.int .u16 an.err)).setCell ⟨w.heap.size + 3, 2, none⟩ (.int .u64 an.lim)).setCell ⟨w.heap.size + 3, 3, none⟩ (.int .u64 an.left)).setCell ⟨w.heap.size + 3, 4, none⟩ (.int .u64 an.reset)).setCell ⟨w.heap.size + 3, 5, none⟩ (.int .u64 an.after)).setCell ⟨w.heap.size + 3, 6, none⟩ (.int .u64 an.nanos)).setCell ⟨w.heap.size + 3, 7, none⟩ (.bool an.retry)).setCell ⟨w.heap.size + 3, 8, none⟩ (.int .i64 0)).setCell ⟨w.heap.size + 3, 9, none⟩ (.slice none 0 0)) m c u S an := by
  have hz := h.z
  have g := ts10 (p0 := (.int .u8 an.code)) (p1 := (.int .u16 an.err)) (p2 := (.int .u64 an.lim)) (p3 := (.int .u64 an.left)) (p4 := (.int .u64 an.reset)) (p5 := (.int .u64 an.after)) (p6 := (.int .u64 an.nanos)) (p7 := (.bool an.retry)) (p8 := (.int .i64 0)) (p9 := (.slice none 0 0)) (Tch.refl (fun k => k = w.heap.size + 3) V) (X := w.heap.size + 3) (.inl rfl)
  exact ⟨tch_blk g h.p (show ¬ (w.heap.size + 2 = w.heap.size + 3) by omega), bset10 h.a, own_base (show w.heap.size ≤ base by omega) (own_tch h.o g (fun k h1 _ e => by omega)), tch_below h.k g (Nat.le_refl _) (fun k h1 e => by omega)⟩
theorem Fin10.dr {w V : World} {m c : Int} {u : Value} {S : List Sl} {an : An} (h : Fin10 w V m c u S an) : Fin10 w V.drew m c u S an := ⟨h.p, h.a, own_below h.o (Drew.lo ⟨1, rfl⟩ (Nat.le_refl _)), kbq h.k (Drew.lo ⟨1, rfl⟩ (Nat.le_refl _))⟩
theorem findI_none {k : ByteArray} {l : List Sl} (h : getS l k = none) : findI l k 0 = -1 := by
  rcases find_get (k := k) (l := l) (i := 0) (by omega) with ⟨_, h2⟩ | ⟨j, y, h1, _, _⟩
  · exact h2
  · rw [h] at h1; cases h1
def othB (S : List Sl) (k : ByteArray) (r : Rl) : Bool := match getS S k with
  | some y => !(decide (y.r.e = r.e ∧ y.r.b = r.b))
  | none => false
theorem oth_no {S : List Sl} {k : ByteArray} {r : Rl} (h : othB S k r = false) : dropS S k r = S := by
  unfold othB at h
  unfold dropS
  cases e : getS S k with
  | none => rfl
  | some y =>
    rw [e] at h
    show (if y.r.e = r.e ∧ y.r.b = r.b then S else offS k S) = S
    by_cases z : y.r.e = r.e ∧ y.r.b = r.b
    · rw [if_pos z]
    · have h' : (!(decide (y.r.e = r.e ∧ y.r.b = r.b))) = false := h
      rw [decide_eq_false z] at h'; cases h'
theorem oth_yes {S : List Sl} {k : ByteArray} {r : Rl} (h : othB S k r = true) : dropS S k r = offS k S := by
  unfold othB at h
  unfold dropS
  cases e : getS S k with
  | none => rw [e] at h; cases h
  | some y =>
    rw [e] at h
    show (if y.r.e = r.e ∧ y.r.b = r.b then S else offS k S) = offS k S
    by_cases z : y.r.e = r.e ∧ y.r.b = r.b
    · have h' : (!(decide (y.r.e = r.e ∧ y.r.b = r.b))) = true := h
      rw [decide_eq_true z] at h'; cases h'
    · rw [if_neg z]
theorem dropS_sub {S : List Sl} {k : ByteArray} {r : Rl} {s : Sl} (h : s ∈ dropS S k r) : s ∈ S := by
  unfold dropS at h
  split at h
  · split at h
    · exact h
    · exact (offS_mem.1 h).1
  · exact h
set_option maxHeartbeats 16000000 in
theorem rcharge_ok (m c : Int) (base : Nat) (v : Value) (S : List Sl) (k : ByteArray) (r : Rl) (n : Int) (w : World) (hm : 1 ≤ m ∧ m ≤ 1000000) (hS : OwS w base v S) (hok : ∀ s ∈ S, Oks s) (hk3 : ∀ s ∈ S, Is3 s.k) (hc : U c) (hl : S.length ≤ 1000000000) (hk : k.size ≤ 281474976710656) (hr : Okr r) (hrk : 0 ≤ r.k ∧ r.k ≤ 255) (hn : U n) (h : rtB (lb k) = true) (h0 : ruE r.p r.e r.b r.k = 0) :
    Calls Tryz.prog 55 #[rtv m c v, .string k, r.v, .int .u64 n] w fun e w' => ∃ u, e = .returned (.tuple #[rtv m c u, An.v (chA m c (rsl c S) k r n)]) ∧ OwS w' w.heap.size u (rcN m c S k r n) ∧ Below w.heap.size w w' := by
  have hwk : wkE k r = 0 := by unfold wkE; rw [if_pos h]; exact h0
  have r3 : Is3 r.k := rule_is3 h0
  obtain ⟨A, cap, rfl, hcap, hR, hnil, hspot⟩ := hS.rds
  obtain ⟨n0, hn0⟩ : ∃ x, S.length = x := ⟨_, rfl⟩
  rw [hn0] at hS hcap hR ⊢
  have CK := Lib.hid (fun W => rkright_any k W (by omega))
  have CR := Lib.hid (fun W => refRight_any r.p r.e r.b r.k W (by have := hr.p; omega) hr.e hr.b hrk)
  rw [h] at CK
  rw [h0] at CR
  have CS := Lib.hid (fun W (g : OwS W base (.slice A n0 cap) S) => rslots_any m c (.slice A n0 cap) base S W g hok hc (by omega))
  have HW := Lib.hid hwk
  have HR3 := Lib.hid r3
  have HK3 := Lib.hid hk3
  clear h h0 hwk r3 hk3
  have b0 := Lib.hid (show Blk ((((w.alloc (.cells (rcs m c (.slice A n0 cap)) Trf)).alloc (.cells #[.string r.p, .int .u64 r.e, .int .u64 r.b, .int .u8 r.k] 79)).alloc (.cells #[.int .i64 0, .int .u64 0, .slice none 0 0] Trf)).alloc (.cells #[.int .u8 0, .int .u16 0, .int .u64 0, .int .u64 0, .int .u64 0, .int .u64 0, .int .u64 0, .bool false, .int .i64 0, .slice none 0 0] 57)) (w.heap.size) (rcs m c (.slice A n0 cap)) Trf from ((((Blk.new w (rcs m c (.slice A n0 cap)) Trf).alloc (.cells #[.string r.p, .int .u64 r.e, .int .u64 r.b, .int .u8 r.k] 79)).alloc (.cells #[.int .i64 0, .int .u64 0, .slice none 0 0] Trf)).alloc (.cells #[.int .u8 0, .int .u16 0, .int .u64 0, .int .u64 0, .int .u64 0, .int .u64 0, .int .u64 0, .bool false, .int .i64 0, .slice none 0 0] 57)))
  have b1 := Lib.hid (show Blk ((((w.alloc (.cells (rcs m c (.slice A n0 cap)) Trf)).alloc (.cells #[.string r.p, .int .u64 r.e, .int .u64 r.b, .int .u8 r.k] 79)).alloc (.cells #[.int .i64 0, .int .u64 0, .slice none 0 0] Trf)).alloc (.cells #[.int .u8 0, .int .u16 0, .int .u64 0, .int .u64 0, .int .u64 0, .int .u64 0, .int .u64 0, .bool false, .int .i64 0, .slice none 0 0] 57)) (w.heap.size + 1) #[.string r.p, .int .u64 r.e, .int .u64 r.b, .int .u8 r.k] 79 by have z := (((Blk.new (w.alloc (.cells (rcs m c (.slice A n0 cap)) Trf)) #[.string r.p, .int .u64 r.e, .int .u64 r.b, .int .u8 r.k] 79).alloc (.cells #[.int .i64 0, .int .u64 0, .slice none 0 0] Trf)).alloc (.cells #[.int .u8 0, .int .u16 0, .int .u64 0, .int .u64 0, .int .u64 0, .int .u64 0, .int .u64 0, .bool false, .int .i64 0, .slice none 0 0] 57)); rwa [show (w.alloc (.cells (rcs m c (.slice A n0 cap)) Trf)).heap.size = w.heap.size + 1 by simp] at z)
  have b2 := Lib.hid (show Blk ((((w.alloc (.cells (rcs m c (.slice A n0 cap)) Trf)).alloc (.cells #[.string r.p, .int .u64 r.e, .int .u64 r.b, .int .u8 r.k] 79)).alloc (.cells #[.int .i64 0, .int .u64 0, .slice none 0 0] Trf)).alloc (.cells #[.int .u8 0, .int .u16 0, .int .u64 0, .int .u64 0, .int .u64 0, .int .u64 0, .int .u64 0, .bool false, .int .i64 0, .slice none 0 0] 57)) (w.heap.size + 2) #[.int .i64 0, .int .u64 0, .slice none 0 0] Trf by have z := ((Blk.new ((w.alloc (.cells (rcs m c (.slice A n0 cap)) Trf)).alloc (.cells #[.string r.p, .int .u64 r.e, .int .u64 r.b, .int .u8 r.k] 79)) #[.int .i64 0, .int .u64 0, .slice none 0 0] Trf).alloc (.cells #[.int .u8 0, .int .u16 0, .int .u64 0, .int .u64 0, .int .u64 0, .int .u64 0, .int .u64 0, .bool false, .int .i64 0, .slice none 0 0] 57)); rwa [show ((w.alloc (.cells (rcs m c (.slice A n0 cap)) Trf)).alloc (.cells #[.string r.p, .int .u64 r.e, .int .u64 r.b, .int .u8 r.k] 79)).heap.size = w.heap.size + 2 by simp] at z)
  have b3 := Lib.hid (show Blk ((((w.alloc (.cells (rcs m c (.slice A n0 cap)) Trf)).alloc (.cells #[.string r.p, .int .u64 r.e, .int .u64 r.b, .int .u8 r.k] 79)).alloc (.cells #[.int .i64 0, .int .u64 0, .slice none 0 0] Trf)).alloc (.cells #[.int .u8 0, .int .u16 0, .int .u64 0, .int .u64 0, .int .u64 0, .int .u64 0, .int .u64 0, .bool false, .int .i64 0, .slice none 0 0] 57)) (w.heap.size + 3) #[.int .u8 0, .int .u16 0, .int .u64 0, .int .u64 0, .int .u64 0, .int .u64 0, .int .u64 0, .bool false, .int .i64 0, .slice none 0 0] 57 by have z := (Blk.new (((w.alloc (.cells (rcs m c (.slice A n0 cap)) Trf)).alloc (.cells #[.string r.p, .int .u64 r.e, .int .u64 r.b, .int .u8 r.k] 79)).alloc (.cells #[.int .i64 0, .int .u64 0, .slice none 0 0] Trf)) #[.int .u8 0, .int .u16 0, .int .u64 0, .int .u64 0, .int .u64 0, .int .u64 0, .int .u64 0, .bool false, .int .i64 0, .slice none 0 0] 57); rwa [show (((w.alloc (.cells (rcs m c (.slice A n0 cap)) Trf)).alloc (.cells #[.string r.p, .int .u64 r.e, .int .u64 r.b, .int .u8 r.k] 79)).alloc (.cells #[.int .i64 0, .int .u64 0, .slice none 0 0] Trf)).heap.size = w.heap.size + 3 by simp] at z)
  have k0 := Lib.hid (show Below w.heap.size w ((((w.alloc (.cells (rcs m c (.slice A n0 cap)) Trf)).alloc (.cells #[.string r.p, .int .u64 r.e, .int .u64 r.b, .int .u8 r.k] 79)).alloc (.cells #[.int .i64 0, .int .u64 0, .slice none 0 0] Trf)).alloc (.cells #[.int .u8 0, .int .u16 0, .int .u64 0, .int .u64 0, .int .u64 0, .int .u64 0, .int .u64 0, .bool false, .int .i64 0, .slice none 0 0] 57)) from (((((Below.refl w.heap.size w).alloc (Nat.le_refl _) (.cells (rcs m c (.slice A n0 cap)) Trf)).alloc (by simp) (.cells #[.string r.p, .int .u64 r.e, .int .u64 r.b, .int .u8 r.k] 79)).alloc (by simp; omega) (.cells #[.int .i64 0, .int .u64 0, .slice none 0 0] Trf)).alloc (by simp; omega) (.cells #[.int .u8 0, .int .u16 0, .int .u64 0, .int .u64 0, .int .u64 0, .int .u64 0, .int .u64 0, .bool false, .int .i64 0, .slice none 0 0] 57)))
  have z0 := Lib.hid (show w.heap.size + 4 ≤ ((((w.alloc (.cells (rcs m c (.slice A n0 cap)) Trf)).alloc (.cells #[.string r.p, .int .u64 r.e, .int .u64 r.b, .int .u8 r.k] 79)).alloc (.cells #[.int .i64 0, .int .u64 0, .slice none 0 0] Trf)).alloc (.cells #[.int .u8 0, .int .u16 0, .int .u64 0, .int .u64 0, .int .u64 0, .int .u64 0, .int .u64 0, .bool false, .int .i64 0, .slice none 0 0] 57)).heap.size by simp)
  have HS := Lib.hid (own_below hS k0.out)
  clear hR hnil hspot hS
  go_enter Tryz.func55, Tryz.ntmps55
  go_wp2_with fail
  generalize ((((w.alloc (.cells (rcs m c (.slice A n0 cap)) Trf)).alloc (.cells #[.string r.p, .int .u64 r.e, .int .u64 r.b, .int .u8 r.k] 79)).alloc (.cells #[.int .i64 0, .int .u64 0, .slice none 0 0] Trf)).alloc (.cells #[.int .u8 0, .int .u16 0, .int .u64 0, .int .u64 0, .int .u64 0, .int .u64 0, .int .u64 0, .bool false, .int .i64 0, .slice none 0 0] 57)) = W at *
  obtain ⟨r0, r1, r2, r3, _⟩ := blk4 b1.out
  go_wp2_with (first
    | (go_at_call 87; ((with_reducible refine (CK.out _).mono ?_); rintro e w1 ⟨rfl, rfl⟩))
    | (go_at_call 90; ((with_reducible refine (CR.out _).mono ?_); rintro e w1 ⟨rfl, _, g⟩; refine stopHere ?_)))
  unfold Stop
  have c0 := Lib.hid (b0.out.below g)
  have c1 := Lib.hid (b1.out.below g)
  have c2 := Lib.hid (b2.out.below g)
  have c3 := Lib.hid (b3.out.below g)
  have k1 := Lib.hid (kbq k0.out g)
  have HS1 := Lib.hid (own_below HS.out g)
  have z1 := Lib.hid (show w.heap.size + 4 ≤ w1.heap.size by have := z0.out; have := g.size; omega)
  clear b0 b1 b2 b3 k0 g r0 r1 r2 r3 z0 HS CR CK
  obtain ⟨t0, t1, t2, _⟩ := blk3 c0.out
  go_wp2_with (go_at_call 51; (refine (CS.out _ HS1.out).mono ?_; rintro e w2 ⟨u, rfl, O2, g⟩; refine stopHere ?_))
  unfold Stop
  have d0 := Lib.hid (c0.out.below g)
  have hw1 := z1.out
  have hw2 := g.size
  have HV := Lib.hid (Ch.mk (w := w) (base := w1.heap.size) (m := m) (c := c) (r := r) (bset_one (c0.out.below g) u) ((c1.out.below g).other (c := w.heap.size) 2 u (by omega)) ((c2.out.below g).other (c := w.heap.size) 2 u (by omega)) ((c3.out.below g).other (c := w.heap.size) 2 u (by omega)) (own_tch O2 (tset (i := 2) (v := u) (Tch.refl (fun k => k = w.heap.size) w2) (.inl rfl)) (fun k h1 h2 x => by omega)) ((kbq k1.out g).setCell (p := ⟨w.heap.size, 2, none⟩) (Nat.le_refl _) u) hw1 (by simp; omega))
  have hsz := Lib.hid (show w1.heap.size ≤ (w2.setCell ⟨w.heap.size, 2, none⟩ u).heap.size by simp; omega)
  obtain ⟨A2, cap2, rfl, _⟩ := O2.rds
  clear c0 c1 c2 c3 k1 g t0 t1 t2 z1 HS1 CS O2
  obtain ⟨t0, t1, t2, tf0, tf1, tf2⟩ := blk3 d0.out
  have lenL : (rsl c S).length ≤ 1000000000 := Nat.le_trans (List.length_filter_le _ _) (by omega)
  have CF := Lib.hid (fun W (g : OwS W w1.heap.size (.slice A2 (rsl c S).length cap2) (rsl c S)) => rfind_any _ _ (rsl c S) k W g (by omega))
  go_upto_region 6 with fail
  clear d0 t0 t1 t2 tf0 tf1 tf2
  revert HV hsz
  generalize World.setCell _ ⟨w.heap.size, 2, none⟩ _ = V
  intro HV hsz
  obtain ⟨t0, t1, t2, _⟩ := blk3 HV.out.t
  go_wp2_with (go_at_call 91; (refine (CF.out _ HV.out.o).mono ?_; rintro e w3 ⟨rfl, rfl⟩; refine stopHere ?_))
  unfold Stop
  go_upto_region 7 with fail
  obtain ⟨r0, r1, r2, r3, _⟩ := blk4 HV.out.r
  obtain ⟨I, hI⟩ : ∃ I, findI (rsl c S) k 0 = I := ⟨_, rfl⟩
  rw [hI]
  have HI := Lib.hid hI
  clear hI
  go_cut [65] from 40 to 64 (fun a wx => a = .bool (othB (rsl c S) k r) ∧ Hid (Ch w wx w1.heap.size m c (.slice A2 (rsl c S).length cap2) (rsl c S) r) ∧ Hid (w1.heap.size ≤ wx.heap.size))
  case first =>
    rcases find_get (k := k) (l := rsl c S) (i := 0) (by omega) with ⟨g1, g2⟩ | ⟨j, y, g1, g2, g3⟩
    · have hd : Hid (othB (rsl c S) k r = false) := Lib.hid (by unfold othB; rw [g1])
      have gI := HI.out.symm.trans g2
      subst gI
      clear g1 g2 HI
      go_wp2_with fail
      go_quiet (fail)
      go_wp2
      go_meet
      case rel => exact ⟨by rw [hd.out], Lib.hid (HV.out.drew (Drew.of _ _)), Lib.hid (Nat.le_trans hsz.out (Drew.lo (Drew.of _ _) (Nat.le_refl _)).size)⟩
    · obtain ⟨A3, cap3, hv3, _, _, hrow⟩ := HV.out.o.form
      simp only [Value.slice.injEq] at hv3
      obtain ⟨rfl, _, rfl⟩ := hv3
      have hj : j < (rsl c S).length := by
        by_cases q : j < (rsl c S).length
        · exact q
        · rw [List.getElem?_eq_none (by omega)] at g3; cases g3
      obtain ⟨b, rfl, _, hb, hc8⟩ := hrow (by omega)
      have hy : atS (rsl c S) j = y := by simp [atS, List.getD, g3]
      obtain ⟨x0, x1, x2, x3, x4, x5, x6, x7⟩ := (hc8 j hj).eight
      rw [hy] at x0 x1 x2 x3 x4 x5 x6 x7
      have hd : Hid (othB (rsl c S) k r = !(decide (y.r.e = r.e ∧ y.r.b = r.b))) := Lib.hid (by unfold othB; rw [g1])
      rw [Int.zero_add] at g2
      have gI := HI.out.symm.trans g2
      subst gI
      clear g1 g2 g3 hc8 hrow hy HI
      by_cases q1 : y.r.e = r.e
      · by_cases q2 : y.r.b = r.b
        · have p1 : (y.r.e != r.e) = false := by rw [q1]; simp
          have p2 : (y.r.b != r.b) = false := by rw [q2]; simp
          have HD : Hid (othB (rsl c S) k r = false) := Lib.hid (hd.out.trans (by rw [decide_eq_true ⟨q1, q2⟩]; rfl))
          clear q1 q2 hd
          go_wp2_with fail
          go_quiet (fail)
          go_wp2
          go_meet
          case rel => exact ⟨by rw [HD.out], Lib.hid (HV.out.drew (Drew.of _ _)), Lib.hid (Nat.le_trans hsz.out (Drew.lo (Drew.of _ _) (Nat.le_refl _)).size)⟩
        · have p1 : (y.r.e != r.e) = false := by rw [q1]; simp
          have p2 : (y.r.b != r.b) = true := by simpa using q2
          have HD : Hid (othB (rsl c S) k r = true) := Lib.hid (hd.out.trans (by rw [decide_eq_false (fun x => q2 x.2)]; rfl))
          have p3 : (y.r.b == r.b) = false := by simpa using q2
          clear hd
          go_wp2_with fail
          go_quiet (fail)
          go_wp2
          go_meet
          case rel => exact ⟨by rw [HD.out], Lib.hid (HV.out.drew (Drew.of _ _)), Lib.hid (Nat.le_trans hsz.out (Drew.lo (Drew.of _ _) (Nat.le_refl _)).size)⟩
      · have p1 : (y.r.e != r.e) = true := by simpa using q1
        have HD : Hid (othB (rsl c S) k r = true) := Lib.hid (hd.out.trans (by rw [decide_eq_false (fun x => q1 x.1)]; rfl))
        have p3 : (y.r.e == r.e) = false := by simpa using q1
        clear hd
        go_wp2_with fail
        go_quiet (fail)
        go_wp2
        go_meet
        case rel => exact ⟨by rw [HD.out], Lib.hid (HV.out.drew (Drew.of _ _)), Lib.hid (Nat.le_trans hsz.out (Drew.lo (Drew.of _ _) (Nat.le_refl _)).size)⟩
  case rest =>
  obtain ⟨rfl, HC, hsw⟩ := hcut
  have CW := Lib.hid (fun W (g : OwS W w1.heap.size (.slice A2 (rsl c S).length cap2) (rsl c S)) => rwithout_any _ _ (rsl c S) k W g (by omega))
  clear HV t0 t1 t2 r0 r1 r2 r3 CF hsz
  obtain ⟨tt, htt⟩ : ∃ tt, othB (rsl c S) k r = tt := ⟨_, rfl⟩
  rw [htt]
  have HT := Lib.hid htt
  clear htt
  go_upto_if 65 with fail
  go_cut [10] from 66 to 70 (fun a wx => a = .int .i64 (findI (dropS (rsl c S) k r) k 0) ∧ ∃ u, Hid (Ch w wx w1.heap.size m c u (dropS (rsl c S) k r) r))
  case first =>
    cases tt
    · have hd := Lib.hid (oth_no HT.out)
      go_wp2
      go_meet
      case rel => exact ⟨by rw [hd.out, HI.out], _, Lib.hid (by rw [hd.out]; exact HC.out)⟩
    · have hd := Lib.hid (oth_yes HT.out)
      obtain ⟨t0, t1, t2, tf0, tf1, tf2⟩ := blk3 HC.out.t
      go_wp2_with (go_at_call 92; (refine (CW.out _ HC.out.o).mono ?_; rintro e w4 ⟨u4, rfl, O4, g⟩; refine stopHere ?_))
      unfold Stop
      obtain ⟨A4, cap4, rfl, _⟩ := O4.rds
      have HD := Lib.hid (((HC.out.below g).put O4 hsw.out))
      have H4 := HC.out.below g
      clear t0 t1 t2 tf0 tf1 tf2
      obtain ⟨t0, t1, t2, tf0, tf1, tf2⟩ := blk3 H4.t
      clear H4 HC
      go_wp2
      go_meet
      case rel => exact ⟨by rw [hd.out, findI_none (getS_off _ _)], _, Lib.hid (by rw [hd.out]; exact HD.out)⟩
  case rest =>
  obtain ⟨rfl, u, HC⟩ := hcut
  obtain ⟨S1, hS1⟩ : ∃ S1, dropS (rsl c S) k r = S1 := ⟨_, rfl⟩
  have HA0 : Hid (chA m c (rsl c S) k r n = if fullB m S1 k = true then ⟨3, 0, r.b, 0, 0, 0, 0, false⟩ else decA c r (stOf c r (getS S1 k)) n) := Lib.hid (by unfold chA; rw [if_pos HW.out, hS1])
  have HN0 : Hid (rcN m c S k r n = if fullB m S1 k = true then S1 else if stIn c r (stOf c r (getS S1 k)) n = true then insS (offS k S1) (slOf k r (stNx c r (stOf c r (getS S1 k)) n)) else S1) := Lib.hid (by unfold rcN; rw [if_pos HW.out, hS1])
  have len1 : S1.length ≤ 1000000000 := by rw [← hS1]; exact Nat.le_trans (dropS_len _ _ _) lenL
  have OK1 : Hid (∀ s ∈ S1, Oks s ∧ Is3 s.k) := Lib.hid (by
    intro s hs
    rw [← hS1] at hs
    have := (rsl_mem.1 (dropS_sub hs)).1
    exact ⟨hok s this, HK3.out s this⟩)
  rw [hS1] at HC ⊢
  clear hS1 HT
  obtain ⟨J, hJ⟩ : ∃ J, findI S1 k 0 = J := ⟨_, rfl⟩
  rw [hJ]
  have HJ := Lib.hid hJ
  clear hJ
  obtain ⟨A5, cap5, rfl, hcap5, _⟩ := HC.out.o.rds
  obtain ⟨t0, t1, t2, tf0, tf1, tf2⟩ := blk3 HC.out.t
  go_upto_region 10 with fail
  go_cut [80] from 71 to 79 (fun a wx => a = .bool (fullB m S1 k) ∧ wx = wc)
  case first =>
    rcases find_get (k := k) (l := S1) (i := 0) (by omega) with ⟨g1, g2⟩ | ⟨j, y, g1, g2, g3⟩
    · have gJ := HJ.out.symm.trans g2
      subst gJ
      by_cases hf : m ≤ (S1.length : Int)
      · have hq := decide_eq_true hf
        have HF : Hid (fullB m S1 k = true) := Lib.hid (by unfold fullB; rw [g1]; simpa using hf)
        clear g1 g2 HJ
        go_wp2
        go_meet
        case rel => exact ⟨by rw [HF.out], rfl⟩
      · have hq := decide_eq_false hf
        have HF : Hid (fullB m S1 k = false) := Lib.hid (by unfold fullB; rw [g1]; simpa using hf)
        clear g1 g2 HJ
        go_wp2
        go_meet
        case rel => exact ⟨by rw [HF.out], rfl⟩
    · rw [Int.zero_add] at g2
      have gJ := HJ.out.symm.trans g2
      subst gJ
      have HF : Hid (fullB m S1 k = false) := Lib.hid (by unfold fullB; rw [g1]; rfl)
      clear g1 g2 g3 HJ
      go_wp2
      go_meet
      case rel => exact ⟨by rw [HF.out], rfl⟩
  case rest =>
  obtain ⟨rfl, rfl⟩ := hcut
  obtain ⟨ff, hff⟩ : ∃ ff, fullB m S1 k = ff := ⟨_, rfl⟩
  rw [hff]
  have HF := Lib.hid hff
  clear hff
  cases ff
  · have HA := Lib.hid (HA0.out.trans (by rw [if_neg (by rw [HF.out]; decide)]))
    have HN := Lib.hid (HN0.out.trans (by rw [if_neg (by rw [HF.out]; decide)]))
    clear HA0 HN0 HF t0 t1 t2 tf0 tf1 tf2
    have CC := Lib.hid (fun W => refCap_any r.p r.e r.b r.k W (by have := hr.p; omega) hr.e hr.b hrk)
    have CO := Lib.hid (fun W => krof_any r.k c (capR r) 0 W hc (capR_U hr) U_zero)
    obtain ⟨t0, t1, t2, _⟩ := blk3 HC.out.t
    obtain ⟨r0, r1, r2, r3, _⟩ := blk4 HC.out.r
    go_wp2_with (go_at_call 72; (refine (CC.out _).mono ?_; rintro e w5 ⟨rfl, _, g⟩; refine stopHere ?_))
    unfold Stop
    have H5 := Lib.hid (HC.out.below g)
    clear HC t0 t1 t2 r0 r1 r2 r3 g CC
    obtain ⟨t0, t1, t2, _⟩ := blk3 H5.out.t
    obtain ⟨r0, r1, r2, r3, _⟩ := blk4 H5.out.r
    go_wp2_with (go_at_call 73; (refine (CO.out _).mono ?_; rintro e w6 ⟨rfl, _, g⟩; refine stopHere ?_))
    unfold Stop
    have H6 := Lib.hid (H5.out.below g)
    clear H5 t0 t1 t2 r0 r1 r2 r3 g CO
    obtain ⟨t0, t1, t2, _⟩ := blk3 H6.out.t
    go_upto_region 14 with fail
    have B7 := Lib.hid (Blk.new w6 #[.int .u8 (koK r.k), .int .u64 (koA r.k c (capR r) 0), .int .u64 (koB r.k c)] 90)
    have H7 := Lib.hid (H6.out.alloc (.cells #[.int .u8 (koK r.k), .int .u64 (koA r.k c (capR r) 0), .int .u64 (koB r.k c)] 90))
    have oY := Lib.hid (own_at H6.out.o (Nat.le_refl _))
    have hY := H6.out.lt
    clear H6 t0 t1 t2
    revert B7 H7
    generalize w6.alloc (.cells #[.int .u8 (koK r.k), .int .u64 (koA r.k c (capR r) 0), .int .u64 (koB r.k c)] 90) = W7
    intro B7 H7
    obtain ⟨Y, hYe⟩ : ∃ Y, w6.heap.size = Y := ⟨_, rfl⟩
    rw [hYe] at B7 oY hY ⊢
    clear hYe
    obtain ⟨t0, t1, t2, _⟩ := blk3 H7.out.t
    go_upto_if 97 with fail
    go_cut [98] from 99 to 103 (fun _ wx => Hid (Ch w wx w1.heap.size m c (.slice A5 S1.length cap5) S1 r) ∧ Hid (Blk wx Y #[.int .u8 (stOf c r (getS S1 k)).k, .int .u64 (stOf c r (getS S1 k)).a, .int .u64 (stOf c r (getS S1 k)).b] 90))
    case first =>
      rcases find_get (k := k) (l := S1) (i := 0) (by omega) with ⟨g1, g2⟩ | ⟨j, y, g1, g2, g3⟩
      · have gJ := HJ.out.symm.trans g2
        subst gJ
        have E := Lib.hid g1
        clear g1 g2 HJ
        go_wp2
        go_meet
        case rel => exact ⟨H7, by rw [E.out]; exact B7⟩
      · obtain ⟨A3, cap3, hv3, _, _, hrow⟩ := H7.out.o.form
        simp only [Value.slice.injEq] at hv3
        obtain ⟨rfl, _, rfl⟩ := hv3
        have hj : j < S1.length := by
          by_cases q : j < S1.length
          · exact q
          · rw [List.getElem?_eq_none (by omega)] at g3; cases g3
        obtain ⟨b, rfl, _, hb, hc8⟩ := hrow (by omega)
        have hy : atS S1 j = y := by simp [atS, List.getD, g3]
        obtain ⟨x0, x1, x2, x3, x4, x5, x6, x7⟩ := (hc8 j hj).eight
        rw [hy] at x0 x1 x2 x3 x4 x5 x6 x7
        rw [Int.zero_add] at g2
        have gJ := HJ.out.symm.trans g2
        subst gJ
        have E := Lib.hid g1
        obtain ⟨y0, y1, y2, yf0, yf1, yf2⟩ := blk3 B7.out
        clear g1 g2 g3 hc8 hrow hy HJ
        go_wp2
        go_meet
        case rel => exact ⟨Lib.hid (((H7.out.off _ hY oY.out).off _ hY oY.out).off _ hY oY.out), by rw [E.out]; exact Lib.hid (bset3 B7.out)⟩
    case rest =>
    obtain ⟨H8, B8⟩ := hcut
    clear H7 B7 t0 t1 t2 HJ
    obtain ⟨st, hst⟩ : ∃ st, stOf c r (getS S1 k) = st := ⟨_, rfl⟩
    have OS : Hid (OkSt st) := Lib.hid (by
      rw [← hst]
      cases e : getS S1 k with
      | none => exact ⟨by show Is3 (koK r.k); rw [koK_is HR3.out]; exact HR3.out, koA_U _ _ _ _ hc (capR_U hr) U_zero, koB_U _ _ hc⟩
      | some s => have := OK1.out s (getS_some e).1; exact ⟨this.2, this.1.a, this.1.b⟩)
    rw [hst] at B8 HA HN
    clear hst
    obtain ⟨wt, hwt⟩ : ∃ wt, wI r n = wt := ⟨_, rfl⟩
    have hwU : U wt := by rw [← hwt]; exact wI_U hr hn
    have CM := Lib.hid (fun W => ref_mul n r.e W hn hr.e)
    rw [show sat (n * r.e) = wt from hwt] at CM
    have CT := Lib.hid (fun W => krwait_any st.k st.a st.b c (capR r) wt W OS.out.a OS.out.b hc (capR_U hr) hwU)
    have CD := Lib.hid (fun W => krdecide_any st.k st.a st.b c (capR r) wt W OS.out.a OS.out.b hc (capR_U hr) hwU)
    obtain ⟨dd, hdd⟩ : ∃ dd, kwI (flT c r st) (capR r) (wI r n) = dd := ⟨_, rfl⟩
    obtain ⟨rt, hrt⟩ : ∃ rt, kwB (flT c r st) (capR r) (wI r n) = rt := ⟨_, rfl⟩
    obtain ⟨nx, hnx⟩ : ∃ nx, stNx c r st n = nx := ⟨_, rfl⟩
    obtain ⟨bi, hbi⟩ : ∃ bi, stIn c r st n = bi := ⟨_, rfl⟩
    have hddU : U dd := by rw [← hdd, hwt]; exact kwI_U _ _ _ (kfI_U _ _ _ _ _ OS.out.a OS.out.b hc (capR_U hr)) (capR_U hr) hwU
    have ON : Hid (OkSt nx) := Lib.hid (by rw [← hnx]; exact (OS.out.next hc hr hn).1)
    have HAin := Lib.hid (fun e : stIn c r st n = true => dec_in OS.out hr hc hn e)
    have HAno := Lib.hid (fun e : stIn c r st n = false => dec_no (c := c) (n := n) (r := r) (s := st) e)
    rw [hdd, hrt] at HAno
    rw [hbi] at HAin HAno HN
    rw [hnx] at HAin HN
    have hx1 : kdK st.k st.a st.b c (capR r) wt = nx.k := by rw [← hnx, ← hwt]; rfl
    have hx2 : kdA st.k st.a st.b c (capR r) wt = nx.a := by rw [← hnx, ← hwt]; rfl
    have hx3 : kdT st.k st.a st.b c (capR r) wt = nx.b := by rw [← hnx, ← hwt]; rfl
    have hx4 : kdB st.k st.a st.b c (capR r) wt = bi := by rw [← hbi, ← hwt]; rfl
    rw [hx1, hx2, hx3, hx4] at CD
    rw [hwt] at hdd hrt
    rw [show kwI (kfI st.k st.a st.b c (capR r)) (capR r) wt = dd from hdd, show kwB (kfI st.k st.a st.b c (capR r)) (capR r) wt = rt from hrt] at CT
    clear hx1 hx2 hx3 hx4 hwt hdd hrt hnx hbi
    obtain ⟨r0, r1, r2, r3, _⟩ := blk4 H8.out.r
    go_wp2_with (go_at_call 93; (refine (CM.out _).mono ?_; rintro e w7 ⟨rfl, rfl⟩; refine stopHere ?_))
    unfold Stop
    clear CM r0 r1 r2 r3
    obtain ⟨t0, t1, t2, _⟩ := blk3 H8.out.t
    obtain ⟨y0, y1, y2, _⟩ := blk3 B8.out
    go_wp2_with (go_at_call 94; (refine (CT.out _).mono ?_; rintro e w8 ⟨rfl, _, g⟩; refine stopHere ?_))
    unfold Stop
    have H9 := Lib.hid (H8.out.below g)
    have B9 := Lib.hid (B8.out.below g)
    clear CT H8 B8 t0 t1 t2 y0 y1 y2 g
    obtain ⟨t0, t1, t2, _⟩ := blk3 H9.out.t
    obtain ⟨y0, y1, y2, _⟩ := blk3 B9.out
    go_wp2_with (go_at_call 95; (refine (CD.out _).mono ?_; rintro e w9 ⟨rfl, _, g⟩; refine stopHere ?_))
    unfold Stop
    have H10 := Lib.hid (H9.out.below g)
    have B10 := Lib.hid (B9.out.below g)
    clear CD H9 B9 t0 t1 t2 y0 y1 y2 g
    go_upto_region 19 with fail
    have BZ := Lib.hid (Blk.new w9 #[.int .u8 nx.k, .int .u64 nx.a, .int .u64 nx.b] 90)
    have H11 := Lib.hid (H10.out.alloc (.cells #[.int .u8 nx.k, .int .u64 nx.a, .int .u64 nx.b] 90))
    have B11 := Lib.hid (B10.out.alloc (.cells #[.int .u8 nx.k, .int .u64 nx.a, .int .u64 nx.b] 90))
    have hZ := H10.out.lt
    clear H10 B10
    revert BZ H11 B11
    generalize w9.alloc (.cells #[.int .u8 nx.k, .int .u64 nx.a, .int .u64 nx.b] 90) = W11
    intro BZ H11 B11
    obtain ⟨Z, hZe⟩ : ∃ Z, w9.heap.size = Z := ⟨_, rfl⟩
    rw [hZe] at BZ hZ ⊢
    clear hZe
    cases bi
    · have HA := Lib.hid (HA.out.trans (HAno.out rfl))
      have HN := Lib.hid (HN.out.trans (by rw [if_neg (by decide)]))
      clear HAin HAno BZ
      have CE := Lib.hid (fun W => ref_ceil dd 1000000000 W hddU (by unfold U; omega))
      cases rt
      · have HA2 : Hid (chA m c (rsl c S) k r n = toldA c r st ⟨2, 0, 0, 0, 0, 0, dd, false⟩) := Lib.hid (HA.out.trans (congrArg (fun x => toldA c r st ⟨2, 0, 0, 0, 0, x, dd, false⟩) (if_neg (by decide))))
        have BX := Lib.hid (Blk.new W11 #[.int .u8 2, .int .u16 0, .int .u64 0, .int .u64 0, .int .u64 0, .int .u64 0, .int .u64 dd, .bool false, .int .i64 0, .slice none 0 0] 57)
        have H13 := Lib.hid (H11.out.alloc (.cells #[.int .u8 2, .int .u16 0, .int .u64 0, .int .u64 0, .int .u64 0, .int .u64 0, .int .u64 dd, .bool false, .int .i64 0, .slice none 0 0] 57))
        have B13 := Lib.hid (B11.out.alloc (.cells #[.int .u8 2, .int .u16 0, .int .u64 0, .int .u64 0, .int .u64 0, .int .u64 0, .int .u64 dd, .bool false, .int .i64 0, .slice none 0 0] 57))
        have hX := H11.out.lt
        go_upto_region 25 with fail
        revert BX H13 B13
        generalize W11.alloc (.cells #[.int .u8 2, .int .u16 0, .int .u64 0, .int .u64 0, .int .u64 0, .int .u64 0, .int .u64 dd, .bool false, .int .i64 0, .slice none 0 0] 57) = W13
        intro BX H13 B13
        obtain ⟨X, hXe⟩ : ∃ X, W11.heap.size = X := ⟨_, rfl⟩
        rw [hXe] at BX hX ⊢
        clear hXe
        obtain ⟨t0, t1, t2, _⟩ := blk3 H13.out.t
        obtain ⟨r0, r1, r2, r3, _⟩ := blk4 H13.out.r
        obtain ⟨y0, y1, y2, _⟩ := blk3 B13.out
        obtain ⟨c0, c1, c2, c3, c4, c5, c6, c7, c8, c9, _⟩ := blk10 BX.out
        have CT := Lib.hid (fun W => rtold_any m c A5 S1.length cap5 ⟨2, 0, 0, 0, 0, 0, dd, false⟩ r st W hc hr hrk OS.out)
        have e2 : w.heap.size ≠ w.heap.size + 2 := by omega
        have e3 : w.heap.size ≠ w.heap.size + 3 := by omega
        have d2 : w.heap.size + 1 ≠ w.heap.size + 2 := by omega
        have d3 : w.heap.size + 1 ≠ w.heap.size + 3 := by omega
        have s2 : Y ≠ w.heap.size + 2 := by omega
        have s3 : Y ≠ w.heap.size + 3 := by omega
        have x2 : X ≠ w.heap.size + 2 := by omega
        have x3 : X ≠ w.heap.size + 3 := by omega
        have kr := Tch.refl (fun k => k = w.heap.size + 2 ∨ k = w.heap.size + 3) W13
        go_region_held3 (fun w' => Tch (fun k => k = w.heap.size + 2 ∨ k = w.heap.size + 3) W13 w' ∧ w'.cell? ⟨w.heap.size, 0, none⟩ = some (.int .i64 m) ∧ w'.cell? ⟨w.heap.size, 1, none⟩ = some (.int .u64 c) ∧ w'.cell? ⟨w.heap.size, 2, none⟩ = some (.slice A5 S1.length cap5) ∧ w'.cell? ⟨w.heap.size + 1, 0, none⟩ = some (.string r.p) ∧ w'.cell? ⟨w.heap.size + 1, 1, none⟩ = some (.int .u64 r.e) ∧ w'.cell? ⟨w.heap.size + 1, 2, none⟩ = some (.int .u64 r.b) ∧ w'.cell? ⟨w.heap.size + 1, 3, none⟩ = some (.int .u8 r.k) ∧ w'.cell? ⟨Y, 0, none⟩ = some (.int .u8 st.k) ∧ w'.cell? ⟨Y, 1, none⟩ = some (.int .u64 st.a) ∧ w'.cell? ⟨Y, 2, none⟩ = some (.int .u64 st.b) ∧ w'.cell? ⟨X, 0, none⟩ = some (.int .u8 2) ∧ w'.cell? ⟨X, 1, none⟩ = some (.int .u16 0) ∧ w'.cell? ⟨X, 2, none⟩ = some (.int .u64 0) ∧ w'.cell? ⟨X, 3, none⟩ = some (.int .u64 0) ∧ w'.cell? ⟨X, 4, none⟩ = some (.int .u64 0) ∧ w'.cell? ⟨X, 5, none⟩ = some (.int .u64 0) ∧ w'.cell? ⟨X, 6, none⟩ = some (.int .u64 dd) ∧ w'.cell? ⟨X, 7, none⟩ = some (.bool false) ∧ w'.cell? ⟨X, 8, none⟩ = some (.int .i64 0) ∧ w'.cell? ⟨X, 9, none⟩ = some (.slice none 0 0))
          (first | with_reducible exact ⟨kr, t0, t1, t2, r0, r1, r2, r3, y0, y1, y2, c0, c1, c2, c3, c4, c5, c6, c7, c8, c9⟩ | with_reducible exact ⟨(td kr), dcell t0, dcell t1, dcell t2, dcell r0, dcell r1, dcell r2, dcell r3, dcell y0, dcell y1, dcell y2, dcell c0, dcell c1, dcell c2, dcell c3, dcell c4, dcell c5, dcell c6, dcell c7, dcell c8, dcell c9⟩ | with_reducible exact ⟨(ts3 kr (.inl (.inl rfl))), sc3 t0 e2, sc3 t1 e2, sc3 t2 e2, sc3 r0 d2, sc3 r1 d2, sc3 r2 d2, sc3 r3 d2, sc3 y0 s2, sc3 y1 s2, sc3 y2 s2, sc3 c0 x2, sc3 c1 x2, sc3 c2 x2, sc3 c3 x2, sc3 c4 x2, sc3 c5 x2, sc3 c6 x2, sc3 c7 x2, sc3 c8 x2, sc3 c9 x2⟩ | with_reducible exact ⟨(ts10 (ts3 kr (.inl (.inl rfl))) (.inl (.inr rfl))), sc10 (sc3 t0 e2) e3, sc10 (sc3 t1 e2) e3, sc10 (sc3 t2 e2) e3, sc10 (sc3 r0 d2) d3, sc10 (sc3 r1 d2) d3, sc10 (sc3 r2 d2) d3, sc10 (sc3 r3 d2) d3, sc10 (sc3 y0 s2) s3, sc10 (sc3 y1 s2) s3, sc10 (sc3 y2 s2) s3, sc10 (sc3 c0 x2) x3, sc10 (sc3 c1 x2) x3, sc10 (sc3 c2 x2) x3, sc10 (sc3 c3 x2) x3, sc10 (sc3 c4 x2) x3, sc10 (sc3 c5 x2) x3, sc10 (sc3 c6 x2) x3, sc10 (sc3 c7 x2) x3, sc10 (sc3 c8 x2) x3, sc10 (sc3 c9 x2) x3⟩)
          (first | (go_at_call 97; ((with_reducible refine (CT.out _).mono ?_); rintro r w14 ⟨rfl, g⟩; have D : Hid (Ch w w14 _ _ _ _ _ _) := Lib.hid (by first | exact H13.out.dr.below g | exact H13.out.below g); (first | with_reducible (replace kr := tb kr g; replace t0 := celln g t0; replace t1 := celln g t1; replace t2 := celln g t2; replace r0 := celln g r0; replace r1 := celln g r1; replace r2 := celln g r2; replace r3 := celln g r3; replace y0 := celln g y0; replace y1 := celln g y1; replace y2 := celln g y2; replace c0 := celln g c0; replace c1 := celln g c1; replace c2 := celln g c2; replace c3 := celln g c3; replace c4 := celln g c4; replace c5 := celln g c5; replace c6 := celln g c6; replace c7 := celln g c7; replace c8 := celln g c8; replace c9 := celln g c9) | with_reducible (replace kr := tb (td kr) g; replace t0 := celln g (dcell t0); replace t1 := celln g (dcell t1); replace t2 := celln g (dcell t2); replace r0 := celln g (dcell r0); replace r1 := celln g (dcell r1); replace r2 := celln g (dcell r2); replace r3 := celln g (dcell r3); replace y0 := celln g (dcell y0); replace y1 := celln g (dcell y1); replace y2 := celln g (dcell y2); replace c0 := celln g (dcell c0); replace c1 := celln g (dcell c1); replace c2 := celln g (dcell c2); replace c3 := celln g (dcell c3); replace c4 := celln g (dcell c4); replace c5 := celln g (dcell c5); replace c6 := celln g (dcell c6); replace c7 := celln g (dcell c7); replace c8 := celln g (dcell c8); replace c9 := celln g (dcell c9))); clear g; obtain ⟨u0, u1, u2, uf0, uf1, uf2⟩ := blk3 D.out.p; obtain ⟨a0, a1, a2, a3, a4, a5, a6, a7, a8, a9, f0, f1, f2, f3, f4, f5, f6, f7, f8, f9⟩ := blk10 D.out.a)))
        all_goals
          have z3 := Lib.hid D.out.res3
          clear u0 u1 u2 uf0 uf1 uf2 a0 a1 a2 a3 a4 a5 a6 a7 a8 a9 f0 f1 f2 f3 f4 f5 f6 f7 f8 f9 D
          revert z3
          generalize World.setCell _ ⟨w.heap.size + 2, 2, none⟩ _ = V
          intro z3
          have z4 := Lib.hid (z3.out.res10 (toldA c r st ⟨2, 0, 0, 0, 0, 0, dd, false⟩))
          clear z3
          revert z4
          generalize World.setCell _ ⟨w.heap.size + 3, 9, none⟩ _ = V9
          intro z4
          obtain ⟨q0, q1, q2, q3, q4, q5, q6, q7, q8, q9, _⟩ := blk10 z4.out.a
          obtain ⟨v0, v1, v2, _⟩ := blk3 z4.out.p
          go_wp2
          refine bodyPost_ret (v := .tuple #[rtv m c (.slice A5 S1.length cap5), An.v (toldA c r st ⟨2, 0, 0, 0, 0, 0, dd, false⟩)]) ?_ rfl ⟨(.slice A5 S1.length cap5), by rw [HA2.out], by rw [HN.out]; exact z4.out.o, z4.out.k⟩
          simp [results, Tryz.results55, go_sem, q0, q1, q2, q3, q4, q5, q6, q7, q8, q9, v0, v1, v2]
      · have HA2 : Hid (chA m c (rsl c S) k r n = toldA c r st ⟨2, 0, 0, 0, 0, clI dd 1000000000, dd, true⟩) := Lib.hid (HA.out.trans (congrArg (fun x => toldA c r st ⟨2, 0, 0, 0, 0, x, dd, true⟩) (if_pos rfl)))
        have BX := Lib.hid (Blk.new W11 #[.int .u8 2, .int .u16 0, .int .u64 0, .int .u64 0, .int .u64 0, .int .u64 (clI dd 1000000000), .int .u64 dd, .bool true, .int .i64 0, .slice none 0 0] 57)
        have H13 := Lib.hid (H11.out.alloc (.cells #[.int .u8 2, .int .u16 0, .int .u64 0, .int .u64 0, .int .u64 0, .int .u64 (clI dd 1000000000), .int .u64 dd, .bool true, .int .i64 0, .slice none 0 0] 57))
        have B13 := Lib.hid (B11.out.alloc (.cells #[.int .u8 2, .int .u16 0, .int .u64 0, .int .u64 0, .int .u64 0, .int .u64 (clI dd 1000000000), .int .u64 dd, .bool true, .int .i64 0, .slice none 0 0] 57))
        have hX := H11.out.lt
        go_upto_region 25 with (go_at_call 98; (refine (CE.out _).mono ?_; rintro e w12 ⟨rfl, rfl⟩))
        revert BX H13 B13
        generalize W11.alloc (.cells #[.int .u8 2, .int .u16 0, .int .u64 0, .int .u64 0, .int .u64 0, .int .u64 (clI dd 1000000000), .int .u64 dd, .bool true, .int .i64 0, .slice none 0 0] 57) = W13
        intro BX H13 B13
        obtain ⟨X, hXe⟩ : ∃ X, W11.heap.size = X := ⟨_, rfl⟩
        rw [hXe] at BX hX ⊢
        clear hXe
        obtain ⟨t0, t1, t2, _⟩ := blk3 H13.out.t
        obtain ⟨r0, r1, r2, r3, _⟩ := blk4 H13.out.r
        obtain ⟨y0, y1, y2, _⟩ := blk3 B13.out
        obtain ⟨c0, c1, c2, c3, c4, c5, c6, c7, c8, c9, _⟩ := blk10 BX.out
        have CT := Lib.hid (fun W => rtold_any m c A5 S1.length cap5 ⟨2, 0, 0, 0, 0, (clI dd 1000000000), dd, true⟩ r st W hc hr hrk OS.out)
        have e2 : w.heap.size ≠ w.heap.size + 2 := by omega
        have e3 : w.heap.size ≠ w.heap.size + 3 := by omega
        have d2 : w.heap.size + 1 ≠ w.heap.size + 2 := by omega
        have d3 : w.heap.size + 1 ≠ w.heap.size + 3 := by omega
        have s2 : Y ≠ w.heap.size + 2 := by omega
        have s3 : Y ≠ w.heap.size + 3 := by omega
        have x2 : X ≠ w.heap.size + 2 := by omega
        have x3 : X ≠ w.heap.size + 3 := by omega
        have kr := Tch.refl (fun k => k = w.heap.size + 2 ∨ k = w.heap.size + 3) W13
        go_region_held3 (fun w' => Tch (fun k => k = w.heap.size + 2 ∨ k = w.heap.size + 3) W13 w' ∧ w'.cell? ⟨w.heap.size, 0, none⟩ = some (.int .i64 m) ∧ w'.cell? ⟨w.heap.size, 1, none⟩ = some (.int .u64 c) ∧ w'.cell? ⟨w.heap.size, 2, none⟩ = some (.slice A5 S1.length cap5) ∧ w'.cell? ⟨w.heap.size + 1, 0, none⟩ = some (.string r.p) ∧ w'.cell? ⟨w.heap.size + 1, 1, none⟩ = some (.int .u64 r.e) ∧ w'.cell? ⟨w.heap.size + 1, 2, none⟩ = some (.int .u64 r.b) ∧ w'.cell? ⟨w.heap.size + 1, 3, none⟩ = some (.int .u8 r.k) ∧ w'.cell? ⟨Y, 0, none⟩ = some (.int .u8 st.k) ∧ w'.cell? ⟨Y, 1, none⟩ = some (.int .u64 st.a) ∧ w'.cell? ⟨Y, 2, none⟩ = some (.int .u64 st.b) ∧ w'.cell? ⟨X, 0, none⟩ = some (.int .u8 2) ∧ w'.cell? ⟨X, 1, none⟩ = some (.int .u16 0) ∧ w'.cell? ⟨X, 2, none⟩ = some (.int .u64 0) ∧ w'.cell? ⟨X, 3, none⟩ = some (.int .u64 0) ∧ w'.cell? ⟨X, 4, none⟩ = some (.int .u64 0) ∧ w'.cell? ⟨X, 5, none⟩ = some (.int .u64 (clI dd 1000000000)) ∧ w'.cell? ⟨X, 6, none⟩ = some (.int .u64 dd) ∧ w'.cell? ⟨X, 7, none⟩ = some (.bool true) ∧ w'.cell? ⟨X, 8, none⟩ = some (.int .i64 0) ∧ w'.cell? ⟨X, 9, none⟩ = some (.slice none 0 0))
          (first | with_reducible exact ⟨kr, t0, t1, t2, r0, r1, r2, r3, y0, y1, y2, c0, c1, c2, c3, c4, c5, c6, c7, c8, c9⟩ | with_reducible exact ⟨(td kr), dcell t0, dcell t1, dcell t2, dcell r0, dcell r1, dcell r2, dcell r3, dcell y0, dcell y1, dcell y2, dcell c0, dcell c1, dcell c2, dcell c3, dcell c4, dcell c5, dcell c6, dcell c7, dcell c8, dcell c9⟩ | with_reducible exact ⟨(ts3 kr (.inl (.inl rfl))), sc3 t0 e2, sc3 t1 e2, sc3 t2 e2, sc3 r0 d2, sc3 r1 d2, sc3 r2 d2, sc3 r3 d2, sc3 y0 s2, sc3 y1 s2, sc3 y2 s2, sc3 c0 x2, sc3 c1 x2, sc3 c2 x2, sc3 c3 x2, sc3 c4 x2, sc3 c5 x2, sc3 c6 x2, sc3 c7 x2, sc3 c8 x2, sc3 c9 x2⟩ | with_reducible exact ⟨(ts10 (ts3 kr (.inl (.inl rfl))) (.inl (.inr rfl))), sc10 (sc3 t0 e2) e3, sc10 (sc3 t1 e2) e3, sc10 (sc3 t2 e2) e3, sc10 (sc3 r0 d2) d3, sc10 (sc3 r1 d2) d3, sc10 (sc3 r2 d2) d3, sc10 (sc3 r3 d2) d3, sc10 (sc3 y0 s2) s3, sc10 (sc3 y1 s2) s3, sc10 (sc3 y2 s2) s3, sc10 (sc3 c0 x2) x3, sc10 (sc3 c1 x2) x3, sc10 (sc3 c2 x2) x3, sc10 (sc3 c3 x2) x3, sc10 (sc3 c4 x2) x3, sc10 (sc3 c5 x2) x3, sc10 (sc3 c6 x2) x3, sc10 (sc3 c7 x2) x3, sc10 (sc3 c8 x2) x3, sc10 (sc3 c9 x2) x3⟩)
          (first | (go_at_call 97; ((with_reducible refine (CT.out _).mono ?_); rintro r w14 ⟨rfl, g⟩; have D : Hid (Ch w w14 _ _ _ _ _ _) := Lib.hid (by first | exact H13.out.dr.below g | exact H13.out.below g); (first | with_reducible (replace kr := tb kr g; replace t0 := celln g t0; replace t1 := celln g t1; replace t2 := celln g t2; replace r0 := celln g r0; replace r1 := celln g r1; replace r2 := celln g r2; replace r3 := celln g r3; replace y0 := celln g y0; replace y1 := celln g y1; replace y2 := celln g y2; replace c0 := celln g c0; replace c1 := celln g c1; replace c2 := celln g c2; replace c3 := celln g c3; replace c4 := celln g c4; replace c5 := celln g c5; replace c6 := celln g c6; replace c7 := celln g c7; replace c8 := celln g c8; replace c9 := celln g c9) | with_reducible (replace kr := tb (td kr) g; replace t0 := celln g (dcell t0); replace t1 := celln g (dcell t1); replace t2 := celln g (dcell t2); replace r0 := celln g (dcell r0); replace r1 := celln g (dcell r1); replace r2 := celln g (dcell r2); replace r3 := celln g (dcell r3); replace y0 := celln g (dcell y0); replace y1 := celln g (dcell y1); replace y2 := celln g (dcell y2); replace c0 := celln g (dcell c0); replace c1 := celln g (dcell c1); replace c2 := celln g (dcell c2); replace c3 := celln g (dcell c3); replace c4 := celln g (dcell c4); replace c5 := celln g (dcell c5); replace c6 := celln g (dcell c6); replace c7 := celln g (dcell c7); replace c8 := celln g (dcell c8); replace c9 := celln g (dcell c9))); clear g; obtain ⟨u0, u1, u2, uf0, uf1, uf2⟩ := blk3 D.out.p; obtain ⟨a0, a1, a2, a3, a4, a5, a6, a7, a8, a9, f0, f1, f2, f3, f4, f5, f6, f7, f8, f9⟩ := blk10 D.out.a)))
        all_goals
          have z3 := Lib.hid D.out.res3
          clear u0 u1 u2 uf0 uf1 uf2 a0 a1 a2 a3 a4 a5 a6 a7 a8 a9 f0 f1 f2 f3 f4 f5 f6 f7 f8 f9 D
          revert z3
          generalize World.setCell _ ⟨w.heap.size + 2, 2, none⟩ _ = V
          intro z3
          have z4 := Lib.hid (z3.out.res10 (toldA c r st ⟨2, 0, 0, 0, 0, (clI dd 1000000000), dd, true⟩))
          clear z3
          revert z4
          generalize World.setCell _ ⟨w.heap.size + 3, 9, none⟩ _ = V9
          intro z4
          obtain ⟨q0, q1, q2, q3, q4, q5, q6, q7, q8, q9, _⟩ := blk10 z4.out.a
          obtain ⟨v0, v1, v2, _⟩ := blk3 z4.out.p
          go_wp2
          refine bodyPost_ret (v := .tuple #[rtv m c (.slice A5 S1.length cap5), An.v (toldA c r st ⟨2, 0, 0, 0, 0, (clI dd 1000000000), dd, true⟩)]) ?_ rfl ⟨(.slice A5 S1.length cap5), by rw [HA2.out], by rw [HN.out]; exact z4.out.o, z4.out.k⟩
          simp [results, Tryz.results55, go_sem, q0, q1, q2, q3, q4, q5, q6, q7, q8, q9, v0, v1, v2]
    · have HA := Lib.hid (HA.out.trans (HAin.out rfl))
      have HN := Lib.hid (HN.out.trans (by rw [if_pos rfl]))
      clear HAin HAno B11
      have CI := Lib.hid (fun W (g : OwS W w1.heap.size (.slice A5 S1.length cap5) S1) => rwith_any _ _ S1 (slOf k r nx) W g (by omega) (by show k.size ≤ _; omega) (fun x hx => by have := (OK1.out x hx).1.key; omega))
      obtain ⟨t0, t1, t2, _⟩ := blk3 H11.out.t
      obtain ⟨r0, r1, r2, r3, _⟩ := blk4 H11.out.r
      obtain ⟨y0, y1, y2, _⟩ := blk3 BZ.out
      go_wp2_with (go_at_call 96; (refine (CI.out _ H11.out.o).mono ?_; rintro e w12 ⟨u12, rfl, O12, g⟩; refine stopHere ?_))
      unfold Stop
      obtain ⟨A12, cap12, rfl, _⟩ := O12.rds
      have H12 := Lib.hid ((H11.out.below g).put O12 H11.out.y)
      have BZ2 := Lib.hid ((BZ.out.below g).other (c := w.heap.size) 2 (.slice A12 (insS (offS k S1) (slOf k r nx)).length cap12) (by omega))
      clear t0 t1 t2 r0 r1 r2 r3 y0 y1 y2 CI
      obtain ⟨t0, t1, t2, tf0, tf1, tf2⟩ := blk3 (H11.out.below g).t
      clear H11 BZ g O12
      go_upto_region 21 with fail
      revert H12 BZ2
      clear t0 t1 t2 tf0 tf1 tf2
      generalize World.setCell _ ⟨w.heap.size, 2, none⟩ _ = W13
      intro H12 BZ2
      obtain ⟨t0, t1, t2, _⟩ := blk3 H12.out.t
      obtain ⟨r0, r1, r2, r3, _⟩ := blk4 H12.out.r
      obtain ⟨y0, y1, y2, _⟩ := blk3 BZ2.out
      have CT := Lib.hid (fun W => rtold_any m c A12 (insS (offS k S1) (slOf k r nx)).length cap12 ⟨1, 0, 0, 0, 0, 0, 0, false⟩ r nx W hc hr hrk ON.out)
      have e2 : w.heap.size ≠ w.heap.size + 2 := by omega
      have e3 : w.heap.size ≠ w.heap.size + 3 := by omega
      have d2 : w.heap.size + 1 ≠ w.heap.size + 2 := by omega
      have d3 : w.heap.size + 1 ≠ w.heap.size + 3 := by omega
      have s2 : Z ≠ w.heap.size + 2 := by omega
      have s3 : Z ≠ w.heap.size + 3 := by omega
      have kr := Tch.refl (fun k => k = w.heap.size + 2 ∨ k = w.heap.size + 3) W13
      go_region_held3 (fun w' => Tch (fun k => k = w.heap.size + 2 ∨ k = w.heap.size + 3) W13 w' ∧ w'.cell? ⟨w.heap.size, 0, none⟩ = some (.int .i64 m) ∧ w'.cell? ⟨w.heap.size, 1, none⟩ = some (.int .u64 c) ∧ w'.cell? ⟨w.heap.size, 2, none⟩ = some (.slice A12 (insS (offS k S1) (slOf k r nx)).length cap12) ∧ w'.cell? ⟨w.heap.size + 1, 0, none⟩ = some (.string r.p) ∧ w'.cell? ⟨w.heap.size + 1, 1, none⟩ = some (.int .u64 r.e) ∧ w'.cell? ⟨w.heap.size + 1, 2, none⟩ = some (.int .u64 r.b) ∧ w'.cell? ⟨w.heap.size + 1, 3, none⟩ = some (.int .u8 r.k) ∧ w'.cell? ⟨Z, 0, none⟩ = some (.int .u8 nx.k) ∧ w'.cell? ⟨Z, 1, none⟩ = some (.int .u64 nx.a) ∧ w'.cell? ⟨Z, 2, none⟩ = some (.int .u64 nx.b))
        (first | with_reducible exact ⟨kr, t0, t1, t2, r0, r1, r2, r3, y0, y1, y2⟩ | with_reducible exact ⟨(td kr), dcell t0, dcell t1, dcell t2, dcell r0, dcell r1, dcell r2, dcell r3, dcell y0, dcell y1, dcell y2⟩ | with_reducible exact ⟨(ts3 kr (.inl (.inl rfl))), sc3 t0 e2, sc3 t1 e2, sc3 t2 e2, sc3 r0 d2, sc3 r1 d2, sc3 r2 d2, sc3 r3 d2, sc3 y0 s2, sc3 y1 s2, sc3 y2 s2⟩ | with_reducible exact ⟨(ts10 (ts3 kr (.inl (.inl rfl))) (.inl (.inr rfl))), sc10 (sc3 t0 e2) e3, sc10 (sc3 t1 e2) e3, sc10 (sc3 t2 e2) e3, sc10 (sc3 r0 d2) d3, sc10 (sc3 r1 d2) d3, sc10 (sc3 r2 d2) d3, sc10 (sc3 r3 d2) d3, sc10 (sc3 y0 s2) s3, sc10 (sc3 y1 s2) s3, sc10 (sc3 y2 s2) s3⟩)
        (first | (go_at_call 97; ((with_reducible refine (CT.out _).mono ?_); rintro r w14 ⟨rfl, g⟩; have D : Hid (Ch w w14 _ _ _ _ _ _) := Lib.hid (by first | exact H12.out.dr.below g | exact H12.out.below g); (first | with_reducible (replace kr := tb kr g; replace t0 := celln g t0; replace t1 := celln g t1; replace t2 := celln g t2; replace r0 := celln g r0; replace r1 := celln g r1; replace r2 := celln g r2; replace r3 := celln g r3; replace y0 := celln g y0; replace y1 := celln g y1; replace y2 := celln g y2) | with_reducible (replace kr := tb (td kr) g; replace t0 := celln g (dcell t0); replace t1 := celln g (dcell t1); replace t2 := celln g (dcell t2); replace r0 := celln g (dcell r0); replace r1 := celln g (dcell r1); replace r2 := celln g (dcell r2); replace r3 := celln g (dcell r3); replace y0 := celln g (dcell y0); replace y1 := celln g (dcell y1); replace y2 := celln g (dcell y2))); clear g; obtain ⟨u0, u1, u2, uf0, uf1, uf2⟩ := blk3 D.out.p; obtain ⟨a0, a1, a2, a3, a4, a5, a6, a7, a8, a9, f0, f1, f2, f3, f4, f5, f6, f7, f8, f9⟩ := blk10 D.out.a)))
      all_goals
        have z3 := Lib.hid D.out.res3
        clear u0 u1 u2 uf0 uf1 uf2 a0 a1 a2 a3 a4 a5 a6 a7 a8 a9 f0 f1 f2 f3 f4 f5 f6 f7 f8 f9 D
        revert z3
        generalize World.setCell _ ⟨w.heap.size + 2, 2, none⟩ _ = V
        intro z3
        have z4 := Lib.hid (z3.out.res10 (toldA c r nx ⟨1, 0, 0, 0, 0, 0, 0, false⟩))
        clear z3
        revert z4
        generalize World.setCell _ ⟨w.heap.size + 3, 9, none⟩ _ = V9
        intro z4
        obtain ⟨q0, q1, q2, q3, q4, q5, q6, q7, q8, q9, _⟩ := blk10 z4.out.a
        obtain ⟨v0, v1, v2, _⟩ := blk3 z4.out.p
        go_wp2
        refine bodyPost_ret (v := .tuple #[rtv m c (.slice A12 (insS (offS k S1) (slOf k r nx)).length cap12), An.v (toldA c r nx ⟨1, 0, 0, 0, 0, 0, 0, false⟩)]) ?_ rfl ⟨(.slice A12 (insS (offS k S1) (slOf k r nx)).length cap12), by rw [HA.out], by rw [HN.out]; exact z4.out.o, z4.out.k⟩
        simp [results, Tryz.results55, go_sem, q0, q1, q2, q3, q4, q5, q6, q7, q8, q9, v0, v1, v2]
  · have HA := Lib.hid (HA0.out.trans (if_pos HF.out))
    have HN := Lib.hid (HN0.out.trans (if_pos HF.out))
    obtain ⟨r0, r1, r2, r3, _⟩ := blk4 HC.out.r
    obtain ⟨u0, u1, u2, uf0, uf1, uf2⟩ := blk3 HC.out.p
    obtain ⟨y0, y1, y2, y3, y4, y5, y6, y7, y8, y9, f0, f1, f2, f3, f4, f5, f6, f7, f8, f9⟩ := blk10 HC.out.a
    have D := HC
    clear HA0 HN0 HF HJ
    go_wp2_with fail
    go_region
    all_goals
      have z3 := Lib.hid D.out.res3
      clear t0 t1 t2 tf0 tf1 tf2 r0 r1 r2 r3 u0 u1 u2 uf0 uf1 uf2 y0 y1 y2 y3 y4 y5 y6 y7 y8 y9 f0 f1 f2 f3 f4 f5 f6 f7 f8 f9 D
      revert z3
      generalize World.setCell _ ⟨w.heap.size + 2, 2, none⟩ _ = V
      intro z3
      have z4 := Lib.hid (z3.out.res10 ⟨3, 0, r.b, 0, 0, 0, 0, false⟩).dr
      clear z3
      revert z4
      generalize World.drew _ = V9
      intro z4
      obtain ⟨q0, q1, q2, q3, q4, q5, q6, q7, q8, q9, _⟩ := blk10 z4.out.a
      obtain ⟨v0, v1, v2, _⟩ := blk3 z4.out.p
      go_wp2
      refine bodyPost_ret (v := .tuple #[rtv m c (.slice A5 S1.length cap5), An.v ⟨3, 0, r.b, 0, 0, 0, 0, false⟩]) ?_ rfl ⟨(.slice A5 S1.length cap5), by rw [HA.out], by rw [HN.out]; exact z4.out.o, z4.out.k⟩
      simp [results, Tryz.results55, go_sem, q0, q1, q2, q3, q4, q5, q6, q7, q8, q9, v0, v1, v2]
end Go.Proofs.YtbejkcdaefkibaaGreat.Wd


namespace Go.Proofs.YtbejkcdaefkibaaGreat.Wd
open Go Go.RowKit Go.Deep Go.Shelf
set_option linter.unusedVariables false
set_option maxRecDepth 100000
theorem OffV.mono {u : Value} {P Q : Nat → Prop} (h : OffV u Q) (g : ∀ k, P k → Q k) : OffV u P := fun b n cap e x => h b n cap e (g b x)
theorem own_old {w : World} {base : Nat} {u : Value} {xs : List Sl} (h : OwS w base u xs) : OffV u (fun k => w.heap.size ≤ k) := by
  intro b n cap e x
  rcases h.2 with ⟨hn, _⟩ | ⟨g, cap', cur, hv, hb, hgg, rest⟩
  · rw [hn] at e; cases e
  · rw [hv] at e
    have := heap_lt hgg
    injection e with e1
    injection e1 with e1
    injection e1 with e1
    omega
theorem own_newer {w : World} {base : Nat} {u : Value} {xs : List Sl} (h : OwS w base u xs) : OffV u (fun k => k < base) := by
  intro b n cap e x
  rcases h.2 with ⟨hn, _⟩ | ⟨g, cap', cur, hv, hb, hgg, rest⟩
  · rw [hn] at e; cases e
  · rw [hv] at e
    injection e with e1
    injection e1 with e1
    injection e1 with e1
    omega
theorem rcharge_any (m c : Int) (base : Nat) (v : Value) (S : List Sl) (k : ByteArray) (r : Rl) (n : Int) (w : World) (hm : 1 ≤ m ∧ m ≤ 1000000) (hS : OwS w base v S) (hok : ∀ s ∈ S, Oks s) (hk3 : ∀ s ∈ S, Is3 s.k) (hc : U c) (hl : S.length ≤ 1000000000) (hk : k.size ≤ 281474976710656) (hr : Okr r) (hn : U n) (hE : 0 ≤ ruE r.p r.e r.b r.k ∧ ruE r.p r.e r.b r.k ≤ 65535) :
    Calls Tryz.prog 55 #[rtv m c v, .string k, r.v, .int .u64 n] w fun e w' => ∃ u base' an, e = .returned (.tuple #[rtv m c u, An.v an]) ∧ OwS w' base' u (rcN m c S k r n) ∧ (OffV u (fun k => k < w.heap.size) ∨ u = v) ∧ an = chA m c (rsl c S) k r n ∧ Below w.heap.size w w' := by
  by_cases h1 : rtB (lb k) = true
  · by_cases h2 : ruE r.p r.e r.b r.k = 0
    · refine (rcharge_ok m c base v S k r n w hm hS hok hk3 hc hl hk hr hr.k hn h1 h2).mono ?_
      rintro e w' ⟨u, rfl, ho, g⟩
      exact ⟨u, _, _, rfl, ho, .inl (own_newer ho), rfl, g⟩
    · have hw : ¬ wkE k r = 0 := by unfold wkE; rw [if_pos h1]; exact h2
      obtain ⟨A, cap, rfl, _⟩ := hS.rds
      refine (rcharge_rule m c A S.length cap k r n w hk hr hr.k h1 h2 hE).mono ?_
      rintro e w' ⟨rfl, g⟩
      refine ⟨_, base, _, rfl, ?_, .inr rfl, ?_, g⟩
      · rw [show rcN m c S k r n = S from if_neg hw]; exact own_below hS g
      · unfold chA; rw [if_neg hw]
        have : wkE k r = ruE r.p r.e r.b r.k := by unfold wkE; rw [if_pos h1]
        rw [this]
  · have h1' : rtB (lb k) = false := by simpa using h1
    have hw : ¬ wkE k r = 0 := by unfold wkE; rw [if_neg h1]; decide
    obtain ⟨A, cap, rfl, _⟩ := hS.rds
    refine (rcharge_key m c A S.length cap k r n w hk h1').mono ?_
    rintro e w' ⟨rfl, g⟩
    refine ⟨_, base, _, rfl, ?_, .inr rfl, ?_, g⟩
    · rw [show rcN m c S k r n = S from if_neg hw]; exact own_below hS g
    · unfold chA; rw [if_neg hw]
      have : wkE k r = 12 := by unfold wkE; rw [if_neg h1]
      rw [this]
theorem ruE_rng (p : ByteArray) (e b k : Int) : 0 ≤ ruE p e b k ∧ ruE p e b k ≤ 65535 := by
  rw [ru_is]
  repeat' split
  all_goals omega
abbrev rz0 : Array Value := #[.int .i64 0, .int .u64 0, .slice none 0 0]
def BoE (w : World) (n0 R a z T : Nat) (m c d : Int) (S : List Sl) (u u' : Value) (A : List Sl) : Prop :=
  (n0 < R ∧ a < w.heap.size ∧ n0 ≤ a ∧ z ≤ w.heap.size) ∧ ∃ (B : Nat → Prop) (base : Nat), Tbl w T B m c S ∧ (∀ k, B k → (n0 ≤ k ∧ k < z) ∧ k ≠ R ∧ k ≠ n0 ∧ k ≠ a) ∧ Blk w R (rcs m d u) Trf ∧ Blk w n0 rz0 Trf ∧ OwS w base u' A ∧ OffV u' (fun k => B k ∨ k = R ∨ k = n0 ∨ k = a)
section
variable {w w' : World} {n0 R a z T : Nat} {m c d : Int} {S A : List Sl} {u u' : Value}
theorem BoE.lo (h : BoE w n0 R a z T m c d S u u' A) : n0 ≤ w.heap.size := by
  obtain ⟨⟨h0, h1, h2, h3⟩, _⟩ := h
  omega
theorem BoE.below (h : BoE w n0 R a z T m c d S u u' A) (g : Below w.heap.size w w') : BoE w' n0 R a z T m c d S u u' A := by
  obtain ⟨⟨h0, h1, h2, h3⟩, B, base, ht, hB, hR, hZ, ho, hu⟩ := h
  have := g.size
  exact ⟨⟨h0, by omega, h2, by omega⟩, B, base, ht.below g, hB, hR.below g, hZ.below g, own_below ho g, hu⟩
theorem BoE.dr (h : BoE w n0 R a z T m c d S u u' A) : BoE w.drew n0 R a z T m c d S u u' A := h.below (below_dr _)
theorem BoE.mark (h : BoE w n0 R a z T m c d S u u' A) (o : Obj) : BoE (w.alloc o) n0 R w.heap.size z T m c d S u u' A := by
  obtain ⟨⟨h0, h1, h2, h3⟩, B, base, ht, hB, hR, hZ, ho, hu⟩ := h
  have g : Below w.heap.size w (w.alloc o) := (Below.refl _ w).alloc (Nat.le_refl _) o
  refine ⟨⟨h0, by simp, by omega, by simp; omega⟩, B, base, ht.below g, fun k hk => ?_, hR.below g, hZ.below g, own_below ho g, ?_⟩
  · have := hB k hk
    exact ⟨this.1, this.2.1, this.2.2.1, by omega⟩
  · intro b n cap e x
    rcases x with x | x | x | x
    · exact hu b n cap e (.inl x)
    · exact hu b n cap e (.inr (.inl x))
    · exact hu b n cap e (.inr (.inr (.inl x)))
    · exact own_old ho b n cap e (by omega)
theorem BoE.unmark (h : BoE w n0 R a z T m c d S u u' A) : BoE w n0 R n0 w.heap.size T m c d S u u' A := by
  obtain ⟨⟨h0, h1, h2, h3⟩, B, base, ht, hB, hR, hZ, ho, hu⟩ := h
  refine ⟨⟨h0, hZ.lt, Nat.le_refl _, Nat.le_refl _⟩, B, base, ht, fun k hk => ?_, hR, hZ, ho, hu.mono (fun k x => ?_)⟩
  · have := hB k hk
    exact ⟨⟨this.1.1, by omega⟩, this.2.1, this.2.2.1, this.2.2.1⟩
  · rcases x with x | x | x | x
    · exact .inl x
    · exact .inr (.inl x)
    · exact .inr (.inr (.inl x))
    · exact .inr (.inr (.inl x))
theorem BoE.wf (h : BoE w n0 R a z T m c d S u u' A) : Wf m c S := by
  obtain ⟨_, B, base, ht, _⟩ := h
  exact ht.wf
theorem BoE.box (h : BoE w n0 R a z T m c d S u u' A) : Blk w R (rcs m d u) Trf := by
  obtain ⟨_, B, base, ht, hB, hR, _⟩ := h
  exact hR
theorem BoE.res (h : BoE w n0 R a z T m c d S u u' A) : Blk w n0 rz0 Trf := by
  obtain ⟨_, B, base, ht, hB, hR, hZ, _⟩ := h
  exact hZ
theorem BoE.row (h : BoE w n0 R a z T m c d S u u' A) : ∃ base, OwS w base u' A := by
  obtain ⟨_, B, base, ht, hB, hR, hZ, ho, _⟩ := h
  exact ⟨base, ho⟩
theorem BoE.own (h : BoE w n0 R a z T m c d S u u' A) {X : Nat} (hz : z ≤ X) (hR : R ≠ X) (hn : n0 ≠ X) (hX : OffV u' (fun k => k = X)) (g : Tch (fun k => k = X) w w') : BoE w' n0 R a z T m c d S u u' A := by
  obtain ⟨⟨h0, h1, h2, h3⟩, B, base, ht, hB, hR', hZ, ho, hu⟩ := h
  have hs := g.size
  exact ⟨⟨h0, by omega, h2, by omega⟩, B, base, ht.keep (fun k hk hl => g.block k hl (fun e => by have := (hB k hk).1.2; omega)), hB, tch_blk g hR' hR, tch_blk g hZ hn, own_off ho g hX, hu⟩
theorem bo_turn {B : Nat → Prop} {base : Nat} {c' : Int} {S' : List Sl} (h0 : n0 < R) (h1 : a < w.heap.size) (h2 : n0 ≤ a) (h3 : z ≤ w.heap.size) (hB : ∀ k, B k → (n0 ≤ k ∧ k < z) ∧ k ≠ R ∧ k ≠ n0 ∧ k ≠ a) (hR : Blk w R (rcs m d u) Trf) (hZ : Blk w n0 rz0 Trf) (ho : OwS w base u' A) (hu : OffV u' (fun k => B k ∨ k = R ∨ k = n0 ∨ k = a)) (g : Tch B w w') (t : Tbl w' T (Nx B w) m c' S') :
    BoE w' n0 R a w'.heap.size T m c' d S' u u' A ∧ Tch (fun k => n0 ≤ k ∧ k ≠ a) w w' := by
  have hs := g.size
  have hRl := hR.lt
  refine ⟨⟨⟨h0, by omega, h2, Nat.le_refl _⟩, fun k => Nx B w k ∧ k < w'.heap.size, base, t.low, fun k hk => ?_, g.blk hR (fun x => (hB R x).2.1 rfl), g.blk hZ (fun x => (hB n0 x).2.2.1 rfl), own_off ho g (hu.mono (fun k x => .inl x)), ?_⟩, g.mono (fun k _ hk => ⟨(hB k hk).1.1, (hB k hk).2.2.2⟩)⟩
  · rcases hk.1 with x | x
    · have := hB k x
      exact ⟨⟨this.1.1, hk.2⟩, this.2⟩
    · have x : w.heap.size ≤ k := x
      exact ⟨⟨by omega, hk.2⟩, by omega, by omega, by omega⟩
  · intro b n cap e x
    rcases x with x | x
    · rcases x.1 with x | x
      · exact hu b n cap e (.inl x)
      · exact own_old ho b n cap e x
    · exact hu b n cap e (.inr x)
theorem BoE.charge (h : BoE w n0 R a z T m c d S u u' A) (k : ByteArray) (r : Rl) (n : Int) (hk : k.size ≤ 281474976710656) (hr : Okr r) (hnn : U n) :
    Calls Tryz.prog 44 #[ptr T, .string k, .agg #[.string r.p, .int .u64 r.e, .int .u64 r.b, .int .u8 r.k], .int .u64 n] w fun e w' => e = .returned (chA m c S k r n).v ∧ Hid (∃ z', BoE w' n0 R a z' T m c d (chN m c S k r n) u u' A) ∧ Tch (fun k => n0 ≤ k ∧ k ≠ a) w w' := by
  obtain ⟨⟨h0, h1, h2, h3⟩, B, base, ht, hB, hR, hZ, ho, hu⟩ := h
  refine (charge_tab T B m c S k r n w ht hk hr hnn).mono ?_
  rintro e w' ⟨rfl, g, t⟩
  have q := bo_turn h0 h1 h2 h3 hB hR hZ ho hu g t
  exact ⟨rfl, Lib.hid ⟨_, q.1⟩, q.2⟩
theorem BoE.tick (h : BoE w n0 R a z T m c d S u u' A) (x : Int) (hx : U x) :
    Calls Tryz.prog 43 #[ptr T, .int .u64 x] w fun e w' => e = .returned (.int .u64 (max c x)) ∧ Hid (∃ z', BoE w' n0 R a z' T m (max c x) d (S.filter (actB (max c x))) u u' A) ∧ Tch (fun k => n0 ≤ k ∧ k ≠ a) w w' := by
  obtain ⟨⟨h0, h1, h2, h3⟩, B, base, ht, hB, hR, hZ, ho, hu⟩ := h
  refine (tick_any T B m c x S w ht hx).mono ?_
  rintro e w' ⟨rfl, g, t⟩
  have q := bo_turn h0 h1 h2 h3 hB hR hZ ho hu g t
  exact ⟨rfl, Lib.hid ⟨_, q.1⟩, q.2⟩
theorem BoE.rcharge (h : BoE w n0 R a z T m c d S u u' A) (y : Nat) (hy : OffV u' (fun k => y ≤ k)) (k : ByteArray) (r : Rl) (n : Int) (hok : ∀ s ∈ A, Oks s) (hk3 : ∀ s ∈ A, Is3 s.k) (hd : U d) (hl : A.length ≤ 1000000000) (hk : k.size ≤ 281474976710656) (hr : Okr r) (hn : U n) :
    Calls Tryz.prog 55 #[rtv m d u', .string k, .agg #[.string r.p, .int .u64 r.e, .int .u64 r.b, .int .u8 r.k], .int .u64 n] w fun e w' => ∃ v, e = .returned (.tuple #[rtv m d v, An.v (chA m d (rsl d A) k r n)]) ∧ Hid (BoE w' n0 R a z T m c d S u v (rcN m d A k r n)) ∧ Hid (OffV v (fun k => y ≤ k ∧ k < w.heap.size)) ∧ Below w.heap.size w w' := by
  have hw := h.wf
  obtain ⟨⟨h0, h1, h2, h3⟩, B, base, ht, hB, hR, hZ, ho, hu⟩ := h
  refine (rcharge_any m d base u' A k r n w ⟨hw.m1, hw.m2⟩ ho hok hk3 hd hl hk hr hn (ruE_rng _ _ _ _)).mono ?_
  rintro e w' ⟨v, base', an, rfl, ho', hv, rfl, g⟩
  have hs := g.size
  refine ⟨v, rfl, Lib.hid ⟨⟨h0, by omega, h2, by omega⟩, B, base', ht.below g, hB, hR.below g, hZ.below g, ho', ?_⟩, Lib.hid ?_, g⟩
  · rcases hv with hv | rfl
    · refine hv.mono (fun k x => ?_)
      have hRl := hR.lt
      rcases x with x | rfl | rfl | rfl
      · have := (hB k x).1.2; omega
      · exact hRl
      · omega
      · exact h1
    · exact hu
  · rcases hv with hv | rfl
    · exact hv.mono (fun k x => x.2)
    · exact hy.mono (fun k x => x.1)
theorem BoE.put (h : BoE w n0 R a z T m c d S u u' A) (d' : Int) : BoE (((w.setCell ⟨R, 0, none⟩ (.int .i64 m)).setCell ⟨R, 1, none⟩ (.int .u64 d')).setCell ⟨R, 2, none⟩ u') n0 R a z T m c d' S u' u' A ∧ Tch (fun k => k = R) w (((w.setCell ⟨R, 0, none⟩ (.int .i64 m)).setCell ⟨R, 1, none⟩ (.int .u64 d')).setCell ⟨R, 2, none⟩ u') := by
  obtain ⟨⟨h0, h1, h2, h3⟩, B, base, ht, hB, hR, hZ, ho, hu⟩ := h
  have g := ts3 (p0 := .int .i64 m) (p1 := .int .u64 d') (p2 := u') (Tch.refl (fun k => k = R) w) (X := R) (.inl rfl)
  have hs := g.size
  exact ⟨⟨⟨h0, by omega, h2, by omega⟩, B, base, ht.keep (fun k hk hl => g.block k hl (fun e => (hB k hk).2.1 e)), hB, bset3 hR, tch_blk g hZ (by omega), own_off ho g (hu.mono (fun k x => .inr (.inl x))), hu⟩, g⟩
end
theorem kfI_nn (k a b c cap : Int) : 0 ≤ kfI k a b c cap := by
  have h := tkI_le a b c cap
  unfold kfI
  split
  · unfold sbI; split <;> omega
  · split
    · unfold biI; omega
    · split
      · unfold fiI sbI; (repeat' split) <;> omega
      · omega
end Go.Proofs.YtbejkcdaefkibaaGreat.Wd


namespace Go.Proofs.YtbejkcdaefkibaaGreat.Wd
open Go Go.RowKit Go.Deep Go.Shelf
set_option linter.unusedVariables false
set_option maxRecDepth 100000
def EvR (r : Rl) : Prop := r.e = 10 ∨ r.e = 1000 ∨ r.e = 3000000000 ∨ r.e = 2147483648 ∨ r.e = 1
structure Inv (c : Int) (S A : List Sl) : Prop where
  tw : All2 (Twi c) S S
  rise : Rise A
  prm : S.Perm (rsl c A)
  ok : ∀ s ∈ A, Oks s ∧ Is3 s.k
  ev : ∀ s ∈ A, EvR s.r
  len : A.length ≤ 1000001
theorem Inv.none : Inv 0 [] [] := ⟨.nil, List.Pairwise.nil, List.Perm.refl _, fun s h => (List.not_mem_nil h).elim, fun s h => (List.not_mem_nil h).elim, by simp⟩
theorem rsl_later {c c' : Int} {A : List Sl} (h : ∀ s ∈ A, Oks s ∧ Is3 s.k) (hc : U c) (hc' : U c') (hl : c ≤ c') : (rsl c A).filter (actB c') = rsl c' A := by
  unfold rsl
  rw [List.filter_filter]
  refine List.filter_congr (fun s hs => ?_)
  cases e : actB c' s with
  | false => rfl
  | true =>
    have h1 : 0 < flS c' s := of_decide_eq_true e
    have h2 := flS_down (h s hs).1 (h s hs).2 hc hc' hl
    have : actB c s = true := decide_eq_true (by omega)
    rw [this]; rfl
theorem Inv.tick {c c' : Int} {S A : List Sl} (h : Inv c S A) (hc : U c) (hc' : U c') (hl : c ≤ c') : Inv c' (S.filter (actB c')) A :=
  ⟨h.tw.tick hl hc', h.rise, by rw [← rsl_later h.ok hc hc' hl]; exact h.prm.filter _, h.ok, h.ev, h.len⟩
theorem stOf_okA {c : Int} {r : Rl} {S : List Sl} {k : ByteArray} (h : ∀ s ∈ S, Oks s ∧ Is3 s.k) (hr : Okr r) (h3 : Is3 r.k) (hc : U c) : OkSt (stOf c r (getS S k)) := by
  cases e : getS S k with
  | none => exact ⟨by show Is3 (koK r.k); rw [koK_is h3]; exact h3, koA_U _ _ _ _ hc (capR_U hr) U_zero, koB_U _ _ hc⟩
  | some s => have := h s (getS_some e).1; exact ⟨this.2, this.1.a, this.1.b⟩
theorem Inv.charge {m c : Int} {S A : List Sl} {k : ByteArray} {r : Rl} {n : Int} (h : Inv c S A) (hw : Wf m c S) (hc2 : c ≤ 4611686018427387904) (hk : k.size ≤ 281474976710656) (hr : Okr r) (hev : EvR r) (hn : U n) : Inv c (chN m c S k r n) (rcN m c A k r n) := by
  have hc := hw.cu
  by_cases h0 : wkE k r = 0
  · have hrr : ruE r.p r.e r.b r.k = 0 := by
      unfold wkE at h0
      by_cases z : rtB (lb k) = true
      · rw [if_pos z] at h0; exact h0
      · rw [if_neg z] at h0; cases h0
    have h3 := rule_is3 hrr
    have hlen : (rsl c A).length ≤ 1000000 := by
      rw [← h.prm.length_eq]
      have := hw.len; have := hw.m2; omega
    have okd : ∀ s ∈ dropS (rsl c A) k r, Oks s ∧ Is3 s.k := fun s hs => h.ok s (rsl_mem.1 (dropS_sub hs)).1
    have hst := stOf_okA (k := k) okd hr h3 hc
    have hnx := (hst.next (n := n) hc hr hn).1
    have hdl := dropS_len (rsl c A) k r
    have evd : ∀ s ∈ dropS (rsl c A) k r, EvR s.r := fun s hs => h.ev s (rsl_mem.1 (dropS_sub hs)).1
    refine ⟨(twi_charge h.tw hw hw hr hr rfl rfl hrr hrr hc2 hn).2, h.rise.charge, ?_, ?_, ?_, ?_⟩
    · exact (chN_prm h.prm hw.ap k r).trans (rcN_prm (fun s => kfI_nn _ _ _ _ _))
    · intro s hs
      unfold rcN at hs
      rw [if_pos h0] at hs
      split at hs
      · exact okd s hs
      · split at hs
        · rcases insS_mem.1 hs with rfl | hs
          · exact ⟨⟨hk, hr, by rcases hnx.k with e | e | e <;> (show 0 ≤ (stNx c r _ n).k ∧ (stNx c r _ n).k ≤ 255; rw [e]; decide), hnx.a, hnx.b⟩, hnx.k⟩
          · exact okd s (offS_mem.1 hs).1
        · exact okd s hs
    · intro s hs
      unfold rcN at hs
      rw [if_pos h0] at hs
      split at hs
      · exact evd s hs
      · split at hs
        · rcases insS_mem.1 hs with rfl | hs
          · exact hev
          · exact evd s (offS_mem.1 hs).1
        · exact evd s hs
    · unfold rcN
      rw [if_pos h0]
      split
      · omega
      · split
        · rw [(insS_perm _ _).length_eq, List.length_cons]
          have : (offS k (dropS (rsl c A) k r)).length ≤ (dropS (rsl c A) k r).length := List.length_filter_le _ _
          omega
        · omega
  · rw [show chN m c S k r n = S from if_neg h0, show rcN m c A k r n = A from if_neg h0]
    exact h
theorem ruleK_ev (k : Int) (hk : 0 ≤ k ∧ k ≤ 255) : EvR (ruleK k) := by
  have h6 : k % 6 = 0 ∨ k % 6 = 1 ∨ k % 6 = 2 ∨ k % 6 = 3 ∨ k % 6 = 4 ∨ k % 6 = 5 := by omega
  unfold EvR ruleK ruleP
  rcases h6 with e | e | e | e | e | e <;> simp [e]
end Go.Proofs.YtbejkcdaefkibaaGreat.Wd


namespace Go.Proofs.YtbejkcdaefkibaaGreat.Wd
open Go Go.RowKit Go.Deep Go.Shelf
set_option linter.unusedVariables false
set_option maxRecDepth 100000
theorem clock_n {T : Nat} {B : Nat → Prop} {m c : Int} {S : List Sl} {w : World} (h : Tbl w T B m c S) :
    Calls Tryz.prog 29 #[ptr T] w fun e w' => e = .returned (.int .u64 c) ∧ w' = w :=
  (clock_yes T c w h.cells.2.1).mono (fun e w' ⟨h1, h2⟩ => ⟨h1, h2.symm⟩)
end Go.Proofs.YtbejkcdaefkibaaGreat.Wd


namespace Go.Proofs.YtbejkcdaefkibaaGreat.Wd
open Go Go.RowKit Go.Deep Go.Shelf
set_option linter.unusedVariables false
set_option maxRecDepth 100000
theorem s2_news {w : World} {b off : Nat} {y : En} (h : S2 w b off y) : ∀ j u, (flatE [y])[j]? = some u → w.cell? ((⟨b, off, none⟩ : Addr).add j) = some u := by
  intro j u hu
  have hj : j < 2 := by
    by_cases hj : j < 2
    · exact hj
    · rw [List.getElem?_eq_none (by rw [flatE_len]; simp; omega)] at hu; cases hu
  rw [Go.WideShapes.add_plain]
  have : j = 0 ∨ j = 1 := by omega
  rcases this with rfl | rfl
  · have e : u = .string y.1 := by simpa [flatE, En.cs] using hu.symm
    rw [e]; exact h.1
  · have e : u = .int .u64 y.2 := by simpa [flatE, En.cs] using hu.symm
    rw [e]; exact h.2
theorem step_app_e1 {ops : Array Oper} {o : Oper} {a : Act} {w : World} {K : Act → World → Prop} {Q : Exit → Act → World → Prop} {E : Prop} (hg : o.guard = none) (s x : Operand)
    (ho : o.op = .call { callee := .builtin .append, args := #[s, x], argTypes := #[Tens, Tens] })
    (base : Nat) (v : Value) (acc : List En) (hs : a.eval s = v) (hown : OwE w base v acc) (b off c : Nat) (y : En) (hx : a.eval x = .slice (some ⟨b, off, none⟩) 1 c) (hT : S2 w b off y)
    (hsz : acc.length + 1 ≤ 1099511627776) (hbase : base ≤ w.heap.size)
    (h : ∀ g cap w', OwE w' base (.slice (some ⟨g, 0, none⟩) (acc.length + 1) cap) (acc ++ [y]) → Below base w w' → K (a.put o.dst (.slice (some ⟨g, 0, none⟩) (acc.length + 1) cap)) w') :
    if Region.wanted o (yielded ops a.tmps) = true then Oper.wp Tryz.prog o a w K Q else E := by
  obtain ⟨i0, hz, hz0, hz1, hz2⟩ := info_parts zeroAe
  refine step_append_lies w hg s x Tens ho base Tae i0 (.agg #[.string ⟨#[]⟩, .int .u64 0]) 2 24 Tryz.underlying26 hz hz0 hz1 hz2 rfl (by decide) v acc.length (flatE acc) hs hown ⟨b, off, none⟩ 1 c (flatE [y]) hx (by rw [flatE_len]; rfl) (s2_news hT) (flatE_one _) (by decide) (by unfold maxLen; omega) (by omega) hbase w.heap.size rfl ?_
  intro g cap w' own grow _ _
  refine h g cap w' ?_ ((Below.refl base w).grown grow hbase (fun k hk => (World.ownsRow.lt hown k hk).1))
  unfold OwE
  rw [flatE_append, List.length_append]
  exact own
theorem OwE.far {w w' : World} {base : Nat} {v : Value} {xs : List En} (h : OwE w base v xs) (g : Tch (fun _ => False) w w') : OwE w' base v xs := own_tch h g (fun _ _ _ x => x)
theorem OwE.nil (w : World) (base : Nat) : OwE w base (.slice none 0 0) [] := World.ownsRow_nil _ _ _ _
set_option maxHeartbeats 4000000 in
theorem rentries_any (m c : Int) (v : Value) (base : Nat) (xs : List Sl) (w : World) (h : OwS w base v xs) (hok : ∀ s ∈ xs, Oks s) (hc : U c) (hn : xs.length ≤ 1000000000) :
    Calls Tryz.prog 56 #[rtv m c v] w fun e w' => ∃ u, e = .returned u ∧ OwE w' w.heap.size u ((rsl c xs).map (entS c)) ∧ Below w.heap.size w w' := by
  obtain ⟨A, cap, rfl, _, _, _, _⟩ := h.rds
  have b0 := Lib.hid (Blk.new w (rcs m c (.slice A xs.length cap)) Trf)
  have k0 := Lib.hid ((Below.refl _ w).alloc (Nat.le_refl _) (.cells (rcs m c (.slice A xs.length cap)) Trf))
  have H0 := Lib.hid (own_below h k0.out)
  have HO := Lib.hid (fun s (hs : s ∈ rsl c xs) => hok s (rsl_mem.1 hs).1)
  have hl : (rsl c xs).length ≤ 1000000000 := Nat.le_trans (List.length_filter_le _ _) hn
  have CS := Lib.hid (fun (W : World) (o : OwS W base (.slice A xs.length cap) xs) => rslots_any m c (.slice A xs.length cap) base xs W o hok hc (by omega))
  clear h hok
  go_enter Tryz.func56, Tryz.ntmps56
  go_upto_region 2 with fail
  generalize w.alloc (.cells (rcs m c (.slice A xs.length cap)) Trf) = W at *
  have hW := k0.out.size
  obtain ⟨q0, q1, q2⟩ : W.cell? ⟨w.heap.size, 0, none⟩ = some (.int .i64 m) ∧ W.cell? ⟨w.heap.size, 1, none⟩ = some (.int .u64 c) ∧ W.cell? ⟨w.heap.size, 2, none⟩ = some (.slice A xs.length cap) := ⟨b0.out.cell 0, b0.out.cell 1, b0.out.cell 2⟩
  go_wp2_with (go_at_call 51; refine (CS.out _ H0.out).mono ?_; rintro e w2 ⟨u, rfl, o2, g2⟩; refine stopHere ?_)
  unfold Stop
  obtain ⟨Y, hY⟩ : ∃ Y, rsl c xs = Y := ⟨_, rfl⟩
  rw [hY] at o2 HO hl
  have HY := Lib.hid hY
  obtain ⟨A2, cap2, rfl, _, hR2, _, _⟩ := o2.rds
  obtain ⟨N, hN⟩ : ∃ N, Y.length = N := ⟨_, rfl⟩
  rw [hN] at hR2 hl ⊢
  have R2 := Lib.hid hR2
  have b2 := Lib.hid (b0.out.below g2)
  have k2 := Lib.hid (kbq k0.out g2)
  have HN := Lib.hid hN
  have hw2 := k2.out.size
  have l2 := b2.out.lt
  clear o2 g2 hR2 CS q0 q1 q2 b0 k0 H0 hN hY
  generalize hX : w.heap.size = X0 at *
  go_wp2_with fail
  go_loopw [3, 5] (fun u i wr => ∃ j : Nat, i = .int .i64 (j : Int) ∧ j ≤ N ∧ Hid (OwE wr w2.heap.size u ((Y.take j).map (entS c))) ∧ Hid (Below w2.heap.size w2 wr)) (fun u i _ => N - (intOf i).toNat)
  case atStart => exact ⟨0, rfl, Nat.zero_le _, Lib.hid (OwE.nil _ _), Lib.hid (Below.refl _ _)⟩
  case round =>
    obtain ⟨j, rfl, hj, HOW, hB⟩ := hrel
    obtain ⟨ks, hks⟩ : ∃ ks, (Y.take j).map (entS c) = ks := ⟨_, rfl⟩
    have lk : ks.length ≤ 1000000000 := by rw [← hks, List.length_map, List.length_take, HN.out]; omega
    rw [hks] at HOW
    obtain ⟨A0, cap0, hv0, _⟩ := HOW.out.form
    subst hv0
    have bt := Lib.hid (b2.out.below hB.out)
    obtain ⟨q0, q1, q2⟩ : wr.cell? ⟨X0, 0, none⟩ = some (.int .i64 m) ∧ wr.cell? ⟨X0, 1, none⟩ = some (.int .u64 c) ∧ wr.cell? ⟨X0, 2, none⟩ = some (.slice A xs.length cap) := ⟨bt.out.cell 0, bt.out.cell 1, bt.out.cell 2⟩
    have hBs := hB.out.size
    by_cases hlt : j < N
    · obtain ⟨b, off, rfl, hb, hcc⟩ := R2.out.2 (by omega)
      have hlt' : j < Y.length := by rw [HN.out]; exact hlt
      have hs8 := (hcc j hlt).eight
      have ht : Hid ((Y.take (j + 1)).map (entS c) = ks ++ [entS c (atS Y j)]) := Lib.hid (by
        rw [List.take_succ_eq_append_getElem hlt', List.map_append, hks]; simp [atS, List.getD, hlt'])
      have hmem : atS Y j ∈ Y := by simp [atS, List.getD, hlt']
      have ho := HO.out _ hmem
      have CC := Lib.hid (fun W => refCap_any (atS Y j).r.p (atS Y j).r.e (atS Y j).r.b (atS Y j).r.k W (by have := ho.r.p; omega) ho.r.e ho.r.b ho.r.k)
      have CU := Lib.hid (fun W => kruntil_any (atS Y j).k (atS Y j).a (atS Y j).b c (capS (atS Y j)) W ho.a ho.b hc (capS_U ho))
      have HE : Hid (entS c (atS Y j) = ((atS Y j).key, kuI c (kfI (atS Y j).k (atS Y j).a (atS Y j).b c (capS (atS Y j))))) := Lib.hid rfl
      have HK := Lib.hid hks
      clear hcc hmem hlt' ho hks
      generalize atS Y j = y at *
      have CP := Lib.hid (show caI y.r.p y.r.e y.r.b y.r.k = capS y from rfl)
      rw [CP.out] at CC
      generalize kuI c (kfI y.k y.a y.b c (capS y)) = D at *
      generalize capS y = cp at *
      have MK := Lib.hid (fun (V : World) (g : Below w2.heap.size w2 V) => (show Below w2.heap.size w2 V ∧ V.cell? ⟨b, off + j * 8, none⟩ = some (.string y.key) ∧ V.cell? ⟨b, off + j * 8 + 1, none⟩ = some (.string y.r.p) ∧ V.cell? ⟨b, off + j * 8 + 2, none⟩ = some (.int .u64 y.r.e) ∧ V.cell? ⟨b, off + j * 8 + 3, none⟩ = some (.int .u64 y.r.b) ∧ V.cell? ⟨b, off + j * 8 + 4, none⟩ = some (.int .u8 y.r.k) ∧ V.cell? ⟨b, off + j * 8 + 5, none⟩ = some (.int .u8 y.k) ∧ V.cell? ⟨b, off + j * 8 + 6, none⟩ = some (.int .u64 y.a) ∧ V.cell? ⟨b, off + j * 8 + 7, none⟩ = some (.int .u64 y.b) ∧ V.cell? ⟨X0, 1, none⟩ = some (.int .u64 c) from
        ⟨g, (g.cell (p := ⟨b, _, none⟩) hb).trans hs8.1, (g.cell (p := ⟨b, _, none⟩) hb).trans hs8.2.1, (g.cell (p := ⟨b, _, none⟩) hb).trans hs8.2.2.1, (g.cell (p := ⟨b, _, none⟩) hb).trans hs8.2.2.2.1, (g.cell (p := ⟨b, _, none⟩) hb).trans hs8.2.2.2.2.1, (g.cell (p := ⟨b, _, none⟩) hb).trans hs8.2.2.2.2.2.1, (g.cell (p := ⟨b, _, none⟩) hb).trans hs8.2.2.2.2.2.2.1, (g.cell (p := ⟨b, _, none⟩) hb).trans hs8.2.2.2.2.2.2.2, (b2.out.below g).cell 1⟩))
      have kr := Tch.refl (fun _ => False) wr
      clear hs8 bt q0 q1 q2
      go_wp2_with fail
      go_region_held3 (fun w' => Below w2.heap.size w2 w' ∧ w'.cell? ⟨b, off + j * 8, none⟩ = some (.string y.key) ∧ w'.cell? ⟨b, off + j * 8 + 1, none⟩ = some (.string y.r.p) ∧ w'.cell? ⟨b, off + j * 8 + 2, none⟩ = some (.int .u64 y.r.e) ∧ w'.cell? ⟨b, off + j * 8 + 3, none⟩ = some (.int .u64 y.r.b) ∧ w'.cell? ⟨b, off + j * 8 + 4, none⟩ = some (.int .u8 y.r.k) ∧ w'.cell? ⟨b, off + j * 8 + 5, none⟩ = some (.int .u8 y.k) ∧ w'.cell? ⟨b, off + j * 8 + 6, none⟩ = some (.int .u64 y.a) ∧ w'.cell? ⟨b, off + j * 8 + 7, none⟩ = some (.int .u64 y.b) ∧ w'.cell? ⟨X0, 1, none⟩ = some (.int .u64 c))
        (first | with_reducible exact MK.out _ (Tch.belowF hB.out kr) | with_reducible exact MK.out _ (Tch.belowF hB.out (td kr)) | with_reducible exact MK.out _ (Tch.belowF hB.out (ta kr)) | with_reducible exact MK.out _ (Tch.belowF hB.out (td (ta kr))) | with_reducible exact MK.out _ (Tch.belowF hB.out (ta (td kr))) | with_reducible exact MK.out _ hb3)
        (first
          | (go_at_call 72; ((with_reducible refine (CC.out _).mono ?_); rintro r w' ⟨rfl, _, g⟩; (first | with_reducible (replace kr := tb kr g) | with_reducible (replace kr := tb (td kr) g))))
          | (go_at_call 99; ((with_reducible refine (CU.out _).mono ?_); rintro r w' ⟨rfl, _, g⟩; (first | with_reducible (replace kr := tb kr g) | with_reducible (replace kr := tb (td kr) g))))
          | (refine step_app_e1 (by rfl) _ _ (by rfl) w2.heap.size _ ks (by rfl) (by first | with_reducible exact OwE.far HOW.out (ta kr) | with_reducible exact OwE.far HOW.out (td (ta kr)) | with_reducible exact OwE.far HOW.out (ta (td kr))) _ 0 1 (y.key, D) (by rfl) (by first | exact Blk.two (Blk.new _ _ _) | exact Blk.two ((Blk.new _ _ _).dr)) (by omega) (by have := kr.size; simp; omega) ?_; intro g cap w3 own3 bel3; have hb3 : Below w2.heap.size w2 w3 := (by first | with_reducible exact (Tch.belowF hB.out (ta kr)).trans bel3 | with_reducible exact (Tch.belowF hB.out (td (ta kr))).trans bel3 | with_reducible exact (Tch.belowF hB.out (ta (td kr))).trans bel3)))
      have OD : Hid (OwE w3 w2.heap.size (.slice (some ⟨g, 0, none⟩) (ks.length + 1) cap) (ks ++ [(y.key, D)])) := Lib.hid own3
      have B3 := Lib.hid hb3
      clear own3 bel3 hb3 kr MK CC CU
      go_wp2
      go_roundw
      case rel => exact ⟨j + 1, by go_num, by omega, Lib.hid (by rw [ht.out, HE.out]; exact OD.out), B3⟩
      case measure => simp [intOf]; omega
    · have HE : Hid (Y.map (entS c) = ks) := Lib.hid (by rw [← hks, List.take_of_length_le (by rw [HN.out]; omega)])
      go_wp2
      go_ret
      subst hX
      refine ⟨_, rfl, ?_, kbq k2.out hB.out⟩
      show OwE wr w.heap.size (.slice A0 ks.length cap0) ((rsl c xs).map (entS c))
      rw [HY.out, HE.out]
      exact own_base hw2 HOW.out
end Go.Proofs.YtbejkcdaefkibaaGreat.Wd


namespace Go.Proofs.YtbejkcdaefkibaaGreat.Wd
open Go Go.RowKit Go.Deep Go.Shelf
set_option linter.unusedVariables false
set_option maxRecDepth 100000
attribute [local go_sem] Oper.semAt_some
abbrev Tsp : TypeId := 28
abbrev spC (c : Int) (v : Value) : Array Value := #[.int .u64 c, v]
theorem ent_low {V : World} {R P : Nat} {v p0 p1 : Value} {xs : List En} (h : OwE V P v xs) (hR : R < P) : OwE ((V.setCell ⟨R, 0, none⟩ p0).setCell ⟨R, 1, none⟩ p1) R v xs := by
  have h1 : OwE ((V.setCell ⟨R, 0, none⟩ p0).setCell ⟨R, 1, none⟩ p1) P v xs :=
    own_tch (own_tch h (Tch.set (S := fun b => b = R) V R 0 p0 rfl) (fun kk hk _ e => by omega)) (Tch.set (S := fun b => b = R) _ R 1 p1 rfl) (fun kk hk _ e => by omega)
  exact own_base (by omega) h1
set_option maxHeartbeats 2000000 in
theorem leave_any (T : Nat) (B : Nat → Prop) (m c : Int) (S : List Sl) (w : World) (h : Tbl w T B m c S) (hsort : SortC S.length) :
    Calls Tryz.prog 21 #[ptr T] w fun e w' => ∃ v, ∃ xs : List Sl, e = .returned (.agg (spC c v)) ∧ OwE w' w.heap.size v (xs.map (entS c)) ∧ Told S xs ∧ Below w.heap.size w w' := by
  have b0 := Lib.hid (Blk.new w (spC 0 (.slice none 0 0)) Tsp)
  have k0 := Lib.hid ((Below.refl _ w).alloc (Nat.le_refl _) (.cells (spC 0 (.slice none 0 0)) Tsp))
  have H0 := Lib.hid (h.below k0.out)
  clear h
  go_enter Tryz.func21, Tryz.ntmps21
  go_upto_region 1 with fail
  generalize w.alloc (.cells (spC 0 (.slice none 0 0)) Tsp) = W at *
  have CC := Lib.hid (clock_n H0.out)
  have CE := Lib.hid (entries_any T B m c S W H0.out hsort)
  have hl := b0.out.lt
  go_wp2_with (first
    | (go_at_call 29; with_reducible refine CC.out.mono ?_; rintro e w' ⟨rfl, hh⟩; replace hh := hh.symm; subst hh)
    | (go_at_call 28; refine CE.out.mono ?_; rintro e w2 ⟨v, xs, rfl, o2, TL, g⟩; have b2 := Lib.hid (b0.out.below g); have z0 := b2.out.cell 0; have z1 := b2.out.cell 1; have f0 := b2.out.fz 0; have f1 := b2.out.fz 1; simp at z0 z1; obtain ⟨A2, c2, rfl, _⟩ := o2.form))
  have z := (b2.out.set 0 (.int .u64 c)).set 1 (.slice A2 (xs.map (entS c)).length c2)
  have y0 := z.cell 0
  have y1 := z.cell 1
  simp at y0 y1
  refine bodyPost_ret (v := .agg #[.int .u64 c, .slice A2 (xs.map (entS c)).length c2]) ?_ rfl ⟨_, xs, rfl, ent_low o2 hl, TL, ((kbq k0.out g).setCell (p := ⟨w.heap.size, 0, none⟩) (Nat.le_refl _) _).setCell (p := ⟨w.heap.size, 1, none⟩) (Nat.le_refl _) _⟩
  simp [results, Tryz.f21, go_sem, y0, y1]
set_option maxHeartbeats 2000000 in
theorem rleave_any (m c : Int) (v : Value) (base : Nat) (xs : List Sl) (w : World) (h : OwS w base v xs) (hok : ∀ s ∈ xs, Oks s) (hc : U c) (hn : xs.length ≤ 1000000000) :
    Calls Tryz.prog 22 #[rtv m c v] w fun e w' => ∃ u, e = .returned (.agg (spC c u)) ∧ OwE w' w.heap.size u ((rsl c xs).map (entS c)) ∧ Below w.heap.size w w' := by
  obtain ⟨A, cap, rfl, _, _, _, _⟩ := h.rds
  have b0 := Lib.hid ((Blk.new w (rcs m c (.slice A xs.length cap)) Trf).alloc (.cells (spC 0 (.slice none 0 0)) Tsp))
  have b1 := Blk.new (w.alloc (.cells (rcs m c (.slice A xs.length cap)) Trf)) (spC 0 (.slice none 0 0)) Tsp
  rw [show (w.alloc (.cells (rcs m c (.slice A xs.length cap)) Trf)).heap.size = w.heap.size + 1 by simp] at b1
  replace b1 := Lib.hid b1
  have k0 := Lib.hid (((Below.refl _ w).alloc (Nat.le_refl _) (.cells (rcs m c (.slice A xs.length cap)) Trf)).alloc (by simp) (.cells (spC 0 (.slice none 0 0)) Tsp))
  have CE := Lib.hid (fun (W : World) (g : Below w.heap.size w W) => rentries_any m c (.slice A xs.length cap) base xs W (own_below h g) hok hc hn)
  obtain ⟨Z, hZ⟩ : ∃ Z, (rsl c xs).map (entS c) = Z := ⟨_, rfl⟩
  rw [hZ] at CE ⊢
  clear h hok hZ
  go_enter Tryz.func22, Tryz.ntmps22
  go_upto_region 1 with fail
  generalize (w.alloc (.cells (rcs m c (.slice A xs.length cap)) Trf)).alloc (.cells (spC 0 (.slice none 0 0)) Tsp) = W at *
  obtain ⟨q0, q1, q2⟩ : W.cell? ⟨w.heap.size, 0, none⟩ = some (.int .i64 m) ∧ W.cell? ⟨w.heap.size, 1, none⟩ = some (.int .u64 c) ∧ W.cell? ⟨w.heap.size, 2, none⟩ = some (.slice A xs.length cap) := ⟨b0.out.cell 0, b0.out.cell 1, b0.out.cell 2⟩
  have hl := b1.out.lt
  have CA := Lib.hid (CE.out W k0.out)
  have CB := Lib.hid (CE.out W.drew k0.out.drew)
  go_wp2_with fail
  go_region_with (go_at_call 56; (first | with_reducible refine CA.out.mono ?_ | with_reducible refine CB.out.mono ?_); rintro e w2 ⟨u, rfl, o2, g⟩; obtain ⟨A2, c2, rfl, _⟩ := o2.form; first
    | (have b2 := Lib.hid (b1.out.below g); have b3 := Lib.hid (b0.out.below g); have K2 := Lib.hid (kbq k0.out g); have z0 := b2.out.cell 0; have z1 := b2.out.cell 1; have f0 := b2.out.fz 0; have f1 := b2.out.fz 1; have q1 := b3.out.cell 1; simp at z0 z1 q1)
    | (have b2 := Lib.hid (b1.out.dr.below g); have b3 := Lib.hid (b0.out.dr.below g); have K2 := Lib.hid (kbq k0.out.drew g); have z0 := b2.out.cell 0; have z1 := b2.out.cell 1; have f0 := b2.out.fz 0; have f1 := b2.out.fz 1; have q1 := b3.out.cell 1; simp at z0 z1 q1))
  all_goals
    have z := (b2.out.set 0 (.int .u64 c)).set 1 (.slice A2 Z.length c2)
    have y0 := z.cell 0
    have y1 := z.cell 1
    simp at y0 y1
    go_wp2
    refine bodyPost_ret (v := .agg #[.int .u64 c, .slice A2 Z.length c2]) ?_ rfl ⟨_, rfl, own_base (Nat.le_succ _) (ent_low o2 hl), (K2.out.setCell (p := ⟨w.heap.size + 1, 0, none⟩) (Nat.le_succ _) _).setCell (p := ⟨w.heap.size + 1, 1, none⟩) (Nat.le_succ _) _⟩
    simp [results, Tryz.f22, go_sem, y0, y1]
set_option maxHeartbeats 2000000 in
theorem rsame2_any (c : Int) (v1 v2 : Value) (B1 B2 : Nat) (xs : List En) (w : World) (h1 : OwE w B1 v1 xs) (h2 : OwE w B2 v2 xs) (hn : xs.length ≤ 1099511627776) :
    Calls Tryz.prog 20 #[.agg (spC c v1), .agg (spC c v2)] w fun e w' => e = .returned (.bool true) ∧ Below w.heap.size w w' := by
  obtain ⟨A1, c1, rfl, _⟩ := h1.form
  obtain ⟨A2, c2, rfl, _⟩ := h2.form
  have b0 := Lib.hid ((Blk.new w (spC c (.slice A1 xs.length c1)) Tsp).alloc (.cells (spC c (.slice A2 xs.length c2)) Tsp))
  have b1 := Blk.new (w.alloc (.cells (spC c (.slice A1 xs.length c1)) Tsp)) (spC c (.slice A2 xs.length c2)) Tsp
  rw [show (w.alloc (.cells (spC c (.slice A1 xs.length c1)) Tsp)).heap.size = w.heap.size + 1 by simp] at b1
  replace b1 := Lib.hid b1
  have k0 := Lib.hid (((Below.refl _ w).alloc (Nat.le_refl _) (.cells (spC c (.slice A1 xs.length c1)) Tsp)).alloc (by simp) (.cells (spC c (.slice A2 xs.length c2)) Tsp))
  have CE := Lib.hid (entry_same _ _ B1 B2 xs _ (own_below h1 k0.out) (own_below h2 k0.out) hn)
  clear h1 h2
  go_enter Tryz.func20, Tryz.ntmps20
  go_upto_region 1 with fail
  generalize (w.alloc (.cells (spC c (.slice A1 xs.length c1)) Tsp)).alloc (.cells (spC c (.slice A2 xs.length c2)) Tsp) = W at *
  have x0 := b0.out.cell 0
  have x1 := b0.out.cell 1
  have y0 := b1.out.cell 0
  have y1 := b1.out.cell 1
  simp at x0 x1 y0 y1
  go_wp2_with (go_at_call 27; refine CE.out.mono ?_; rintro e w2 ⟨rfl, g⟩)
  go_ret
  exact ⟨rfl, kbq k0.out (g.lo (Nat.le_refl _))⟩
end Go.Proofs.YtbejkcdaefkibaaGreat.Wd


namespace Go.Proofs.YtbejkcdaefkibaaGreat.Wd
open Go Go.RowKit Go.Shelf Go.Deep
set_option linter.unusedVariables false
set_option maxRecDepth 100000
theorem lt_heap {w : World} {R : Nat} {o : Obj} (h : w.heap[R]? = some o) : R < w.heap.size := by
  by_cases c : R < w.heap.size
  · exact c
  · rw [Array.getElem?_eq_none (by omega)] at h; cases h
theorem r4_of_block {w : World} {B o : Nat} {cs : Array Value} {t : TypeId} {fr : Nat × Nat} {r : Rl} (h : w.heap[B]? = some (.cells cs t fr)) (h0 : cs[o]? = some (.string r.p)) (h1 : cs[o + 1]? = some (.int .u64 r.e)) (h2 : cs[o + 2]? = some (.int .u64 r.b)) (h3 : cs[o + 3]? = some (.int .u8 r.k)) : R4 w B o r := by
  refine ⟨?_, ?_, ?_, ?_⟩ <;> (unfold World.cell?; simp [h, h0, h1, h2, h3])
theorem zeroRule : (Tryz.prog.info? 79).map (fun i => (i.zero, i.size, i.bytes)) = some (some (.agg #[.string ⟨#[]⟩, .int .u64 0, .int .u64 0, .int .u8 0]), 4, 40) := by kernel_rfl
theorem Rls.grown {w w' : World} {B n : Nat} {rs : List Rl} {row : Option Nat} (h : Rls w (some ⟨B, 0, none⟩) n rs) (g : w.grownBy w' row) (hne : row ≠ some B) : Rls w' (some ⟨B, 0, none⟩) n rs :=
  ⟨h.1, h.2.1, fun hn => by
    obtain ⟨b, off, e, hb, hc⟩ := h.2.2 hn
    injection e with e
    injection e with e1 e2
    subst e1 e2
    exact ⟨_, _, rfl, Nat.lt_of_lt_of_le hb g.size, fun j hj => (hc j hj).of_block (g.block _ hb (fun e => hne e.symm))⟩⟩
end Go.Proofs.YtbejkcdaefkibaaGreat.Wd

