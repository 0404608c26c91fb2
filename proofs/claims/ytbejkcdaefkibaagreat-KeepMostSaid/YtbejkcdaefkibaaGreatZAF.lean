/- The document's Charge, of a key that is none; no conditions but those that each names. The document's Charge; no conditions but those that each names. Both: the table and the document's, side by side: what lies in memory, what each call does; no conditions but those that each names. Both, plain: the table and the document's keep the same slots; no conditions but those that each names. Both: a table behind some deeds, and the document's; no conditions but those that each names. keep, plain and called: where nobody stays; no conditions but those that each names. -/
import Derived.Test.YtbejkcdaefkibaaGreatZAD
import Derived.Test.YtbejkcdaefkibaaGreatZAE
import Derived.Deep.LoopGhost
import Derived.Deep.CutRange
import Derived.Deep.CutBlock
namespace Go.Proofs.YtbejkcdaefkibaaGreat.Wd
open Go Go.RowKit Go.Deep Go.Shelf
set_option linter.unusedVariables false
set_option maxRecDepth 100000
theorem tch_blk {Q : Nat → Prop} {w w' : World} {b : Nat} {cs : Array Value} {t : TypeId} (g : Tch Q w w') (h : Blk w b cs t) (hb : ¬ Q b) : Blk w' b cs t := (g.block b h.lt hb).trans h
set_option maxHeartbeats 4000000 in
theorem rcharge_key (m c : Int) (A : Option Addr) (n0 cap : Nat) (k : ByteArray) (r : Rl) (n : Int) (w : World) (hk : k.size ≤ 281474976710656) (h : rtB (lb k) = false) :
    Calls Tryz.prog 55 #[rtv m c (.slice A n0 cap), .string k, r.v, .int .u64 n] w fun e w' => e = .returned (.tuple #[rtv m c (.slice A n0 cap), An.v ⟨5, 12, 0, 0, 0, 0, 0, false⟩]) ∧ Below w.heap.size w w' := by
  have CK := Lib.hid (fun W => rkright_any k W (by omega))
  rw [h] at CK
  clear h
  have b0 := Lib.hid (show Blk ((((w.alloc (.cells (rcs m c (.slice A n0 cap)) Trf)).alloc (.cells #[.string r.p, .int .u64 r.e, .int .u64 r.b, .int .u8 r.k] 79)).alloc (.cells #[.int .i64 0, .int .u64 0, .slice none 0 0] Trf)).alloc (.cells #[.int .u8 0, .int .u16 0, .int .u64 0, .int .u64 0, .int .u64 0, .int .u64 0, .int .u64 0, .bool false, .int .i64 0, .slice none 0 0] 57)) (w.heap.size) (rcs m c (.slice A n0 cap)) Trf from ((((Blk.new w (rcs m c (.slice A n0 cap)) Trf).alloc (.cells #[.string r.p, .int .u64 r.e, .int .u64 r.b, .int .u8 r.k] 79)).alloc (.cells #[.int .i64 0, .int .u64 0, .slice none 0 0] Trf)).alloc (.cells #[.int .u8 0, .int .u16 0, .int .u64 0, .int .u64 0, .int .u64 0, .int .u64 0, .int .u64 0, .bool false, .int .i64 0, .slice none 0 0] 57)))
  have b1 := Lib.hid (show Blk ((((w.alloc (.cells (rcs m c (.slice A n0 cap)) Trf)).alloc (.cells #[.string r.p, .int .u64 r.e, .int .u64 r.b, .int .u8 r.k] 79)).alloc (.cells #[.int .i64 0, .int .u64 0, .slice none 0 0] Trf)).alloc (.cells #[.int .u8 0, .int .u16 0, .int .u64 0, .int .u64 0, .int .u64 0, .int .u64 0, .int .u64 0, .bool false, .int .i64 0, .slice none 0 0] 57)) (w.heap.size + 1) #[.string r.p, .int .u64 r.e, .int .u64 r.b, .int .u8 r.k] 79 by have z := (((Blk.new (w.alloc (.cells (rcs m c (.slice A n0 cap)) Trf)) #[.string r.p, .int .u64 r.e, .int .u64 r.b, .int .u8 r.k] 79).alloc (.cells #[.int .i64 0, .int .u64 0, .slice none 0 0] Trf)).alloc (.cells #[.int .u8 0, .int .u16 0, .int .u64 0, .int .u64 0, .int .u64 0, .int .u64 0, .int .u64 0, .bool false, .int .i64 0, .slice none 0 0] 57)); rwa [show (w.alloc (.cells (rcs m c (.slice A n0 cap)) Trf)).heap.size = w.heap.size + 1 by simp] at z)
  have b2 := Lib.hid (show Blk ((((w.alloc (.cells (rcs m c (.slice A n0 cap)) Trf)).alloc (.cells #[.string r.p, .int .u64 r.e, .int .u64 r.b, .int .u8 r.k] 79)).alloc (.cells #[.int .i64 0, .int .u64 0, .slice none 0 0] Trf)).alloc (.cells #[.int .u8 0, .int .u16 0, .int .u64 0, .int .u64 0, .int .u64 0, .int .u64 0, .int .u64 0, .bool false, .int .i64 0, .slice none 0 0] 57)) (w.heap.size + 2) #[.int .i64 0, .int .u64 0, .slice none 0 0] Trf by have z := ((Blk.new ((w.alloc (.cells (rcs m c (.slice A n0 cap)) Trf)).alloc (.cells #[.string r.p, .int .u64 r.e, .int .u64 r.b, .int .u8 r.k] 79)) #[.int .i64 0, .int .u64 0, .slice none 0 0] Trf).alloc (.cells #[.int .u8 0, .int .u16 0, .int .u64 0, .int .u64 0, .int .u64 0, .int .u64 0, .int .u64 0, .bool false, .int .i64 0, .slice none 0 0] 57)); rwa [show ((w.alloc (.cells (rcs m c (.slice A n0 cap)) Trf)).alloc (.cells #[.string r.p, .int .u64 r.e, .int .u64 r.b, .int .u8 r.k] 79)).heap.size = w.heap.size + 2 by simp] at z)
  have b3 := Lib.hid (show Blk ((((w.alloc (.cells (rcs m c (.slice A n0 cap)) Trf)).alloc (.cells #[.string r.p, .int .u64 r.e, .int .u64 r.b, .int .u8 r.k] 79)).alloc (.cells #[.int .i64 0, .int .u64 0, .slice none 0 0] Trf)).alloc (.cells #[.int .u8 0, .int .u16 0, .int .u64 0, .int .u64 0, .int .u64 0, .int .u64 0, .int .u64 0, .bool false, .int .i64 0, .slice none 0 0] 57)) (w.heap.size + 3) #[.int .u8 0, .int .u16 0, .int .u64 0, .int .u64 0, .int .u64 0, .int .u64 0, .int .u64 0, .bool false, .int .i64 0, .slice none 0 0] 57 by have z := (Blk.new (((w.alloc (.cells (rcs m c (.slice A n0 cap)) Trf)).alloc (.cells #[.string r.p, .int .u64 r.e, .int .u64 r.b, .int .u8 r.k] 79)).alloc (.cells #[.int .i64 0, .int .u64 0, .slice none 0 0] Trf)) #[.int .u8 0, .int .u16 0, .int .u64 0, .int .u64 0, .int .u64 0, .int .u64 0, .int .u64 0, .bool false, .int .i64 0, .slice none 0 0] 57); rwa [show (((w.alloc (.cells (rcs m c (.slice A n0 cap)) Trf)).alloc (.cells #[.string r.p, .int .u64 r.e, .int .u64 r.b, .int .u8 r.k] 79)).alloc (.cells #[.int .i64 0, .int .u64 0, .slice none 0 0] Trf)).heap.size = w.heap.size + 3 by simp] at z)
  have k0 := Lib.hid (show Below w.heap.size w ((((w.alloc (.cells (rcs m c (.slice A n0 cap)) Trf)).alloc (.cells #[.string r.p, .int .u64 r.e, .int .u64 r.b, .int .u8 r.k] 79)).alloc (.cells #[.int .i64 0, .int .u64 0, .slice none 0 0] Trf)).alloc (.cells #[.int .u8 0, .int .u16 0, .int .u64 0, .int .u64 0, .int .u64 0, .int .u64 0, .int .u64 0, .bool false, .int .i64 0, .slice none 0 0] 57)) from (((((Below.refl w.heap.size w).alloc (Nat.le_refl _) (.cells (rcs m c (.slice A n0 cap)) Trf)).alloc (by simp) (.cells #[.string r.p, .int .u64 r.e, .int .u64 r.b, .int .u8 r.k] 79)).alloc (by simp; omega) (.cells #[.int .i64 0, .int .u64 0, .slice none 0 0] Trf)).alloc (by simp; omega) (.cells #[.int .u8 0, .int .u16 0, .int .u64 0, .int .u64 0, .int .u64 0, .int .u64 0, .int .u64 0, .bool false, .int .i64 0, .slice none 0 0] 57)))
  have z0 := Lib.hid (show w.heap.size + 4 ≤ ((((w.alloc (.cells (rcs m c (.slice A n0 cap)) Trf)).alloc (.cells #[.string r.p, .int .u64 r.e, .int .u64 r.b, .int .u8 r.k] 79)).alloc (.cells #[.int .i64 0, .int .u64 0, .slice none 0 0] Trf)).alloc (.cells #[.int .u8 0, .int .u16 0, .int .u64 0, .int .u64 0, .int .u64 0, .int .u64 0, .int .u64 0, .bool false, .int .i64 0, .slice none 0 0] 57)).heap.size by simp)
  go_enter Tryz.func55, Tryz.ntmps55
  go_wp2_with fail
  generalize ((((w.alloc (.cells (rcs m c (.slice A n0 cap)) Trf)).alloc (.cells #[.string r.p, .int .u64 r.e, .int .u64 r.b, .int .u8 r.k] 79)).alloc (.cells #[.int .i64 0, .int .u64 0, .slice none 0 0] Trf)).alloc (.cells #[.int .u8 0, .int .u16 0, .int .u64 0, .int .u64 0, .int .u64 0, .int .u64 0, .int .u64 0, .bool false, .int .i64 0, .slice none 0 0] 57)) = W at *
  obtain ⟨t0, t1, t2, _⟩ := blk3 b0.out
  obtain ⟨u0, u1, u2, uf0, uf1, uf2⟩ := blk3 b2.out
  obtain ⟨y0, y1, y2, y3, y4, y5, y6, y7, y8, y9, f0, f1, f2, f3, f4, f5, f6, f7, f8, f9⟩ := blk10 b3.out
  go_wp2_with (go_at_call 87; ((with_reducible refine (CK.out _).mono ?_); rintro e w1 ⟨rfl, rfl⟩))
  have z2 := Lib.hid (bset3 (p0 := .int .i64 m) (p1 := .int .u64 c) (p2 := .slice A n0 cap) b2.out)
  have z3 := Lib.hid (((b3.out.other (c := w.heap.size + 2) 0 (.int .i64 m) (by omega)).other (c := w.heap.size + 2) 1 (.int .u64 c) (by omega)).other (c := w.heap.size + 2) 2 (.slice A n0 cap) (by omega))
  have kz := Lib.hid (ts3 (p0 := .int .i64 m) (p1 := .int .u64 c) (p2 := .slice A n0 cap) (Tch.refl (fun k => w.heap.size ≤ k) W) (X := w.heap.size + 2) (.inl (show w.heap.size ≤ w.heap.size + 2 by omega)))
  clear t0 t1 t2 u0 u1 u2 uf0 uf1 uf2 y0 y1 y2 y3 y4 y5 y6 y7 y8 y9 f0 f1 f2 f3 f4 f5 f6 f7 f8 f9 b2 b3
  revert z2 z3 kz
  generalize World.setCell _ ⟨w.heap.size + 2, 2, none⟩ _ = V
  intro z2 z3 kz
  have z4 := Lib.hid (bset10 (p0 := .int .u8 5) (p1 := .int .u16 12) (p2 := .int .u64 0) (p3 := .int .u64 0) (p4 := .int .u64 0) (p5 := .int .u64 0) (p6 := .int .u64 0) (p7 := .bool false) (p8 := .int .i64 0) (p9 := .slice none 0 0) z3.out)
  have kq := Lib.hid (ts10 (p0 := .int .u8 5) (p1 := .int .u16 12) (p2 := .int .u64 0) (p3 := .int .u64 0) (p4 := .int .u64 0) (p5 := .int .u64 0) (p6 := .int .u64 0) (p7 := .bool false) (p8 := .int .i64 0) (p9 := .slice none 0 0) (X := w.heap.size + 3) kz.out (.inl (show w.heap.size ≤ w.heap.size + 3 by omega)))
  have z5 := Lib.hid ((tch_blk (Q := fun k => k = w.heap.size + 3) (ts10 (p0 := .int .u8 5) (p1 := .int .u16 12) (p2 := .int .u64 0) (p3 := .int .u64 0) (p4 := .int .u64 0) (p5 := .int .u64 0) (p6 := .int .u64 0) (p7 := .bool false) (p8 := .int .i64 0) (p9 := .slice none 0 0) (X := w.heap.size + 3) (Tch.refl (fun k => k = w.heap.size + 3) V) (.inl rfl)) z2.out (show ¬ (w.heap.size + 2 = w.heap.size + 3) by omega)))
  revert z4 kq z5
  generalize World.setCell _ ⟨w.heap.size + 3, 9, none⟩ _ = V9
  intro z4 kq z5
  obtain ⟨q0, q1, q2, q3, q4, q5, q6, q7, q8, q9, _⟩ := blk10 z4.out
  obtain ⟨v0, v1, v2, _⟩ := blk3 z5.out
  refine bodyPost_ret (v := .tuple #[rtv m c (.slice A n0 cap), An.v ⟨5, 12, 0, 0, 0, 0, 0, false⟩]) ?_ rfl ⟨rfl, tch_below k0.out kq.out (Nat.le_refl _) (fun k hk hq => by omega)⟩
  simp [results, Tryz.results55, go_sem, q0, q1, q2, q3, q4, q5, q6, q7, q8, q9, v0, v1, v2]
set_option maxHeartbeats 8000000 in
theorem rcharge_rule (m c : Int) (A : Option Addr) (n0 cap : Nat) (k : ByteArray) (r : Rl) (n : Int) (w : World) (hk : k.size ≤ 281474976710656) (hr : Okr r) (hrk : 0 ≤ r.k ∧ r.k ≤ 255) (h : rtB (lb k) = true) (h0 : ruE r.p r.e r.b r.k ≠ 0) (hE : 0 ≤ ruE r.p r.e r.b r.k ∧ ruE r.p r.e r.b r.k ≤ 65535) :
    Calls Tryz.prog 55 #[rtv m c (.slice A n0 cap), .string k, r.v, .int .u64 n] w fun e w' => e = .returned (.tuple #[rtv m c (.slice A n0 cap), An.v ⟨5, ruE r.p r.e r.b r.k, 0, 0, 0, 0, 0, false⟩]) ∧ Below w.heap.size w w' := by
  have CK := Lib.hid (fun W => rkright_any k W (by omega))
  have CR := Lib.hid (fun W => refRight_any r.p r.e r.b r.k W (by have := hr.p; omega) hr.e hr.b hrk)
  rw [h] at CK
  have e0 : (ruE r.p r.e r.b r.k != 0) = true := by simpa using h0
  have ew : IntKind.u16.wrap (ruE r.p r.e r.b r.k) = ruE r.p r.e r.b r.k := by rw [IntKind.wrap_u16]; omega
  generalize ruE r.p r.e r.b r.k = E at *
  clear h h0
  have b0 := Lib.hid (show Blk ((((w.alloc (.cells (rcs m c (.slice A n0 cap)) Trf)).alloc (.cells #[.string r.p, .int .u64 r.e, .int .u64 r.b, .int .u8 r.k] 79)).alloc (.cells #[.int .i64 0, .int .u64 0, .slice none 0 0] Trf)).alloc (.cells #[.int .u8 0, .int .u16 0, .int .u64 0, .int .u64 0, .int .u64 0, .int .u64 0, .int .u64 0, .bool false, .int .i64 0, .slice none 0 0] 57)) (w.heap.size) (rcs m c (.slice A n0 cap)) Trf from ((((Blk.new w (rcs m c (.slice A n0 cap)) Trf).alloc (.cells #[.string r.p, .int .u64 r.e, .int .u64 r.b, .int .u8 r.k] 79)).alloc (.cells #[.int .i64 0, .int .u64 0, .slice none 0 0] Trf)).alloc (.cells #[.int .u8 0, .int .u16 0, .int .u64 0, .int .u64 0, .int .u64 0, .int .u64 0, .int .u64 0, .bool false, .int .i64 0, .slice none 0 0] 57)))
  have b1 := Lib.hid (show Blk ((((w.alloc (.cells (rcs m c (.slice A n0 cap)) Trf)).alloc (.cells #[.string r.p, .int .u64 r.e, .int .u64 r.b, .int .u8 r.k] 79)).alloc (.cells #[.int .i64 0, .int .u64 0, .slice none 0 0] Trf)).alloc (.cells #[.int .u8 0, .int .u16 0, .int .u64 0, .int .u64 0, .int .u64 0, .int .u64 0, .int .u64 0, .bool false, .int .i64 0, .slice none 0 0] 57)) (w.heap.size + 1) #[.string r.p, .int .u64 r.e, .int .u64 r.b, .int .u8 r.k] 79 by have z := (((Blk.new (w.alloc (.cells (rcs m c (.slice A n0 cap)) Trf)) #[.string r.p, .int .u64 r.e, .int .u64 r.b, .int .u8 r.k] 79).alloc (.cells #[.int .i64 0, .int .u64 0, .slice none 0 0] Trf)).alloc (.cells #[.int .u8 0, .int .u16 0, .int .u64 0, .int .u64 0, .int .u64 0, .int .u64 0, .int .u64 0, .bool false, .int .i64 0, .slice none 0 0] 57)); rwa [show (w.alloc (.cells (rcs m c (.slice A n0 cap)) Trf)).heap.size = w.heap.size + 1 by simp] at z)
  have b2 := Lib.hid (show Blk ((((w.alloc (.cells (rcs m c (.slice A n0 cap)) Trf)).alloc (.cells #[.string r.p, .int .u64 r.e, .int .u64 r.b, .int .u8 r.k] 79)).alloc (.cells #[.int .i64 0, .int .u64 0, .slice none 0 0] Trf)).alloc (.cells #[.int .u8 0, .int .u16 0, .int .u64 0, .int .u64 0, .int .u64 0, .int .u64 0, .int .u64 0, .bool false, .int .i64 0, .slice none 0 0] 57)) (w.heap.size + 2) #[.int .i64 0, .int .u64 0, .slice none 0 0] Trf by have z := ((Blk.new ((w.alloc (.cells (rcs m c (.slice A n0 cap)) Trf)).alloc (.cells #[.string r.p, .int .u64 r.e, .int .u64 r.b, .int .u8 r.k] 79)) #[.int .i64 0, .int .u64 0, .slice none 0 0] Trf).alloc (.cells #[.int .u8 0, .int .u16 0, .int .u64 0, .int .u64 0, .int .u64 0, .int .u64 0, .int .u64 0, .bool false, .int .i64 0, .slice none 0 0] 57)); rwa [show ((w.alloc (.cells (rcs m c (.slice A n0 cap)) Trf)).alloc (.cells #[.string r.p, .int .u64 r.e, .int .u64 r.b, .int .u8 r.k] 79)).heap.size = w.heap.size + 2 by simp] at z)
  have b3 := Lib.hid (show Blk ((((w.alloc (.cells (rcs m c (.slice A n0 cap)) Trf)).alloc (.cells #[.string r.p, .int .u64 r.e, .int .u64 r.b, .int .u8 r.k] 79)).alloc (.cells #[.int .i64 0, .int .u64 0, .slice none 0 0] Trf)).alloc (.cells #[.int .u8 0, .int .u16 0, .int .u64 0, .int .u64 0, .int .u64 0, .int .u64 0, .int .u64 0, .bool false, .int .i64 0, .slice none 0 0] 57)) (w.heap.size + 3) #[.int .u8 0, .int .u16 0, .int .u64 0, .int .u64 0, .int .u64 0, .int .u64 0, .int .u64 0, .bool false, .int .i64 0, .slice none 0 0] 57 by have z := (Blk.new (((w.alloc (.cells (rcs m c (.slice A n0 cap)) Trf)).alloc (.cells #[.string r.p, .int .u64 r.e, .int .u64 r.b, .int .u8 r.k] 79)).alloc (.cells #[.int .i64 0, .int .u64 0, .slice none 0 0] Trf)) #[.int .u8 0, .int .u16 0, .int .u64 0, .int .u64 0, .int .u64 0, .int .u64 0, .int .u64 0, .bool false, .int .i64 0, .slice none 0 0] 57); rwa [show (((w.alloc (.cells (rcs m c (.slice A n0 cap)) Trf)).alloc (.cells #[.string r.p, .int .u64 r.e, .int .u64 r.b, .int .u8 r.k] 79)).alloc (.cells #[.int .i64 0, .int .u64 0, .slice none 0 0] Trf)).heap.size = w.heap.size + 3 by simp] at z)
  have k0 := Lib.hid (show Below w.heap.size w ((((w.alloc (.cells (rcs m c (.slice A n0 cap)) Trf)).alloc (.cells #[.string r.p, .int .u64 r.e, .int .u64 r.b, .int .u8 r.k] 79)).alloc (.cells #[.int .i64 0, .int .u64 0, .slice none 0 0] Trf)).alloc (.cells #[.int .u8 0, .int .u16 0, .int .u64 0, .int .u64 0, .int .u64 0, .int .u64 0, .int .u64 0, .bool false, .int .i64 0, .slice none 0 0] 57)) from (((((Below.refl w.heap.size w).alloc (Nat.le_refl _) (.cells (rcs m c (.slice A n0 cap)) Trf)).alloc (by simp) (.cells #[.string r.p, .int .u64 r.e, .int .u64 r.b, .int .u8 r.k] 79)).alloc (by simp; omega) (.cells #[.int .i64 0, .int .u64 0, .slice none 0 0] Trf)).alloc (by simp; omega) (.cells #[.int .u8 0, .int .u16 0, .int .u64 0, .int .u64 0, .int .u64 0, .int .u64 0, .int .u64 0, .bool false, .int .i64 0, .slice none 0 0] 57)))
  have z0 := Lib.hid (show w.heap.size + 4 ≤ ((((w.alloc (.cells (rcs m c (.slice A n0 cap)) Trf)).alloc (.cells #[.string r.p, .int .u64 r.e, .int .u64 r.b, .int .u8 r.k] 79)).alloc (.cells #[.int .i64 0, .int .u64 0, .slice none 0 0] Trf)).alloc (.cells #[.int .u8 0, .int .u16 0, .int .u64 0, .int .u64 0, .int .u64 0, .int .u64 0, .int .u64 0, .bool false, .int .i64 0, .slice none 0 0] 57)).heap.size by simp)
  go_enter Tryz.func55, Tryz.ntmps55
  go_wp2_with fail
  generalize ((((w.alloc (.cells (rcs m c (.slice A n0 cap)) Trf)).alloc (.cells #[.string r.p, .int .u64 r.e, .int .u64 r.b, .int .u8 r.k] 79)).alloc (.cells #[.int .i64 0, .int .u64 0, .slice none 0 0] Trf)).alloc (.cells #[.int .u8 0, .int .u16 0, .int .u64 0, .int .u64 0, .int .u64 0, .int .u64 0, .int .u64 0, .bool false, .int .i64 0, .slice none 0 0] 57)) = W at *
  obtain ⟨r0, r1, r2, r3, _⟩ := blk4 b1.out
  go_wp2_with (first
    | (go_at_call 87; ((with_reducible refine (CK.out _).mono ?_); rintro e w1 ⟨rfl, rfl⟩))
    | (go_at_call 90; ((with_reducible refine (CR.out _).mono ?_); rintro e w1 ⟨rfl, _, g⟩; refine stopHere ?_)))
  unfold Stop
  have c0 := Lib.hid (b0.out.below g)
  have c1 := Lib.hid (b1.out.below g)
  have c2 := Lib.hid (b2.out.below g)
  have c3 := Lib.hid (b3.out.below g)
  have k1 := Lib.hid (kbq k0.out g)
  clear b0 b1 b2 b3 k0 g r0 r1 r2 r3 z0
  obtain ⟨r0, r1, r2, r3, _⟩ := blk4 c1.out
  obtain ⟨t0, t1, t2, _⟩ := blk3 c0.out
  go_wp2_with fail
  go_region_with (go_at_call 90; ((with_reducible refine (CR.out _).mono ?_); rintro e w2 ⟨rfl, _, g⟩; clear r0 r1 r2 r3 t0 t1 t2; have d0 : Hid (Blk w2 _ _ _) := Lib.hid (by first | exact Blk.below (Blk.dr c0.out) g | exact Blk.below c0.out g); have d2 : Hid (Blk w2 _ _ _) := Lib.hid (by first | exact Blk.below (Blk.dr c2.out) g | exact Blk.below c2.out g); have d3 : Hid (Blk w2 _ _ _) := Lib.hid (by first | exact Blk.below (Blk.dr c3.out) g | exact Blk.below c3.out g); have k2 : Hid (Below w.heap.size w w2) := Lib.hid (by first | exact kbq k1.out.drew g | exact kbq k1.out g); obtain ⟨t0, t1, t2, _⟩ := blk3 d0.out; obtain ⟨u0, u1, u2, uf0, uf1, uf2⟩ := blk3 d2.out; obtain ⟨y0, y1, y2, y3, y4, y5, y6, y7, y8, y9, f0, f1, f2, f3, f4, f5, f6, f7, f8, f9⟩ := blk10 d3.out))
  all_goals
    have z2 := Lib.hid (bset3 (p0 := .int .i64 m) (p1 := .int .u64 c) (p2 := .slice A n0 cap) d2.out)
    have z3 := Lib.hid (((d3.out.other (c := w.heap.size + 2) 0 (.int .i64 m) (by omega)).other (c := w.heap.size + 2) 1 (.int .u64 c) (by omega)).other (c := w.heap.size + 2) 2 (.slice A n0 cap) (by omega))
    have kz := Lib.hid (ts3 (p0 := .int .i64 m) (p1 := .int .u64 c) (p2 := .slice A n0 cap) (Tch.refl (fun k => w.heap.size ≤ k) w2) (X := w.heap.size + 2) (.inl (show w.heap.size ≤ w.heap.size + 2 by omega)))
    clear t0 t1 t2 u0 u1 u2 uf0 uf1 uf2 y0 y1 y2 y3 y4 y5 y6 y7 y8 y9 f0 f1 f2 f3 f4 f5 f6 f7 f8 f9 d2 d3
    revert z2 z3 kz
    generalize World.setCell _ ⟨w.heap.size + 2, 2, none⟩ _ = V
    intro z2 z3 kz
    have z4 := Lib.hid (bset10 (p0 := .int .u8 5) (p1 := .int .u16 E) (p2 := .int .u64 0) (p3 := .int .u64 0) (p4 := .int .u64 0) (p5 := .int .u64 0) (p6 := .int .u64 0) (p7 := .bool false) (p8 := .int .i64 0) (p9 := .slice none 0 0) z3.out)
    have kq := Lib.hid (ts10 (p0 := .int .u8 5) (p1 := .int .u16 E) (p2 := .int .u64 0) (p3 := .int .u64 0) (p4 := .int .u64 0) (p5 := .int .u64 0) (p6 := .int .u64 0) (p7 := .bool false) (p8 := .int .i64 0) (p9 := .slice none 0 0) (X := w.heap.size + 3) kz.out (.inl (show w.heap.size ≤ w.heap.size + 3 by omega)))
    have z5 := Lib.hid ((tch_blk (Q := fun k => k = w.heap.size + 3) (ts10 (p0 := .int .u8 5) (p1 := .int .u16 E) (p2 := .int .u64 0) (p3 := .int .u64 0) (p4 := .int .u64 0) (p5 := .int .u64 0) (p6 := .int .u64 0) (p7 := .bool false) (p8 := .int .i64 0) (p9 := .slice none 0 0) (X := w.heap.size + 3) (Tch.refl (fun k => k = w.heap.size + 3) V) (.inl rfl)) z2.out (show ¬ (w.heap.size + 2 = w.heap.size + 3) by omega)))
    revert z4 kq z5
    generalize World.setCell _ ⟨w.heap.size + 3, 9, none⟩ _ = V9
    intro z4 kq z5
    obtain ⟨q0, q1, q2, q3, q4, q5, q6, q7, q8, q9, _⟩ := blk10 z4.out
    obtain ⟨v0, v1, v2, _⟩ := blk3 z5.out
    go_wp2
    refine bodyPost_ret (v := .tuple #[rtv m c (.slice A n0 cap), An.v ⟨5, E, 0, 0, 0, 0, 0, false⟩]) ?_ rfl ⟨rfl, tch_below k2.out kq.out (Nat.le_refl _) (fun k hk hq => by omega)⟩
    simp [results, Tryz.results55, go_sem, q0, q1, q2, q3, q4, q5, q6, q7, q8, q9, v0, v1, v2]
end Go.Proofs.YtbejkcdaefkibaaGreat.Wd
namespace Go.Proofs.YtbejkcdaefkibaaGreat.Wd
open Go Go.RowKit Go.Deep Go.Shelf
set_option linter.unusedVariables false
set_option maxRecDepth 100000
abbrev zan : Array Value := #[.int .u8 0, .int .u16 0, .int .u64 0, .int .u64 0, .int .u64 0, .int .u64 0, .int .u64 0, .bool false, .int .i64 0, .slice none 0 0]
theorem bset_one {w : World} {X : Nat} {m c : Int} {v : Value} {t : TypeId} (h : Blk w X (rcs m c v) t) (u : Value) : Blk (w.setCell ⟨X, 2, none⟩ u) X (rcs m c u) t := h.set 2 u
/-- Where a row lies that a call owns. -/
def OffV (u : Value) (Q : Nat → Prop) : Prop := ∀ b n cap, u = .slice (some ⟨b, 0, none⟩) n cap → ¬ Q b
theorem own_off {Q : Nat → Prop} {w w' : World} {base : Nat} {u : Value} {xs : List Sl} (h : OwS w base u xs) (g : Tch Q w w') (hQ : OffV u Q) : OwS w' base u xs := by
  refine ⟨h.1, ?_⟩
  rcases h.2 with hn | ⟨b, cap, cur, rfl, hb, hgg, rest⟩
  · exact .inl hn
  · exact .inr ⟨b, cap, cur, rfl, hb, (g.block b (heap_lt hgg) (hQ b _ _ rfl)).trans hgg, rest⟩
theorem own_at {w : World} {base Y : Nat} {u : Value} {xs : List Sl} (h : OwS w base u xs) (hY : w.heap.size ≤ Y) : OffV u (fun k => k = Y) := by
  intro b n cap e x
  rcases h.2 with ⟨hn, _⟩ | ⟨g, cap', cur, hv, hb, hgg, rest⟩
  · rw [hn] at e; cases e
  · rw [hv] at e
    have := heap_lt hgg
    injection e with e1
    injection e1 with e1
    injection e1 with e1
    omega
/-- The document's Charge, under way: its table, its rule, what it will tell; the slots that are there. -/
structure Ch (w wx : World) (base : Nat) (m c : Int) (u : Value) (S : List Sl) (r : Rl) : Prop where
  t : Blk wx w.heap.size (rcs m c u) Trf
  r : Blk wx (w.heap.size + 1) #[.string r.p, .int .u64 r.e, .int .u64 r.b, .int .u8 r.k] 79
  p : Blk wx (w.heap.size + 2) #[.int .i64 0, .int .u64 0, .slice none 0 0] Trf
  a : Blk wx (w.heap.size + 3) zan 57
  o : OwS wx base u S
  k : Below w.heap.size w wx
  z : w.heap.size + 4 ≤ base
  y : base ≤ wx.heap.size
theorem Ch.below {w wx wy : World} {base : Nat} {m c : Int} {u : Value} {S : List Sl} {r : Rl} (h : Ch w wx base m c u S r) (g : Below wx.heap.size wx wy) : Ch w wy base m c u S r :=
  ⟨h.t.below g, h.r.below g, h.p.below g, h.a.below g, own_below h.o g, kbq h.k g, h.z, Nat.le_trans h.y g.size⟩
theorem Ch.drew {w wx wy : World} {base : Nat} {m c : Int} {u : Value} {S : List Sl} {r : Rl} (h : Ch w wx base m c u S r) (g : Drew wx wy) : Ch w wy base m c u S r := h.below (g.lo (Nat.le_refl _))
theorem Ch.dr {w wx : World} {base : Nat} {m c : Int} {u : Value} {S : List Sl} {r : Rl} (h : Ch w wx base m c u S r) : Ch w wx.drew base m c u S r := h.drew ⟨1, rfl⟩
theorem Ch.alloc {w wx : World} {base : Nat} {m c : Int} {u : Value} {S : List Sl} {r : Rl} (h : Ch w wx base m c u S r) (o : Obj) : Ch w (wx.alloc o) base m c u S r := h.below ((Below.refl _ wx).alloc (Nat.le_refl _) o)
/-- A store into a block that is none of its own. -/
theorem Ch.off {w wx : World} {base : Nat} {m c : Int} {u : Value} {S : List Sl} {r : Rl} (h : Ch w wx base m c u S r) {Y i : Nat} (v : Value) (hY : w.heap.size + 4 ≤ Y) (hu : OffV u (fun k => k = Y)) : Ch w (wx.setCell ⟨Y, i, none⟩ v) base m c u S r :=
  ⟨h.t.other _ _ (by omega), h.r.other _ _ (by omega), h.p.other _ _ (by omega), h.a.other _ _ (by omega), own_off (Q := fun k => k = Y) h.o (tset (Tch.refl _ _) (.inl rfl)) hu, h.k.setCell (p := ⟨Y, i, none⟩) (show w.heap.size ≤ Y by omega) v, h.z, by simpa using h.y⟩
/-- Other slots are laid into the table. -/
theorem Ch.put {w wx : World} {base base' : Nat} {m c : Int} {u u' : Value} {S S' : List Sl} {r : Rl} (h : Ch w wx base m c u S r) (o : OwS wx base' u' S') (hb : base ≤ base') : Ch w (wx.setCell ⟨w.heap.size, 2, none⟩ u') base m c u' S' r := by
  have hz := h.z
  exact ⟨bset_one h.t u', h.r.other _ _ (by omega), h.p.other _ _ (by omega), h.a.other _ _ (by omega), own_base hb (own_tch o (tset (Tch.refl (fun k => k = w.heap.size) _) (.inl rfl)) (fun k h1 _ e => by omega)), h.k.setCell (p := ⟨w.heap.size, 2, none⟩) (Nat.le_refl _) u', hz, by simpa using h.y⟩
theorem Ch.lt {w wx : World} {base : Nat} {m c : Int} {u : Value} {S : List Sl} {r : Rl} (h : Ch w wx base m c u S r) : w.heap.size + 4 ≤ wx.heap.size := h.a.lt
/-- What it tells lies ready: its table, then the answer. -/
structure Fin3 (w V : World) (base : Nat) (m c : Int) (u : Value) (S : List Sl) : Prop where
  p : Blk V (w.heap.size + 2) (rcs m c u) Trf
  a : Blk V (w.heap.size + 3) zan 57
  o : OwS V base u S
  k : Below w.heap.size w V
  z : w.heap.size + 4 ≤ base
structure Fin10 (w V : World) (m c : Int) (u : Value) (S : List Sl) (an : An) : Prop where
  p : Blk V (w.heap.size + 2) (rcs m c u) Trf
  a : Blk V (w.heap.size + 3) an.cs 57
  o : OwS V w.heap.size u S
  k : Below w.heap.size w V
theorem Ch.res3 {w wx : World} {base : Nat} {m c : Int} {u : Value} {S : List Sl} {r : Rl} (h : Ch w wx base m c u S r) : Fin3 w (((wx.setCell ⟨w.heap.size + 2, 0, none⟩ (.int .i64 m)).setCell ⟨w.heap.size + 2, 1, none⟩ (.int .u64 c)).setCell ⟨w.heap.size + 2, 2, none⟩ u) base m c u S := by
  have hz := h.z
  have g := ts3 (p0 := .int .i64 m) (p1 := .int .u64 c) (p2 := u) (Tch.refl (fun k => k = w.heap.size + 2) wx) (X := w.heap.size + 2) (.inl rfl)
  exact ⟨bset3 h.p, tch_blk g h.a (show ¬ (w.heap.size + 3 = w.heap.size + 2) by omega), own_tch h.o g (fun k h1 _ e => by omega), tch_below h.k g (Nat.le_refl _) (fun k h1 e => by omega), hz⟩
theorem Fin3.res10 {w V : World} {base : Nat} {m c : Int} {u : Value} {S : List Sl} (h : Fin3 w V base m c u S) (an : An) : Fin10 w ((((((((((V.setCell ⟨w.heap.size + 3, 0, none⟩ (.int .u8 an.code)).setCell ⟨w.heap.size + 3, 1, none⟩ (.int .u16 an.err)).setCell ⟨w.heap.size + 3, 2, none⟩ (.int .u64 an.lim)).setCell ⟨w.heap.size + 3, 3, none⟩ (.int .u64 an.left)).setCell ⟨w.heap.size + 3, 4, none⟩ (.int .u64 an.reset)).setCell ⟨w.heap.size + 3, 5, none⟩ (.int .u64 an.after)).setCell ⟨w.heap.size + 3, 6, none⟩ (.int .u64 an.nanos)).setCell ⟨w.heap.size + 3, 7, none⟩ (.bool an.retry)).setCell ⟨w.heap.size + 3, 8, none⟩ (.int .i64 0)).setCell ⟨w.heap.size + 3, 9, none⟩ (.slice none 0 0)) m c u S an := by
  have hz := h.z
  have g := ts10 (p0 := (.int .u8 an.code)) (p1 := (.int .u16 an.err)) (p2 := (.int .u64 an.lim)) (p3 := (.int .u64 an.left)) (p4 := (.int .u64 an.reset)) (p5 := (.int .u64 an.after)) (p6 := (.int .u64 an.nanos)) (p7 := (.bool an.retry)) (p8 := (.int .i64 0)) (p9 := (.slice none 0 0)) (Tch.refl (fun k => k = w.heap.size + 3) V) (X := w.heap.size + 3) (.inl rfl)
  exact ⟨tch_blk g h.p (show ¬ (w.heap.size + 2 = w.heap.size + 3) by omega), bset10 h.a, own_base (show w.heap.size ≤ base by omega) (own_tch h.o g (fun k h1 _ e => by omega)), tch_below h.k g (Nat.le_refl _) (fun k h1 e => by omega)⟩
theorem Fin10.dr {w V : World} {m c : Int} {u : Value} {S : List Sl} {an : An} (h : Fin10 w V m c u S an) : Fin10 w V.drew m c u S an := ⟨h.p, h.a, own_below h.o (Drew.lo ⟨1, rfl⟩ (Nat.le_refl _)), kbq h.k (Drew.lo ⟨1, rfl⟩ (Nat.le_refl _))⟩
theorem findI_none {k : ByteArray} {l : List Sl} (h : getS l k = none) : findI l k 0 = -1 := by
  rcases find_get (k := k) (l := l) (i := 0) (by omega) with ⟨_, h2⟩ | ⟨j, y, h1, _, _⟩
  · exact h2
  · rw [h] at h1; cases h1
/-- Is one there by the key, but by other numbers? -/
def othB (S : List Sl) (k : ByteArray) (r : Rl) : Bool := match getS S k with
  | some y => !(decide (y.r.e = r.e ∧ y.r.b = r.b))
  | none => false
theorem oth_no {S : List Sl} {k : ByteArray} {r : Rl} (h : othB S k r = false) : dropS S k r = S := by
  unfold othB at h
  unfold dropS
  cases e : getS S k with
  | none => rfl
  | some y =>
    rw [e] at h
    show (if y.r.e = r.e ∧ y.r.b = r.b then S else offS k S) = S
    by_cases z : y.r.e = r.e ∧ y.r.b = r.b
    · rw [if_pos z]
    · have h' : (!(decide (y.r.e = r.e ∧ y.r.b = r.b))) = false := h
      rw [decide_eq_false z] at h'; cases h'
theorem oth_yes {S : List Sl} {k : ByteArray} {r : Rl} (h : othB S k r = true) : dropS S k r = offS k S := by
  unfold othB at h
  unfold dropS
  cases e : getS S k with
  | none => rw [e] at h; cases h
  | some y =>
    rw [e] at h
    show (if y.r.e = r.e ∧ y.r.b = r.b then S else offS k S) = offS k S
    by_cases z : y.r.e = r.e ∧ y.r.b = r.b
    · have h' : (!(decide (y.r.e = r.e ∧ y.r.b = r.b))) = true := h
      rw [decide_eq_true z] at h'; cases h'
    · rw [if_neg z]
theorem dropS_sub {S : List Sl} {k : ByteArray} {r : Rl} {s : Sl} (h : s ∈ dropS S k r) : s ∈ S := by
  unfold dropS at h
  split at h
  · split at h
    · exact h
    · exact (offS_mem.1 h).1
  · exact h
set_option maxHeartbeats 16000000 in
theorem rcharge_ok (m c : Int) (base : Nat) (v : Value) (S : List Sl) (k : ByteArray) (r : Rl) (n : Int) (w : World) (hm : 1 ≤ m ∧ m ≤ 1000000) (hS : OwS w base v S) (hok : ∀ s ∈ S, Oks s) (hk3 : ∀ s ∈ S, Is3 s.k) (hc : U c) (hl : S.length ≤ 1000000000) (hk : k.size ≤ 281474976710656) (hr : Okr r) (hrk : 0 ≤ r.k ∧ r.k ≤ 255) (hn : U n) (h : rtB (lb k) = true) (h0 : ruE r.p r.e r.b r.k = 0) :
    Calls Tryz.prog 55 #[rtv m c v, .string k, r.v, .int .u64 n] w fun e w' => ∃ u, e = .returned (.tuple #[rtv m c u, An.v (chA m c (rsl c S) k r n)]) ∧ OwS w' w.heap.size u (rcN m c S k r n) ∧ Below w.heap.size w w' := by
  have hwk : wkE k r = 0 := by unfold wkE; rw [if_pos h]; exact h0
  have r3 : Is3 r.k := rule_is3 h0
  obtain ⟨A, cap, rfl, hcap, hR, hnil, hspot⟩ := hS.rds
  obtain ⟨n0, hn0⟩ : ∃ x, S.length = x := ⟨_, rfl⟩
  rw [hn0] at hS hcap hR ⊢
  have CK := Lib.hid (fun W => rkright_any k W (by omega))
  have CR := Lib.hid (fun W => refRight_any r.p r.e r.b r.k W (by have := hr.p; omega) hr.e hr.b hrk)
  rw [h] at CK
  rw [h0] at CR
  have CS := Lib.hid (fun W (g : OwS W base (.slice A n0 cap) S) => rslots_any m c (.slice A n0 cap) base S W g hok hc (by omega))
  have HW := Lib.hid hwk
  have HR3 := Lib.hid r3
  have HK3 := Lib.hid hk3
  clear h h0 hwk r3 hk3
  have b0 := Lib.hid (show Blk ((((w.alloc (.cells (rcs m c (.slice A n0 cap)) Trf)).alloc (.cells #[.string r.p, .int .u64 r.e, .int .u64 r.b, .int .u8 r.k] 79)).alloc (.cells #[.int .i64 0, .int .u64 0, .slice none 0 0] Trf)).alloc (.cells #[.int .u8 0, .int .u16 0, .int .u64 0, .int .u64 0, .int .u64 0, .int .u64 0, .int .u64 0, .bool false, .int .i64 0, .slice none 0 0] 57)) (w.heap.size) (rcs m c (.slice A n0 cap)) Trf from ((((Blk.new w (rcs m c (.slice A n0 cap)) Trf).alloc (.cells #[.string r.p, .int .u64 r.e, .int .u64 r.b, .int .u8 r.k] 79)).alloc (.cells #[.int .i64 0, .int .u64 0, .slice none 0 0] Trf)).alloc (.cells #[.int .u8 0, .int .u16 0, .int .u64 0, .int .u64 0, .int .u64 0, .int .u64 0, .int .u64 0, .bool false, .int .i64 0, .slice none 0 0] 57)))
  have b1 := Lib.hid (show Blk ((((w.alloc (.cells (rcs m c (.slice A n0 cap)) Trf)).alloc (.cells #[.string r.p, .int .u64 r.e, .int .u64 r.b, .int .u8 r.k] 79)).alloc (.cells #[.int .i64 0, .int .u64 0, .slice none 0 0] Trf)).alloc (.cells #[.int .u8 0, .int .u16 0, .int .u64 0, .int .u64 0, .int .u64 0, .int .u64 0, .int .u64 0, .bool false, .int .i64 0, .slice none 0 0] 57)) (w.heap.size + 1) #[.string r.p, .int .u64 r.e, .int .u64 r.b, .int .u8 r.k] 79 by have z := (((Blk.new (w.alloc (.cells (rcs m c (.slice A n0 cap)) Trf)) #[.string r.p, .int .u64 r.e, .int .u64 r.b, .int .u8 r.k] 79).alloc (.cells #[.int .i64 0, .int .u64 0, .slice none 0 0] Trf)).alloc (.cells #[.int .u8 0, .int .u16 0, .int .u64 0, .int .u64 0, .int .u64 0, .int .u64 0, .int .u64 0, .bool false, .int .i64 0, .slice none 0 0] 57)); rwa [show (w.alloc (.cells (rcs m c (.slice A n0 cap)) Trf)).heap.size = w.heap.size + 1 by simp] at z)
  have b2 := Lib.hid (show Blk ((((w.alloc (.cells (rcs m c (.slice A n0 cap)) Trf)).alloc (.cells #[.string r.p, .int .u64 r.e, .int .u64 r.b, .int .u8 r.k] 79)).alloc (.cells #[.int .i64 0, .int .u64 0, .slice none 0 0] Trf)).alloc (.cells #[.int .u8 0, .int .u16 0, .int .u64 0, .int .u64 0, .int .u64 0, .int .u64 0, .int .u64 0, .bool false, .int .i64 0, .slice none 0 0] 57)) (w.heap.size + 2) #[.int .i64 0, .int .u64 0, .slice none 0 0] Trf by have z := ((Blk.new ((w.alloc (.cells (rcs m c (.slice A n0 cap)) Trf)).alloc (.cells #[.string r.p, .int .u64 r.e, .int .u64 r.b, .int .u8 r.k] 79)) #[.int .i64 0, .int .u64 0, .slice none 0 0] Trf).alloc (.cells #[.int .u8 0, .int .u16 0, .int .u64 0, .int .u64 0, .int .u64 0, .int .u64 0, .int .u64 0, .bool false, .int .i64 0, .slice none 0 0] 57)); rwa [show ((w.alloc (.cells (rcs m c (.slice A n0 cap)) Trf)).alloc (.cells #[.string r.p, .int .u64 r.e, .int .u64 r.b, .int .u8 r.k] 79)).heap.size = w.heap.size + 2 by simp] at z)
  have b3 := Lib.hid (show Blk ((((w.alloc (.cells (rcs m c (.slice A n0 cap)) Trf)).alloc (.cells #[.string r.p, .int .u64 r.e, .int .u64 r.b, .int .u8 r.k] 79)).alloc (.cells #[.int .i64 0, .int .u64 0, .slice none 0 0] Trf)).alloc (.cells #[.int .u8 0, .int .u16 0, .int .u64 0, .int .u64 0, .int .u64 0, .int .u64 0, .int .u64 0, .bool false, .int .i64 0, .slice none 0 0] 57)) (w.heap.size + 3) #[.int .u8 0, .int .u16 0, .int .u64 0, .int .u64 0, .int .u64 0, .int .u64 0, .int .u64 0, .bool false, .int .i64 0, .slice none 0 0] 57 by have z := (Blk.new (((w.alloc (.cells (rcs m c (.slice A n0 cap)) Trf)).alloc (.cells #[.string r.p, .int .u64 r.e, .int .u64 r.b, .int .u8 r.k] 79)).alloc (.cells #[.int .i64 0, .int .u64 0, .slice none 0 0] Trf)) #[.int .u8 0, .int .u16 0, .int .u64 0, .int .u64 0, .int .u64 0, .int .u64 0, .int .u64 0, .bool false, .int .i64 0, .slice none 0 0] 57); rwa [show (((w.alloc (.cells (rcs m c (.slice A n0 cap)) Trf)).alloc (.cells #[.string r.p, .int .u64 r.e, .int .u64 r.b, .int .u8 r.k] 79)).alloc (.cells #[.int .i64 0, .int .u64 0, .slice none 0 0] Trf)).heap.size = w.heap.size + 3 by simp] at z)
  have k0 := Lib.hid (show Below w.heap.size w ((((w.alloc (.cells (rcs m c (.slice A n0 cap)) Trf)).alloc (.cells #[.string r.p, .int .u64 r.e, .int .u64 r.b, .int .u8 r.k] 79)).alloc (.cells #[.int .i64 0, .int .u64 0, .slice none 0 0] Trf)).alloc (.cells #[.int .u8 0, .int .u16 0, .int .u64 0, .int .u64 0, .int .u64 0, .int .u64 0, .int .u64 0, .bool false, .int .i64 0, .slice none 0 0] 57)) from (((((Below.refl w.heap.size w).alloc (Nat.le_refl _) (.cells (rcs m c (.slice A n0 cap)) Trf)).alloc (by simp) (.cells #[.string r.p, .int .u64 r.e, .int .u64 r.b, .int .u8 r.k] 79)).alloc (by simp; omega) (.cells #[.int .i64 0, .int .u64 0, .slice none 0 0] Trf)).alloc (by simp; omega) (.cells #[.int .u8 0, .int .u16 0, .int .u64 0, .int .u64 0, .int .u64 0, .int .u64 0, .int .u64 0, .bool false, .int .i64 0, .slice none 0 0] 57)))
  have z0 := Lib.hid (show w.heap.size + 4 ≤ ((((w.alloc (.cells (rcs m c (.slice A n0 cap)) Trf)).alloc (.cells #[.string r.p, .int .u64 r.e, .int .u64 r.b, .int .u8 r.k] 79)).alloc (.cells #[.int .i64 0, .int .u64 0, .slice none 0 0] Trf)).alloc (.cells #[.int .u8 0, .int .u16 0, .int .u64 0, .int .u64 0, .int .u64 0, .int .u64 0, .int .u64 0, .bool false, .int .i64 0, .slice none 0 0] 57)).heap.size by simp)
  have HS := Lib.hid (own_below hS k0.out)
  clear hR hnil hspot hS
  go_enter Tryz.func55, Tryz.ntmps55
  go_wp2_with fail
  generalize ((((w.alloc (.cells (rcs m c (.slice A n0 cap)) Trf)).alloc (.cells #[.string r.p, .int .u64 r.e, .int .u64 r.b, .int .u8 r.k] 79)).alloc (.cells #[.int .i64 0, .int .u64 0, .slice none 0 0] Trf)).alloc (.cells #[.int .u8 0, .int .u16 0, .int .u64 0, .int .u64 0, .int .u64 0, .int .u64 0, .int .u64 0, .bool false, .int .i64 0, .slice none 0 0] 57)) = W at *
  obtain ⟨r0, r1, r2, r3, _⟩ := blk4 b1.out
  go_wp2_with (first
    | (go_at_call 87; ((with_reducible refine (CK.out _).mono ?_); rintro e w1 ⟨rfl, rfl⟩))
    | (go_at_call 90; ((with_reducible refine (CR.out _).mono ?_); rintro e w1 ⟨rfl, _, g⟩; refine stopHere ?_)))
  unfold Stop
  have c0 := Lib.hid (b0.out.below g)
  have c1 := Lib.hid (b1.out.below g)
  have c2 := Lib.hid (b2.out.below g)
  have c3 := Lib.hid (b3.out.below g)
  have k1 := Lib.hid (kbq k0.out g)
  have HS1 := Lib.hid (own_below HS.out g)
  have z1 := Lib.hid (show w.heap.size + 4 ≤ w1.heap.size by have := z0.out; have := g.size; omega)
  clear b0 b1 b2 b3 k0 g r0 r1 r2 r3 z0 HS CR CK
  obtain ⟨t0, t1, t2, _⟩ := blk3 c0.out
  go_wp2_with (go_at_call 51; (refine (CS.out _ HS1.out).mono ?_; rintro e w2 ⟨u, rfl, O2, g⟩; refine stopHere ?_))
  unfold Stop
  have d0 := Lib.hid (c0.out.below g)
  have hw1 := z1.out
  have hw2 := g.size
  have HV := Lib.hid (Ch.mk (w := w) (base := w1.heap.size) (m := m) (c := c) (r := r) (bset_one (c0.out.below g) u) ((c1.out.below g).other (c := w.heap.size) 2 u (by omega)) ((c2.out.below g).other (c := w.heap.size) 2 u (by omega)) ((c3.out.below g).other (c := w.heap.size) 2 u (by omega)) (own_tch O2 (tset (i := 2) (v := u) (Tch.refl (fun k => k = w.heap.size) w2) (.inl rfl)) (fun k h1 h2 x => by omega)) ((kbq k1.out g).setCell (p := ⟨w.heap.size, 2, none⟩) (Nat.le_refl _) u) hw1 (by simp; omega))
  have hsz := Lib.hid (show w1.heap.size ≤ (w2.setCell ⟨w.heap.size, 2, none⟩ u).heap.size by simp; omega)
  obtain ⟨A2, cap2, rfl, _⟩ := O2.rds
  clear c0 c1 c2 c3 k1 g t0 t1 t2 z1 HS1 CS O2
  obtain ⟨t0, t1, t2, tf0, tf1, tf2⟩ := blk3 d0.out
  have lenL : (rsl c S).length ≤ 1000000000 := Nat.le_trans (List.length_filter_le _ _) (by omega)
  have CF := Lib.hid (fun W (g : OwS W w1.heap.size (.slice A2 (rsl c S).length cap2) (rsl c S)) => rfind_any _ _ (rsl c S) k W g (by omega))
  go_upto_region 6 with fail
  clear d0 t0 t1 t2 tf0 tf1 tf2
  revert HV hsz
  generalize World.setCell _ ⟨w.heap.size, 2, none⟩ _ = V
  intro HV hsz
  obtain ⟨t0, t1, t2, _⟩ := blk3 HV.out.t
  go_wp2_with (go_at_call 91; (refine (CF.out _ HV.out.o).mono ?_; rintro e w3 ⟨rfl, rfl⟩; refine stopHere ?_))
  unfold Stop
  go_upto_region 7 with fail
  obtain ⟨r0, r1, r2, r3, _⟩ := blk4 HV.out.r
  obtain ⟨I, hI⟩ : ∃ I, findI (rsl c S) k 0 = I := ⟨_, rfl⟩
  rw [hI]
  have HI := Lib.hid hI
  clear hI
  go_cut [65] from 40 to 64 (fun a wx => a = .bool (othB (rsl c S) k r) ∧ Hid (Ch w wx w1.heap.size m c (.slice A2 (rsl c S).length cap2) (rsl c S) r) ∧ Hid (w1.heap.size ≤ wx.heap.size))
  case first =>
    rcases find_get (k := k) (l := rsl c S) (i := 0) (by omega) with ⟨g1, g2⟩ | ⟨j, y, g1, g2, g3⟩
    · have hd : Hid (othB (rsl c S) k r = false) := Lib.hid (by unfold othB; rw [g1])
      have gI := HI.out.symm.trans g2
      subst gI
      clear g1 g2 HI
      go_wp2_with fail
      go_quiet (fail)
      go_wp2
      go_meet
      case rel => exact ⟨by rw [hd.out], Lib.hid (HV.out.drew (Drew.of _ _)), Lib.hid (Nat.le_trans hsz.out (Drew.lo (Drew.of _ _) (Nat.le_refl _)).size)⟩
    · obtain ⟨A3, cap3, hv3, _, _, hrow⟩ := HV.out.o.form
      simp only [Value.slice.injEq] at hv3
      obtain ⟨rfl, _, rfl⟩ := hv3
      have hj : j < (rsl c S).length := by
        by_cases q : j < (rsl c S).length
        · exact q
        · rw [List.getElem?_eq_none (by omega)] at g3; cases g3
      obtain ⟨b, rfl, _, hb, hc8⟩ := hrow (by omega)
      have hy : atS (rsl c S) j = y := by simp [atS, List.getD, g3]
      obtain ⟨x0, x1, x2, x3, x4, x5, x6, x7⟩ := (hc8 j hj).eight
      rw [hy] at x0 x1 x2 x3 x4 x5 x6 x7
      have hd : Hid (othB (rsl c S) k r = !(decide (y.r.e = r.e ∧ y.r.b = r.b))) := Lib.hid (by unfold othB; rw [g1])
      rw [Int.zero_add] at g2
      have gI := HI.out.symm.trans g2
      subst gI
      clear g1 g2 g3 hc8 hrow hy HI
      by_cases q1 : y.r.e = r.e
      · by_cases q2 : y.r.b = r.b
        · have p1 : (y.r.e != r.e) = false := by rw [q1]; simp
          have p2 : (y.r.b != r.b) = false := by rw [q2]; simp
          have HD : Hid (othB (rsl c S) k r = false) := Lib.hid (hd.out.trans (by rw [decide_eq_true ⟨q1, q2⟩]; rfl))
          clear q1 q2 hd
          go_wp2_with fail
          go_quiet (fail)
          go_wp2
          go_meet
          case rel => exact ⟨by rw [HD.out], Lib.hid (HV.out.drew (Drew.of _ _)), Lib.hid (Nat.le_trans hsz.out (Drew.lo (Drew.of _ _) (Nat.le_refl _)).size)⟩
        · have p1 : (y.r.e != r.e) = false := by rw [q1]; simp
          have p2 : (y.r.b != r.b) = true := by simpa using q2
          have HD : Hid (othB (rsl c S) k r = true) := Lib.hid (hd.out.trans (by rw [decide_eq_false (fun x => q2 x.2)]; rfl))
          have p3 : (y.r.b == r.b) = false := by simpa using q2
          clear hd
          go_wp2_with fail
          go_quiet (fail)
          go_wp2
          go_meet
          case rel => exact ⟨by rw [HD.out], Lib.hid (HV.out.drew (Drew.of _ _)), Lib.hid (Nat.le_trans hsz.out (Drew.lo (Drew.of _ _) (Nat.le_refl _)).size)⟩
      · have p1 : (y.r.e != r.e) = true := by simpa using q1
        have HD : Hid (othB (rsl c S) k r = true) := Lib.hid (hd.out.trans (by rw [decide_eq_false (fun x => q1 x.1)]; rfl))
        have p3 : (y.r.e == r.e) = false := by simpa using q1
        clear hd
        go_wp2_with fail
        go_quiet (fail)
        go_wp2
        go_meet
        case rel => exact ⟨by rw [HD.out], Lib.hid (HV.out.drew (Drew.of _ _)), Lib.hid (Nat.le_trans hsz.out (Drew.lo (Drew.of _ _) (Nat.le_refl _)).size)⟩
  case rest =>
  obtain ⟨rfl, HC, hsw⟩ := hcut
  have CW := Lib.hid (fun W (g : OwS W w1.heap.size (.slice A2 (rsl c S).length cap2) (rsl c S)) => rwithout_any _ _ (rsl c S) k W g (by omega))
  clear HV t0 t1 t2 r0 r1 r2 r3 CF hsz
  obtain ⟨tt, htt⟩ : ∃ tt, othB (rsl c S) k r = tt := ⟨_, rfl⟩
  rw [htt]
  have HT := Lib.hid htt
  clear htt
  go_upto_if 65 with fail
  go_cut [10] from 66 to 70 (fun a wx => a = .int .i64 (findI (dropS (rsl c S) k r) k 0) ∧ ∃ u, Hid (Ch w wx w1.heap.size m c u (dropS (rsl c S) k r) r))
  case first =>
    cases tt
    · have hd := Lib.hid (oth_no HT.out)
      go_wp2
      go_meet
      case rel => exact ⟨by rw [hd.out, HI.out], _, Lib.hid (by rw [hd.out]; exact HC.out)⟩
    · have hd := Lib.hid (oth_yes HT.out)
      obtain ⟨t0, t1, t2, tf0, tf1, tf2⟩ := blk3 HC.out.t
      go_wp2_with (go_at_call 92; (refine (CW.out _ HC.out.o).mono ?_; rintro e w4 ⟨u4, rfl, O4, g⟩; refine stopHere ?_))
      unfold Stop
      obtain ⟨A4, cap4, rfl, _⟩ := O4.rds
      have HD := Lib.hid (((HC.out.below g).put O4 hsw.out))
      have H4 := HC.out.below g
      clear t0 t1 t2 tf0 tf1 tf2
      obtain ⟨t0, t1, t2, tf0, tf1, tf2⟩ := blk3 H4.t
      clear H4 HC
      go_wp2
      go_meet
      case rel => exact ⟨by rw [hd.out, findI_none (getS_off _ _)], _, Lib.hid (by rw [hd.out]; exact HD.out)⟩
  case rest =>
  obtain ⟨rfl, u, HC⟩ := hcut
  obtain ⟨S1, hS1⟩ : ∃ S1, dropS (rsl c S) k r = S1 := ⟨_, rfl⟩
  have HA0 : Hid (chA m c (rsl c S) k r n = if fullB m S1 k = true then ⟨3, 0, r.b, 0, 0, 0, 0, false⟩ else decA c r (stOf c r (getS S1 k)) n) := Lib.hid (by unfold chA; rw [if_pos HW.out, hS1])
  have HN0 : Hid (rcN m c S k r n = if fullB m S1 k = true then S1 else if stIn c r (stOf c r (getS S1 k)) n = true then insS (offS k S1) (slOf k r (stNx c r (stOf c r (getS S1 k)) n)) else S1) := Lib.hid (by unfold rcN; rw [if_pos HW.out, hS1])
  have len1 : S1.length ≤ 1000000000 := by rw [← hS1]; exact Nat.le_trans (dropS_len _ _ _) lenL
  have OK1 : Hid (∀ s ∈ S1, Oks s ∧ Is3 s.k) := Lib.hid (by
    intro s hs
    rw [← hS1] at hs
    have := (rsl_mem.1 (dropS_sub hs)).1
    exact ⟨hok s this, HK3.out s this⟩)
  rw [hS1] at HC ⊢
  clear hS1 HT
  obtain ⟨J, hJ⟩ : ∃ J, findI S1 k 0 = J := ⟨_, rfl⟩
  rw [hJ]
  have HJ := Lib.hid hJ
  clear hJ
  obtain ⟨A5, cap5, rfl, hcap5, _⟩ := HC.out.o.rds
  obtain ⟨t0, t1, t2, tf0, tf1, tf2⟩ := blk3 HC.out.t
  go_upto_region 10 with fail
  go_cut [80] from 71 to 79 (fun a wx => a = .bool (fullB m S1 k) ∧ wx = wc)
  case first =>
    rcases find_get (k := k) (l := S1) (i := 0) (by omega) with ⟨g1, g2⟩ | ⟨j, y, g1, g2, g3⟩
    · have gJ := HJ.out.symm.trans g2
      subst gJ
      by_cases hf : m ≤ (S1.length : Int)
      · have hq := decide_eq_true hf
        have HF : Hid (fullB m S1 k = true) := Lib.hid (by unfold fullB; rw [g1]; simpa using hf)
        clear g1 g2 HJ
        go_wp2
        go_meet
        case rel => exact ⟨by rw [HF.out], rfl⟩
      · have hq := decide_eq_false hf
        have HF : Hid (fullB m S1 k = false) := Lib.hid (by unfold fullB; rw [g1]; simpa using hf)
        clear g1 g2 HJ
        go_wp2
        go_meet
        case rel => exact ⟨by rw [HF.out], rfl⟩
    · rw [Int.zero_add] at g2
      have gJ := HJ.out.symm.trans g2
      subst gJ
      have HF : Hid (fullB m S1 k = false) := Lib.hid (by unfold fullB; rw [g1]; rfl)
      clear g1 g2 g3 HJ
      go_wp2
      go_meet
      case rel => exact ⟨by rw [HF.out], rfl⟩
  case rest =>
  obtain ⟨rfl, rfl⟩ := hcut
  obtain ⟨ff, hff⟩ : ∃ ff, fullB m S1 k = ff := ⟨_, rfl⟩
  rw [hff]
  have HF := Lib.hid hff
  clear hff
  cases ff
  · have HA := Lib.hid (HA0.out.trans (by rw [if_neg (by rw [HF.out]; decide)]))
    have HN := Lib.hid (HN0.out.trans (by rw [if_neg (by rw [HF.out]; decide)]))
    clear HA0 HN0 HF t0 t1 t2 tf0 tf1 tf2
    have CC := Lib.hid (fun W => refCap_any r.p r.e r.b r.k W (by have := hr.p; omega) hr.e hr.b hrk)
    have CO := Lib.hid (fun W => krof_any r.k c (capR r) 0 W hc (capR_U hr) U_zero)
    obtain ⟨t0, t1, t2, _⟩ := blk3 HC.out.t
    obtain ⟨r0, r1, r2, r3, _⟩ := blk4 HC.out.r
    go_wp2_with (go_at_call 72; (refine (CC.out _).mono ?_; rintro e w5 ⟨rfl, _, g⟩; refine stopHere ?_))
    unfold Stop
    have H5 := Lib.hid (HC.out.below g)
    clear HC t0 t1 t2 r0 r1 r2 r3 g CC
    obtain ⟨t0, t1, t2, _⟩ := blk3 H5.out.t
    obtain ⟨r0, r1, r2, r3, _⟩ := blk4 H5.out.r
    go_wp2_with (go_at_call 73; (refine (CO.out _).mono ?_; rintro e w6 ⟨rfl, _, g⟩; refine stopHere ?_))
    unfold Stop
    have H6 := Lib.hid (H5.out.below g)
    clear H5 t0 t1 t2 r0 r1 r2 r3 g CO
    obtain ⟨t0, t1, t2, _⟩ := blk3 H6.out.t
    go_upto_region 14 with fail
    have B7 := Lib.hid (Blk.new w6 #[.int .u8 (koK r.k), .int .u64 (koA r.k c (capR r) 0), .int .u64 (koB r.k c)] 90)
    have H7 := Lib.hid (H6.out.alloc (.cells #[.int .u8 (koK r.k), .int .u64 (koA r.k c (capR r) 0), .int .u64 (koB r.k c)] 90))
    have oY := Lib.hid (own_at H6.out.o (Nat.le_refl _))
    have hY := H6.out.lt
    clear H6 t0 t1 t2
    revert B7 H7
    generalize w6.alloc (.cells #[.int .u8 (koK r.k), .int .u64 (koA r.k c (capR r) 0), .int .u64 (koB r.k c)] 90) = W7
    intro B7 H7
    obtain ⟨Y, hYe⟩ : ∃ Y, w6.heap.size = Y := ⟨_, rfl⟩
    rw [hYe] at B7 oY hY ⊢
    clear hYe
    obtain ⟨t0, t1, t2, _⟩ := blk3 H7.out.t
    go_upto_if 97 with fail
    go_cut [98] from 99 to 103 (fun _ wx => Hid (Ch w wx w1.heap.size m c (.slice A5 S1.length cap5) S1 r) ∧ Hid (Blk wx Y #[.int .u8 (stOf c r (getS S1 k)).k, .int .u64 (stOf c r (getS S1 k)).a, .int .u64 (stOf c r (getS S1 k)).b] 90))
    case first =>
      rcases find_get (k := k) (l := S1) (i := 0) (by omega) with ⟨g1, g2⟩ | ⟨j, y, g1, g2, g3⟩
      · have gJ := HJ.out.symm.trans g2
        subst gJ
        have E := Lib.hid g1
        clear g1 g2 HJ
        go_wp2
        go_meet
        case rel => exact ⟨H7, by rw [E.out]; exact B7⟩
      · obtain ⟨A3, cap3, hv3, _, _, hrow⟩ := H7.out.o.form
        simp only [Value.slice.injEq] at hv3
        obtain ⟨rfl, _, rfl⟩ := hv3
        have hj : j < S1.length := by
          by_cases q : j < S1.length
          · exact q
          · rw [List.getElem?_eq_none (by omega)] at g3; cases g3
        obtain ⟨b, rfl, _, hb, hc8⟩ := hrow (by omega)
        have hy : atS S1 j = y := by simp [atS, List.getD, g3]
        obtain ⟨x0, x1, x2, x3, x4, x5, x6, x7⟩ := (hc8 j hj).eight
        rw [hy] at x0 x1 x2 x3 x4 x5 x6 x7
        rw [Int.zero_add] at g2
        have gJ := HJ.out.symm.trans g2
        subst gJ
        have E := Lib.hid g1
        obtain ⟨y0, y1, y2, yf0, yf1, yf2⟩ := blk3 B7.out
        clear g1 g2 g3 hc8 hrow hy HJ
        go_wp2
        go_meet
        case rel => exact ⟨Lib.hid (((H7.out.off _ hY oY.out).off _ hY oY.out).off _ hY oY.out), by rw [E.out]; exact Lib.hid (bset3 B7.out)⟩
    case rest =>
    obtain ⟨H8, B8⟩ := hcut
    clear H7 B7 t0 t1 t2 HJ
    obtain ⟨st, hst⟩ : ∃ st, stOf c r (getS S1 k) = st := ⟨_, rfl⟩
    have OS : Hid (OkSt st) := Lib.hid (by
      rw [← hst]
      cases e : getS S1 k with
      | none => exact ⟨by show Is3 (koK r.k); rw [koK_is HR3.out]; exact HR3.out, koA_U _ _ _ _ hc (capR_U hr) U_zero, koB_U _ _ hc⟩
      | some s => have := OK1.out s (getS_some e).1; exact ⟨this.2, this.1.a, this.1.b⟩)
    rw [hst] at B8 HA HN
    clear hst
    obtain ⟨wt, hwt⟩ : ∃ wt, wI r n = wt := ⟨_, rfl⟩
    have hwU : U wt := by rw [← hwt]; exact wI_U hr hn
    have CM := Lib.hid (fun W => ref_mul n r.e W hn hr.e)
    rw [show sat (n * r.e) = wt from hwt] at CM
    have CT := Lib.hid (fun W => krwait_any st.k st.a st.b c (capR r) wt W OS.out.a OS.out.b hc (capR_U hr) hwU)
    have CD := Lib.hid (fun W => krdecide_any st.k st.a st.b c (capR r) wt W OS.out.a OS.out.b hc (capR_U hr) hwU)
    obtain ⟨dd, hdd⟩ : ∃ dd, kwI (flT c r st) (capR r) (wI r n) = dd := ⟨_, rfl⟩
    obtain ⟨rt, hrt⟩ : ∃ rt, kwB (flT c r st) (capR r) (wI r n) = rt := ⟨_, rfl⟩
    obtain ⟨nx, hnx⟩ : ∃ nx, stNx c r st n = nx := ⟨_, rfl⟩
    obtain ⟨bi, hbi⟩ : ∃ bi, stIn c r st n = bi := ⟨_, rfl⟩
    have hddU : U dd := by rw [← hdd, hwt]; exact kwI_U _ _ _ (kfI_U _ _ _ _ _ OS.out.a OS.out.b hc (capR_U hr)) (capR_U hr) hwU
    have ON : Hid (OkSt nx) := Lib.hid (by rw [← hnx]; exact (OS.out.next hc hr hn).1)
    have HAin := Lib.hid (fun e : stIn c r st n = true => dec_in OS.out hr hc hn e)
    have HAno := Lib.hid (fun e : stIn c r st n = false => dec_no (c := c) (n := n) (r := r) (s := st) e)
    rw [hdd, hrt] at HAno
    rw [hbi] at HAin HAno HN
    rw [hnx] at HAin HN
    have hx1 : kdK st.k st.a st.b c (capR r) wt = nx.k := by rw [← hnx, ← hwt]; rfl
    have hx2 : kdA st.k st.a st.b c (capR r) wt = nx.a := by rw [← hnx, ← hwt]; rfl
    have hx3 : kdT st.k st.a st.b c (capR r) wt = nx.b := by rw [← hnx, ← hwt]; rfl
    have hx4 : kdB st.k st.a st.b c (capR r) wt = bi := by rw [← hbi, ← hwt]; rfl
    rw [hx1, hx2, hx3, hx4] at CD
    rw [hwt] at hdd hrt
    rw [show kwI (kfI st.k st.a st.b c (capR r)) (capR r) wt = dd from hdd, show kwB (kfI st.k st.a st.b c (capR r)) (capR r) wt = rt from hrt] at CT
    clear hx1 hx2 hx3 hx4 hwt hdd hrt hnx hbi
    obtain ⟨r0, r1, r2, r3, _⟩ := blk4 H8.out.r
    go_wp2_with (go_at_call 93; (refine (CM.out _).mono ?_; rintro e w7 ⟨rfl, rfl⟩; refine stopHere ?_))
    unfold Stop
    clear CM r0 r1 r2 r3
    obtain ⟨t0, t1, t2, _⟩ := blk3 H8.out.t
    obtain ⟨y0, y1, y2, _⟩ := blk3 B8.out
    go_wp2_with (go_at_call 94; (refine (CT.out _).mono ?_; rintro e w8 ⟨rfl, _, g⟩; refine stopHere ?_))
    unfold Stop
    have H9 := Lib.hid (H8.out.below g)
    have B9 := Lib.hid (B8.out.below g)
    clear CT H8 B8 t0 t1 t2 y0 y1 y2 g
    obtain ⟨t0, t1, t2, _⟩ := blk3 H9.out.t
    obtain ⟨y0, y1, y2, _⟩ := blk3 B9.out
    go_wp2_with (go_at_call 95; (refine (CD.out _).mono ?_; rintro e w9 ⟨rfl, _, g⟩; refine stopHere ?_))
    unfold Stop
    have H10 := Lib.hid (H9.out.below g)
    have B10 := Lib.hid (B9.out.below g)
    clear CD H9 B9 t0 t1 t2 y0 y1 y2 g
    go_upto_region 19 with fail
    have BZ := Lib.hid (Blk.new w9 #[.int .u8 nx.k, .int .u64 nx.a, .int .u64 nx.b] 90)
    have H11 := Lib.hid (H10.out.alloc (.cells #[.int .u8 nx.k, .int .u64 nx.a, .int .u64 nx.b] 90))
    have B11 := Lib.hid (B10.out.alloc (.cells #[.int .u8 nx.k, .int .u64 nx.a, .int .u64 nx.b] 90))
    have hZ := H10.out.lt
    clear H10 B10
    revert BZ H11 B11
    generalize w9.alloc (.cells #[.int .u8 nx.k, .int .u64 nx.a, .int .u64 nx.b] 90) = W11
    intro BZ H11 B11
    obtain ⟨Z, hZe⟩ : ∃ Z, w9.heap.size = Z := ⟨_, rfl⟩
    rw [hZe] at BZ hZ ⊢
    clear hZe
    cases bi
    · have HA := Lib.hid (HA.out.trans (HAno.out rfl))
      have HN := Lib.hid (HN.out.trans (by rw [if_neg (by decide)]))
      clear HAin HAno BZ
      have CE := Lib.hid (fun W => ref_ceil dd 1000000000 W hddU (by unfold U; omega))
      cases rt
      · have HA2 : Hid (chA m c (rsl c S) k r n = toldA c r st ⟨2, 0, 0, 0, 0, 0, dd, false⟩) := Lib.hid (HA.out.trans (congrArg (fun x => toldA c r st ⟨2, 0, 0, 0, 0, x, dd, false⟩) (if_neg (by decide))))
        have BX := Lib.hid (Blk.new W11 #[.int .u8 2, .int .u16 0, .int .u64 0, .int .u64 0, .int .u64 0, .int .u64 0, .int .u64 dd, .bool false, .int .i64 0, .slice none 0 0] 57)
        have H13 := Lib.hid (H11.out.alloc (.cells #[.int .u8 2, .int .u16 0, .int .u64 0, .int .u64 0, .int .u64 0, .int .u64 0, .int .u64 dd, .bool false, .int .i64 0, .slice none 0 0] 57))
        have B13 := Lib.hid (B11.out.alloc (.cells #[.int .u8 2, .int .u16 0, .int .u64 0, .int .u64 0, .int .u64 0, .int .u64 0, .int .u64 dd, .bool false, .int .i64 0, .slice none 0 0] 57))
        have hX := H11.out.lt
        go_upto_region 25 with fail
        revert BX H13 B13
        generalize W11.alloc (.cells #[.int .u8 2, .int .u16 0, .int .u64 0, .int .u64 0, .int .u64 0, .int .u64 0, .int .u64 dd, .bool false, .int .i64 0, .slice none 0 0] 57) = W13
        intro BX H13 B13
        obtain ⟨X, hXe⟩ : ∃ X, W11.heap.size = X := ⟨_, rfl⟩
        rw [hXe] at BX hX ⊢
        clear hXe
        obtain ⟨t0, t1, t2, _⟩ := blk3 H13.out.t
        obtain ⟨r0, r1, r2, r3, _⟩ := blk4 H13.out.r
        obtain ⟨y0, y1, y2, _⟩ := blk3 B13.out
        obtain ⟨c0, c1, c2, c3, c4, c5, c6, c7, c8, c9, _⟩ := blk10 BX.out
        have CT := Lib.hid (fun W => rtold_any m c A5 S1.length cap5 ⟨2, 0, 0, 0, 0, 0, dd, false⟩ r st W hc hr hrk OS.out)
        have e2 : w.heap.size ≠ w.heap.size + 2 := by omega
        have e3 : w.heap.size ≠ w.heap.size + 3 := by omega
        have d2 : w.heap.size + 1 ≠ w.heap.size + 2 := by omega
        have d3 : w.heap.size + 1 ≠ w.heap.size + 3 := by omega
        have s2 : Y ≠ w.heap.size + 2 := by omega
        have s3 : Y ≠ w.heap.size + 3 := by omega
        have x2 : X ≠ w.heap.size + 2 := by omega
        have x3 : X ≠ w.heap.size + 3 := by omega
        have kr := Tch.refl (fun k => k = w.heap.size + 2 ∨ k = w.heap.size + 3) W13
        go_region_held3 (fun w' => Tch (fun k => k = w.heap.size + 2 ∨ k = w.heap.size + 3) W13 w' ∧ w'.cell? ⟨w.heap.size, 0, none⟩ = some (.int .i64 m) ∧ w'.cell? ⟨w.heap.size, 1, none⟩ = some (.int .u64 c) ∧ w'.cell? ⟨w.heap.size, 2, none⟩ = some (.slice A5 S1.length cap5) ∧ w'.cell? ⟨w.heap.size + 1, 0, none⟩ = some (.string r.p) ∧ w'.cell? ⟨w.heap.size + 1, 1, none⟩ = some (.int .u64 r.e) ∧ w'.cell? ⟨w.heap.size + 1, 2, none⟩ = some (.int .u64 r.b) ∧ w'.cell? ⟨w.heap.size + 1, 3, none⟩ = some (.int .u8 r.k) ∧ w'.cell? ⟨Y, 0, none⟩ = some (.int .u8 st.k) ∧ w'.cell? ⟨Y, 1, none⟩ = some (.int .u64 st.a) ∧ w'.cell? ⟨Y, 2, none⟩ = some (.int .u64 st.b) ∧ w'.cell? ⟨X, 0, none⟩ = some (.int .u8 2) ∧ w'.cell? ⟨X, 1, none⟩ = some (.int .u16 0) ∧ w'.cell? ⟨X, 2, none⟩ = some (.int .u64 0) ∧ w'.cell? ⟨X, 3, none⟩ = some (.int .u64 0) ∧ w'.cell? ⟨X, 4, none⟩ = some (.int .u64 0) ∧ w'.cell? ⟨X, 5, none⟩ = some (.int .u64 0) ∧ w'.cell? ⟨X, 6, none⟩ = some (.int .u64 dd) ∧ w'.cell? ⟨X, 7, none⟩ = some (.bool false) ∧ w'.cell? ⟨X, 8, none⟩ = some (.int .i64 0) ∧ w'.cell? ⟨X, 9, none⟩ = some (.slice none 0 0))
          (first | with_reducible exact ⟨kr, t0, t1, t2, r0, r1, r2, r3, y0, y1, y2, c0, c1, c2, c3, c4, c5, c6, c7, c8, c9⟩ | with_reducible exact ⟨(td kr), dcell t0, dcell t1, dcell t2, dcell r0, dcell r1, dcell r2, dcell r3, dcell y0, dcell y1, dcell y2, dcell c0, dcell c1, dcell c2, dcell c3, dcell c4, dcell c5, dcell c6, dcell c7, dcell c8, dcell c9⟩ | with_reducible exact ⟨(ts3 kr (.inl (.inl rfl))), sc3 t0 e2, sc3 t1 e2, sc3 t2 e2, sc3 r0 d2, sc3 r1 d2, sc3 r2 d2, sc3 r3 d2, sc3 y0 s2, sc3 y1 s2, sc3 y2 s2, sc3 c0 x2, sc3 c1 x2, sc3 c2 x2, sc3 c3 x2, sc3 c4 x2, sc3 c5 x2, sc3 c6 x2, sc3 c7 x2, sc3 c8 x2, sc3 c9 x2⟩ | with_reducible exact ⟨(ts10 (ts3 kr (.inl (.inl rfl))) (.inl (.inr rfl))), sc10 (sc3 t0 e2) e3, sc10 (sc3 t1 e2) e3, sc10 (sc3 t2 e2) e3, sc10 (sc3 r0 d2) d3, sc10 (sc3 r1 d2) d3, sc10 (sc3 r2 d2) d3, sc10 (sc3 r3 d2) d3, sc10 (sc3 y0 s2) s3, sc10 (sc3 y1 s2) s3, sc10 (sc3 y2 s2) s3, sc10 (sc3 c0 x2) x3, sc10 (sc3 c1 x2) x3, sc10 (sc3 c2 x2) x3, sc10 (sc3 c3 x2) x3, sc10 (sc3 c4 x2) x3, sc10 (sc3 c5 x2) x3, sc10 (sc3 c6 x2) x3, sc10 (sc3 c7 x2) x3, sc10 (sc3 c8 x2) x3, sc10 (sc3 c9 x2) x3⟩)
          (first | (go_at_call 97; ((with_reducible refine (CT.out _).mono ?_); rintro r w14 ⟨rfl, g⟩; have D : Hid (Ch w w14 _ _ _ _ _ _) := Lib.hid (by first | exact H13.out.dr.below g | exact H13.out.below g); (first | with_reducible (replace kr := tb kr g; replace t0 := celln g t0; replace t1 := celln g t1; replace t2 := celln g t2; replace r0 := celln g r0; replace r1 := celln g r1; replace r2 := celln g r2; replace r3 := celln g r3; replace y0 := celln g y0; replace y1 := celln g y1; replace y2 := celln g y2; replace c0 := celln g c0; replace c1 := celln g c1; replace c2 := celln g c2; replace c3 := celln g c3; replace c4 := celln g c4; replace c5 := celln g c5; replace c6 := celln g c6; replace c7 := celln g c7; replace c8 := celln g c8; replace c9 := celln g c9) | with_reducible (replace kr := tb (td kr) g; replace t0 := celln g (dcell t0); replace t1 := celln g (dcell t1); replace t2 := celln g (dcell t2); replace r0 := celln g (dcell r0); replace r1 := celln g (dcell r1); replace r2 := celln g (dcell r2); replace r3 := celln g (dcell r3); replace y0 := celln g (dcell y0); replace y1 := celln g (dcell y1); replace y2 := celln g (dcell y2); replace c0 := celln g (dcell c0); replace c1 := celln g (dcell c1); replace c2 := celln g (dcell c2); replace c3 := celln g (dcell c3); replace c4 := celln g (dcell c4); replace c5 := celln g (dcell c5); replace c6 := celln g (dcell c6); replace c7 := celln g (dcell c7); replace c8 := celln g (dcell c8); replace c9 := celln g (dcell c9))); clear g; obtain ⟨u0, u1, u2, uf0, uf1, uf2⟩ := blk3 D.out.p; obtain ⟨a0, a1, a2, a3, a4, a5, a6, a7, a8, a9, f0, f1, f2, f3, f4, f5, f6, f7, f8, f9⟩ := blk10 D.out.a)))
        all_goals
          have z3 := Lib.hid D.out.res3
          clear u0 u1 u2 uf0 uf1 uf2 a0 a1 a2 a3 a4 a5 a6 a7 a8 a9 f0 f1 f2 f3 f4 f5 f6 f7 f8 f9 D
          revert z3
          generalize World.setCell _ ⟨w.heap.size + 2, 2, none⟩ _ = V
          intro z3
          have z4 := Lib.hid (z3.out.res10 (toldA c r st ⟨2, 0, 0, 0, 0, 0, dd, false⟩))
          clear z3
          revert z4
          generalize World.setCell _ ⟨w.heap.size + 3, 9, none⟩ _ = V9
          intro z4
          obtain ⟨q0, q1, q2, q3, q4, q5, q6, q7, q8, q9, _⟩ := blk10 z4.out.a
          obtain ⟨v0, v1, v2, _⟩ := blk3 z4.out.p
          go_wp2
          refine bodyPost_ret (v := .tuple #[rtv m c (.slice A5 S1.length cap5), An.v (toldA c r st ⟨2, 0, 0, 0, 0, 0, dd, false⟩)]) ?_ rfl ⟨(.slice A5 S1.length cap5), by rw [HA2.out], by rw [HN.out]; exact z4.out.o, z4.out.k⟩
          simp [results, Tryz.results55, go_sem, q0, q1, q2, q3, q4, q5, q6, q7, q8, q9, v0, v1, v2]
      · have HA2 : Hid (chA m c (rsl c S) k r n = toldA c r st ⟨2, 0, 0, 0, 0, clI dd 1000000000, dd, true⟩) := Lib.hid (HA.out.trans (congrArg (fun x => toldA c r st ⟨2, 0, 0, 0, 0, x, dd, true⟩) (if_pos rfl)))
        have BX := Lib.hid (Blk.new W11 #[.int .u8 2, .int .u16 0, .int .u64 0, .int .u64 0, .int .u64 0, .int .u64 (clI dd 1000000000), .int .u64 dd, .bool true, .int .i64 0, .slice none 0 0] 57)
        have H13 := Lib.hid (H11.out.alloc (.cells #[.int .u8 2, .int .u16 0, .int .u64 0, .int .u64 0, .int .u64 0, .int .u64 (clI dd 1000000000), .int .u64 dd, .bool true, .int .i64 0, .slice none 0 0] 57))
        have B13 := Lib.hid (B11.out.alloc (.cells #[.int .u8 2, .int .u16 0, .int .u64 0, .int .u64 0, .int .u64 0, .int .u64 (clI dd 1000000000), .int .u64 dd, .bool true, .int .i64 0, .slice none 0 0] 57))
        have hX := H11.out.lt
        go_upto_region 25 with (go_at_call 98; (refine (CE.out _).mono ?_; rintro e w12 ⟨rfl, rfl⟩))
        revert BX H13 B13
        generalize W11.alloc (.cells #[.int .u8 2, .int .u16 0, .int .u64 0, .int .u64 0, .int .u64 0, .int .u64 (clI dd 1000000000), .int .u64 dd, .bool true, .int .i64 0, .slice none 0 0] 57) = W13
        intro BX H13 B13
        obtain ⟨X, hXe⟩ : ∃ X, W11.heap.size = X := ⟨_, rfl⟩
        rw [hXe] at BX hX ⊢
        clear hXe
        obtain ⟨t0, t1, t2, _⟩ := blk3 H13.out.t
        obtain ⟨r0, r1, r2, r3, _⟩ := blk4 H13.out.r
        obtain ⟨y0, y1, y2, _⟩ := blk3 B13.out
        obtain ⟨c0, c1, c2, c3, c4, c5, c6, c7, c8, c9, _⟩ := blk10 BX.out
        have CT := Lib.hid (fun W => rtold_any m c A5 S1.length cap5 ⟨2, 0, 0, 0, 0, (clI dd 1000000000), dd, true⟩ r st W hc hr hrk OS.out)
        have e2 : w.heap.size ≠ w.heap.size + 2 := by omega
        have e3 : w.heap.size ≠ w.heap.size + 3 := by omega
        have d2 : w.heap.size + 1 ≠ w.heap.size + 2 := by omega
        have d3 : w.heap.size + 1 ≠ w.heap.size + 3 := by omega
        have s2 : Y ≠ w.heap.size + 2 := by omega
        have s3 : Y ≠ w.heap.size + 3 := by omega
        have x2 : X ≠ w.heap.size + 2 := by omega
        have x3 : X ≠ w.heap.size + 3 := by omega
        have kr := Tch.refl (fun k => k = w.heap.size + 2 ∨ k = w.heap.size + 3) W13
        go_region_held3 (fun w' => Tch (fun k => k = w.heap.size + 2 ∨ k = w.heap.size + 3) W13 w' ∧ w'.cell? ⟨w.heap.size, 0, none⟩ = some (.int .i64 m) ∧ w'.cell? ⟨w.heap.size, 1, none⟩ = some (.int .u64 c) ∧ w'.cell? ⟨w.heap.size, 2, none⟩ = some (.slice A5 S1.length cap5) ∧ w'.cell? ⟨w.heap.size + 1, 0, none⟩ = some (.string r.p) ∧ w'.cell? ⟨w.heap.size + 1, 1, none⟩ = some (.int .u64 r.e) ∧ w'.cell? ⟨w.heap.size + 1, 2, none⟩ = some (.int .u64 r.b) ∧ w'.cell? ⟨w.heap.size + 1, 3, none⟩ = some (.int .u8 r.k) ∧ w'.cell? ⟨Y, 0, none⟩ = some (.int .u8 st.k) ∧ w'.cell? ⟨Y, 1, none⟩ = some (.int .u64 st.a) ∧ w'.cell? ⟨Y, 2, none⟩ = some (.int .u64 st.b) ∧ w'.cell? ⟨X, 0, none⟩ = some (.int .u8 2) ∧ w'.cell? ⟨X, 1, none⟩ = some (.int .u16 0) ∧ w'.cell? ⟨X, 2, none⟩ = some (.int .u64 0) ∧ w'.cell? ⟨X, 3, none⟩ = some (.int .u64 0) ∧ w'.cell? ⟨X, 4, none⟩ = some (.int .u64 0) ∧ w'.cell? ⟨X, 5, none⟩ = some (.int .u64 (clI dd 1000000000)) ∧ w'.cell? ⟨X, 6, none⟩ = some (.int .u64 dd) ∧ w'.cell? ⟨X, 7, none⟩ = some (.bool true) ∧ w'.cell? ⟨X, 8, none⟩ = some (.int .i64 0) ∧ w'.cell? ⟨X, 9, none⟩ = some (.slice none 0 0))
          (first | with_reducible exact ⟨kr, t0, t1, t2, r0, r1, r2, r3, y0, y1, y2, c0, c1, c2, c3, c4, c5, c6, c7, c8, c9⟩ | with_reducible exact ⟨(td kr), dcell t0, dcell t1, dcell t2, dcell r0, dcell r1, dcell r2, dcell r3, dcell y0, dcell y1, dcell y2, dcell c0, dcell c1, dcell c2, dcell c3, dcell c4, dcell c5, dcell c6, dcell c7, dcell c8, dcell c9⟩ | with_reducible exact ⟨(ts3 kr (.inl (.inl rfl))), sc3 t0 e2, sc3 t1 e2, sc3 t2 e2, sc3 r0 d2, sc3 r1 d2, sc3 r2 d2, sc3 r3 d2, sc3 y0 s2, sc3 y1 s2, sc3 y2 s2, sc3 c0 x2, sc3 c1 x2, sc3 c2 x2, sc3 c3 x2, sc3 c4 x2, sc3 c5 x2, sc3 c6 x2, sc3 c7 x2, sc3 c8 x2, sc3 c9 x2⟩ | with_reducible exact ⟨(ts10 (ts3 kr (.inl (.inl rfl))) (.inl (.inr rfl))), sc10 (sc3 t0 e2) e3, sc10 (sc3 t1 e2) e3, sc10 (sc3 t2 e2) e3, sc10 (sc3 r0 d2) d3, sc10 (sc3 r1 d2) d3, sc10 (sc3 r2 d2) d3, sc10 (sc3 r3 d2) d3, sc10 (sc3 y0 s2) s3, sc10 (sc3 y1 s2) s3, sc10 (sc3 y2 s2) s3, sc10 (sc3 c0 x2) x3, sc10 (sc3 c1 x2) x3, sc10 (sc3 c2 x2) x3, sc10 (sc3 c3 x2) x3, sc10 (sc3 c4 x2) x3, sc10 (sc3 c5 x2) x3, sc10 (sc3 c6 x2) x3, sc10 (sc3 c7 x2) x3, sc10 (sc3 c8 x2) x3, sc10 (sc3 c9 x2) x3⟩)
          (first | (go_at_call 97; ((with_reducible refine (CT.out _).mono ?_); rintro r w14 ⟨rfl, g⟩; have D : Hid (Ch w w14 _ _ _ _ _ _) := Lib.hid (by first | exact H13.out.dr.below g | exact H13.out.below g); (first | with_reducible (replace kr := tb kr g; replace t0 := celln g t0; replace t1 := celln g t1; replace t2 := celln g t2; replace r0 := celln g r0; replace r1 := celln g r1; replace r2 := celln g r2; replace r3 := celln g r3; replace y0 := celln g y0; replace y1 := celln g y1; replace y2 := celln g y2; replace c0 := celln g c0; replace c1 := celln g c1; replace c2 := celln g c2; replace c3 := celln g c3; replace c4 := celln g c4; replace c5 := celln g c5; replace c6 := celln g c6; replace c7 := celln g c7; replace c8 := celln g c8; replace c9 := celln g c9) | with_reducible (replace kr := tb (td kr) g; replace t0 := celln g (dcell t0); replace t1 := celln g (dcell t1); replace t2 := celln g (dcell t2); replace r0 := celln g (dcell r0); replace r1 := celln g (dcell r1); replace r2 := celln g (dcell r2); replace r3 := celln g (dcell r3); replace y0 := celln g (dcell y0); replace y1 := celln g (dcell y1); replace y2 := celln g (dcell y2); replace c0 := celln g (dcell c0); replace c1 := celln g (dcell c1); replace c2 := celln g (dcell c2); replace c3 := celln g (dcell c3); replace c4 := celln g (dcell c4); replace c5 := celln g (dcell c5); replace c6 := celln g (dcell c6); replace c7 := celln g (dcell c7); replace c8 := celln g (dcell c8); replace c9 := celln g (dcell c9))); clear g; obtain ⟨u0, u1, u2, uf0, uf1, uf2⟩ := blk3 D.out.p; obtain ⟨a0, a1, a2, a3, a4, a5, a6, a7, a8, a9, f0, f1, f2, f3, f4, f5, f6, f7, f8, f9⟩ := blk10 D.out.a)))
        all_goals
          have z3 := Lib.hid D.out.res3
          clear u0 u1 u2 uf0 uf1 uf2 a0 a1 a2 a3 a4 a5 a6 a7 a8 a9 f0 f1 f2 f3 f4 f5 f6 f7 f8 f9 D
          revert z3
          generalize World.setCell _ ⟨w.heap.size + 2, 2, none⟩ _ = V
          intro z3
          have z4 := Lib.hid (z3.out.res10 (toldA c r st ⟨2, 0, 0, 0, 0, (clI dd 1000000000), dd, true⟩))
          clear z3
          revert z4
          generalize World.setCell _ ⟨w.heap.size + 3, 9, none⟩ _ = V9
          intro z4
          obtain ⟨q0, q1, q2, q3, q4, q5, q6, q7, q8, q9, _⟩ := blk10 z4.out.a
          obtain ⟨v0, v1, v2, _⟩ := blk3 z4.out.p
          go_wp2
          refine bodyPost_ret (v := .tuple #[rtv m c (.slice A5 S1.length cap5), An.v (toldA c r st ⟨2, 0, 0, 0, 0, (clI dd 1000000000), dd, true⟩)]) ?_ rfl ⟨(.slice A5 S1.length cap5), by rw [HA2.out], by rw [HN.out]; exact z4.out.o, z4.out.k⟩
          simp [results, Tryz.results55, go_sem, q0, q1, q2, q3, q4, q5, q6, q7, q8, q9, v0, v1, v2]
    · have HA := Lib.hid (HA.out.trans (HAin.out rfl))
      have HN := Lib.hid (HN.out.trans (by rw [if_pos rfl]))
      clear HAin HAno B11
      have CI := Lib.hid (fun W (g : OwS W w1.heap.size (.slice A5 S1.length cap5) S1) => rwith_any _ _ S1 (slOf k r nx) W g (by omega) (by show k.size ≤ _; omega) (fun x hx => by have := (OK1.out x hx).1.key; omega))
      obtain ⟨t0, t1, t2, _⟩ := blk3 H11.out.t
      obtain ⟨r0, r1, r2, r3, _⟩ := blk4 H11.out.r
      obtain ⟨y0, y1, y2, _⟩ := blk3 BZ.out
      go_wp2_with (go_at_call 96; (refine (CI.out _ H11.out.o).mono ?_; rintro e w12 ⟨u12, rfl, O12, g⟩; refine stopHere ?_))
      unfold Stop
      obtain ⟨A12, cap12, rfl, _⟩ := O12.rds
      have H12 := Lib.hid ((H11.out.below g).put O12 H11.out.y)
      have BZ2 := Lib.hid ((BZ.out.below g).other (c := w.heap.size) 2 (.slice A12 (insS (offS k S1) (slOf k r nx)).length cap12) (by omega))
      clear t0 t1 t2 r0 r1 r2 r3 y0 y1 y2 CI
      obtain ⟨t0, t1, t2, tf0, tf1, tf2⟩ := blk3 (H11.out.below g).t
      clear H11 BZ g O12
      go_upto_region 21 with fail
      revert H12 BZ2
      clear t0 t1 t2 tf0 tf1 tf2
      generalize World.setCell _ ⟨w.heap.size, 2, none⟩ _ = W13
      intro H12 BZ2
      obtain ⟨t0, t1, t2, _⟩ := blk3 H12.out.t
      obtain ⟨r0, r1, r2, r3, _⟩ := blk4 H12.out.r
      obtain ⟨y0, y1, y2, _⟩ := blk3 BZ2.out
      have CT := Lib.hid (fun W => rtold_any m c A12 (insS (offS k S1) (slOf k r nx)).length cap12 ⟨1, 0, 0, 0, 0, 0, 0, false⟩ r nx W hc hr hrk ON.out)
      have e2 : w.heap.size ≠ w.heap.size + 2 := by omega
      have e3 : w.heap.size ≠ w.heap.size + 3 := by omega
      have d2 : w.heap.size + 1 ≠ w.heap.size + 2 := by omega
      have d3 : w.heap.size + 1 ≠ w.heap.size + 3 := by omega
      have s2 : Z ≠ w.heap.size + 2 := by omega
      have s3 : Z ≠ w.heap.size + 3 := by omega
      have kr := Tch.refl (fun k => k = w.heap.size + 2 ∨ k = w.heap.size + 3) W13
      go_region_held3 (fun w' => Tch (fun k => k = w.heap.size + 2 ∨ k = w.heap.size + 3) W13 w' ∧ w'.cell? ⟨w.heap.size, 0, none⟩ = some (.int .i64 m) ∧ w'.cell? ⟨w.heap.size, 1, none⟩ = some (.int .u64 c) ∧ w'.cell? ⟨w.heap.size, 2, none⟩ = some (.slice A12 (insS (offS k S1) (slOf k r nx)).length cap12) ∧ w'.cell? ⟨w.heap.size + 1, 0, none⟩ = some (.string r.p) ∧ w'.cell? ⟨w.heap.size + 1, 1, none⟩ = some (.int .u64 r.e) ∧ w'.cell? ⟨w.heap.size + 1, 2, none⟩ = some (.int .u64 r.b) ∧ w'.cell? ⟨w.heap.size + 1, 3, none⟩ = some (.int .u8 r.k) ∧ w'.cell? ⟨Z, 0, none⟩ = some (.int .u8 nx.k) ∧ w'.cell? ⟨Z, 1, none⟩ = some (.int .u64 nx.a) ∧ w'.cell? ⟨Z, 2, none⟩ = some (.int .u64 nx.b))
        (first | with_reducible exact ⟨kr, t0, t1, t2, r0, r1, r2, r3, y0, y1, y2⟩ | with_reducible exact ⟨(td kr), dcell t0, dcell t1, dcell t2, dcell r0, dcell r1, dcell r2, dcell r3, dcell y0, dcell y1, dcell y2⟩ | with_reducible exact ⟨(ts3 kr (.inl (.inl rfl))), sc3 t0 e2, sc3 t1 e2, sc3 t2 e2, sc3 r0 d2, sc3 r1 d2, sc3 r2 d2, sc3 r3 d2, sc3 y0 s2, sc3 y1 s2, sc3 y2 s2⟩ | with_reducible exact ⟨(ts10 (ts3 kr (.inl (.inl rfl))) (.inl (.inr rfl))), sc10 (sc3 t0 e2) e3, sc10 (sc3 t1 e2) e3, sc10 (sc3 t2 e2) e3, sc10 (sc3 r0 d2) d3, sc10 (sc3 r1 d2) d3, sc10 (sc3 r2 d2) d3, sc10 (sc3 r3 d2) d3, sc10 (sc3 y0 s2) s3, sc10 (sc3 y1 s2) s3, sc10 (sc3 y2 s2) s3⟩)
        (first | (go_at_call 97; ((with_reducible refine (CT.out _).mono ?_); rintro r w14 ⟨rfl, g⟩; have D : Hid (Ch w w14 _ _ _ _ _ _) := Lib.hid (by first | exact H12.out.dr.below g | exact H12.out.below g); (first | with_reducible (replace kr := tb kr g; replace t0 := celln g t0; replace t1 := celln g t1; replace t2 := celln g t2; replace r0 := celln g r0; replace r1 := celln g r1; replace r2 := celln g r2; replace r3 := celln g r3; replace y0 := celln g y0; replace y1 := celln g y1; replace y2 := celln g y2) | with_reducible (replace kr := tb (td kr) g; replace t0 := celln g (dcell t0); replace t1 := celln g (dcell t1); replace t2 := celln g (dcell t2); replace r0 := celln g (dcell r0); replace r1 := celln g (dcell r1); replace r2 := celln g (dcell r2); replace r3 := celln g (dcell r3); replace y0 := celln g (dcell y0); replace y1 := celln g (dcell y1); replace y2 := celln g (dcell y2))); clear g; obtain ⟨u0, u1, u2, uf0, uf1, uf2⟩ := blk3 D.out.p; obtain ⟨a0, a1, a2, a3, a4, a5, a6, a7, a8, a9, f0, f1, f2, f3, f4, f5, f6, f7, f8, f9⟩ := blk10 D.out.a)))
      all_goals
        have z3 := Lib.hid D.out.res3
        clear u0 u1 u2 uf0 uf1 uf2 a0 a1 a2 a3 a4 a5 a6 a7 a8 a9 f0 f1 f2 f3 f4 f5 f6 f7 f8 f9 D
        revert z3
        generalize World.setCell _ ⟨w.heap.size + 2, 2, none⟩ _ = V
        intro z3
        have z4 := Lib.hid (z3.out.res10 (toldA c r nx ⟨1, 0, 0, 0, 0, 0, 0, false⟩))
        clear z3
        revert z4
        generalize World.setCell _ ⟨w.heap.size + 3, 9, none⟩ _ = V9
        intro z4
        obtain ⟨q0, q1, q2, q3, q4, q5, q6, q7, q8, q9, _⟩ := blk10 z4.out.a
        obtain ⟨v0, v1, v2, _⟩ := blk3 z4.out.p
        go_wp2
        refine bodyPost_ret (v := .tuple #[rtv m c (.slice A12 (insS (offS k S1) (slOf k r nx)).length cap12), An.v (toldA c r nx ⟨1, 0, 0, 0, 0, 0, 0, false⟩)]) ?_ rfl ⟨(.slice A12 (insS (offS k S1) (slOf k r nx)).length cap12), by rw [HA.out], by rw [HN.out]; exact z4.out.o, z4.out.k⟩
        simp [results, Tryz.results55, go_sem, q0, q1, q2, q3, q4, q5, q6, q7, q8, q9, v0, v1, v2]
  · have HA := Lib.hid (HA0.out.trans (if_pos HF.out))
    have HN := Lib.hid (HN0.out.trans (if_pos HF.out))
    obtain ⟨r0, r1, r2, r3, _⟩ := blk4 HC.out.r
    obtain ⟨u0, u1, u2, uf0, uf1, uf2⟩ := blk3 HC.out.p
    obtain ⟨y0, y1, y2, y3, y4, y5, y6, y7, y8, y9, f0, f1, f2, f3, f4, f5, f6, f7, f8, f9⟩ := blk10 HC.out.a
    have D := HC
    clear HA0 HN0 HF HJ
    go_wp2_with fail
    go_region
    all_goals
      have z3 := Lib.hid D.out.res3
      clear t0 t1 t2 tf0 tf1 tf2 r0 r1 r2 r3 u0 u1 u2 uf0 uf1 uf2 y0 y1 y2 y3 y4 y5 y6 y7 y8 y9 f0 f1 f2 f3 f4 f5 f6 f7 f8 f9 D
      revert z3
      generalize World.setCell _ ⟨w.heap.size + 2, 2, none⟩ _ = V
      intro z3
      have z4 := Lib.hid (z3.out.res10 ⟨3, 0, r.b, 0, 0, 0, 0, false⟩).dr
      clear z3
      revert z4
      generalize World.drew _ = V9
      intro z4
      obtain ⟨q0, q1, q2, q3, q4, q5, q6, q7, q8, q9, _⟩ := blk10 z4.out.a
      obtain ⟨v0, v1, v2, _⟩ := blk3 z4.out.p
      go_wp2
      refine bodyPost_ret (v := .tuple #[rtv m c (.slice A5 S1.length cap5), An.v ⟨3, 0, r.b, 0, 0, 0, 0, false⟩]) ?_ rfl ⟨(.slice A5 S1.length cap5), by rw [HA.out], by rw [HN.out]; exact z4.out.o, z4.out.k⟩
      simp [results, Tryz.results55, go_sem, q0, q1, q2, q3, q4, q5, q6, q7, q8, q9, v0, v1, v2]
end Go.Proofs.YtbejkcdaefkibaaGreat.Wd
namespace Go.Proofs.YtbejkcdaefkibaaGreat.Wd
open Go Go.RowKit Go.Deep Go.Shelf
set_option linter.unusedVariables false
set_option maxRecDepth 100000
theorem OffV.mono {u : Value} {P Q : Nat → Prop} (h : OffV u Q) (g : ∀ k, P k → Q k) : OffV u P := fun b n cap e x => h b n cap e (g b x)
/-- A row that is there already is not where something new is laid. -/
theorem own_old {w : World} {base : Nat} {u : Value} {xs : List Sl} (h : OwS w base u xs) : OffV u (fun k => w.heap.size ≤ k) := by
  intro b n cap e x
  rcases h.2 with ⟨hn, _⟩ | ⟨g, cap', cur, hv, hb, hgg, rest⟩
  · rw [hn] at e; cases e
  · rw [hv] at e
    have := heap_lt hgg
    injection e with e1
    injection e1 with e1
    injection e1 with e1
    omega
theorem own_newer {w : World} {base : Nat} {u : Value} {xs : List Sl} (h : OwS w base u xs) : OffV u (fun k => k < base) := by
  intro b n cap e x
  rcases h.2 with ⟨hn, _⟩ | ⟨g, cap', cur, hv, hb, hgg, rest⟩
  · rw [hn] at e; cases e
  · rw [hv] at e
    injection e with e1
    injection e1 with e1
    injection e1 with e1
    omega
/-- The document's Charge, of whatever key and rule. -/
theorem rcharge_any (m c : Int) (base : Nat) (v : Value) (S : List Sl) (k : ByteArray) (r : Rl) (n : Int) (w : World) (hm : 1 ≤ m ∧ m ≤ 1000000) (hS : OwS w base v S) (hok : ∀ s ∈ S, Oks s) (hk3 : ∀ s ∈ S, Is3 s.k) (hc : U c) (hl : S.length ≤ 1000000000) (hk : k.size ≤ 281474976710656) (hr : Okr r) (hn : U n) (hE : 0 ≤ ruE r.p r.e r.b r.k ∧ ruE r.p r.e r.b r.k ≤ 65535) :
    Calls Tryz.prog 55 #[rtv m c v, .string k, r.v, .int .u64 n] w fun e w' => ∃ u base' an, e = .returned (.tuple #[rtv m c u, An.v an]) ∧ OwS w' base' u (rcN m c S k r n) ∧ (OffV u (fun k => k < w.heap.size) ∨ u = v) ∧ an = chA m c (rsl c S) k r n ∧ Below w.heap.size w w' := by
  by_cases h1 : rtB (lb k) = true
  · by_cases h2 : ruE r.p r.e r.b r.k = 0
    · refine (rcharge_ok m c base v S k r n w hm hS hok hk3 hc hl hk hr hr.k hn h1 h2).mono ?_
      rintro e w' ⟨u, rfl, ho, g⟩
      exact ⟨u, _, _, rfl, ho, .inl (own_newer ho), rfl, g⟩
    · have hw : ¬ wkE k r = 0 := by unfold wkE; rw [if_pos h1]; exact h2
      obtain ⟨A, cap, rfl, _⟩ := hS.rds
      refine (rcharge_rule m c A S.length cap k r n w hk hr hr.k h1 h2 hE).mono ?_
      rintro e w' ⟨rfl, g⟩
      refine ⟨_, base, _, rfl, ?_, .inr rfl, ?_, g⟩
      · rw [show rcN m c S k r n = S from if_neg hw]; exact own_below hS g
      · unfold chA; rw [if_neg hw]
        have : wkE k r = ruE r.p r.e r.b r.k := by unfold wkE; rw [if_pos h1]
        rw [this]
  · have h1' : rtB (lb k) = false := by simpa using h1
    have hw : ¬ wkE k r = 0 := by unfold wkE; rw [if_neg h1]; decide
    obtain ⟨A, cap, rfl, _⟩ := hS.rds
    refine (rcharge_key m c A S.length cap k r n w hk h1').mono ?_
    rintro e w' ⟨rfl, g⟩
    refine ⟨_, base, _, rfl, ?_, .inr rfl, ?_, g⟩
    · rw [show rcN m c S k r n = S from if_neg hw]; exact own_below hS g
    · unfold chA; rw [if_neg hw]
      have : wkE k r = 12 := by unfold wkE; rw [if_neg h1]
      rw [this]
theorem ruE_rng (p : ByteArray) (e b k : Int) : 0 ≤ ruE p e b k ∧ ruE p e b k ≤ 65535 := by
  rw [ru_is]
  repeat' split
  all_goals omega
abbrev rz0 : Array Value := #[.int .i64 0, .int .u64 0, .slice none 0 0]
/-- A table T, and the document's in block R (row u), whose next row is u'; n0: what will be told lies ready; a: a block that all leave alone; what is laid from z on is none of the table's. -/
def BoE (w : World) (n0 R a z T : Nat) (m c d : Int) (S : List Sl) (u u' : Value) (A : List Sl) : Prop :=
  (n0 < R ∧ a < w.heap.size ∧ n0 ≤ a ∧ z ≤ w.heap.size) ∧ ∃ (B : Nat → Prop) (base : Nat), Tbl w T B m c S ∧ (∀ k, B k → (n0 ≤ k ∧ k < z) ∧ k ≠ R ∧ k ≠ n0 ∧ k ≠ a) ∧ Blk w R (rcs m d u) Trf ∧ Blk w n0 rz0 Trf ∧ OwS w base u' A ∧ OffV u' (fun k => B k ∨ k = R ∨ k = n0 ∨ k = a)
section
variable {w w' : World} {n0 R a z T : Nat} {m c d : Int} {S A : List Sl} {u u' : Value}
theorem BoE.lo (h : BoE w n0 R a z T m c d S u u' A) : n0 ≤ w.heap.size := by
  obtain ⟨⟨h0, h1, h2, h3⟩, _⟩ := h
  omega
theorem BoE.below (h : BoE w n0 R a z T m c d S u u' A) (g : Below w.heap.size w w') : BoE w' n0 R a z T m c d S u u' A := by
  obtain ⟨⟨h0, h1, h2, h3⟩, B, base, ht, hB, hR, hZ, ho, hu⟩ := h
  have := g.size
  exact ⟨⟨h0, by omega, h2, by omega⟩, B, base, ht.below g, hB, hR.below g, hZ.below g, own_below ho g, hu⟩
theorem BoE.dr (h : BoE w n0 R a z T m c d S u u' A) : BoE w.drew n0 R a z T m c d S u u' A := h.below (below_dr _)
/-- What is laid anew is left alone. -/
theorem BoE.mark (h : BoE w n0 R a z T m c d S u u' A) (o : Obj) : BoE (w.alloc o) n0 R w.heap.size z T m c d S u u' A := by
  obtain ⟨⟨h0, h1, h2, h3⟩, B, base, ht, hB, hR, hZ, ho, hu⟩ := h
  have g : Below w.heap.size w (w.alloc o) := (Below.refl _ w).alloc (Nat.le_refl _) o
  refine ⟨⟨h0, by simp, by omega, by simp; omega⟩, B, base, ht.below g, fun k hk => ?_, hR.below g, hZ.below g, own_below ho g, ?_⟩
  · have := hB k hk
    exact ⟨this.1, this.2.1, this.2.2.1, by omega⟩
  · intro b n cap e x
    rcases x with x | x | x | x
    · exact hu b n cap e (.inl x)
    · exact hu b n cap e (.inr (.inl x))
    · exact hu b n cap e (.inr (.inr (.inl x)))
    · exact own_old ho b n cap e (by omega)
theorem BoE.unmark (h : BoE w n0 R a z T m c d S u u' A) : BoE w n0 R n0 w.heap.size T m c d S u u' A := by
  obtain ⟨⟨h0, h1, h2, h3⟩, B, base, ht, hB, hR, hZ, ho, hu⟩ := h
  refine ⟨⟨h0, hZ.lt, Nat.le_refl _, Nat.le_refl _⟩, B, base, ht, fun k hk => ?_, hR, hZ, ho, hu.mono (fun k x => ?_)⟩
  · have := hB k hk
    exact ⟨⟨this.1.1, by omega⟩, this.2.1, this.2.2.1, this.2.2.1⟩
  · rcases x with x | x | x | x
    · exact .inl x
    · exact .inr (.inl x)
    · exact .inr (.inr (.inl x))
    · exact .inr (.inr (.inl x))
theorem BoE.wf (h : BoE w n0 R a z T m c d S u u' A) : Wf m c S := by
  obtain ⟨_, B, base, ht, _⟩ := h
  exact ht.wf
theorem BoE.box (h : BoE w n0 R a z T m c d S u u' A) : Blk w R (rcs m d u) Trf := by
  obtain ⟨_, B, base, ht, hB, hR, _⟩ := h
  exact hR
theorem BoE.res (h : BoE w n0 R a z T m c d S u u' A) : Blk w n0 rz0 Trf := by
  obtain ⟨_, B, base, ht, hB, hR, hZ, _⟩ := h
  exact hZ
theorem BoE.row (h : BoE w n0 R a z T m c d S u u' A) : ∃ base, OwS w base u' A := by
  obtain ⟨_, B, base, ht, hB, hR, hZ, ho, _⟩ := h
  exact ⟨base, ho⟩
/-- A block of one's own is written. -/
theorem BoE.own (h : BoE w n0 R a z T m c d S u u' A) {X : Nat} (hz : z ≤ X) (hR : R ≠ X) (hn : n0 ≠ X) (hX : OffV u' (fun k => k = X)) (g : Tch (fun k => k = X) w w') : BoE w' n0 R a z T m c d S u u' A := by
  obtain ⟨⟨h0, h1, h2, h3⟩, B, base, ht, hB, hR', hZ, ho, hu⟩ := h
  have hs := g.size
  exact ⟨⟨h0, by omega, h2, by omega⟩, B, base, ht.keep (fun k hk hl => g.block k hl (fun e => by have := (hB k hk).1.2; omega)), hB, tch_blk g hR' hR, tch_blk g hZ hn, own_off ho g hX, hu⟩
/-- The table is written. -/
theorem bo_turn {B : Nat → Prop} {base : Nat} {c' : Int} {S' : List Sl} (h0 : n0 < R) (h1 : a < w.heap.size) (h2 : n0 ≤ a) (h3 : z ≤ w.heap.size) (hB : ∀ k, B k → (n0 ≤ k ∧ k < z) ∧ k ≠ R ∧ k ≠ n0 ∧ k ≠ a) (hR : Blk w R (rcs m d u) Trf) (hZ : Blk w n0 rz0 Trf) (ho : OwS w base u' A) (hu : OffV u' (fun k => B k ∨ k = R ∨ k = n0 ∨ k = a)) (g : Tch B w w') (t : Tbl w' T (Nx B w) m c' S') :
    BoE w' n0 R a w'.heap.size T m c' d S' u u' A ∧ Tch (fun k => n0 ≤ k ∧ k ≠ a) w w' := by
  have hs := g.size
  have hRl := hR.lt
  refine ⟨⟨⟨h0, by omega, h2, Nat.le_refl _⟩, fun k => Nx B w k ∧ k < w'.heap.size, base, t.low, fun k hk => ?_, g.blk hR (fun x => (hB R x).2.1 rfl), g.blk hZ (fun x => (hB n0 x).2.2.1 rfl), own_off ho g (hu.mono (fun k x => .inl x)), ?_⟩, g.mono (fun k _ hk => ⟨(hB k hk).1.1, (hB k hk).2.2.2⟩)⟩
  · rcases hk.1 with x | x
    · have := hB k x
      exact ⟨⟨this.1.1, hk.2⟩, this.2⟩
    · have x : w.heap.size ≤ k := x
      exact ⟨⟨by omega, hk.2⟩, by omega, by omega, by omega⟩
  · intro b n cap e x
    rcases x with x | x
    · rcases x.1 with x | x
      · exact hu b n cap e (.inl x)
      · exact own_old ho b n cap e x
    · exact hu b n cap e (.inr x)
theorem BoE.charge (h : BoE w n0 R a z T m c d S u u' A) (k : ByteArray) (r : Rl) (n : Int) (hk : k.size ≤ 281474976710656) (hr : Okr r) (hnn : U n) :
    Calls Tryz.prog 44 #[ptr T, .string k, .agg #[.string r.p, .int .u64 r.e, .int .u64 r.b, .int .u8 r.k], .int .u64 n] w fun e w' => e = .returned (chA m c S k r n).v ∧ Hid (∃ z', BoE w' n0 R a z' T m c d (chN m c S k r n) u u' A) ∧ Tch (fun k => n0 ≤ k ∧ k ≠ a) w w' := by
  obtain ⟨⟨h0, h1, h2, h3⟩, B, base, ht, hB, hR, hZ, ho, hu⟩ := h
  refine (charge_tab T B m c S k r n w ht hk hr hnn).mono ?_
  rintro e w' ⟨rfl, g, t⟩
  have q := bo_turn h0 h1 h2 h3 hB hR hZ ho hu g t
  exact ⟨rfl, Lib.hid ⟨_, q.1⟩, q.2⟩
theorem BoE.tick (h : BoE w n0 R a z T m c d S u u' A) (x : Int) (hx : U x) :
    Calls Tryz.prog 43 #[ptr T, .int .u64 x] w fun e w' => e = .returned (.int .u64 (max c x)) ∧ Hid (∃ z', BoE w' n0 R a z' T m (max c x) d (S.filter (actB (max c x))) u u' A) ∧ Tch (fun k => n0 ≤ k ∧ k ≠ a) w w' := by
  obtain ⟨⟨h0, h1, h2, h3⟩, B, base, ht, hB, hR, hZ, ho, hu⟩ := h
  refine (tick_any T B m c x S w ht hx).mono ?_
  rintro e w' ⟨rfl, g, t⟩
  have q := bo_turn h0 h1 h2 h3 hB hR hZ ho hu g t
  exact ⟨rfl, Lib.hid ⟨_, q.1⟩, q.2⟩
theorem BoE.rcharge (h : BoE w n0 R a z T m c d S u u' A) (y : Nat) (hy : OffV u' (fun k => y ≤ k)) (k : ByteArray) (r : Rl) (n : Int) (hok : ∀ s ∈ A, Oks s) (hk3 : ∀ s ∈ A, Is3 s.k) (hd : U d) (hl : A.length ≤ 1000000000) (hk : k.size ≤ 281474976710656) (hr : Okr r) (hn : U n) :
    Calls Tryz.prog 55 #[rtv m d u', .string k, .agg #[.string r.p, .int .u64 r.e, .int .u64 r.b, .int .u8 r.k], .int .u64 n] w fun e w' => ∃ v, e = .returned (.tuple #[rtv m d v, An.v (chA m d (rsl d A) k r n)]) ∧ Hid (BoE w' n0 R a z T m c d S u v (rcN m d A k r n)) ∧ Hid (OffV v (fun k => y ≤ k ∧ k < w.heap.size)) ∧ Below w.heap.size w w' := by
  have hw := h.wf
  obtain ⟨⟨h0, h1, h2, h3⟩, B, base, ht, hB, hR, hZ, ho, hu⟩ := h
  refine (rcharge_any m d base u' A k r n w ⟨hw.m1, hw.m2⟩ ho hok hk3 hd hl hk hr hn (ruE_rng _ _ _ _)).mono ?_
  rintro e w' ⟨v, base', an, rfl, ho', hv, rfl, g⟩
  have hs := g.size
  refine ⟨v, rfl, Lib.hid ⟨⟨h0, by omega, h2, by omega⟩, B, base', ht.below g, hB, hR.below g, hZ.below g, ho', ?_⟩, Lib.hid ?_, g⟩
  · rcases hv with hv | rfl
    · refine hv.mono (fun k x => ?_)
      have hRl := hR.lt
      rcases x with x | rfl | rfl | rfl
      · have := (hB k x).1.2; omega
      · exact hRl
      · omega
      · exact h1
    · exact hu
  · rcases hv with hv | rfl
    · exact hv.mono (fun k x => x.2)
    · exact hy.mono (fun k x => x.1)
/-- The document's next row is laid into its block. -/
theorem BoE.put (h : BoE w n0 R a z T m c d S u u' A) (d' : Int) : BoE (((w.setCell ⟨R, 0, none⟩ (.int .i64 m)).setCell ⟨R, 1, none⟩ (.int .u64 d')).setCell ⟨R, 2, none⟩ u') n0 R a z T m c d' S u' u' A ∧ Tch (fun k => k = R) w (((w.setCell ⟨R, 0, none⟩ (.int .i64 m)).setCell ⟨R, 1, none⟩ (.int .u64 d')).setCell ⟨R, 2, none⟩ u') := by
  obtain ⟨⟨h0, h1, h2, h3⟩, B, base, ht, hB, hR, hZ, ho, hu⟩ := h
  have g := ts3 (p0 := .int .i64 m) (p1 := .int .u64 d') (p2 := u') (Tch.refl (fun k => k = R) w) (X := R) (.inl rfl)
  have hs := g.size
  exact ⟨⟨⟨h0, by omega, h2, by omega⟩, B, base, ht.keep (fun k hk hl => g.block k hl (fun e => (hB k hk).2.1 e)), hB, bset3 hR, tch_blk g hZ (by omega), own_off ho g (hu.mono (fun k x => .inr (.inl x))), hu⟩, g⟩
end
theorem kfI_nn (k a b c cap : Int) : 0 ≤ kfI k a b c cap := by
  have h := tkI_le a b c cap
  unfold kfI
  split
  · unfold sbI; split <;> omega
  · split
    · unfold biI; omega
    · split
      · unfold fiI sbI; (repeat' split) <;> omega
      · omega
end Go.Proofs.YtbejkcdaefkibaaGreat.Wd
namespace Go.Proofs.YtbejkcdaefkibaaGreat.Wd
open Go Go.RowKit Go.Deep Go.Shelf
set_option linter.unusedVariables false
set_option maxRecDepth 100000
/-- What the rules of choices cost. -/
def EvR (r : Rl) : Prop := r.e = 10 ∨ r.e = 1000 ∨ r.e = 3000000000 ∨ r.e = 2147483648 ∨ r.e = 1
/-- The table's slots, and the document's. -/
structure Inv (c : Int) (S A : List Sl) : Prop where
  tw : All2 (Twi c) S S
  rise : Rise A
  prm : S.Perm (rsl c A)
  ok : ∀ s ∈ A, Oks s ∧ Is3 s.k
  ev : ∀ s ∈ A, EvR s.r
  len : A.length ≤ 1000001
theorem Inv.none : Inv 0 [] [] := ⟨.nil, List.Pairwise.nil, List.Perm.refl _, fun s h => (List.not_mem_nil h).elim, fun s h => (List.not_mem_nil h).elim, by simp⟩
theorem rsl_later {c c' : Int} {A : List Sl} (h : ∀ s ∈ A, Oks s ∧ Is3 s.k) (hc : U c) (hc' : U c') (hl : c ≤ c') : (rsl c A).filter (actB c') = rsl c' A := by
  unfold rsl
  rw [List.filter_filter]
  refine List.filter_congr (fun s hs => ?_)
  cases e : actB c' s with
  | false => rfl
  | true =>
    have h1 : 0 < flS c' s := of_decide_eq_true e
    have h2 := flS_down (h s hs).1 (h s hs).2 hc hc' hl
    have : actB c s = true := decide_eq_true (by omega)
    rw [this]; rfl
theorem Inv.tick {c c' : Int} {S A : List Sl} (h : Inv c S A) (hc : U c) (hc' : U c') (hl : c ≤ c') : Inv c' (S.filter (actB c')) A :=
  ⟨h.tw.tick hl hc', h.rise, by rw [← rsl_later h.ok hc hc' hl]; exact h.prm.filter _, h.ok, h.ev, h.len⟩
theorem stOf_okA {c : Int} {r : Rl} {S : List Sl} {k : ByteArray} (h : ∀ s ∈ S, Oks s ∧ Is3 s.k) (hr : Okr r) (h3 : Is3 r.k) (hc : U c) : OkSt (stOf c r (getS S k)) := by
  cases e : getS S k with
  | none => exact ⟨by show Is3 (koK r.k); rw [koK_is h3]; exact h3, koA_U _ _ _ _ hc (capR_U hr) U_zero, koB_U _ _ hc⟩
  | some s => have := h s (getS_some e).1; exact ⟨this.2, this.1.a, this.1.b⟩
theorem Inv.charge {m c : Int} {S A : List Sl} {k : ByteArray} {r : Rl} {n : Int} (h : Inv c S A) (hw : Wf m c S) (hc2 : c ≤ 4611686018427387904) (hk : k.size ≤ 281474976710656) (hr : Okr r) (hev : EvR r) (hn : U n) : Inv c (chN m c S k r n) (rcN m c A k r n) := by
  have hc := hw.cu
  by_cases h0 : wkE k r = 0
  · have hrr : ruE r.p r.e r.b r.k = 0 := by
      unfold wkE at h0
      by_cases z : rtB (lb k) = true
      · rw [if_pos z] at h0; exact h0
      · rw [if_neg z] at h0; cases h0
    have h3 := rule_is3 hrr
    have hlen : (rsl c A).length ≤ 1000000 := by
      rw [← h.prm.length_eq]
      have := hw.len; have := hw.m2; omega
    have okd : ∀ s ∈ dropS (rsl c A) k r, Oks s ∧ Is3 s.k := fun s hs => h.ok s (rsl_mem.1 (dropS_sub hs)).1
    have hst := stOf_okA (k := k) okd hr h3 hc
    have hnx := (hst.next (n := n) hc hr hn).1
    have hdl := dropS_len (rsl c A) k r
    have evd : ∀ s ∈ dropS (rsl c A) k r, EvR s.r := fun s hs => h.ev s (rsl_mem.1 (dropS_sub hs)).1
    refine ⟨(twi_charge h.tw hw hw hr hr rfl rfl hrr hrr hc2 hn).2, h.rise.charge, ?_, ?_, ?_, ?_⟩
    · exact (chN_prm h.prm hw.ap k r).trans (rcN_prm (fun s => kfI_nn _ _ _ _ _))
    · intro s hs
      unfold rcN at hs
      rw [if_pos h0] at hs
      split at hs
      · exact okd s hs
      · split at hs
        · rcases insS_mem.1 hs with rfl | hs
          · exact ⟨⟨hk, hr, by rcases hnx.k with e | e | e <;> (show 0 ≤ (stNx c r _ n).k ∧ (stNx c r _ n).k ≤ 255; rw [e]; decide), hnx.a, hnx.b⟩, hnx.k⟩
          · exact okd s (offS_mem.1 hs).1
        · exact okd s hs
    · intro s hs
      unfold rcN at hs
      rw [if_pos h0] at hs
      split at hs
      · exact evd s hs
      · split at hs
        · rcases insS_mem.1 hs with rfl | hs
          · exact hev
          · exact evd s (offS_mem.1 hs).1
        · exact evd s hs
    · unfold rcN
      rw [if_pos h0]
      split
      · omega
      · split
        · rw [(insS_perm _ _).length_eq, List.length_cons]
          have : (offS k (dropS (rsl c A) k r)).length ≤ (dropS (rsl c A) k r).length := List.length_filter_le _ _
          omega
        · omega
  · rw [show chN m c S k r n = S from if_neg h0, show rcN m c A k r n = A from if_neg h0]
    exact h
theorem ruleK_ev (k : Int) (hk : 0 ≤ k ∧ k ≤ 255) : EvR (ruleK k) := by
  have h6 : k % 6 = 0 ∨ k % 6 = 1 ∨ k % 6 = 2 ∨ k % 6 = 3 ∨ k % 6 = 4 ∨ k % 6 = 5 := by omega
  unfold EvR ruleK ruleP
  rcases h6 with e | e | e | e | e | e <;> simp [e]
end Go.Proofs.YtbejkcdaefkibaaGreat.Wd
namespace Go.Proofs.YtbejkcdaefkibaaGreat.Wd
open Go Go.RowKit Go.Deep Go.Shelf
set_option linter.unusedVariables false
set_option maxRecDepth 100000
theorem below_al (w : World) (o : Obj) : Below w.heap.size w (w.alloc o) := (Below.refl _ w).alloc (Nat.le_refl _) o
theorem zn_of {w : World} {X : Nat} (zt : Blk w X rz0 Trf) (p0 p1 p2 : Value) : Blk ((((w.alloc (.cells zan 57)).setCell ⟨X, 0, none⟩ p0).setCell ⟨X, 1, none⟩ p1).setCell ⟨X, 2, none⟩ p2) w.heap.size zan 57 := by
  have hX := zt.lt
  exact (((Blk.new w zan 57).other 0 p0 (by omega)).other 1 p1 (by omega)).other 2 p2 (by omega)
theorem zo_of {w : World} {X Y : Nat} (zt : Blk w X rz0 Trf) (zy : Blk w Y zan 57) (p0 p1 p2 : Value) : Blk (((w.setCell ⟨X, 0, none⟩ p0).setCell ⟨X, 1, none⟩ p1).setCell ⟨X, 2, none⟩ p2) Y zan 57 := by
  have hX : Y ≠ X := by
    rintro rfl
    have h : some (Obj.cells rz0 Trf) = some (Obj.cells zan 57) := zt.symm.trans zy
    injection h with h
    injection h with h
    have := congrArg Array.size h
    simp at this
  exact ((zy.other 0 p0 hX).other 1 p1 hX).other 2 p2 hX
theorem blk_new1 (w : World) (o : Obj) (cs : Array Value) (t : TypeId) : Blk ((w.alloc o).alloc (.cells cs t)) (w.heap.size + 1) cs t := by
  have z := Blk.new (w.alloc o) cs t
  rwa [show (w.alloc o).heap.size = w.heap.size + 1 by simp] at z
theorem BoE.rcharge2 {w : World} {n0 R a z T : Nat} {m c d : Int} {S A : List Sl} {u u' : Value} (h : BoE w n0 R a z T m c d S u u' A) (y : Nat) (hy : OffV u' (fun k => y ≤ k)) (k : ByteArray) (r : Rl) (n : Int) (hok : ∀ s ∈ A, Oks s) (hk3 : ∀ s ∈ A, Is3 s.k) (hd : U d) (hl : A.length ≤ 1000000000) (hk : k.size ≤ 281474976710656) (hr : Okr r) (hn : U n) :
    Calls Tryz.prog 55 #[rtv m d u', .string k, .agg #[.string r.p, .int .u64 r.e, .int .u64 r.b, .int .u8 r.k], .int .u64 n] w fun e w' => ∃ Av capv, e = .returned (.tuple #[rtv m d (.slice Av (rcN m d A k r n).length capv), An.v (chA m d (rsl d A) k r n)]) ∧ Hid (BoE w' n0 R a z T m c d S u (.slice Av (rcN m d A k r n).length capv) (rcN m d A k r n)) ∧ Hid (OffV (.slice Av (rcN m d A k r n).length capv) (fun k => y ≤ k ∧ k < w.heap.size)) ∧ Below w.heap.size w w' := by
  refine (h.rcharge y hy k r n hok hk3 hd hl hk hr hn).mono ?_
  rintro e w' ⟨v, rfl, hb, hv, g⟩
  obtain ⟨base, ho⟩ := hb.out.row
  obtain ⟨Av, capv, rfl, _⟩ := ho.rds
  exact ⟨Av, capv, rfl, hb, hv, g⟩
/-- A table, and a row that is none of its blocks. -/
def BoF (w : World) (n0 T : Nat) (m c : Int) (S : List Sl) (u : Value) (A : List Sl) : Prop :=
  ∃ (B : Nat → Prop) (base : Nat), Tbl w T B m c S ∧ (∀ k, B k → n0 ≤ k ∧ k < w.heap.size) ∧ OwS w base u A ∧ OffV u B
theorem BoE.fin {w : World} {n0 R a z T : Nat} {m c d : Int} {S A : List Sl} {u : Value} (h : BoE w n0 R a z T m c d S u u A) :
    BoF (((w.setCell ⟨n0, 0, none⟩ (.int .i64 m)).setCell ⟨n0, 1, none⟩ (.int .u64 d)).setCell ⟨n0, 2, none⟩ u) n0 T m c S u A ∧ Blk (((w.setCell ⟨n0, 0, none⟩ (.int .i64 m)).setCell ⟨n0, 1, none⟩ (.int .u64 d)).setCell ⟨n0, 2, none⟩ u) n0 (rcs m d u) Trf ∧ Tch (fun k => k = n0) w (((w.setCell ⟨n0, 0, none⟩ (.int .i64 m)).setCell ⟨n0, 1, none⟩ (.int .u64 d)).setCell ⟨n0, 2, none⟩ u) := by
  obtain ⟨⟨h0, h1, h2, h3⟩, B, base, ht, hB, hR, hZ, ho, hu⟩ := h
  have g := ts3 (p0 := .int .i64 m) (p1 := .int .u64 d) (p2 := u) (Tch.refl (fun k => k = n0) w) (X := n0) (.inl rfl)
  have hs := g.size
  exact ⟨⟨B, base, ht.keep (fun k hk hl => g.block k hl (fun e => (hB k hk).2.2.1 e)), fun k hk => ⟨(hB k hk).1.1, by have := (hB k hk).1.2; omega⟩, own_off ho g (hu.mono (fun k x => .inr (.inr (.inl x)))), hu.mono (fun k x => .inl x)⟩, bset3 hZ, g⟩
theorem BoF.dr {w : World} {n0 T : Nat} {m c : Int} {S A : List Sl} {u : Value} (h : BoF w n0 T m c S u A) : BoF w.drew n0 T m c S u A := by
  obtain ⟨B, base, ht, hB, ho, hu⟩ := h
  exact ⟨B, base, ht.below (below_dr _), fun k hk => ⟨(hB k hk).1, Nat.lt_of_lt_of_le (hB k hk).2 (below_dr w).size⟩, own_below ho (below_dr _), hu⟩
theorem off_at {V : World} {X y : Nat} {cs : Array Value} {t : TypeId} {v : Value} (zt : Blk V X cs t) (hX : y ≤ X) (h : OffV v (fun k => y ≤ k ∧ k < V.heap.size)) : OffV v (fun k => k = X) := h.mono (fun k e => by subst e; exact ⟨hX, zt.lt⟩)
/-- The document's new table lies ready in block X. -/
structure Pf (w V : World) (n0 R a z T : Nat) (m c d : Int) (S : List Sl) (u v : Value) (A : List Sl) (X : Nat) : Prop where
  bo : BoE V n0 R a z T m c d S u v A
  x : Blk V X (rcs m d v) Trf
  k : Below n0 w V
section
variable {w V : World} {n0 R a z T X Y : Nat} {m c d : Int} {S A : List Sl} {u v : Value}
theorem Pf.al (h : Pf w V n0 R a z T m c d S u v A X) (o : Obj) : Pf w (V.alloc o) n0 R a z T m c d S u v A X := ⟨h.bo.below (below_al _ _), h.x.alloc o, h.k.trans ((below_al V o).mono h.bo.lo)⟩
theorem Pf.new (h : BoE V n0 R a z T m c d S u v A) (k : Below n0 w V) : Pf w (V.alloc (.cells (rcs m d v) Trf)) n0 R a z T m c d S u v A V.heap.size := ⟨h.below (below_al _ _), Blk.new _ _ _, k.trans ((below_al V _).mono h.lo)⟩
theorem Pf.c3 (h : BoE V n0 R a z T m c d S u v A) (k : Below n0 w V) (zt : Blk V X rz0 Trf) (hz : z ≤ X) (hR : R < X) (oX : OffV v (fun k => k = X)) (hw : n0 ≤ w.heap.size) : Pf w (((V.setCell ⟨X, 0, none⟩ (.int .i64 m)).setCell ⟨X, 1, none⟩ (.int .u64 d)).setCell ⟨X, 2, none⟩ v) n0 R a z T m c d S u v A X := by
  have hn : n0 < R := by obtain ⟨⟨q, _⟩, _⟩ := h; exact q
  have g := ts3 (p0 := .int .i64 m) (p1 := .int .u64 d) (p2 := v) (Tch.refl (fun k => k = X) V) (X := X) (.inl rfl)
  exact ⟨h.own hz (by omega) (by omega) oX g, bset3 zt, tch_below k g hw (fun k h e => by omega)⟩
theorem Pf.c10 (h : Pf w V n0 R a z T m c d S u v A X) (an : An) (hz : z ≤ Y) (hR : R < Y) (hY : X ≠ Y) (oY : OffV v (fun k => k = Y)) (hw : n0 ≤ w.heap.size) : Pf w ((((((((((V.setCell ⟨Y, 0, none⟩ (.int .u8 an.code)).setCell ⟨Y, 1, none⟩ (.int .u16 an.err)).setCell ⟨Y, 2, none⟩ (.int .u64 an.lim)).setCell ⟨Y, 3, none⟩ (.int .u64 an.left)).setCell ⟨Y, 4, none⟩ (.int .u64 an.reset)).setCell ⟨Y, 5, none⟩ (.int .u64 an.after)).setCell ⟨Y, 6, none⟩ (.int .u64 an.nanos)).setCell ⟨Y, 7, none⟩ (.bool an.retry)).setCell ⟨Y, 8, none⟩ (.int .i64 0)).setCell ⟨Y, 9, none⟩ (.slice none 0 0)) n0 R a z T m c d S u v A X := by
  have hn : n0 < R := by obtain ⟨⟨q, _⟩, _⟩ := h.bo; exact q
  have g := ts10 (p0 := (.int .u8 an.code)) (p1 := (.int .u16 an.err)) (p2 := (.int .u64 an.lim)) (p3 := (.int .u64 an.left)) (p4 := (.int .u64 an.reset)) (p5 := (.int .u64 an.after)) (p6 := (.int .u64 an.nanos)) (p7 := (.bool an.retry)) (p8 := (.int .i64 0)) (p9 := (.slice none 0 0)) (Tch.refl (fun k => k = Y) V) (X := Y) (.inl rfl)
  exact ⟨h.bo.own hz (by omega) (by omega) oY g, tch_blk g h.x hY, tch_below h.k g hw (fun k h e => by omega)⟩
theorem Pf.res (h : Pf w V n0 R a z T m c d S u v A X) : Hid (Blk V X (rcs m d v) Trf) ∧ Hid (∃ z', BoE V n0 R a z' T m c d S u v A) ∧ Hid (Below n0 w V) := ⟨Lib.hid h.x, Lib.hid ⟨_, h.bo⟩, Lib.hid h.k⟩
end
theorem row_old {w : World} {n0 R a z T : Nat} {m c d : Int} {S A : List Sl} {u v : Value} (h : BoE w n0 R a z T m c d S u v A) : OffV v (fun k => w.heap.size ≤ k) := by
  obtain ⟨base, ho⟩ := h.row
  exact own_old ho
theorem xy_ne {w : World} {X Y : Nat} (zt : Blk w X rz0 Trf) (zy : Blk w Y zan 57) : X ≠ Y := by
  rintro rfl
  have h : some (Obj.cells rz0 Trf) = some (Obj.cells zan 57) := zt.symm.trans zy
  injection h with h
  injection h with h
  have := congrArg Array.size h
  simp at this
set_option maxHeartbeats 16000000 in
theorem both_any (k0 : Int) (A0 : Option Addr) (n cap : Nat) (ds : List Dd) (w : World) (h : Dds w A0 n ds) (hk : 0 ≤ k0 ∧ k0 ≤ 255) :
    Calls Tryz.prog 19 #[.int .u8 k0, .slice A0 n cap] w fun e w' => ∃ (T : Nat) (u : Value) (c : Int) (S A : List Sl), e = .returned (.tuple #[ptr T, rtv (1 + k0 % 9) c u]) ∧ Hid (Inv c S A) ∧ (0 ≤ c ∧ c ≤ 4294967295) ∧ BoF w' w.heap.size T (1 + k0 % 9) c S u A ∧ Below w.heap.size w w' := by
  have HD := Lib.hid h
  have tm9 : k0.tmod 9 = k0 % 9 := Int.tmod_eq_emod_of_nonneg hk.1
  have wk9 : IntKind.i64.wrap (k0 % 9) = k0 % 9 := by rw [IntKind.wrap_i64]; omega
  have wm9 : IntKind.i64.wrap (1 + k0 % 9) = 1 + k0 % 9 := by rw [IntKind.wrap_i64]; omega
  clear h
  have kA := Lib.hid ((Below.refl _ w).alloc (Nat.le_refl _) (.cells rz0 Trf))
  have bA := Lib.hid (Blk.new w rz0 Trf)
  go_enter Tryz.func19, Tryz.ntmps19
  go_upto_region 1 with fail
  generalize w.alloc (.cells rz0 Trf) = W0 at *
  have CN := Lib.hid (fun V => new_any (1 + k0 % 9) V)
  have CM := Lib.hid (fun V => rnew_any (1 + k0 % 9) V)
  rw [show mostI (1 + k0 % 9) = 1 + k0 % 9 by unfold mostI; omega] at CN CM
  have hm1 : 1 ≤ 1 + k0 % 9 := by omega
  have hm9 : 1 + k0 % 9 ≤ 9 := by omega
  go_wp2_with (go_at_call 23; refine (CN.out _).mono ?_; rintro e W2 ⟨rfl, g2, hT2, hs2⟩; refine stopHere ?_)
  unfold Stop
  go_wp2_with (go_at_call 52; refine (CM.out _).mono ?_; rintro e W3 ⟨rfl, g3⟩; refine stopHere ?_)
  unfold Stop
  clear wm9 wk9 CN CM
  generalize hmm : 1 + k0 % 9 = m at *
  have HM := Lib.hid hmm
  clear hmm
  go_upto_region 3 with fail
  have hsA := bA.out.lt
  have B0 : Hid (BoE (W3.alloc (.cells (rcs m 0 (.slice none 0 0)) Trf)) w.heap.size W3.heap.size w.heap.size W3.heap.size (W0.heap.size + 1) m 0 0 [] (.slice none 0 0) (.slice none 0 0) []) := Lib.hid (by
    have s2 := g2.size
    have s3 := g3.size
    have gA : Below W3.heap.size W3 (W3.alloc (.cells (rcs m 0 (.slice none 0 0)) Trf)) := (Below.refl _ _).alloc (Nat.le_refl _) _
    refine ⟨⟨by omega, by simp; omega, Nat.le_refl _, by simp⟩, _, 0, ((hT2.below g3).below gA), fun k hk => ?_, Blk.new _ _ _, ((bA.out.below g2).below g3).below gA, OwS.nil _ _, fun b n cap e => by cases e⟩
    have q1 := hk.1; have q2 := hk.2
    exact ⟨⟨by omega, by omega⟩, by omega, by omega, by omega⟩)
  have K0 := Lib.hid ((kbq (kbq kA.out g2) g3).alloc (by have := kA.out.size; have := g2.size; have := g3.size; omega) (.cells (rcs m 0 (.slice none 0 0)) Trf))
  obtain ⟨n0, hn0⟩ : ∃ n0, w.heap.size = n0 := ⟨_, rfl⟩
  have HN0 := Lib.hid hn0
  clear g2 hT2 hs2 g3 kA bA hsA
  revert B0 K0
  generalize W3.alloc (.cells (rcs m 0 (.slice none 0 0)) Trf) = W4
  generalize W3.heap.size = R
  generalize W0.heap.size + 1 = T
  intro B0 K0
  rw [hn0] at B0 K0 ⊢
  clear hn0
  go_wp2
  go_loopw [8] (fun i wr => ∃ (j : Nat) (c : Int) (S A : List Sl) (u : Value) (z : Nat), i = .int .i64 (j : Int) ∧ (j ≤ n ∧ j ≤ 30) ∧ (0 ≤ c ∧ c ≤ 4294967295) ∧ Hid (BoE wr n0 R n0 z T m c c S u u A) ∧ Hid (Inv c S A) ∧ Hid (Below n0 w wr)) (fun i _ => 30 - (intOf i).toNat)
  case atStart => exact ⟨0, 0, [], [], _, _, rfl, ⟨Nat.zero_le _, Nat.zero_le _⟩, ⟨Int.le_refl _, by decide⟩, B0, Lib.hid Inv.none, K0⟩
  case round =>
    clear B0 K0
    obtain ⟨j, c, S, A, u, z, rfl, ⟨hjn, hj30⟩, ⟨hc0, hc8⟩, hP, HI, HB⟩ := hrel
    go_upto_region 4 with fail
    go_cut [29] from 22 to 28 (fun v wx => ∃ t : Bool, v = .bool t ∧ Hid (t = true ↔ (j < n ∧ j < 30)) ∧ Hid (wx = wr))
    case first =>
      by_cases q1 : j < n
      · have q1' : (j : Int) < (n : Int) := by omega
        by_cases q2 : j < 30
        · have q2' : (j : Int) < 30 := by omega
          go_wp2
          go_meet
          case rel => exact ⟨true, rfl, Lib.hid (by simp [q1, q2]), Lib.hid rfl⟩
        · have q2' : decide ((j : Int) < 30) = false := decide_eq_false (by omega)
          go_wp2
          go_meet
          case rel => exact ⟨false, rfl, Lib.hid (by simp [q2]), Lib.hid rfl⟩
      · have q1' : decide ((j : Int) < (n : Int)) = false := decide_eq_false (by omega)
        go_wp2
        go_meet
        case rel => exact ⟨false, rfl, Lib.hid (by simp [q1]), Lib.hid rfl⟩
    case rest =>
    obtain ⟨tt, rfl, htt, hwx⟩ := hcut
    obtain rfl := hwx.out.symm
    clear hwx
    have hnR : n0 < R := by obtain ⟨⟨q, _⟩, _⟩ := hP.out; exact q
    cases tt
    · clear htt HD
      obtain ⟨base, ho⟩ := hP.out.row
      obtain ⟨Au, capu, rfl, _⟩ := ho.rds
      obtain ⟨t0, t1, t2, _⟩ := blk3 hP.out.box
      obtain ⟨s0, s1, s2, sf0, sf1, sf2⟩ := blk3 hP.out.res
      clear ho
      have hF := Lib.hid hP.out.fin
      go_wp2_with fail
      go_region
      all_goals
        clear t0 t1 t2 s0 s1 s2 sf0 sf1 sf2
        revert hF
        generalize World.setCell _ ⟨n0, 2, none⟩ _ = V
        intro hF
        have HF := Lib.hid hF.out.1.dr
        have KF := Lib.hid ((tch_below HB.out hF.out.2.2 (by rw [HN0.out]; exact Nat.le_refl _) (fun k hk q => by omega)).trans ((below_dr V).mono (by have := hF.out.2.2.size; have := hP.out.lo; omega)))
        have BF := Lib.hid (Blk.dr hF.out.2.1)
        clear hF
        revert HF KF BF
        generalize World.drew _ = V9
        intro HF KF BF
        obtain ⟨v0, v1, v2, _⟩ := blk3 BF.out
        go_wp2
        refine bodyPost_ret (v := .tuple #[ptr T, rtv m c (.slice Au A.length capu)]) ?_ rfl ⟨T, _, c, S, A, by rw [HM.out], HI, ⟨hc0, hc8⟩, by rw [HM.out, HN0.out]; exact HF.out, by rw [HN0.out]; exact KF.out⟩
        simp [results, Tryz.results19, go_sem, v0, v1, v2]
    · obtain ⟨hj1, hj2⟩ := htt.out.1 rfl
      clear htt
      obtain ⟨b, off, ka, kn, kc, rfl, hd0⟩ := HD.out.2.2.2 j hj1
      have hok := HD.out.ok hj1
      obtain ⟨d, hdd⟩ : ∃ d, ds.getD j dd0 = d := ⟨_, rfl⟩
      rw [hdd] at hd0 hok
      have HBw := Lib.hid (show Below w.heap.size w wr by rw [HN0.out]; exact HB.out)
      have hd := hd0.below HBw.out
      obtain ⟨d0, d1, d2, d3, d4, d5, d6⟩ : wr.cell? ⟨b, off + j * 7, none⟩ = some (.int .u8 d.kind) ∧ wr.cell? ⟨b, off + j * 7 + 1, none⟩ = some (.int .u32 d.wait) ∧ wr.cell? ⟨b, off + j * 7 + 2, none⟩ = some (.int .u8 d.big) ∧ wr.cell? ⟨b, off + j * 7 + 3, none⟩ = some (.slice ka kn kc) ∧ wr.cell? ⟨b, off + j * 7 + 4, none⟩ = some (.int .u8 d.rule) ∧ wr.cell? ⟨b, off + j * 7 + 5, none⟩ = some (.int .u16 d.n) ∧ wr.cell? ⟨b, off + j * 7 + 6, none⟩ = some (.int .u8 d.dest) := ⟨hd.c0, hd.c1, hd.c2, hd.c3, hd.c4, hd.c5, hd.c6⟩
      have hkind := hok.kind
      have hdw := hok.wait
      have hdn := hok.n
      have hdr := hok.rule
      have hdb := hok.big
      have jn : (j : Int) < (n : Int) := by omega
      have tm8 : d.kind.tmod 8 = d.kind % 8 := Int.tmod_eq_emod_of_nonneg hkind.1
      have kD := Lib.hid ((Below.refl _ wr).alloc (Nat.le_refl _) (.cells #[.int .u8 d.kind, .int .u32 d.wait, .int .u8 d.big, .slice ka kn kc, .int .u8 d.rule, .int .u16 d.n, .int .u8 d.dest] 60))
      have bD := Lib.hid (Blk.new wr #[.int .u8 d.kind, .int .u32 d.wait, .int .u8 d.big, .slice ka kn kc, .int .u8 d.rule, .int .u16 d.n, .int .u8 d.dest] 60)
      have hPD := Lib.hid (hP.out.mark (.cells #[.int .u8 d.kind, .int .u32 d.wait, .int .u8 d.big, .slice ka kn kc, .int .u8 d.rule, .int .u16 d.n, .int .u8 d.dest] 60))
      have HBD := Lib.hid (HB.out.trans (kD.out.mono hP.out.lo))
      have CN := Lib.hid (fun V (g : Below n0 w V) => name_any d ka kn kc V hkind (hd0.txt.below (by rw [HN0.out]; exact g)) hd0.few)
      have hnk := Lib.hid (nameT_ok d)
      have hcu := hP.out.wf.cu
      have HWf := Lib.hid hP.out.wf
      clear hdd hd0 hok hd HBw HB
      go_upto_region 7 with fail
      clear d0 d1 d2 d3 d4 d5 d6 hP
      revert kD bD hPD HBD
      generalize wr.alloc (.cells #[.int .u8 d.kind, .int .u32 d.wait, .int .u8 d.big, .slice ka kn kc, .int .u8 d.rule, .int .u16 d.n, .int .u8 d.dest] 60) = W
      intro kD bD hPD HBD
      obtain ⟨DB, hDB⟩ : ∃ DB, wr.heap.size = DB := ⟨_, rfl⟩
      rw [hDB] at bD hPD ⊢
      clear hDB kD
      obtain ⟨e0, e1, e2, e3, e4, e5, e6⟩ : W.cell? ⟨DB, 0, none⟩ = some (.int .u8 d.kind) ∧ W.cell? ⟨DB, 1, none⟩ = some (.int .u32 d.wait) ∧ W.cell? ⟨DB, 2, none⟩ = some (.int .u8 d.big) ∧ W.cell? ⟨DB, 3, none⟩ = some (.slice ka kn kc) ∧ W.cell? ⟨DB, 4, none⟩ = some (.int .u8 d.rule) ∧ W.cell? ⟨DB, 5, none⟩ = some (.int .u16 d.n) ∧ W.cell? ⟨DB, 6, none⟩ = some (.int .u8 d.dest) := ⟨bD.out.cell 0, bD.out.cell 1, bD.out.cell 2, bD.out.cell 3, bD.out.cell 4, bD.out.cell 5, bD.out.cell 6⟩
      by_cases z0 : d.kind % 8 = 0
      · have y0 : (d.kind % 8 == 0) = true := by simpa using z0
        clear z0
        have tm32 : d.big.tmod 32 = d.big % 32 := Int.tmod_eq_emod_of_nonneg hdb.1
        have wx32 : IntKind.u64.wrap (d.big % 32) = d.big % 32 := by rw [IntKind.wrap_u64]; omega
        obtain ⟨sh, hsh, hs0, hs1⟩ : ∃ sh, d.wait / 2 ^ (d.big % 32).toNat = sh ∧ 0 ≤ sh ∧ sh ≤ 4294967295 := ⟨_, rfl, Int.ediv_nonneg hdw.1 (Int.le_of_lt (Int.pow_pos (by decide))), Int.le_trans (Int.ediv_le_self _ hdw.1) hdw.2⟩
        have wsh : IntKind.u64.wrap sh = sh := by rw [IntKind.wrap_u64]; omega
        have hU : U sh := by unfold U; omega
        have C1 := Lib.hid (hPD.out.tick sh hU)
        go_wp2_with (go_at_call 43; (with_reducible refine C1.out.mono ?_); rintro e W5 ⟨rfl, hP2, g5⟩; refine stopHere ?_)
        unfold Stop
        obtain ⟨z2, hP3⟩ := hP2.out
        have bD5 := Lib.hid (g5.blk bD.out (fun x => x.2 rfl))
        have HB5 := Lib.hid (HBD.out.trans (g5.lo (n := n0) (fun k h => h.1) hPD.out.lo))
        obtain ⟨base, ho⟩ := hP3.row
        obtain ⟨Au, capu, rfl, _⟩ := ho.rds
        have CT := Lib.hid (rtick_any m c sh Au A.length capu W5)
        have hP5 := Lib.hid hP3
        clear C1 hP2 hP3 g5 ho hPD HBD bD e0 e1 e2 e3 e4 e5 e6
        obtain ⟨t0, t1, t2, _⟩ := blk3 hP5.out.box
        obtain ⟨e1, e2⟩ : W5.cell? ⟨DB, 1, none⟩ = some (.int .u32 d.wait) ∧ W5.cell? ⟨DB, 2, none⟩ = some (.int .u8 d.big) := ⟨bD5.out.cell 1, bD5.out.cell 2⟩
        go_wp2_with (go_at_call 53; (with_reducible refine CT.out.mono ?_); rintro e W6 ⟨rfl, g6⟩; refine stopHere ?_)
        unfold Stop
        have hP6 := Lib.hid (hP5.out.below g6)
        have HB6 := Lib.hid (HB5.out.trans (g6.mono hP5.out.lo))
        clear CT hP5 HB5 g6 t0 t1 t2 e1 e2 bD5
        obtain ⟨t0, t1, t2, tf0, tf1, tf2⟩ := blk3 hP6.out.box
        have hP7 := Lib.hid (hP6.out.put (max c sh))
        go_upto_region 5 with fail
        clear t0 t1 t2 tf0 tf1 tf2
        revert hP7
        generalize World.setCell _ ⟨R, 2, none⟩ _ = V
        intro hP7
        have HB7 := Lib.hid (tch_below HB6.out hP7.out.2 (by rw [HN0.out]; exact Nat.le_refl _) (fun k hk q => by omega))
        have HI7 := Lib.hid (HI.out.tick hcu (show U (max c sh) by unfold U; omega) (show c ≤ max c sh by omega))
        have hP8 := Lib.hid hP7.out.1.unmark
        clear hP7 hP6 HB6
        go_wp2
        go_roundw
        case rel => exact ⟨j + 1, max c sh, _, A, _, _, by go_num, ⟨by omega, by omega⟩, ⟨by omega, by omega⟩, hP8, HI7, HB7⟩
        case measure => simp [intOf]; omega
      · have y0 : (d.kind % 8 == 0) = false := by simpa using z0
        clear z0
        have nbD : ¬ (n0 ≤ DB ∧ DB ≠ DB) := fun x => x.2 rfl
        have tm6 : d.n.tmod 6 = d.n % 6 := Int.tmod_eq_emod_of_nonneg hdn.1
        have wn6 : IntKind.u64.wrap (d.n % 6) = d.n % 6 := by rw [IntKind.wrap_u64]; omega
        have hUn : U (d.n % 6) := by unfold U; omega
        have CR := Lib.hid (fun V => rule_any d.rule V hdr)
        have hrk := Lib.hid (ruleK_okr d.rule hdr)
        have hnm := hnk.out.1
        have hev := Lib.hid (ruleK_ev d.rule hdr)
        generalize hrr : ruleK d.rule = r at *
        generalize hnn : d.n % 6 = nn at *
        generalize hkk : nameT d = nm at *
        have C1 := Lib.hid (fun V (g : BoE V n0 R DB z T m c c S u u A) => g.charge nm r nn (by omega) hrk.out hUn)
        have HP0 := hPD
        have hP := hPD
        have HB := HBD
        clear hPD HBD
        go_upto_region 10 with fail
        go_region_held3 (fun w' => w'.cell? ⟨DB, 0, none⟩ = some (.int .u8 d.kind) ∧ w'.cell? ⟨DB, 1, none⟩ = some (.int .u32 d.wait) ∧ w'.cell? ⟨DB, 2, none⟩ = some (.int .u8 d.big) ∧ w'.cell? ⟨DB, 3, none⟩ = some (.slice ka kn kc) ∧ w'.cell? ⟨DB, 4, none⟩ = some (.int .u8 d.rule) ∧ w'.cell? ⟨DB, 5, none⟩ = some (.int .u16 d.n) ∧ w'.cell? ⟨DB, 6, none⟩ = some (.int .u8 d.dest))
          (first | with_reducible exact ⟨e0, e1, e2, e3, e4, e5, e6⟩ | with_reducible exact ⟨dcell e0, dcell e1, dcell e2, dcell e3, dcell e4, dcell e5, dcell e6⟩)
          (first
            | (go_at_call 54; ((with_reducible refine (CN.out _ (by first | exact HB.out | exact HB.out.trans (Drew.lo (Drew.one _) hP.out.lo))).mono ?_); rintro e W5 ⟨rfl, g⟩; (first | with_reducible (replace HB := Lib.hid (HB.out.trans (g.mono hP.out.lo)); replace hP := Lib.hid (hP.out.below g); replace e0 := celln g e0; replace e1 := celln g e1; replace e2 := celln g e2; replace e3 := celln g e3; replace e4 := celln g e4; replace e5 := celln g e5; replace e6 := celln g e6) | with_reducible (replace HB := Lib.hid (HB.out.trans ((Drew.lo (Drew.one _) hP.out.lo).trans (g.mono hP.out.dr.lo))); replace hP := Lib.hid (hP.out.dr.below g); replace e0 := celln g (dcell e0); replace e1 := celln g (dcell e1); replace e2 := celln g (dcell e2); replace e3 := celln g (dcell e3); replace e4 := celln g (dcell e4); replace e5 := celln g (dcell e5); replace e6 := celln g (dcell e6)))))
            | (go_at_call 47; ((with_reducible refine (CR.out _).mono ?_); rintro e W6 ⟨rfl, g⟩; (first | with_reducible (replace HB := Lib.hid (HB.out.trans (g.mono hP.out.lo)); replace hP := Lib.hid (hP.out.below g); replace e0 := celln g e0; replace e1 := celln g e1; replace e2 := celln g e2; replace e3 := celln g e3; replace e4 := celln g e4; replace e5 := celln g e5; replace e6 := celln g e6) | with_reducible (replace HB := Lib.hid (HB.out.trans ((Drew.lo (Drew.one _) hP.out.lo).trans (g.mono hP.out.dr.lo))); replace hP := Lib.hid (hP.out.dr.below g); replace e0 := celln g (dcell e0); replace e1 := celln g (dcell e1); replace e2 := celln g (dcell e2); replace e3 := celln g (dcell e3); replace e4 := celln g (dcell e4); replace e5 := celln g (dcell e5); replace e6 := celln g (dcell e6)))))
            | (go_at_call 44; ((with_reducible refine (C1.out _ (by first | exact hP.out | exact hP.out.dr)).mono ?_); rintro e W7 ⟨rfl, hP2, g⟩; (first | with_reducible (replace HB := Lib.hid (HB.out.trans (g.lo (n := n0) (fun k h => h.1) hP.out.lo)); replace e0 := cellT g e0 nbD; replace e1 := cellT g e1 nbD; replace e2 := cellT g e2 nbD; replace e3 := cellT g e3 nbD; replace e4 := cellT g e4 nbD; replace e5 := cellT g e5 nbD; replace e6 := cellT g e6 nbD) | with_reducible (replace HB := Lib.hid (HB.out.trans ((Drew.lo (Drew.one _) hP.out.lo).trans (g.lo (n := n0) (fun k h => h.1) hP.out.dr.lo))); replace e0 := cellT g (dcell e0) nbD; replace e1 := cellT g (dcell e1) nbD; replace e2 := cellT g (dcell e2) nbD; replace e3 := cellT g (dcell e3) nbD; replace e4 := cellT g (dcell e4) nbD; replace e5 := cellT g (dcell e5) nbD; replace e6 := cellT g (dcell e6) nbD)); clear hP; obtain ⟨z2, hP3⟩ := hP2.out; have hP := Lib.hid hP3; clear hP2 hP3)))
        obtain ⟨base, ho⟩ := hP.out.row
        obtain ⟨Au, capu, rfl, _⟩ := ho.rds
        have hy := own_old ho
        have hA1 := HI.out.len
        have C2 := Lib.hid (fun V (g : BoE V n0 R DB z2 T m c c (chN m c S nm r nn) (.slice Au A.length capu) (.slice Au A.length capu) A) => g.rcharge2 W7.heap.size hy nm r nn (fun s hs => (HI.out.ok s hs).1) (fun s hs => (HI.out.ok s hs).2) hcu (by omega) (by omega) hrk.out hUn)
        obtain ⟨t0, t1, t2, _⟩ := blk3 hP.out.box
        have lW7 := Nat.le_refl W7.heap.size
        have lDB : DB < W7.heap.size := cell_lt e0
        have lR : R < W7.heap.size := hP.out.box.lt
        have lz : z2 ≤ W7.heap.size := by obtain ⟨⟨_, _, _, q⟩, _⟩ := hP.out; exact q
        have hw0 : n0 ≤ w.heap.size := by rw [HN0.out]; exact Nat.le_refl _
        clear ho hy C1 HP0
        go_upto_region 11 with fail
        go_cut [10, 11] from 71 to 84 (fun v10 _ wx => ∃ X v, v10 = .pointer (some ⟨X, 0, none⟩) ∧ Hid (Blk wx X (rcs m c v) Trf) ∧ Hid (∃ z', BoE wx n0 R DB z' T m c c (chN m c S nm r nn) (.slice Au A.length capu) v (rcN m c A nm r nn)) ∧ Hid (Below n0 w wx))
        case first =>
          go_region_held3 (fun w' => w'.cell? ⟨DB, 0, none⟩ = some (.int .u8 d.kind) ∧ w'.cell? ⟨DB, 1, none⟩ = some (.int .u32 d.wait) ∧ w'.cell? ⟨DB, 2, none⟩ = some (.int .u8 d.big) ∧ w'.cell? ⟨DB, 3, none⟩ = some (.slice ka kn kc) ∧ w'.cell? ⟨DB, 4, none⟩ = some (.int .u8 d.rule) ∧ w'.cell? ⟨DB, 5, none⟩ = some (.int .u16 d.n) ∧ w'.cell? ⟨DB, 6, none⟩ = some (.int .u8 d.dest) ∧ w'.cell? ⟨R, 0, none⟩ = some (.int .i64 m) ∧ w'.cell? ⟨R, 1, none⟩ = some (.int .u64 c) ∧ w'.cell? ⟨R, 2, none⟩ = some (.slice Au A.length capu))
            (first | with_reducible exact ⟨e0, e1, e2, e3, e4, e5, e6, t0, t1, t2⟩ | with_reducible exact ⟨dcell e0, dcell e1, dcell e2, dcell e3, dcell e4, dcell e5, dcell e6, dcell t0, dcell t1, dcell t2⟩ | with_reducible exact ⟨acell e0, acell e1, acell e2, acell e3, acell e4, acell e5, acell e6, acell t0, acell t1, acell t2⟩ | with_reducible exact ⟨dcell (acell e0), dcell (acell e1), dcell (acell e2), dcell (acell e3), dcell (acell e4), dcell (acell e5), dcell (acell e6), dcell (acell t0), dcell (acell t1), dcell (acell t2)⟩ | with_reducible exact ⟨acell (acell e0), acell (acell e1), acell (acell e2), acell (acell e3), acell (acell e4), acell (acell e5), acell (acell e6), acell (acell t0), acell (acell t1), acell (acell t2)⟩ | with_reducible exact ⟨dcell (acell (acell e0)), dcell (acell (acell e1)), dcell (acell (acell e2)), dcell (acell (acell e3)), dcell (acell (acell e4)), dcell (acell (acell e5)), dcell (acell (acell e6)), dcell (acell (acell t0)), dcell (acell (acell t1)), dcell (acell (acell t2))⟩ | with_reducible exact ⟨sc3 (e0) (by omega), sc3 (e1) (by omega), sc3 (e2) (by omega), sc3 (e3) (by omega), sc3 (e4) (by omega), sc3 (e5) (by omega), sc3 (e6) (by omega), sc3 (t0) (by omega), sc3 (t1) (by omega), sc3 (t2) (by omega)⟩ | with_reducible exact ⟨sc3 (acell e0) (by omega), sc3 (acell e1) (by omega), sc3 (acell e2) (by omega), sc3 (acell e3) (by omega), sc3 (acell e4) (by omega), sc3 (acell e5) (by omega), sc3 (acell e6) (by omega), sc3 (acell t0) (by omega), sc3 (acell t1) (by omega), sc3 (acell t2) (by omega)⟩ | with_reducible exact ⟨sc3 (acell (acell e0)) (by omega), sc3 (acell (acell e1)) (by omega), sc3 (acell (acell e2)) (by omega), sc3 (acell (acell e3)) (by omega), sc3 (acell (acell e4)) (by omega), sc3 (acell (acell e5)) (by omega), sc3 (acell (acell e6)) (by omega), sc3 (acell (acell t0)) (by omega), sc3 (acell (acell t1)) (by omega), sc3 (acell (acell t2)) (by omega)⟩ | with_reducible exact ⟨sc10 (sc3 (e0) (by omega)) (by omega), sc10 (sc3 (e1) (by omega)) (by omega), sc10 (sc3 (e2) (by omega)) (by omega), sc10 (sc3 (e3) (by omega)) (by omega), sc10 (sc3 (e4) (by omega)) (by omega), sc10 (sc3 (e5) (by omega)) (by omega), sc10 (sc3 (e6) (by omega)) (by omega), sc10 (sc3 (t0) (by omega)) (by omega), sc10 (sc3 (t1) (by omega)) (by omega), sc10 (sc3 (t2) (by omega)) (by omega)⟩ | with_reducible exact ⟨sc10 (sc3 (acell e0) (by omega)) (by omega), sc10 (sc3 (acell e1) (by omega)) (by omega), sc10 (sc3 (acell e2) (by omega)) (by omega), sc10 (sc3 (acell e3) (by omega)) (by omega), sc10 (sc3 (acell e4) (by omega)) (by omega), sc10 (sc3 (acell e5) (by omega)) (by omega), sc10 (sc3 (acell e6) (by omega)) (by omega), sc10 (sc3 (acell t0) (by omega)) (by omega), sc10 (sc3 (acell t1) (by omega)) (by omega), sc10 (sc3 (acell t2) (by omega)) (by omega)⟩ | with_reducible exact ⟨sc10 (sc3 (acell (acell e0)) (by omega)) (by omega), sc10 (sc3 (acell (acell e1)) (by omega)) (by omega), sc10 (sc3 (acell (acell e2)) (by omega)) (by omega), sc10 (sc3 (acell (acell e3)) (by omega)) (by omega), sc10 (sc3 (acell (acell e4)) (by omega)) (by omega), sc10 (sc3 (acell (acell e5)) (by omega)) (by omega), sc10 (sc3 (acell (acell e6)) (by omega)) (by omega), sc10 (sc3 (acell (acell t0)) (by omega)) (by omega), sc10 (sc3 (acell (acell t1)) (by omega)) (by omega), sc10 (sc3 (acell (acell t2)) (by omega)) (by omega)⟩ | with_reducible exact ⟨sc10 (e0) (by omega), sc10 (e1) (by omega), sc10 (e2) (by omega), sc10 (e3) (by omega), sc10 (e4) (by omega), sc10 (e5) (by omega), sc10 (e6) (by omega), sc10 (t0) (by omega), sc10 (t1) (by omega), sc10 (t2) (by omega)⟩ | with_reducible exact ⟨sc10 (acell e0) (by omega), sc10 (acell e1) (by omega), sc10 (acell e2) (by omega), sc10 (acell e3) (by omega), sc10 (acell e4) (by omega), sc10 (acell e5) (by omega), sc10 (acell e6) (by omega), sc10 (acell t0) (by omega), sc10 (acell t1) (by omega), sc10 (acell t2) (by omega)⟩ | with_reducible exact ⟨sc10 (acell (acell e0)) (by omega), sc10 (acell (acell e1)) (by omega), sc10 (acell (acell e2)) (by omega), sc10 (acell (acell e3)) (by omega), sc10 (acell (acell e4)) (by omega), sc10 (acell (acell e5)) (by omega), sc10 (acell (acell e6)) (by omega), sc10 (acell (acell t0)) (by omega), sc10 (acell (acell t1)) (by omega), sc10 (acell (acell t2)) (by omega)⟩)
            (first
              | (go_at_call 54; ((with_reducible refine (CN.out _ (HB.out.trans (Below.mono (by first | exact Below.refl _ _ | exact below_dr _ | exact below_al _ _ | exact kbq (below_al _ _) (below_dr _) | exact kbq (below_al _ _) (below_al _ _) | exact kbq (kbq (below_al _ _) (below_al _ _)) (below_dr _) | exact kbq (below_dr _) (below_al _ _) | exact kbq (kbq (below_dr _) (below_al _ _)) (below_dr _) | exact kbq (kbq (below_al _ _) (below_dr _)) (below_al _ _) | exact kbq (kbq (kbq (below_al _ _) (below_dr _)) (below_al _ _)) (below_dr _)) hP.out.lo))).mono ?_); rintro e V1 ⟨rfl, g⟩; have gz : Hid (Below W7.heap.size W7 V1) := Lib.hid (by first | exact kbq (Below.refl _ _) g | exact kbq (below_dr _) g | exact kbq (below_al _ _) g | exact kbq (kbq (below_al _ _) (below_dr _)) g | exact kbq (kbq (below_al _ _) (below_al _ _)) g | exact kbq (kbq (kbq (below_al _ _) (below_al _ _)) (below_dr _)) g | exact kbq (kbq (below_dr _) (below_al _ _)) g | exact kbq (kbq (kbq (below_dr _) (below_al _ _)) (below_dr _)) g | exact kbq (kbq (kbq (below_al _ _) (below_dr _)) (below_al _ _)) g | exact kbq (kbq (kbq (kbq (below_al _ _) (below_dr _)) (below_al _ _)) (below_dr _)) g); (first | (replace zt := Lib.hid (zt.out.below gz.out)) | (have zt : Hid (Blk V1 W7.heap.size rz0 Trf) := Lib.hid (by first | exact Blk.below (Blk.new _ _ _) g | exact Blk.below (Blk.dr (Blk.new _ _ _)) g | exact Blk.below (Blk.alloc (Blk.new _ _ _) _) g | exact Blk.below (Blk.dr (Blk.alloc (Blk.new _ _ _) _)) g)) | (have zt : Hid (Blk V1 (W7.heap.size + 1) rz0 Trf) := Lib.hid (by first | exact Blk.below (blk_new1 _ _ _ _) g | exact Blk.below (Blk.dr (blk_new1 _ _ _ _)) g)) | skip); (first | (replace zy := Lib.hid (zy.out.below gz.out)) | (have zy : Hid (Blk V1 W7.heap.size zan 57) := Lib.hid (by first | exact Blk.below (Blk.new _ _ _) g | exact Blk.below (Blk.dr (Blk.new _ _ _)) g | exact Blk.below (Blk.alloc (Blk.new _ _ _) _) g | exact Blk.below (Blk.dr (Blk.alloc (Blk.new _ _ _) _)) g)) | (have zy : Hid (Blk V1 (W7.heap.size + 1) zan 57) := Lib.hid (by first | exact Blk.below (blk_new1 _ _ _ _) g | exact Blk.below (Blk.dr (blk_new1 _ _ _ _)) g)) | skip); replace e0 := celln gz.out e0; replace e1 := celln gz.out e1; replace e2 := celln gz.out e2; replace e3 := celln gz.out e3; replace e4 := celln gz.out e4; replace e5 := celln gz.out e5; replace e6 := celln gz.out e6; replace t0 := celln gz.out t0; replace t1 := celln gz.out t1; replace t2 := celln gz.out t2; have lV1 := Nat.le_trans lW7 gz.out.size; replace HB := Lib.hid (HB.out.trans (gz.out.mono hP.out.lo)); replace hP := Lib.hid (hP.out.below gz.out)))
              | (go_at_call 47; ((with_reducible refine (CR.out _).mono ?_); rintro e V2 ⟨rfl, g⟩; have gz : Hid (Below V1.heap.size V1 V2) := Lib.hid (by first | exact kbq (Below.refl _ _) g | exact kbq (below_dr _) g | exact kbq (below_al _ _) g | exact kbq (kbq (below_al _ _) (below_dr _)) g | exact kbq (kbq (below_al _ _) (below_al _ _)) g | exact kbq (kbq (kbq (below_al _ _) (below_al _ _)) (below_dr _)) g | exact kbq (kbq (below_dr _) (below_al _ _)) g | exact kbq (kbq (kbq (below_dr _) (below_al _ _)) (below_dr _)) g | exact kbq (kbq (kbq (below_al _ _) (below_dr _)) (below_al _ _)) g | exact kbq (kbq (kbq (kbq (below_al _ _) (below_dr _)) (below_al _ _)) (below_dr _)) g); (first | (replace zt := Lib.hid (zt.out.below gz.out)) | (have zt : Hid (Blk V2 V1.heap.size rz0 Trf) := Lib.hid (by first | exact Blk.below (Blk.new _ _ _) g | exact Blk.below (Blk.dr (Blk.new _ _ _)) g | exact Blk.below (Blk.alloc (Blk.new _ _ _) _) g | exact Blk.below (Blk.dr (Blk.alloc (Blk.new _ _ _) _)) g)) | (have zt : Hid (Blk V2 (V1.heap.size + 1) rz0 Trf) := Lib.hid (by first | exact Blk.below (blk_new1 _ _ _ _) g | exact Blk.below (Blk.dr (blk_new1 _ _ _ _)) g)) | skip); (first | (replace zy := Lib.hid (zy.out.below gz.out)) | (have zy : Hid (Blk V2 V1.heap.size zan 57) := Lib.hid (by first | exact Blk.below (Blk.new _ _ _) g | exact Blk.below (Blk.dr (Blk.new _ _ _)) g | exact Blk.below (Blk.alloc (Blk.new _ _ _) _) g | exact Blk.below (Blk.dr (Blk.alloc (Blk.new _ _ _) _)) g)) | (have zy : Hid (Blk V2 (V1.heap.size + 1) zan 57) := Lib.hid (by first | exact Blk.below (blk_new1 _ _ _ _) g | exact Blk.below (Blk.dr (blk_new1 _ _ _ _)) g)) | skip); replace e0 := celln gz.out e0; replace e1 := celln gz.out e1; replace e2 := celln gz.out e2; replace e3 := celln gz.out e3; replace e4 := celln gz.out e4; replace e5 := celln gz.out e5; replace e6 := celln gz.out e6; replace t0 := celln gz.out t0; replace t1 := celln gz.out t1; replace t2 := celln gz.out t2; have lV2 := Nat.le_trans lV1 gz.out.size; replace HB := Lib.hid (HB.out.trans (gz.out.mono hP.out.lo)); replace hP := Lib.hid (hP.out.below gz.out)))
              | (go_at_call 55; ((with_reducible refine (C2.out _ (hP.out.below (by first | exact Below.refl _ _ | exact below_dr _ | exact below_al _ _ | exact kbq (below_al _ _) (below_dr _) | exact kbq (below_al _ _) (below_al _ _) | exact kbq (kbq (below_al _ _) (below_al _ _)) (below_dr _) | exact kbq (below_dr _) (below_al _ _) | exact kbq (kbq (below_dr _) (below_al _ _)) (below_dr _) | exact kbq (kbq (below_al _ _) (below_dr _)) (below_al _ _) | exact kbq (kbq (kbq (below_al _ _) (below_dr _)) (below_al _ _)) (below_dr _)))).mono ?_); rintro e V3 ⟨Av, capv, rfl, hP3, HV, g⟩; (first | (have oX := Lib.hid (off_at (zt.out.below (by first | exact Below.refl _ _ | exact below_dr _ | exact below_al _ _ | exact kbq (below_al _ _) (below_dr _) | exact kbq (below_al _ _) (below_al _ _) | exact kbq (kbq (below_al _ _) (below_al _ _)) (below_dr _) | exact kbq (below_dr _) (below_al _ _) | exact kbq (kbq (below_dr _) (below_al _ _)) (below_dr _) | exact kbq (kbq (below_al _ _) (below_dr _)) (below_al _ _) | exact kbq (kbq (kbq (below_al _ _) (below_dr _)) (below_al _ _)) (below_dr _))) (by omega) HV.out)) | (have oX := Lib.hid (off_at (X := V2.heap.size) (cs := rz0) (t := Trf) (by first | exact Blk.new _ _ _ | exact Blk.dr (Blk.new _ _ _) | exact Blk.alloc (Blk.new _ _ _) _ | exact Blk.dr (Blk.alloc (Blk.new _ _ _) _)) (by omega) HV.out)) | (have oX := Lib.hid (off_at (X := V2.heap.size + 1) (cs := rz0) (t := Trf) (by first | exact blk_new1 _ _ _ _ | exact Blk.dr (blk_new1 _ _ _ _)) (by omega) HV.out)) | skip); (first | (have oY := Lib.hid (off_at (zy.out.below (by first | exact Below.refl _ _ | exact below_dr _ | exact below_al _ _ | exact kbq (below_al _ _) (below_dr _) | exact kbq (below_al _ _) (below_al _ _) | exact kbq (kbq (below_al _ _) (below_al _ _)) (below_dr _) | exact kbq (below_dr _) (below_al _ _) | exact kbq (kbq (below_dr _) (below_al _ _)) (below_dr _) | exact kbq (kbq (below_al _ _) (below_dr _)) (below_al _ _) | exact kbq (kbq (kbq (below_al _ _) (below_dr _)) (below_al _ _)) (below_dr _))) (by omega) HV.out)) | (have oY := Lib.hid (off_at (X := V2.heap.size) (cs := zan) (t := 57) (by first | exact Blk.new _ _ _ | exact Blk.dr (Blk.new _ _ _) | exact Blk.alloc (Blk.new _ _ _) _ | exact Blk.dr (Blk.alloc (Blk.new _ _ _) _)) (by omega) HV.out)) | (have oY := Lib.hid (off_at (X := V2.heap.size + 1) (cs := zan) (t := 57) (by first | exact blk_new1 _ _ _ _ | exact Blk.dr (blk_new1 _ _ _ _)) (by omega) HV.out)) | skip); have gz : Hid (Below V2.heap.size V2 V3) := Lib.hid (by first | exact kbq (Below.refl _ _) g | exact kbq (below_dr _) g | exact kbq (below_al _ _) g | exact kbq (kbq (below_al _ _) (below_dr _)) g | exact kbq (kbq (below_al _ _) (below_al _ _)) g | exact kbq (kbq (kbq (below_al _ _) (below_al _ _)) (below_dr _)) g | exact kbq (kbq (below_dr _) (below_al _ _)) g | exact kbq (kbq (kbq (below_dr _) (below_al _ _)) (below_dr _)) g | exact kbq (kbq (kbq (below_al _ _) (below_dr _)) (below_al _ _)) g | exact kbq (kbq (kbq (kbq (below_al _ _) (below_dr _)) (below_al _ _)) (below_dr _)) g); (first | (replace zt := Lib.hid (zt.out.below gz.out)) | (have zt : Hid (Blk V3 V2.heap.size rz0 Trf) := Lib.hid (by first | exact Blk.below (Blk.new _ _ _) g | exact Blk.below (Blk.dr (Blk.new _ _ _)) g | exact Blk.below (Blk.alloc (Blk.new _ _ _) _) g | exact Blk.below (Blk.dr (Blk.alloc (Blk.new _ _ _) _)) g)) | (have zt : Hid (Blk V3 (V2.heap.size + 1) rz0 Trf) := Lib.hid (by first | exact Blk.below (blk_new1 _ _ _ _) g | exact Blk.below (Blk.dr (blk_new1 _ _ _ _)) g)) | skip); (first | (replace zy := Lib.hid (zy.out.below gz.out)) | (have zy : Hid (Blk V3 V2.heap.size zan 57) := Lib.hid (by first | exact Blk.below (Blk.new _ _ _) g | exact Blk.below (Blk.dr (Blk.new _ _ _)) g | exact Blk.below (Blk.alloc (Blk.new _ _ _) _) g | exact Blk.below (Blk.dr (Blk.alloc (Blk.new _ _ _) _)) g)) | (have zy : Hid (Blk V3 (V2.heap.size + 1) zan 57) := Lib.hid (by first | exact Blk.below (blk_new1 _ _ _ _) g | exact Blk.below (Blk.dr (blk_new1 _ _ _ _)) g)) | skip); replace e0 := celln gz.out e0; replace e1 := celln gz.out e1; replace e2 := celln gz.out e2; replace e3 := celln gz.out e3; replace e4 := celln gz.out e4; replace e5 := celln gz.out e5; replace e6 := celln gz.out e6; replace t0 := celln gz.out t0; replace t1 := celln gz.out t1; replace t2 := celln gz.out t2; have lV3 := Nat.le_trans lV2 gz.out.size; replace HB := Lib.hid (HB.out.trans (gz.out.mono hP.out.lo)); clear hP; have hP := hP3; clear hP3; (first | (have zq3 := blk3 zt.out; obtain ⟨zt0, zt1, zt2, zf0, zf1, zf2⟩ := zq3; have zn0 := fun (p0 p1 p2 : Value) => Blk.cell (zn_of zt.out p0 p1 p2) 0; have znf0 := fun (p0 p1 p2 : Value) => Blk.fz (zn_of zt.out p0 p1 p2) 0; have zn1 := fun (p0 p1 p2 : Value) => Blk.cell (zn_of zt.out p0 p1 p2) 1; have znf1 := fun (p0 p1 p2 : Value) => Blk.fz (zn_of zt.out p0 p1 p2) 1; have zn2 := fun (p0 p1 p2 : Value) => Blk.cell (zn_of zt.out p0 p1 p2) 2; have znf2 := fun (p0 p1 p2 : Value) => Blk.fz (zn_of zt.out p0 p1 p2) 2; have zn3 := fun (p0 p1 p2 : Value) => Blk.cell (zn_of zt.out p0 p1 p2) 3; have znf3 := fun (p0 p1 p2 : Value) => Blk.fz (zn_of zt.out p0 p1 p2) 3; have zn4 := fun (p0 p1 p2 : Value) => Blk.cell (zn_of zt.out p0 p1 p2) 4; have znf4 := fun (p0 p1 p2 : Value) => Blk.fz (zn_of zt.out p0 p1 p2) 4; have zn5 := fun (p0 p1 p2 : Value) => Blk.cell (zn_of zt.out p0 p1 p2) 5; have znf5 := fun (p0 p1 p2 : Value) => Blk.fz (zn_of zt.out p0 p1 p2) 5; have zn6 := fun (p0 p1 p2 : Value) => Blk.cell (zn_of zt.out p0 p1 p2) 6; have znf6 := fun (p0 p1 p2 : Value) => Blk.fz (zn_of zt.out p0 p1 p2) 6; have zn7 := fun (p0 p1 p2 : Value) => Blk.cell (zn_of zt.out p0 p1 p2) 7; have znf7 := fun (p0 p1 p2 : Value) => Blk.fz (zn_of zt.out p0 p1 p2) 7; have zn8 := fun (p0 p1 p2 : Value) => Blk.cell (zn_of zt.out p0 p1 p2) 8; have znf8 := fun (p0 p1 p2 : Value) => Blk.fz (zn_of zt.out p0 p1 p2) 8; have zn9 := fun (p0 p1 p2 : Value) => Blk.cell (zn_of zt.out p0 p1 p2) 9; have znf9 := fun (p0 p1 p2 : Value) => Blk.fz (zn_of zt.out p0 p1 p2) 9; have zta0 := fun (o : Obj) => acell (o := o) zt0; have ztf0 := fun (o : Obj) => Blk.fz (Blk.alloc zt.out o) 0; have zta1 := fun (o : Obj) => acell (o := o) zt1; have ztf1 := fun (o : Obj) => Blk.fz (Blk.alloc zt.out o) 1; have zta2 := fun (o : Obj) => acell (o := o) zt2; have ztf2 := fun (o : Obj) => Blk.fz (Blk.alloc zt.out o) 2) | skip); (first | (have zq9 := blk10 zy.out; obtain ⟨a0, a1, a2, a3, a4, a5, a6, a7, a8, a9, f0, f1, f2, f3, f4, f5, f6, f7, f8, f9⟩ := zq9; (first | (have zo0 := fun (p0 p1 p2 : Value) => Blk.cell (zo_of zt.out zy.out p0 p1 p2) 0; have zof0 := fun (p0 p1 p2 : Value) => Blk.fz (zo_of zt.out zy.out p0 p1 p2) 0; have zo1 := fun (p0 p1 p2 : Value) => Blk.cell (zo_of zt.out zy.out p0 p1 p2) 1; have zof1 := fun (p0 p1 p2 : Value) => Blk.fz (zo_of zt.out zy.out p0 p1 p2) 1; have zo2 := fun (p0 p1 p2 : Value) => Blk.cell (zo_of zt.out zy.out p0 p1 p2) 2; have zof2 := fun (p0 p1 p2 : Value) => Blk.fz (zo_of zt.out zy.out p0 p1 p2) 2; have zo3 := fun (p0 p1 p2 : Value) => Blk.cell (zo_of zt.out zy.out p0 p1 p2) 3; have zof3 := fun (p0 p1 p2 : Value) => Blk.fz (zo_of zt.out zy.out p0 p1 p2) 3; have zo4 := fun (p0 p1 p2 : Value) => Blk.cell (zo_of zt.out zy.out p0 p1 p2) 4; have zof4 := fun (p0 p1 p2 : Value) => Blk.fz (zo_of zt.out zy.out p0 p1 p2) 4; have zo5 := fun (p0 p1 p2 : Value) => Blk.cell (zo_of zt.out zy.out p0 p1 p2) 5; have zof5 := fun (p0 p1 p2 : Value) => Blk.fz (zo_of zt.out zy.out p0 p1 p2) 5; have zo6 := fun (p0 p1 p2 : Value) => Blk.cell (zo_of zt.out zy.out p0 p1 p2) 6; have zof6 := fun (p0 p1 p2 : Value) => Blk.fz (zo_of zt.out zy.out p0 p1 p2) 6; have zo7 := fun (p0 p1 p2 : Value) => Blk.cell (zo_of zt.out zy.out p0 p1 p2) 7; have zof7 := fun (p0 p1 p2 : Value) => Blk.fz (zo_of zt.out zy.out p0 p1 p2) 7; have zo8 := fun (p0 p1 p2 : Value) => Blk.cell (zo_of zt.out zy.out p0 p1 p2) 8; have zof8 := fun (p0 p1 p2 : Value) => Blk.fz (zo_of zt.out zy.out p0 p1 p2) 8; have zo9 := fun (p0 p1 p2 : Value) => Blk.cell (zo_of zt.out zy.out p0 p1 p2) 9; have zof9 := fun (p0 p1 p2 : Value) => Blk.fz (zo_of zt.out zy.out p0 p1 p2) 9) | skip); have za0 := fun (o : Obj) => acell (o := o) a0; have zaf0 := fun (o : Obj) => Blk.fz (Blk.alloc zy.out o) 0; have za1 := fun (o : Obj) => acell (o := o) a1; have zaf1 := fun (o : Obj) => Blk.fz (Blk.alloc zy.out o) 1; have za2 := fun (o : Obj) => acell (o := o) a2; have zaf2 := fun (o : Obj) => Blk.fz (Blk.alloc zy.out o) 2; have za3 := fun (o : Obj) => acell (o := o) a3; have zaf3 := fun (o : Obj) => Blk.fz (Blk.alloc zy.out o) 3; have za4 := fun (o : Obj) => acell (o := o) a4; have zaf4 := fun (o : Obj) => Blk.fz (Blk.alloc zy.out o) 4; have za5 := fun (o : Obj) => acell (o := o) a5; have zaf5 := fun (o : Obj) => Blk.fz (Blk.alloc zy.out o) 5; have za6 := fun (o : Obj) => acell (o := o) a6; have zaf6 := fun (o : Obj) => Blk.fz (Blk.alloc zy.out o) 6; have za7 := fun (o : Obj) => acell (o := o) a7; have zaf7 := fun (o : Obj) => Blk.fz (Blk.alloc zy.out o) 7; have za8 := fun (o : Obj) => acell (o := o) a8; have zaf8 := fun (o : Obj) => Blk.fz (Blk.alloc zy.out o) 8; have za9 := fun (o : Obj) => acell (o := o) a9; have zaf9 := fun (o : Obj) => Blk.fz (Blk.alloc zy.out o) 9) | skip))))
          all_goals
            have oN := Lib.hid (row_old hP.out)
            go_wp2
            go_meet
            case rel =>
              first
              | with_reducible exact ⟨_, _, rfl, ((Pf.new hP.out HB.out).al _).res⟩
              | with_reducible exact ⟨_, _, rfl, (Pf.mk (hP.out.below (kbq (below_al _ _) (below_al _ _))) (blk_new1 _ _ _ _) (HB.out.trans ((kbq (below_al _ _) (below_al _ _)).mono hP.out.lo))).res⟩
              | with_reducible exact ⟨_, _, rfl, (Pf.c10 (Pf.c3 hP.out HB.out zt.out (by omega) (by omega) oX.out hw0) (chA m c (rsl c A) nm r nn) (by omega) (by omega) (xy_ne zt.out zy.out) oY.out hw0).res⟩
              | with_reducible exact ⟨_, _, rfl, (Pf.c10 (Pf.new hP.out HB.out) (chA m c (rsl c A) nm r nn) (by omega) (by omega) (fun e => by have := zy.out.lt; omega) oY.out hw0).res⟩
              | with_reducible exact ⟨_, _, rfl, (Pf.c10 (Pf.c3 (hP.out.below (below_al _ _)) (HB.out.trans ((below_al _ _).mono hP.out.lo)) (zt.out.alloc _) (by omega) (by omega) oX.out hw0) (chA m c (rsl c A) nm r nn) (by omega) (by omega) (fun e => by have := zt.out.lt; omega) (oN.out.mono (fun k e => by omega)) hw0).res⟩
        case rest =>
        obtain ⟨X, v, rfl, hX, hE, hBb⟩ := hcut
        obtain ⟨z3, hE3⟩ := hE.out
        obtain ⟨base2, ho2⟩ := hE3.row
        obtain ⟨Av, capv, rfl, _⟩ := ho2.rds
        have hP9 := Lib.hid hE3
        clear e0 e1 e2 e3 e4 e5 e6 t0 t1 t2 hE hE3 ho2 C2 CN CR hP HB
        obtain ⟨x0, x1, x2, _⟩ := blk3 hX.out
        obtain ⟨t0, t1, t2, tf0, tf1, tf2⟩ := blk3 hP9.out.box
        have hP7 := Lib.hid (hP9.out.put c)
        go_upto_region 5 with fail
        clear x0 x1 x2 t0 t1 t2 tf0 tf1 tf2
        revert hP7
        generalize World.setCell _ ⟨R, 2, none⟩ _ = V
        intro hP7
        have HB7 := Lib.hid (tch_below hBb.out hP7.out.2 hw0 (fun k hk q => by omega))
        have HI7 := Lib.hid (HI.out.charge (k := nm) (n := nn) HWf.out (by omega) (by omega) hrk.out hev.out hUn)
        have hP8 := Lib.hid hP7.out.1.unmark
        clear hP7 hP9 hX hBb
        go_wp2
        go_roundw
        case rel => exact ⟨j + 1, c, _, _, _, _, by go_num, ⟨by omega, by omega⟩, ⟨hc0, hc8⟩, hP8, HI7, HB7⟩
        case measure => simp [intOf]; omega
end Go.Proofs.YtbejkcdaefkibaaGreat.Wd
namespace Go.Proofs.YtbejkcdaefkibaaGreat.Wd
open Go Go.RowKit Go.Deep Go.Shelf
set_option linter.unusedVariables false
set_option maxRecDepth 100000
theorem wo_nil (c : Int) : woE 9 c [] = 0 := by unfold woE; simp [fsE, soB]
/-- Nobody stays. -/
theorem keep_none (T : Nat) (B : Nat → Prop) (m c : Int) (S : List Sl) (A : Option Addr) (n cap N : Nat) (rs : List Rl) (w : World) (h : Tbl w T B m c S) (hN : S.length = N) (hr : Rls w A n rs) (hn : n ≤ 1000000) (h0 : ∀ s ∈ S, stayS rs c s = none) :
    Calls Tryz.prog 39 #[ptr T, .agg #[.int .i64 9, .slice A n cap]] w fun e w' => ∃ T2 B2, e = .returned (.tuple #[ptr T2, .int .i64 (N : Int), .int .u16 0]) ∧ Tbl w' T2 B2 9 c [] ∧ Below w.heap.size w w' := by
  have hw := h.wf
  refine (keep_any (some ⟨T, 0, none⟩) _ B m c 9 S A n cap rs w (Ent.yes h) (fun s hs => (hw.ok s hs).oks) (fun s hs z e => by rw [h0 s hs] at e; cases e) (by have := hw.len; have := hw.m2; omega) hw.cu hr (by omega) (fun K r e => find_okr hr.2.1 K r e)).mono ?_
  rintro e w' ⟨xs, TL, g, hk⟩
  have hx : ∀ s ∈ xs, stayS rs c s = none := fun s hs => h0 s ((TL.mem s).1 hs)
  have e1 : xs.filterMap (stayS rs c) = [] := List.filterMap_eq_nil_iff.2 hx
  have e2 : (xs.filter (fun s => (stayS rs c s).isNone)).length = N := by
    rw [List.filter_eq_self.2 (fun s hs => by rw [hx s hs]; rfl), TL.len, hN]
  rw [e1, e2] at hk
  rcases hk with ⟨_, T2, B2, S2, he, ht, hp, _⟩ | ⟨q, _⟩
  · have : S2 = [] := List.eq_nil_of_length_eq_zero (by simpa using hp.length_eq)
    subst this
    exact ⟨T2, B2, he, ht, g⟩
  · exact absurd (wo_nil c) q
theorem stay_ev {rs : List Rl} {c : Int} {s : Sl} (h : ∀ r ∈ rs, 20000 ≤ r.e ∧ r.e ≤ 100000) (hs : EvR s.r) : stayS rs c s = none := by
  cases e : stayS rs c s with
  | none => rfl
  | some z =>
    obtain ⟨r, hr, he, _, h0, _⟩ := stay_some e
    exfalso
    unfold findR at hr
    cases q : bestT rs s.key rs.length with
    | none => rw [q] at hr; cases hr
    | some i =>
      rw [q] at hr
      injection hr with hr
      by_cases hi : i < rs.length
      · have hm : fnOf rs i ∈ rs := by
          have : fnOf rs i = rs[i] := by simp [fnOf, List.getD_eq_getElem?_getD, hi]
          rw [this]; exact List.getElem_mem hi
        have := h _ hm
        rw [hr] at this
        unfold EvR at hs
        omega
      · have : fnOf rs i = rl0 := fn_out (by omega)
        rw [this] at hr
        subst hr
        rw [ru_is] at h0
        revert h0
        decide
end Go.Proofs.YtbejkcdaefkibaaGreat.Wd
