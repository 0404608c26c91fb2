/- A table in memory: New, Tick, Clock, what is wrong with a key, a slot's copy; no conditions but those that each names. -/
import Derived.Test.YtkfncanfgpmgaaaGreatTabN
namespace Go.Proofs.YtkfncanfgpmgaaaGreat.Wd
open Go Go.RowKit Go.Shelf Go.Deep
set_option linter.unusedVariables false
set_option maxRecDepth 100000

/-- As many as may be. -/
def mostI (n : Int) : Int := min (max n 1) 1000000
theorem mostI_in (n : Int) : 1 ≤ mostI n ∧ mostI n ≤ 1000000 := by unfold mostI; omega
theorem Wf.none {m : Int} (h1 : 1 ≤ m) (h2 : m ≤ 1000000) : Wf m 0 [] := ⟨h1, h2, U_zero, by simp; omega, (fun s hs => nomatch hs), List.Pairwise.nil⟩
theorem TabL.none {w w' : World} {m : Int} (hk : w'.heap[w.heap.size]? = some (.map #[] 0)) (hT : Blk w' (w.heap.size + 1) #[.int .i64 m, .int .u64 0, .map (some w.heap.size), .slice none 0 0] TTab) :
    TabL w' (w.heap.size + 1) (fun k => w.heap.size ≤ k ∧ k < w'.heap.size) m 0 [] := by
  have hl := hT.lt
  refine ⟨w.heap.size, fun _ => (sl0, 0), [], ⟨⟨_, hT⟩, ?_, ⟨Nat.le_refl _, by omega⟩, ⟨fun _ => 0, ⟨.inr ⟨rfl, hT.cell 3⟩, fun i hi => absurd hi (Nat.not_lt_zero _), ⟨⟨by omega, by omega⟩, by omega⟩⟩, fun k _ hk => absurd hk (Nat.not_lt_zero _), fun x => ⟨fun ⟨k, hk, _⟩ => absurd hk (Nat.not_lt_zero _), fun h => nomatch h⟩⟩, List.Pairwise.nil, by simp, fun b hb => nomatch hb⟩, rfl⟩
  obtain ⟨e, c, hb, r⟩ := World.ownsMap_made (H := Unit) w Tryz.prog Tstr ptrR
  have e1 : (w.alloc (.map #[] 0)).heap[w.heap.size]? = some (.map #[] 0) := World.alloc_heap_new w _
  rw [e1] at hb
  injection hb with hb
  injection hb with hb1 hb2
  subst hb1; subst hb2
  exact ⟨[], ⟨_, _, hk, r⟩, List.Perm.refl _⟩

theorem new_any (n : Int) (w : World) :
    Calls Tryz.prog 13 #[.int .i64 n] w fun e w' => e = .returned (ptr (w.heap.size + 1)) ∧ Below w.heap.size w w' ∧ Tbl w' (w.heap.size + 1) (fun k => w.heap.size ≤ k ∧ k < w'.heap.size) (mostI n) 0 [] ∧ w.heap.size + 2 ≤ w'.heap.size := by
  have hm := mostI_in n
  have hmm := @run_makeMap Tryz.prog
  have hs : (w.alloc (.map #[] 0)).heap.size = w.heap.size + 1 := by simp
  have kb : Below w.heap.size w (w.alloc (.map #[] 0)) := (Below.refl _ w).alloc (Nat.le_refl _) _
  have hn : (w.alloc (.map #[] 0)).heap[w.heap.size]? = some (.map #[] 0) := World.alloc_heap_new w _
  go_enter Tryz.func13, Tryz.ntmps13
  go_wp2
  go_ret
  generalize w.alloc (.map #[] 0) = W at *
  have k2 : Below w.heap.size w (W.alloc (.cells #[.int .i64 (mostI n), .int .u64 0, .map (some w.heap.size), .slice none 0 0] TTab)) := kb.alloc (by omega) _
  refine ⟨rfl, k2, ⟨[], TabL.none ?_ ?_, List.Perm.refl _, (fun x hx => nomatch hx), Wf.none hm.1 hm.2⟩, by simp; omega⟩
  · exact (al_old W _ (by omega)).trans hn
  · have := Blk.new W #[.int .i64 (mostI n), .int .u64 0, .map (some w.heap.size), .slice none 0 0] TTab
    rw [hs] at this
    exact this

theorem ornew_yes (T : Nat) (w : World) : Calls Tryz.prog 39 #[ptr T] w fun e w' => e = .returned (ptr T) ∧ w = w' := by
  go_enter Tryz.func39, Tryz.ntmps39
  go_wp2
  go_ret
  exact ⟨rfl, rfl⟩
theorem ornew_no (w : World) : Calls Tryz.prog 39 #[.pointer none] w fun e w' => e = .returned (ptr (w.heap.size + 1)) ∧ Below w.heap.size w w' ∧ Tbl w' (w.heap.size + 1) (fun k => w.heap.size ≤ k ∧ k < w'.heap.size) 1 0 [] ∧ w.heap.size + 2 ≤ w'.heap.size := by
  have C := Lib.hid (new_any 1 w)
  go_enter Tryz.func39, Tryz.ntmps39
  go_wp2_with (go_at_call 13; refine C.out.mono ?_; rintro e w1 ⟨rfl, hb, ht, hs⟩)
  go_ret
  exact ⟨rfl, hb, ht, hs⟩

theorem clock_yes (T : Nat) (c : Int) (w : World) (h : w.cell? ⟨T, 1, none⟩ = some (.int .u64 c)) : Calls Tryz.prog 21 #[ptr T] w fun e w' => e = .returned (.int .u64 c) ∧ w = w' := by
  have C := Lib.hid (ornew_yes T)
  go_enter Tryz.func21, Tryz.ntmps21
  go_wp2_with (go_at_call 39; refine (C.out _).mono ?_; rintro e w1 ⟨rfl, rfl⟩)
  go_ret
  exact ⟨rfl, rfl⟩

/-- What is wrong with a key and its rule. -/
def wkE (k : ByteArray) (r : Rl) : Int := if rtB (lb k) = true then ruE r.p r.e r.b r.k else 12
theorem wrongkey_any (k : ByteArray) (r : Rl) (w : World) (hk : k.size ≤ 9223372036854775807) (hr : Okr r) :
    Calls Tryz.prog 41 #[.string k, r.v] w fun e w' => e = .returned (.int .u16 (wkE k r)) ∧ Below w.heap.size w w' := by
  have C := Lib.hid (fun W => kright_any k W hk)
  have C2 := Lib.hid (fun W => right_any r.p r.e r.b r.k W (by have := hr.p; omega) hr.e hr.b)
  unfold wkE
  have k0 := (Below.refl _ w).alloc (Nat.le_refl _) (.cells #[.string r.p, .int .u64 r.e, .int .u64 r.b, .int .u8 r.k] 42)
  cases hb : rtB (lb k)
  · rw [hb] at C
    go_enter Tryz.func41, Tryz.ntmps41
    go_wp2_with (go_at_call 69; refine (C.out _).mono ?_; rintro e w1 ⟨rfl, rfl⟩)
    go_ret
    exact ⟨rfl, k0⟩
  · rw [hb] at C
    go_enter Tryz.func41, Tryz.ntmps41
    go_wp2_with (first
      | (go_at_call 69; refine (C.out _).mono ?_; rintro e w1 ⟨rfl, rfl⟩)
      | (go_at_call 70; refine (C2.out _).mono ?_; rintro e w1 ⟨rfl, _, g⟩))
    go_ret
    exact ⟨rfl, kbq k0 g⟩

theorem Blk.eight {w : World} {b : Nat} {s : Sl} {t : TypeId} (h : Blk w b s.cs t) : w.cell? ⟨b, 0, none⟩ = some (.string s.key) ∧ w.cell? ⟨b, 1, none⟩ = some (.string s.r.p) ∧ w.cell? ⟨b, 2, none⟩ = some (.int .u64 s.r.e) ∧ w.cell? ⟨b, 3, none⟩ = some (.int .u64 s.r.b) ∧ w.cell? ⟨b, 4, none⟩ = some (.int .u8 s.r.k) ∧ w.cell? ⟨b, 5, none⟩ = some (.int .u8 s.k) ∧ w.cell? ⟨b, 6, none⟩ = some (.int .u64 s.a) ∧ w.cell? ⟨b, 7, none⟩ = some (.int .u64 s.b) :=
  ⟨h.cell 0, h.cell 1, h.cell 2, h.cell 3, h.cell 4, h.cell 5, h.cell 6, h.cell 7⟩
set_option maxHeartbeats 1000000 in
theorem own_any (s : Sl) (w : World) (hk : s.key.size ≤ 281474976710656) (hp : s.r.p.size ≤ 281474976710656) :
    Calls Tryz.prog 40 #[s.v] w fun e w' => e = .returned s.v ∧ Below w.heap.size w w' := by
  have C1 := Lib.hid (fun W => clone_any s.key W hk)
  have C2 := Lib.hid (fun W => clone_any s.r.p W hp)
  go_enter Tryz.func40, Tryz.ntmps40
  go_wp2_with (go_at_call 52; refine (C1.out _).mono ?_; rintro e w1 ⟨rfl, g1⟩; refine stopHere ?_)
  unfold Stop
  have b0 := Lib.hid ((((Blk.new w s.cs Tas).alloc _).below g1))
  have r0 := Lib.hid ((Blk.new (w.alloc (.cells s.cs Tas)) #[.string ⟨#[]⟩, .string ⟨#[]⟩, .int .u64 0, .int .u64 0, .int .u8 0, .int .u8 0, .int .u64 0, .int .u64 0] Tas).below g1)
  have h1 := g1.size
  have hs0 : ((w.alloc (.cells s.cs Tas)).alloc (.cells #[.string ⟨#[]⟩, .string ⟨#[]⟩, .int .u64 0, .int .u64 0, .int .u8 0, .int .u8 0, .int .u64 0, .int .u64 0] Tas)).heap.size = w.heap.size + 2 := by simp
  rw [hs0] at h1
  have k1 := Lib.hid (kbq (((Below.refl _ w).alloc (Nat.le_refl _) (.cells s.cs Tas)).alloc (by simp) (.cells #[.string ⟨#[]⟩, .string ⟨#[]⟩, .int .u64 0, .int .u64 0, .int .u8 0, .int .u8 0, .int .u64 0, .int .u64 0] Tas)) g1)
  rw [show (w.alloc (.cells s.cs Tas)).heap.size = w.heap.size + 1 by simp] at r0
  obtain ⟨x0, x1, x2, x3, x4, x5, x6, x7⟩ := b0.out.eight
  have f0 := b0.out.fz 0
  clear g1 C1
  go_wp2_with (go_at_call 52; refine (C2.out _).mono ?_; rintro e w2 ⟨rfl, g2⟩; refine stopHere ?_)
  unfold Stop
  have b2 := Lib.hid ((b0.out.set 0 (.string s.key)).below g2)
  have r2 := Lib.hid ((r0.out.other 0 (.string s.key) (show w.heap.size + 1 ≠ w.heap.size by omega)).below g2)
  have k2 := Lib.hid (kbq (k1.out.setCell (p := ⟨w.heap.size, 0, none⟩) (Nat.le_refl _) (.string s.key)) g2)
  clear x0 x1 x2 x3 x4 x5 x6 x7 f0 g2 b0 r0 k1
  obtain ⟨x0, x1, x2, x3, x4, x5, x6, x7⟩ := (show Blk w2 w.heap.size s.cs Tas from b2.out).eight
  have f1 := b2.out.fz 1
  have y0 := r2.out.cell 0
  have y1 := r2.out.cell 1
  have y2 := r2.out.cell 2
  have y3 := r2.out.cell 3
  have y4 := r2.out.cell 4
  have y5 := r2.out.cell 5
  have y6 := r2.out.cell 6
  have y7 := r2.out.cell 7
  have e0 := r2.out.fz 0
  have e1 := r2.out.fz 1
  have e2 := r2.out.fz 2
  have e3 := r2.out.fz 3
  have e4 := r2.out.fz 4
  have e5 := r2.out.fz 5
  have e6 := r2.out.fz 6
  have e7 := r2.out.fz 7
  simp at y0 y1 y2 y3 y4 y5 y6 y7
  go_wp2
  have z := ((((((((r2.out.other (c := w.heap.size) 1 (.string s.r.p) (by omega)).set 0 (.string s.key)).set 1 (.string s.r.p)).set 2 (.int .u64 s.r.e)).set 3 (.int .u64 s.r.b)).set 4 (.int .u8 s.r.k)).set 5 (.int .u8 s.k)).set 6 (.int .u64 s.a)).set 7 (.int .u64 s.b)
  have kZ := ((((((((k2.out.setCell (p := ⟨w.heap.size, 1, none⟩) (Nat.le_refl _) (.string s.r.p)).setCell (p := ⟨w.heap.size + 1, 0, none⟩) (Nat.le_succ _) (.string s.key)).setCell (p := ⟨w.heap.size + 1, 1, none⟩) (Nat.le_succ _) (.string s.r.p)).setCell (p := ⟨w.heap.size + 1, 2, none⟩) (Nat.le_succ _) (.int .u64 s.r.e)).setCell (p := ⟨w.heap.size + 1, 3, none⟩) (Nat.le_succ _) (.int .u64 s.r.b)).setCell (p := ⟨w.heap.size + 1, 4, none⟩) (Nat.le_succ _) (.int .u8 s.r.k)).setCell (p := ⟨w.heap.size + 1, 5, none⟩) (Nat.le_succ _) (.int .u8 s.k)).setCell (p := ⟨w.heap.size + 1, 6, none⟩) (Nat.le_succ _) (.int .u64 s.a)).setCell (p := ⟨w.heap.size + 1, 7, none⟩) (Nat.le_succ _) (.int .u64 s.b)
  obtain ⟨q0, q1, q2, q3, q4, q5, q6, q7⟩ := (show Blk _ (w.heap.size + 1) s.cs Tas from z).eight
  generalize ((((((((w2.setCell ⟨w.heap.size, 1, none⟩ (.string s.r.p)).setCell ⟨w.heap.size + 1, 0, none⟩ (.string s.key)).setCell ⟨w.heap.size + 1, 1, none⟩ (.string s.r.p)).setCell ⟨w.heap.size + 1, 2, none⟩ (.int .u64 s.r.e)).setCell ⟨w.heap.size + 1, 3, none⟩ (.int .u64 s.r.b)).setCell ⟨w.heap.size + 1, 4, none⟩ (.int .u8 s.r.k)).setCell ⟨w.heap.size + 1, 5, none⟩ (.int .u8 s.k)).setCell ⟨w.heap.size + 1, 6, none⟩ (.int .u64 s.a)).setCell ⟨w.heap.size + 1, 7, none⟩ (.int .u64 s.b) = W at *
  refine bodyPost_ret (v := s.v) ?_ rfl ⟨rfl, kZ⟩
  simp [results, Tryz.results40, go_sem, q0, q1, q2, q3, q4, q5, q6, q7]
end Go.Proofs.YtkfncanfgpmgaaaGreat.Wd
