/- Move; Slots, Active, Clock of a table that is there, or of none; a charge of none; no conditions but those that each names. -/
import Derived.Test.YtkfncanfgpmgaaaGreatTabMv
namespace Go.Proofs.YtkfncanfgpmgaaaGreat.Wd
open Go Go.RowKit Go.Deep Go.Shelf
set_option linter.unusedVariables false
set_option maxRecDepth 100000

/-- Who is there behind a move, and what is told. -/
def mvN (c k2 : Int) (S : List Sl) (k : ByteArray) : List Sl := match getS S k with
  | some s => putS c (mvS c k2 s) S
  | none => S
def mvE (S : List Sl) (k : ByteArray) : Int := if (getS S k).isSome then 0 else 52
theorem move_bad (o : Option Addr) (k : ByteArray) (k2 : Int) (w : World) (h2 : isK k2 = false) :
    Calls Tryz.prog 22 #[.pointer o, .string k, .int .u8 k2] w fun e w' => e = .returned (.int .u16 27) ∧ Below w.heap.size w w' := by
  have CR := Lib.hid (fun V => knright_any k2 V)
  rw [h2] at CR
  go_enter Tryz.func22, Tryz.ntmps22
  go_wp2_with (go_at_call 45; refine (CR.out _).mono ?_; rintro e w1 ⟨rfl, _, g1⟩)
  go_ret
  exact ⟨rfl, g1⟩
set_option maxHeartbeats 1000000 in
theorem move_of (o : Option Addr) (QT B : Nat → Prop) (m c : Int) (S : List Sl) (k : ByteArray) (k2 : Int) (w : World) (h : Ent o w QT B m c S) (hk : k.size ≤ 9223372036854775807) (h2 : Is3 k2) :
    Calls Tryz.prog 22 #[.pointer o, .string k, .int .u8 k2] w fun e w' => e = .returned (.int .u16 (mvE S k)) ∧ Tch B w w' ∧ ∃ T, QT T ∧ Tbl w' T (Nx B w) m c (mvN c k2 S k) := by
  have CR := Lib.hid (fun V => knright_any k2 V)
  rw [h2.isK] at CR
  have CO := Lib.hid h.go
  clear h
  go_enter Tryz.func22, Tryz.ntmps22
  go_wp2_with (first
    | (go_at_call 45; refine (CR.out _).mono ?_; rintro e w1 ⟨rfl, _, g1⟩)
    | (go_at_call 39; refine (CO.out _ g1).mono ?_; rintro e w2 ⟨T, rfl, g2, hQ, hT⟩; refine stopHere ?_))
  unfold Stop
  have k2' := Lib.hid (kbq g1 g2)
  have hs2 := k2'.out.size
  obtain ⟨M, hM⟩ := hT.tbm
  obtain ⟨M', Ml, c2, hLen, hL⟩ := hT.look k hk
  clear g1 g2 CR CO
  rcases hL with ⟨e0, hl⟩ | ⟨s, b, d, i, e0, hl, hb⟩
  · have hl0 := hl w2 rfl
    have HE := Lib.hid (show mvE S k = 52 ∧ mvN c k2 S k = S by unfold mvE mvN; rw [e0]; exact ⟨rfl, rfl⟩)
    have HT := Lib.hid hT
    clear hl hM hT e0 hLen
    go_wp2
    go_ret
    refine ⟨congrArg (fun x => Ending.returned (.int .u16 x)) HE.out.1.symm, Tch.of k2'.out, T, hQ, ?_⟩
    rw [HE.out.2]; exact HT.out.mono (fun k hk => .inl hk)
  · have hl0 := hl w2 rfl
    have HE := Lib.hid (show mvE S k = 0 ∧ mvN c k2 S k = putS c (mvS c k2 s) S by unfold mvE mvN; rw [e0]; exact ⟨rfl, rfl⟩)
    obtain ⟨hs, rfl⟩ := getS_some e0
    have ho := hT.wf.ok s hs
    have hlt : ((offS s.key S).length : Int) < m := by have := offS_lt hs (rfl : s.key = s.key); have := hT.wf.len; omega
    have C := Lib.hid (over_any T _ B m c k2 S s w2 hM ho.oks ho.key ho.rule ho.kind h2 hlt)
    obtain ⟨x0, x1, x2, x3, x4, x5, x6, x7⟩ := kcs_cells hb
    clear hl hM hT e0 hLen hb
    go_wp2_with (go_at_call 46; (with_reducible refine C.out.mono ?_); rintro e w3 ⟨rfl, g3, h3⟩)
    go_ret
    refine ⟨congrArg (fun x => Ending.returned (.int .u16 x)) HE.out.1.symm, (Tch.of k2'.out).trans g3, T, hQ, ?_⟩
    rw [HE.out.2]; exact h3.tbl.mono (fun k hk => hk.elim .inl (fun x => .inr (Nat.le_trans hs2 x)))
theorem slots_of (o : Option Addr) (QT B : Nat → Prop) (m c : Int) (S : List Sl) (w : World) (h : Ent o w QT B m c S) (hsort : SortC S.length) :
    Calls Tryz.prog 16 #[.pointer o] w fun e w' => ∃ v xs, e = .returned v ∧ OwS w' w.heap.size v xs ∧ Told S xs ∧ Below w.heap.size w w' := by
  have CO := Lib.hid (h.go w (Below.refl _ _))
  have HS := Lib.hid hsort
  clear h hsort
  go_enter Tryz.func16, Tryz.ntmps16
  go_wp2_with (go_at_call 39; refine CO.out.mono ?_; rintro e w1 ⟨T, rfl, g1, hQ, hT⟩; refine stopHere ?_)
  unfold Stop
  obtain ⟨M, hM⟩ := hT.tbm
  have C := callsIn_wide.1 (sall_in 8 (by omega) T M B m c S w1 hM HS.out)
  have hw := hT.wf.ap
  clear hM hT CO HS
  go_wp2_with (go_at_call 38; refine C.mono ?_; rintro e w2 ⟨v, xs, rfl, h1, h2, h3, h4⟩)
  go_ret
  exact ⟨_, _, rfl, own_base g1.size h1, told_of hw h2 h3, kbq g1 h4⟩
theorem active_of (o : Option Addr) (QT B : Nat → Prop) (m c : Int) (S : List Sl) (w : World) (h : Ent o w QT B m c S) :
    Calls Tryz.prog 17 #[.pointer o] w fun e w' => e = .returned (.int .i64 S.length) ∧ Below w.heap.size w w' := by
  have CO := Lib.hid (h.go w (Below.refl _ _))
  clear h
  go_enter Tryz.func17, Tryz.ntmps17
  go_wp2_with (go_at_call 39; refine CO.out.mono ?_; rintro e w1 ⟨T, rfl, g1, hQ, hT⟩; refine stopHere ?_)
  unfold Stop
  obtain ⟨M, hM, c2, hl, _⟩ := hT.look ⟨#[]⟩ (by decide)
  have hl := hl w1 rfl
  clear hT CO
  go_wp2
  go_ret
  exact ⟨rfl, g1⟩
theorem clock_of (o : Option Addr) (QT B : Nat → Prop) (m c : Int) (S : List Sl) (w : World) (h : Ent o w QT B m c S) :
    Calls Tryz.prog 21 #[.pointer o] w fun e w' => e = .returned (.int .u64 c) ∧ Below w.heap.size w w' := by
  have CO := Lib.hid (h.go w (Below.refl _ _))
  clear h
  go_enter Tryz.func21, Tryz.ntmps21
  go_wp2_with (go_at_call 39; refine CO.out.mono ?_; rintro e w1 ⟨T, rfl, g1, hQ, hT⟩; refine stopHere ?_)
  unfold Stop
  have c1 := hT.cells.2.1
  clear hT CO
  go_wp2
  go_ret
  exact ⟨rfl, g1⟩
theorem mvall_of (o : Option Addr) (QT B : Nat → Prop) (m c k2 : Int) (S : List Sl) (w : World) (h : Ent o w QT B m c S) (h2 : Is3 k2) (hfl : ∀ s ∈ S, flS c (mvS c k2 s) ≠ 0) (hsort : SortC S.length) :
    Calls Tryz.prog 23 #[.pointer o, .int .u8 k2] w fun e w' => e = .returned (.tuple #[.int .i64 (S.length : Int), .int .u16 0]) ∧ Tch B w w' ∧ ∃ T, QT T ∧ Tbl w' T (Nx B w) m c (S.map (mvS c k2)) :=
  (callsIn_wide.1 (mvall_in 8 (by omega) o QT B m c k2 S w h h2 hfl hsort)).mono (fun _ _ ⟨T, a, b, c, d⟩ => ⟨b, c, T, a, d⟩)
theorem mvall_bad (o : Option Addr) (k2 : Int) (w : World) (h2 : isK k2 = false) :
    Calls Tryz.prog 23 #[.pointer o, .int .u8 k2] w fun e w' => e = .returned (.tuple #[.int .i64 0, .int .u16 27]) ∧ Below w.heap.size w w' := by
  have CR := Lib.hid (fun V => knright_any k2 V)
  rw [h2] at CR
  have k0 := ((Below.refl _ w).alloc (Nat.le_refl _) (.cells #[.pointer o] Ttp)).alloc (by simp) (.cells #[.int .u8 k2] Tu8)
  go_enter Tryz.func23, Tryz.ntmps23
  go_wp2_with (go_at_call 45; refine (CR.out _).mono ?_; rintro e w1 ⟨rfl, _, g1⟩)
  go_ret2
  exact ⟨rfl, kbq k0 g1⟩
end Go.Proofs.YtkfncanfgpmgaaaGreat.Wd
