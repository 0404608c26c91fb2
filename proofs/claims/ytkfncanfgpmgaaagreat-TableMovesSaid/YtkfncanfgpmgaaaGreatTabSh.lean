/- How one goes over to another kernel; no conditions but those that each names. -/
import Derived.Test.YtkfncanfgpmgaaaGreatTabSg
import Derived.Test.YtkfncanfgpmgaaaGreatTabGm
import Derived.Deep.CutRange
namespace Go.Proofs.YtkfncanfgpmgaaaGreat.Wd
open Go Go.RowKit Go.Deep Go.Shelf
set_option linter.unusedVariables false
set_option maxRecDepth 100000
set_option maxHeartbeats 4000000 in
theorem over_any (T M : Nat) (B : Nat → Prop) (m c k2 : Int) (S : List Sl) (s : Sl) (w : World) (h : Tbm w T M B m c S) (hs : Oks s) (hk : rtB (lb s.key) = true) (hr : ruE s.r.p s.r.e s.r.b s.r.k = 0) (h3 : Is3 s.k) (h2 : Is3 k2) (hl : ((offS s.key S).length : Int) < m) :
    Calls Tryz.prog 46 #[ptr T, s.v, .int .u8 k2] w fun e w' => e = .returned (.tuple #[]) ∧ Tch B w w' ∧ Tbm w' T M (Nx B w) m c (putS c (mvS c k2 s) S) := by
  have hc := h.wf.cu
  obtain ⟨_, cT, _, _⟩ := h.tbl.cells
  have HP := Lib.hid (fun W (g : Tbm W T M B m c S) => put_tbm T M _ m c S (mvS c k2 s) W g (mvS_oks hs hc h3 h2).1 hk hr (by rw [(mvS_oks hs hc h3 h2).2]; exact h2) hl)
  have HM := Lib.hid (fun W => kmigrate_any s.k s.a s.b k2 c (capS s) W hs.a hs.b hc (capS_U hs))
  have CC := Lib.hid (fun W => cap_any s.r.p s.r.e s.r.b s.r.k W (by have := hs.r.p; omega) hs.r.e hs.r.b)
  have b0 := Blk.new w s.cs 48
  have HB := Lib.hid ((Below.refl _ w).alloc (Nat.le_refl _) (.cells s.cs 48))
  have cW := acell (o := .cells s.cs 48) cT
  have HT := Lib.hid h
  clear h hl
  go_enter Tryz.func46, Tryz.ntmps46
  go_wp2_with fail
  generalize w.alloc _ = W at *
  obtain ⟨x0, x1, x2, x3, x4, x5, x6, x7⟩ := b0.eight
  have b1 := Lib.hid (b0.dr)
  have g0 := HB.out.size
  go_upto_region 1 with fail
  go_cut [20] from 6 to 20 (fun _ wx => Hid (Blk wx w.heap.size (mvS c k2 s).cs 48 ∧ Below w.heap.size w wx))
  case first =>
    have k0 := Lib.hid HB.out.drew
    go_region_with (first
      | (go_at_call 51; ((with_reducible refine (CC.out _).mono ?_); rintro e w1 ⟨rfl, g1⟩; have b2 := Lib.hid (b1.out.below g1.2); have k1 := Lib.hid (kbq k0.out g1.2); replace cW := celln g1.2 (dcell cW); obtain ⟨x0, x1, x2, x3, x4, x5, x6, x7⟩ := b2.out.eight))
      | (go_at_call 80; ((with_reducible refine (HM.out _).mono ?_); rintro e w2 ⟨rfl, g2⟩; have b3 := Lib.hid (b2.out.below g2.2); have kk2 := Lib.hid (kbq k1.out g2.2); obtain ⟨x0, x1, x2, x3, x4, x5, x6, x7⟩ := b3.out.eight; have f5 := b3.out.fz 5; have f6 := b3.out.fz 6; have f7 := b3.out.fz 7)))
    all_goals
      go_wp2
      go_meet
      case rel => exact Lib.hid ⟨((b3.out.set 5 (.int .u8 (kmK s.k k2))).set 6 (.int .u64 (kmA s.k s.a s.b k2 c (capS s)))).set 7 (.int .u64 (kmB s.k k2 c)), ((kk2.out.setCell (p := ⟨w.heap.size, 5, none⟩) (Nat.le_refl _) (.int .u8 (kmK s.k k2))).setCell (p := ⟨w.heap.size, 6, none⟩) (Nat.le_refl _) (.int .u64 (kmA s.k s.a s.b k2 c (capS s)))).setCell (p := ⟨w.heap.size, 7, none⟩) (Nat.le_refl _) (.int .u64 (kmB s.k k2 c))⟩
  case rest =>
  have b4 := hcut.out.1
  have k4 := hcut.out.2
  clear x0 x1 x2 x3 x4 x5 x6 x7 b1 cW HM CC
  have HU := Lib.hid (HP.out wc (HT.out.below k4))
  have hs4 := k4.size
  have K4 := Lib.hid k4
  generalize hmv : mvS c k2 s = y at *
  obtain ⟨x0, x1, x2, x3, x4, x5, x6, x7⟩ := Blk.eight (s := y) b4
  clear hcut b4 k4 HP HT HB g0 b0
  go_wp2_with (go_at_call 61; refine HU.out.mono ?_; rintro e w' ⟨rfl, g, ht⟩)
  go_end0
  refine ⟨rfl, (Tch.of K4.out).trans g, ?_⟩
  rw [hmv]
  exact ht.mono (C := Nx B w) (fun k hk => hk.elim (fun x => .inl x) (fun x => .inr (Nat.le_trans hs4 x)))
end Go.Proofs.YtkfncanfgpmgaaaGreat.Wd
