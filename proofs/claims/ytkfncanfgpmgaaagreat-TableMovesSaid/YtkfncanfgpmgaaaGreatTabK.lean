/- A table in memory: what a tick does; no conditions but those that each names. -/
import Derived.Test.YtkfncanfgpmgaaaGreatTabO
namespace Go.Proofs.YtkfncanfgpmgaaaGreat.Wd
open Go Go.RowKit Go.Shelf Go.Deep
set_option linter.unusedVariables false
set_option maxRecDepth 100000

theorem act_all {m c : Int} {S : List Sl} (h : Wf m c S) : S.filter (actB c) = S := List.filter_eq_self.2 (fun s hs => by simpa [actB] using (h.ok s hs).pos)
theorem tick_any (T : Nat) (B : Nat → Prop) (m c x : Int) (S : List Sl) (w : World) (h : Tbl w T B m c S) (hx : U x) :
    Calls Tryz.prog 20 #[ptr T, .int .u64 x] w fun e w' => e = .returned (.int .u64 (max c x)) ∧ Tch B w w' ∧ Tbl w' T (Nx B w) m (max c x) (S.filter (actB (max c x))) := by
  obtain ⟨c0, c1, cf, ct⟩ := h.cells
  by_cases hxc : c < x
  · have hq : decide (c < x) = true := decide_eq_true hxc
    rw [show max c x = x by omega]
    obtain ⟨L, h1, h2, h3, h4⟩ := h
    obtain ⟨k1, k2⟩ := h1.clock x
    have C := Lib.hid (sweep_any T B m x L _ k1 (fun y hy => (h4.ok _ (h2.mem_iff.1 (List.mem_map.2 ⟨y, hy, rfl⟩))).oks) hx)
    have HK := Lib.hid k2
    have H := Lib.hid (show (L.map Prod.fst).Perm S ∧ (∀ y ∈ L, DueOk c y) ∧ Wf m c S ∧ c ≤ x from ⟨h2, h3, h4, by omega⟩)
    have hsz : (w.setCell ⟨T, 1, none⟩ (.int .u64 x)).heap.size = w.heap.size := by simp
    clear h1 h2 h3 h4 k1 k2 hxc
    go_enter Tryz.func20, Tryz.ntmps20
    go_wp2_with (go_at_call 44; refine C.out.mono ?_; rintro e w1 ⟨rfl, g1, Lr, Rd, L', p1, p2, p3, p4, p5⟩; have u1 := p4.cells.2.1; have HP := Lib.hid (And.intro g1 (And.intro p1 (And.intro p2 (And.intro p3 (And.intro p4 p5))))); clear g1 p1 p2 p3 p4 p5 c1 c0)
    go_ret
    obtain ⟨g1, p1, p2, p3, p4, p5⟩ := HP.out
    obtain ⟨q1, q2, q3⟩ := swept H.out.1 H.out.2.1 H.out.2.2.1 H.out.2.2.2 hx p1 p2 p3 p5
    refine ⟨rfl, HK.out.trans g1, L', p4.mono (fun k hk => ?_), q1, q2, q3⟩
    rcases hk with hk | hk
    · exact .inl hk
    · exact .inr (by rw [hsz] at hk; exact hk)
  · have hq : decide (c < x) = false := decide_eq_false hxc
    have hm : max c x = c := by omega
    rw [hm, act_all h.wf]
    have H := Lib.hid h
    clear h hxc hm
    go_enter Tryz.func20, Tryz.ntmps20
    go_wp2
    go_ret
    exact ⟨rfl, Tch.refl _ _, H.out.mono (fun k hk => .inl hk)⟩
theorem tick_none (x : Int) (w : World) : Calls Tryz.prog 20 #[.pointer none, .int .u64 x] w fun e w' => e = .returned (.int .u64 0) ∧ w = w' := by
  go_enter Tryz.func20, Tryz.ntmps20
  go_wp2
  go_ret
  exact ⟨rfl, rfl⟩
end Go.Proofs.YtkfncanfgpmgaaaGreat.Wd
