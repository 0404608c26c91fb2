/- What past's Fill answers, for any row of events; no conditions but those that each names. -/
import Derived.Test.YtinlppadebdjgaaPasS
namespace Go.Proofs.Ytinlppadebdjgaa.Wd
open Go Go.RowKit Go.Shelf
set_option linter.unusedVariables false
attribute [local go_sem] Oper.semAt_some

theorem mixed : Try.prog.follows .mixedOrders = true := by kernel_rfl

set_option maxRecDepth 100000 in
set_option maxHeartbeats 2000000 in
theorem pfill_in (n : Nat) (hn : 6 ≤ n) (a : Option Addr) (cap : Nat) (es : List (Int × Int)) (now : Int) (w : World) (hU : EU es) (hnow : U now) (hlen : es.length ≤ 4611686018427387904) (hE : EvsIn w.heap.size w a es) :
    CallsIn Fence.wide n Try.prog 15 #[.slice a es.length cap, .int .u64 now] w fun e w' => e = .returned (.int .u64 (flL es now)) ∧ Below w.heap.size w w' := by
  have h1 : 1 ≤ n := by omega
  refine callsIn_of_wp_marks Try.func15 rfl trivial ?_ rfl
  simp only [Try.ntmps15, List.size_toArray, List.length_cons, List.length_nil, Nat.reduceAdd, Nat.reduceSub, Array.replicate_succ, Array.replicate_zero, List.push_toArray, List.append_toArray, List.nil_append, List.cons_append]
  gi_wp2_with (refine ⟨trivial, ?_⟩; gi_at_call 29; refine (suffixes_in Fence.wide (n - 1) trivial rfl _ _ _ _).mono ?_; rintro e w' ⟨rfl, rfl⟩)
  have bN := ((Boxed.new w 23 (.int .u64 now)).alloc (.cells #[.int .u64 0] 23)).alloc (.cells #[.slice a es.length cap] 22)
  have bF := (Boxed.new (w.alloc (.cells #[.int .u64 now] 23)) 23 (.int .u64 0)).alloc (.cells #[.slice a es.length cap] 22)
  have bL := Boxed.new ((w.alloc (.cells #[.int .u64 now] 23)).alloc (.cells #[.int .u64 0] 23)) 22 (.slice a es.length cap)
  simp only [World.size_alloc] at bF bL
  have hB0 : Below w.heap.size w (((w.alloc (.cells #[.int .u64 now] 23)).alloc (.cells #[.int .u64 0] 23)).alloc (.cells #[.slice a es.length cap] 22)) := (((Below.refl _ w).alloc (Nat.le_refl _) _).alloc (by simp) _).alloc (by simp; omega) _
  have hsz : (((w.alloc (.cells #[.int .u64 now] 23)).alloc (.cells #[.int .u64 0] 23)).alloc (.cells #[.slice a es.length cap] 22)).heap.size = w.heap.size + 3 := by simp
  obtain ⟨W0, hW0⟩ : ∃ W0, ((w.alloc (.cells #[.int .u64 now] 23)).alloc (.cells #[.int .u64 0] 23)).alloc (.cells #[.slice a es.length cap] 22) = W0 := ⟨_, rfl⟩
  rw [hW0] at bN bF bL hB0 hsz ⊢
  clear hW0
  have EW0 := hE.below hB0
  refine wpIn_range2 rfl h1 (gf := 33) (lb := #[.pointer (some ⟨w.heap.size + 1 + 1, 0, none⟩)]) rfl trivial (enters_of Try.func33 (by kernel_rfl) rfl)
    (suff1_gives (n - 1) (by omega) (w.heap.size + 1 + 1) w.heap.size cap a es hU hlen W0 bL (by omega) EW0) (by omega) (by omega) (Below.refl _ _) (fun _ => rfl)
    (fun k Wx => (Boxed Wx w.heap.size 23 (.int .u64 now) ∧ Boxed Wx (w.heap.size + 1) 23 (.int .u64 (flL (es.drop (es.length - k)) now))) ∧ Below w.heap.size w Wx)
    (Abl.and (Abl.and (abl_box _ _ _ (fun _ => Value.int .u64 now) (by omega)) (abl_box _ _ _ (fun k => Value.int .u64 (flL (es.drop (es.length - k)) now)) (by omega))) (abl_below w (by omega)))
    ⟨⟨bN, by rw [Nat.sub_zero, fl_end]; exact bF⟩, hB0⟩
    (fun x a' Wx => ∃ Bx, W0.heap.size ≤ Bx ∧ Box2 Wx Bx 29 (.int .u64 x.1.1) (.int .u64 x.1.2) ∧ a' = { tmps := #[.slice a es.length cap, .int .u64 now, undef, .pointer (some ⟨w.heap.size, 0, none⟩), .int .u64 0, .pointer (some ⟨w.heap.size + 1, 0, none⟩), .pointer (some ⟨Bx, 0, none⟩), .int .u64 x.2, .slice a es.length cap, .func (.func 33) #[] #[.pointer (some ⟨w.heap.size + 1 + 1, 0, none⟩)], evt x.1, .int .u64 x.2, undef, undef, undef, undef, undef, undef, undef, undef, undef], defers := [] })
    (fun x a' _ X Y row hs hg hr => by obtain ⟨Bx, h1, h2, h3⟩ := hs; exact ⟨Bx, h1, box2_own Bx W0.heap.size 29 _ _ () X Y row h2 hg hr, h3⟩)
    ?assign ?body ?done
  case assign =>
    rintro l2 k x Wx K hx ⟨⟨b1, b2⟩, hB⟩ hsW hK
    gi_wp2
    exact hK _ _ ((Mid.refl _ _ _ _).alloc (by omega) (by omega) _) ⟨⟨b1.alloc _, b2.alloc _⟩, hB.alloc (by omega) _⟩ ⟨Wx.heap.size, hsW, Box2.new _ _ _ _, rfl⟩
  case body =>
    rintro l2 k x a' Wx hx ⟨⟨b1, b2⟩, hB⟩ hsW ⟨Bx, hBx, bX, rfl⟩
    have hk : k < es.length := by rw [← sufs_length]; exact (List.getElem?_eq_some_iff.1 hx).1
    rw [sufs_get es k hk] at hx
    obtain ⟨e, s⟩ := x
    simp only [Option.some.injEq, Prod.mk.injEq] at hx
    obtain ⟨he, hs⟩ := hx
    have hj2 : es.length - 1 - k < es.length := by omega
    have he2 : es[es.length - 1 - k]? = some e := by rw [← he]; simp [hj2]
    obtain ⟨ue1, ue2⟩ := hU.get he2
    have us : U s := by rw [← hs]; exact smL_U _ (hU.drop _)
    have hfl := fl_drop now he2
    have hkk : es.length - 1 - k + 1 = es.length - k := by omega
    have hn2 : es.length - (k + 1) = es.length - 1 - k := by omega
    rw [hkk, hs] at hfl
    have uF := flL_U _ now (hU.drop (es.length - k)) hnow
    have HN : flL (es.drop (es.length - (k + 1))) now = max (sbI s (sbI now e.1)) (flL (es.drop (es.length - k)) now) := by rw [hn2]; exact hfl
    obtain ⟨ea, ew⟩ := e
    dsimp only at HN ue1 ue2
    generalize flL (es.drop (es.length - k)) now = f at *
    have uq := sbI_U now ea hnow ue1
    have uz := sbI_U s _ us uq
    have c1 := b1.cell
    have c2 := b2.cell
    have f2 := b2.frozen
    have x0 := bX.c0
    have x1 := bX.c1
    have zX := bX.lt
    have zB := b2.lt
    have zY := b1.lt
    have hm : 1 ≤ n - 1 - 1 := by omega
    have hmix := mixed
    obtain ⟨q, hq⟩ : ∃ q, sbI now ea = q := ⟨_, rfl⟩
    obtain ⟨z, hz⟩ : ∃ z, sbI s q = z := ⟨_, rfl⟩
    obtain ⟨m, hmx⟩ : ∃ m, (if f < z then z else f) = m := ⟨_, rfl⟩
    have S1 (w : World) := num_sub_w (n - 1 - 1 - 1) now ea w hnow ue1
    have S2 (w : World) := num_sub_w (n - 1 - 1 - 1) s q w us (hq ▸ uq)
    rw [hq] at S1
    rw [hz] at S2
    have H1 := Lib.hid S1
    have H2 := Lib.hid S2
    have HM : max z f = m := by rw [← hmx]; split <;> omega
    rw [hq, hz, HM] at HN
    have HH := Lib.hid HN
    clear S1 S2 HN HM hq hz hfl he hs
    have FIN : Mid w.heap.size (w.heap.size + 1 + 1) W0.heap.size Wx (Wx.setCell ⟨w.heap.size + 1, 0, none⟩ (.int .u64 m)).drew ∧ (Boxed (Wx.setCell ⟨w.heap.size + 1, 0, none⟩ (.int .u64 m)).drew w.heap.size 23 (.int .u64 now) ∧ Boxed (Wx.setCell ⟨w.heap.size + 1, 0, none⟩ (.int .u64 m)).drew (w.heap.size + 1) 23 (.int .u64 (flL (es.drop (es.length - (k + 1))) now))) ∧ Below w.heap.size w (Wx.setCell ⟨w.heap.size + 1, 0, none⟩ (.int .u64 m)).drew := by
      rw [HH.out]
      exact ⟨((Mid.refl _ _ _ _).setCell (q := ⟨w.heap.size + 1, 0, none⟩) (by simp) (by simp) (by simp; omega) _).drew, ⟨b1.other (by omega) _, b2.set _⟩, (hB.setCell (p := ⟨w.heap.size + 1, 0, none⟩) (by simp) _).drew⟩
    have FN := Lib.hid FIN
    clear FIN
    gi_wp2
    gi_region_with_o (first
      | (refine ⟨trivial, ?_⟩; gi_at_call 30; ((with_reducible refine (CallsIn.inRound l2 (H1.out _)).mono ?_); rintro e w' ⟨rfl, rfl⟩))
      | (refine ⟨trivial, ?_⟩; gi_at_call 30; ((with_reducible refine (CallsIn.inRound l2 (H2.out _)).mono ?_); rintro e w' ⟨rfl, rfl⟩)))
    all_goals exact FN.out
  case done =>
    rintro D Wx hD ⟨⟨b1, b2⟩, hB⟩ hK
    have c2 := b2.cell
    gi_wp2
    refine ⟨by simp, .inl ⟨_, _, rfl, run_takeDeferred hK, ?_⟩⟩
    rw [sufs_length, Nat.sub_self] 
    exact ⟨_, results_tmp rfl _ _ _, rfl, hB.trans (below_put _ (by omega))⟩

theorem pfill_any (a : Option Addr) (cap : Nat) (es : List (Int × Int)) (now : Int) (w : World) (hU : EU es) (hnow : U now) (hlen : es.length ≤ 4611686018427387904) (hE : EvsIn w.heap.size w a es) :
    Calls Try.prog 15 #[.slice a es.length cap, .int .u64 now] w fun e w' => e = .returned (.int .u64 (flL es now)) ∧ Below w.heap.size w w' := callsIn_wide.1 (pfill_in 6 (Nat.le_refl _) a cap es now w hU hnow hlen hE)
end Go.Proofs.Ytinlppadebdjgaa.Wd
