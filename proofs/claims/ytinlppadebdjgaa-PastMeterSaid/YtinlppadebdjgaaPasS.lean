/- What past's suffixes go through, for any row of events; no conditions but those that each names. -/
import Derived.Test.YtinlppadebdjgaaPasB
import Derived.Test.YtinlppadebdjgaaPasM
namespace Go.Proofs.Ytinlppadebdjgaa.Wd
open Go Go.RowKit Go.Shelf
set_option linter.unusedVariables false
attribute [local go_sem] Oper.semAt_some

/-- A block of two cells. -/
def Box2 (W : World) (B : Nat) (t : TypeId) (u v : Value) : Prop := W.heap[B]? = some (.cells #[u, v] t (0, 0))
theorem Box2.lt {W : World} {B : Nat} {t : TypeId} {u v : Value} (h : Box2 W B t u v) : B < W.heap.size := (Array.getElem?_eq_some_iff.1 h).1
theorem Box2.c0 {W : World} {B : Nat} {t : TypeId} {u v : Value} (h : Box2 W B t u v) : W.cell? ⟨B, 0, none⟩ = some u := by simp [World.cell?, show W.heap[B]? = _ from h]
theorem Box2.c1 {W : World} {B : Nat} {t : TypeId} {u v : Value} (h : Box2 W B t u v) : W.cell? ⟨B, 1, none⟩ = some v := by simp [World.cell?, show W.heap[B]? = _ from h]
theorem Box2.new (W : World) (t : TypeId) (u v : Value) : Box2 (W.alloc (.cells #[u, v] t)) W.heap.size t u v := World.alloc_heap_new W _
theorem box2_own (B C : Nat) (t : TypeId) (u v : Value) : OwnFrom C (fun (_ : Unit) W => Box2 W B t u v) := fun s X Y row hs hg hr => by
  refine (hg.block B hs.lt (fun e => ?_)).trans hs
  obtain ⟨_, o, ho, hc⟩ := hr B e.symm
  rw [show X.heap[B]? = _ from hs] at ho; cases ho; cases hc

theorem suffixes_in (F : Fence) (n : Nat) (h : F.fn 29) (hro : F.round = none) (a : Option Addr) (len cap : Nat) (w : World) :
    CallsIn F n Try.prog 29 #[.slice a len cap] w fun e w' => e = .returned (.func (.func 33) #[] #[.pointer (some ⟨w.heap.size, 0, none⟩)]) ∧ w' = w.alloc (.cells #[.slice a len cap] 22) := by
  refine callsIn_of_wp Try.func29 rfl h ?_ hro
  simp only [Try.ntmps29, List.size_toArray, List.length_cons, List.length_nil, Nat.reduceAdd, Nat.reduceSub, Array.replicate_succ, Array.replicate_zero, List.push_toArray, List.append_toArray, List.nil_append, List.cons_append]
  gi_wp2
  go_ret
  exact ⟨rfl, rfl⟩

theorem num_add_w (m g c : Nat) (a b : Int) (w : World) (ha : U a) (hb : U b) (c0 : w.cell? ⟨g, 0, none⟩ = some (.int .u64 a)) (c1 : w.cell? ⟨g, 1, none⟩ = some (.int .u64 b)) :
    CallsIn Fence.wide m Try.prog 35 #[.slice (some ⟨g, 0, none⟩) 2 c] w fun e w' => e = .returned (.int .u64 (sat (a + b))) ∧ w = w' := callsIn_wide.2 (num_add_two g c a b w ha hb c0 c1)
theorem num_sub_w (m : Nat) (a b : Int) (w : World) (ha : U a) (hb : U b) :
    CallsIn Fence.wide m Try.prog 30 #[.int .u64 a, .int .u64 b] w fun e w' => e = .returned (.int .u64 (sbI a b)) ∧ w = w' := callsIn_wide.2 (num_sub a b w ha hb)

theorem round_wide {m m' l2 l : Nat} {P : Program} {f : FuncId} {tmps : Array Value} {assign body : Code} {w : World} {R : Ending → World → Prop} (h : RoundIn Fence.wide m P l f tmps assign body w R) : RoundIn (Fence.wide.inRound l2) m' P l f tmps assign body w R :=
  ⟨h.1, fun c cs _ => h.2 c cs (room_wide _)⟩

set_option maxRecDepth 100000 in
set_option maxHeartbeats 2000000 in
theorem suff1_gives (n : Nat) (hn : 4 ≤ n) (Bs n₀ cap : Nat) (a : Option Addr) (es : List (Int × Int)) (hU : EU es) (hlen : es.length ≤ 4611686018427387904) (w : World) (hBs : Boxed w Bs 22 (.slice a es.length cap)) (hn₀ : n₀ ≤ w.heap.size) (hE : EvsIn n₀ w a es) :
    Gives2 Fence.wide n Try.prog 33 #[.pointer (some ⟨Bs, 0, none⟩)] (fun x : (Int × Int) × Int => #[evt x.1, .int .u64 x.2]) n₀ Bs (sufs es) w := by
  intro l J W hW hJ hY h0
  have hb : Bs < w.heap.size := block_of_cell hBs.cell
  have bW : Boxed W Bs 22 (.slice a es.length cap) := (hW.block Bs hb).trans hBs
  have EW := hE.below (hW.mono hn₀)
  have hbW := bW.lt
  have hnW : n₀ ≤ W.heap.size := Nat.le_trans hn₀ hW.size
  clear hE hBs hW hb hn₀
  rw [sufs_length]
  have c0 := bW.cell
  have h1 : 1 ≤ n := by omega
  refine callsIn_of_wp_marks Try.func33 rfl trivial ?_ rfl
  simp only [Try.ntmps33, List.size_toArray, List.length_cons, List.length_nil, Nat.reduceAdd, Nat.reduceSub, Array.replicate_succ, Array.replicate_zero, List.push_toArray, List.append_toArray, List.nil_append, List.cons_append]
  gi_wp2_with (refine ⟨trivial, ?_⟩; gi_at_call 34; refine (back_in Fence.wide (n - 1) trivial rfl _ _ _ _).mono ?_; rintro e w' ⟨rfl, rfl⟩)
  have bY := ((Boxed.new W 61 (.func (.yield l) #[] #[])).alloc (.cells #[.int .u64 0] 23)).alloc (.cells #[.slice a es.length cap] 22)
  have bS := (Boxed.new (W.alloc (.cells #[.func (.yield l) #[] #[]] 61)) 23 (.int .u64 0)).alloc (.cells #[.slice a es.length cap] 22)
  have bL := Boxed.new ((W.alloc (.cells #[.func (.yield l) #[] #[]] 61)).alloc (.cells #[.int .u64 0] 23)) 22 (.slice a es.length cap)
  simp only [World.size_alloc] at bS bL
  have hB0 : Below W.heap.size W (((W.alloc (.cells #[.func (.yield l) #[] #[]] 61)).alloc (.cells #[.int .u64 0] 23)).alloc (.cells #[.slice a es.length cap] 22)) := (((Below.refl _ W).alloc (Nat.le_refl _) _).alloc (by simp) _).alloc (by simp; omega) _
  have hsz : (((W.alloc (.cells #[.func (.yield l) #[] #[]] 61)).alloc (.cells #[.int .u64 0] 23)).alloc (.cells #[.slice a es.length cap] 22)).heap.size = W.heap.size + 3 := by simp
  obtain ⟨W0, hW0⟩ : ∃ W0, ((W.alloc (.cells #[.func (.yield l) #[] #[]] 61)).alloc (.cells #[.int .u64 0] 23)).alloc (.cells #[.slice a es.length cap] 22) = W0 := ⟨_, rfl⟩
  rw [hW0] at bY bS bL hB0 hsz ⊢
  clear hW0
  have EW0 := EW.below (hB0.mono hnW)
  refine wpIn_range2 rfl h1 (gf := 36) (lb := #[.pointer (some ⟨W.heap.size + 1 + 1, 0, none⟩)]) rfl trivial (enters_of Try.func36 (by kernel_rfl) rfl)
    (back1_gives Fence.wide (n - 1) trivial rfl (by omega) (W.heap.size + 1 + 1) n₀ cap a es hlen W0 bL (by omega) EW0) (by omega) (by omega) (Below.refl _ _) (fun _ => rfl)
    (fun k Wx => (J k Wx ∧ Boxed Wx W.heap.size 61 (.func (.yield l) #[] #[])) ∧ Boxed Wx (W.heap.size + 1) 23 (.int .u64 (smL (es.drop (es.length - k)))))
    (Abl.and (Abl.and (hJ.mono (by omega)) (abl_box _ _ _ (fun _ => Value.func (.yield l) #[] #[]) (by omega))) (abl_box _ _ _ (fun k => Value.int .u64 (smL (es.drop (es.length - k)))) (by omega)))
    ⟨⟨hJ _ _ _ h0 hB0, bY⟩, by rw [Nat.sub_zero, sm_end]; exact bS⟩
    (fun x a' Wx => ∃ Bx, W0.heap.size ≤ Bx ∧ Box2 Wx Bx 29 (.int .u64 x.2.1) (.int .u64 x.2.2) ∧ a' = { tmps := #[.func (.yield l) #[] #[], .pointer (some ⟨Bs, 0, none⟩), .pointer (some ⟨W.heap.size, 0, none⟩), .pointer (some ⟨W.heap.size + 1, 0, none⟩), undef, .pointer (some ⟨Bx, 0, none⟩), .slice a es.length cap, .func (.func 36) #[] #[.pointer (some ⟨W.heap.size + 1 + 1, 0, none⟩)], .int .i64 x.1, evt x.2, undef, undef, undef, undef, undef, undef, undef, undef, undef, undef], defers := [] })
    (fun x a' _ X Y row hs hg hr => by obtain ⟨Bx, h1, h2, h3⟩ := hs; exact ⟨Bx, h1, box2_own Bx W0.heap.size 29 _ _ () X Y row h2 hg hr, h3⟩)
    ?assign ?body ?done
  case assign =>
    rintro l2 k x Wx K hx ⟨⟨hj, b1⟩, b2⟩ hsW hK
    gi_wp2
    exact hK _ _ ((Mid.refl _ _ _ _).alloc (by omega) (by omega) _) ⟨⟨hJ _ _ _ hj ((Below.refl _ _).alloc (by omega) _), b1.alloc _⟩, b2.alloc _⟩ ⟨Wx.heap.size, hsW, Box2.new _ _ _ _, rfl⟩
  case body =>
    rintro l2 k x a' Wx hx ⟨⟨hj, b1⟩, b2⟩ hsW ⟨Bx, hBx, bX, rfl⟩
    have hk : k < es.length := by rw [← backs_length]; exact (List.getElem?_eq_some_iff.1 hx).1
    rw [backs_get es k hk] at hx
    obtain ⟨i, e⟩ := x
    simp only [Option.some.injEq, Prod.mk.injEq] at hx
    obtain ⟨hi, he⟩ := hx
    have hj2 : es.length - 1 - k < es.length := by omega
    have he2 : es[es.length - 1 - k]? = some e := by rw [← he]; simp [hj2]
    obtain ⟨ue1, ue2⟩ := hU.get he2
    have us := smL_U _ (hU.drop (es.length - k))
    have hsm := sm_drop hU he2
    have hkk : es.length - 1 - k + 1 = es.length - k := by omega
    rw [hkk] at hsm
    have hsuf := sufs_get es k hk
    rw [he] at hsuf
    have hsu2 := smL_U _ (hU.drop (es.length - 1 - k))
    rw [hsm] at hsuf hsu2
    have hn2 : es.length - (k + 1) = es.length - 1 - k := by omega
    have HN : smL (es.drop (es.length - (k + 1))) = sat (smL (es.drop (es.length - k)) + e.2) := by rw [hn2]; exact hsm
    generalize smL (es.drop (es.length - k)) = s at *
    obtain ⟨ea, ew⟩ := e
    have c1 := b1.cell
    have c2 := b2.cell
    have f2 := b2.frozen
    have x0 := bX.c0
    have x1 := bX.c1
    have zX := bX.lt
    have zB := b2.lt
    have zY := b1.lt
    have hm : 1 ≤ n - 1 - 1 := by omega
    have hne1 : Bx ≠ W.heap.size + 1 := by omega
    have hne2 : Bx ≠ Wx.heap.size := by omega
    have hne3 : W.heap.size ≠ Wx.heap.size := by omega
    have hne4 : W.heap.size + 1 ≠ Wx.heap.size := by omega
    obtain ⟨W2, hW2⟩ : ∃ W2, (Wx.setCell ⟨W.heap.size + 1, 0, none⟩ (.int .u64 (sat (s + ew)))).alloc (.cells #[.int .u64 s, .int .u64 ew] 23) = W2 := ⟨_, rfl⟩
    have hJ2 : J k W2 := by
      rw [← hW2]
      exact hJ _ _ _ hj (((Below.refl _ Wx).setCell (p := ⟨W.heap.size + 1, 0, none⟩) (by simp) _).alloc (by simp [World.setCell]; omega) _)
    have hM2 : Mid n₀ (W.heap.size + 1 + 1) W0.heap.size Wx W2 := by
      rw [← hW2]
      exact ((Mid.refl _ _ _ _).setCell (q := ⟨W.heap.size + 1, 0, none⟩) (by simp; omega) (by simp) (by simp; omega) _).alloc (by simp [World.setCell]; omega) (by simp [World.setCell]; omega) _
    have b12 : Boxed W2 W.heap.size 61 (.func (.yield l) #[] #[]) := by rw [← hW2]; exact (b1.other (by omega) _).alloc _
    have b22 : Boxed W2 (W.heap.size + 1) 23 (.int .u64 (sat (s + ew))) := by rw [← hW2]; exact (b2.set _).alloc _
    obtain ⟨fn, tmps, assign, body, hy, hR⟩ := hY k _ W2 hsuf hJ2
    dsimp only at hy
    rw [← hW2] at hy hR
    have HR := Lib.hid hR
    have HH := Lib.hid HN
    have HW := Lib.hid hW2
    clear hY HN hsm he hi hR hW2
    dsimp only at x0 x1 ue1 ue2
    gi_wp2_with (refine ⟨trivial, ?_⟩; gi_at_call 35; refine (CallsIn.inRound l2 (num_add_w _ _ _ s ew _ us ue2 (by simp) (by simp))).mono ?_; rintro e w' ⟨rfl, rfl⟩)
    refine (round_wide HR.out).mono ?_
    rintro e W3 ⟨rfl, hJ3, hm3⟩
    rw [HW.out] at hm3
    gi_wp2
    refine ⟨hM2.trans (hm3.turn (by omega) (by omega) (by have := b22.lt; have := hM2.size; omega)), ⟨hJ3, hm3.boxHigh (Nat.le_refl _) b12⟩, ?_⟩
    rw [HH.out]
    exact hm3.boxHigh (by omega) b22
  case done =>
    rintro D Wx hD ⟨⟨hj, b1⟩, b2⟩ hK
    gi_wp2
    refine ⟨by simp, .inl ⟨_, _, rfl, run_takeDeferred hK, ?_⟩⟩
    rw [backs_length] at hj
    exact ⟨_, results_none rfl _ _ _, ⟨_, rfl⟩, hJ _ _ _ hj (below_put _ (by omega))⟩
end Go.Proofs.Ytinlppadebdjgaa.Wd
