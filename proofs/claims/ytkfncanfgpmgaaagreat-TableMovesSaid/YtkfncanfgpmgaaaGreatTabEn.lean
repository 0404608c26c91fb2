/- Entries; no conditions but those that each names. -/
import Derived.Test.YtkfncanfgpmgaaaGreatTabSl
namespace Go.Proofs.YtkfncanfgpmgaaaGreat.Wd
open Go Go.RowKit Go.Deep Go.Shelf
set_option linter.unusedVariables false
set_option maxRecDepth 100000
attribute [local go_sem] Oper.semAt_some
attribute [local go_sem ↓ 2000] builtin_app

abbrev Tae : TypeId := 102
abbrev Tens : TypeId := 64
abbrev Tfe : TypeId := 106
/-- An entry: a key, and until when. -/
abbrev En : Type := ByteArray × Int
abbrev En.cs (x : En) : Array Value := #[.string x.1, .int .u64 x.2]
/-- A slot's entry. -/
def entS (c : Int) (s : Sl) : En := (s.key, dueS c s)
def flatE : List En → List Value
  | [] => []
  | x :: xs => (En.cs x).toList ++ flatE xs
theorem flatE_append (a b : List En) : flatE (a ++ b) = flatE a ++ flatE b := by
  induction a with
  | nil => rfl
  | cons x xs ih => rw [List.cons_append, flatE, flatE, ih, List.append_assoc]
theorem flatE_len (a : List En) : (flatE a).length = a.length * 2 := by
  induction a with
  | nil => rfl
  | cons x xs ih => rw [flatE, List.length_append, ih, List.length_cons]; simp; omega
abbrev en0 : En := (⟨#[]⟩, 0)
abbrev atE (xs : List En) (k : Nat) : En := xs.getD k en0
theorem flatE_at : ∀ (xs : List En) (k : Nat), k < xs.length → ∀ j, j < 2 → (flatE xs)[k * 2 + j]? = (En.cs (atE xs k))[j]?
  | [], _, h, _, _ => absurd h (Nat.not_lt_zero _)
  | x :: xs, 0, _, j, hj => by
    rw [flatE, List.getElem?_append_left (by simp; omega)]; simp
  | x :: xs, k + 1, h, j, hj => by
    rw [flatE, List.getElem?_append_right (by simp; omega)]
    have := flatE_at xs k (by simpa using h) j hj
    rw [show (k + 1) * 2 + j - (En.cs x).toList.length = k * 2 + j by simp; omega, this]
    simp
theorem flatE_one (xs : List En) : ∀ u ∈ flatE xs, u.oneCell' = true := by
  induction xs with
  | nil => intro u hu; cases hu
  | cons x xs ih =>
    intro u hu
    rw [flatE, List.mem_append] at hu
    rcases hu with hu | hu
    · simp at hu
      rcases hu with rfl | rfl <;> rfl
    · exact ih u hu
/-- A row of entries that a call owns. -/
def OwE (w : World) (base : Nat) (v : Value) (xs : List En) : Prop := w.ownsRow base Tae 2 v xs.length (flatE xs)
theorem zeroAe : (Tryz.prog.info? Tae).map (fun i => (i.zero, i.size, i.bytes)) = some (some (.agg #[.string ⟨#[]⟩, .int .u64 0]), 2, 24) := by kernel_rfl
/-- An entry lies in two cells. -/
def S2 (w : World) (b o : Nat) (x : En) : Prop := w.cell? ⟨b, o, none⟩ = some (.string x.1) ∧ w.cell? ⟨b, o + 1, none⟩ = some (.int .u64 x.2)
theorem OwE.form {w : World} {base : Nat} {v : Value} {xs : List En} (h : OwE w base v xs) : ∃ A cap, v = .slice A xs.length cap ∧ xs.length ≤ cap ∧ cap ≤ maxLen ∧ (0 < xs.length → ∃ b, A = some ⟨b, 0, none⟩ ∧ base ≤ b ∧ b < w.heap.size ∧ ∀ k, k < xs.length → S2 w b (k * 2) (atE xs k)) := by
  rcases h.2 with ⟨rfl, h0⟩ | ⟨g, cap, cur, rfl, hb, hgg, h1, h2, h3, h4⟩
  · refine ⟨none, 0, by rw [h0], by omega, by unfold maxLen; omega, fun hp => by omega⟩
  · have hc : ∀ k, k < xs.length → ∀ j, j < 2 → w.cell? ⟨g, k * 2 + j, none⟩ = (En.cs (atE xs k))[j]? := fun k hk j hj => by
      rw [← flatE_at xs k hk j hj, ← h4, List.getElem?_take, if_pos (by omega)]
      simp [World.cell?, hgg]
    exact ⟨_, cap, rfl, h1, h2, fun _ => ⟨g, rfl, hb, heap_lt hgg, fun k hk => ⟨hc k hk 0 (by omega), hc k hk 1 (by omega)⟩⟩⟩
theorem Blk.two {w : World} {b : Nat} {x : En} {t : TypeId} (h : Blk w b (En.cs x) t) : w.cell? ⟨b, 0, none⟩ = some (.string x.1) ∧ w.cell? ⟨b, 1, none⟩ = some (.int .u64 x.2) := ⟨h.cell 0, h.cell 1⟩
set_option maxHeartbeats 2000000 in
theorem entry1_any (s : Sl) (R T : Nat) (c : Int) (w : World) (hs : Oks s) (hc : U c) (cR : w.cell? ⟨R, 0, none⟩ = some (ptr T)) (cT : w.cell? ⟨T, 1, none⟩ = some (.int .u64 c)) :
    Calls Tryz.prog 49 #[s.v, ptr R] w fun e w' => e = .returned (.agg (En.cs (entS c s))) ∧ Below w.heap.size w w' := by
  have CC := Lib.hid (fun W => cap_any s.r.p s.r.e s.r.b s.r.k W (by have := hs.r.p; omega) hs.r.e hs.r.b)
  have CU := Lib.hid (fun W => kuntil_any s.k s.a s.b c (capS s) W hs.a hs.b hc (capS_U hs))
  have CL := Lib.hid (fun W => clone_any s.key W hs.key)
  rw [show entS c s = (s.key, kuI c (kfI s.k s.a s.b c (capS s))) from rfl]
  have b0 := Lib.hid ((Blk.new w s.cs 48).alloc (.cells #[.string ⟨#[]⟩, .int .u64 0] 102))
  have r0 := Lib.hid (Blk.new (w.alloc (.cells s.cs 48)) #[.string ⟨#[]⟩, .int .u64 0] 102)
  rw [show (w.alloc (.cells s.cs 48)).heap.size = w.heap.size + 1 by simp] at r0
  have k0 := Lib.hid (((Below.refl _ w).alloc (Nat.le_refl _) (.cells s.cs 48)).alloc (by simp) (.cells #[.string ⟨#[]⟩, .int .u64 0] 102))
  replace cR := celln k0.out cR
  replace cT := celln k0.out cT
  go_enter Tryz.func49, Tryz.ntmps49
  go_wp2_with fail
  generalize ((w.alloc (.cells s.cs 48)).alloc (.cells #[.string ⟨#[]⟩, .int .u64 0] 102)) = W at *
  obtain ⟨x0, x1, x2, x3, x4, x5, x6, x7⟩ := b0.out.eight
  have kr := Tch.refl (fun _ => False) W
  go_region_held3 (fun w' => Tch (fun _ => False) W w' ∧ w'.cell? ⟨w.heap.size, 0, none⟩ = some (.string s.key) ∧ w'.cell? ⟨w.heap.size, 1, none⟩ = some (.string s.r.p) ∧ w'.cell? ⟨w.heap.size, 2, none⟩ = some (.int .u64 s.r.e) ∧ w'.cell? ⟨w.heap.size, 3, none⟩ = some (.int .u64 s.r.b) ∧ w'.cell? ⟨w.heap.size, 4, none⟩ = some (.int .u8 s.r.k) ∧ w'.cell? ⟨w.heap.size, 5, none⟩ = some (.int .u8 s.k) ∧ w'.cell? ⟨w.heap.size, 6, none⟩ = some (.int .u64 s.a) ∧ w'.cell? ⟨w.heap.size, 7, none⟩ = some (.int .u64 s.b) ∧ w'.cell? ⟨R, 0, none⟩ = some (ptr T) ∧ w'.cell? ⟨T, 1, none⟩ = some (.int .u64 c))
    (first | with_reducible exact ⟨kr, x0, x1, x2, x3, x4, x5, x6, x7, cR, cT⟩ | with_reducible exact ⟨(td kr), dcell x0, dcell x1, dcell x2, dcell x3, dcell x4, dcell x5, dcell x6, dcell x7, dcell cR, dcell cT⟩)
    (first
      | (go_at_call 51; ((with_reducible refine (CC.out _).mono ?_); rintro r w' ⟨rfl, _, g⟩; (first | with_reducible (replace kr := tb kr g; replace x0 := celln g x0; replace x1 := celln g x1; replace x2 := celln g x2; replace x3 := celln g x3; replace x4 := celln g x4; replace x5 := celln g x5; replace x6 := celln g x6; replace x7 := celln g x7; replace cR := celln g cR; replace cT := celln g cT) | with_reducible (replace kr := tb (td kr) g; replace x0 := celln g (dcell x0); replace x1 := celln g (dcell x1); replace x2 := celln g (dcell x2); replace x3 := celln g (dcell x3); replace x4 := celln g (dcell x4); replace x5 := celln g (dcell x5); replace x6 := celln g (dcell x6); replace x7 := celln g (dcell x7); replace cR := celln g (dcell cR); replace cT := celln g (dcell cT)))))
      | (go_at_call 50; ((with_reducible refine (CU.out _).mono ?_); rintro r W1 ⟨rfl, _, g⟩; (first | with_reducible (replace kr := tb kr g; replace x0 := celln g x0; replace x1 := celln g x1; replace x2 := celln g x2; replace x3 := celln g x3; replace x4 := celln g x4; replace x5 := celln g x5; replace x6 := celln g x6; replace x7 := celln g x7; replace cR := celln g cR; replace cT := celln g cT) | with_reducible (replace kr := tb (td kr) g; replace x0 := celln g (dcell x0); replace x1 := celln g (dcell x1); replace x2 := celln g (dcell x2); replace x3 := celln g (dcell x3); replace x4 := celln g (dcell x4); replace x5 := celln g (dcell x5); replace x6 := celln g (dcell x6); replace x7 := celln g (dcell x7); replace cR := celln g (dcell cR); replace cT := celln g (dcell cT))))))
  rename_i hH
  clear hH
  have k1 := Lib.hid (Tch.belowF k0.out kr)
  have r1 := Lib.hid (kr.blk r0.out (fun x => x))
  clear CC CU b0 r0 k0 kr
  go_wp2_with (go_at_call 52; refine (CL.out _).mono ?_; rintro e W2 ⟨rfl, g⟩; refine stopHere ?_)
  unfold Stop
  have k2 := Lib.hid (kbq k1.out g)
  have r2 := Lib.hid (r1.out.below g)
  have y0 := r2.out.cell 0
  have y1 := r2.out.cell 1
  have f0 := r2.out.fz 0
  have f1 := r2.out.fz 1
  clear r1 k1 g x0 x1 x2 x3 x4 x5 x6 x7 cR cT CL
  simp at y0 y1
  go_wp2
  have z := (r2.out.set 0 (.string s.key)).set 1 (.int .u64 (kuI c (kfI s.k s.a s.b c (capS s))))
  have kZ := (k2.out.setCell (p := ⟨w.heap.size + 1, 0, none⟩) (Nat.le_succ _) (.string s.key)).setCell (p := ⟨w.heap.size + 1, 1, none⟩) (Nat.le_succ _) (.int .u64 (kuI c (kfI s.k s.a s.b c (capS s))))
  obtain ⟨q0, q1⟩ := Blk.two (x := (s.key, kuI c (kfI s.k s.a s.b c (capS s)))) (show Blk _ (w.heap.size + 1) (En.cs (s.key, kuI c (kfI s.k s.a s.b c (capS s)))) _ from z)
  generalize (W2.setCell ⟨w.heap.size + 1, 0, none⟩ (.string s.key)).setCell ⟨w.heap.size + 1, 1, none⟩ (.int .u64 (kuI c (kfI s.k s.a s.b c (capS s)))) = V at *
  refine bodyPost_ret (v := .agg (En.cs (s.key, kuI c (kfI s.k s.a s.b c (capS s))))) ?_ rfl ⟨rfl, kZ⟩
  simp [results, Tryz.results49, go_sem, q0, q1]
abbrev entV (R : Nat) : Value := .func (Fn.func 49) #[] #[ptr R]
theorem app_entry {W w2 : World} {n0 k : Nat} {v : Value} {pre : List En} (x : En) (h : W.ownsRow n0 Tae 2 v k (flatE pre)) (hk : k = pre.length) (kb : Below W.heap.size W w2) (hs : k + 1 ≤ 1099511627776) (hb : n0 ≤ W.heap.size) :
    ∃ g cap w3, (AP #[Tens, Tens] Tens #[v, .slice (some ⟨w2.heap.size, 0, none⟩) 1 1]).run Tryz.prog (w2.alloc (.cells (En.cs x) Tae)) = .ok (.slice (some ⟨g, 0, none⟩) (k + 1) cap) w3 ∧
      w3.ownsRow n0 Tae 2 (.slice (some ⟨g, 0, none⟩) (k + 1) cap) (k + 1) (flatE (pre ++ [x])) ∧ (w2.alloc (.cells (En.cs x) Tae)).grownBy w3 v.ownBlock ∧ g < w3.heap.size := by
  obtain ⟨i0, hi, hy0, hy1, hy2⟩ := info_parts zeroAe
  have kb' : Below W.heap.size W (w2.alloc (.cells (En.cs x) Tae)) := kb.alloc kb.size _
  have hr : (w2.alloc (.cells (En.cs x) Tae)).ownsRow n0 Tae 2 v k (flatE pre) := own_below h kb'
  obtain ⟨g, cap, w3, h1, h2, h3, _, h5⟩ := run_append_lies (P := Tryz.prog) (w2.alloc (.cells (En.cs x) Tae)) Tens Tens n0 Tae i0 _ 2 24 Tryz.underlying64 hi hy0 hy1 hy2 rfl (by decide) v k (flatE pre) hr ⟨w2.heap.size, 0, none⟩ 1 1 (flatE [x]) (by rw [flatE_len]; rfl) (by
    intro j u hu
    have hj : j < 2 := by
      by_cases z : j < 2
      · exact z
      · rw [List.getElem?_eq_none (by rw [flatE_len]; simp; omega)] at hu; cases hu
    have e := flatE_at [x] 0 (by simp) j hj
    rw [Nat.zero_mul, Nat.zero_add, hu] at e
    rw [Addr.add_lit, Nat.zero_add, (Blk.new w2 (En.cs x) Tae).cell j, e]; rfl) (flatE_one _) (by decide) (by unfold maxLen; omega) (by omega) (by simp; have := kb.size; omega) _ rfl
  refine ⟨g, cap, w3, h1, ?_, h3, h5⟩
  rw [flatE_append]; exact h2
/-- So many entries have come. -/
def InE (c : Int) (R : Nat) (S : List Sl) (w : World) (pre : List {x : Sl // Vr S id x}) (W : World) : Prop := Gath w.heap.size (w.heap.size + 1) w.heap.size Tens Tae Tfe 2 (entV R) w (flatE (pre.map (fun x => entS c x.1))) pre.length W
theorem InE.own {c : Int} {R : Nat} {S : List Sl} {w : World} (Bd : Nat) (hB : w.heap.size ≤ Bd) : OwnFrom Bd (InE c R S w) := fun s X Y row hs hg hr => Gath.own hs hg (fun r e => ⟨Nat.le_trans hB (hr r e).1, (hr r e).2⟩)
set_option maxHeartbeats 4000000 in
theorem eall_in (n : Nat) (hn : 8 ≤ n) (R T M : Nat) (B : Nat → Prop) (m c : Int) (S : List Sl) (w : World) (h : Tbm w T M B m c S) (hsort : SortC S.length) (gR : w.cell? ⟨R, 0, none⟩ = some (ptr T)) :
    CallsIn Fence.wide n Tryz.prog 48 #[ptr T, (entV R)] w fun e w' => ∃ v, ∃ xs : List Sl, e = .returned v ∧ OwE w' w.heap.size v (xs.map (entS c)) ∧ (∀ x ∈ xs, x ∈ S) ∧ Allk S (xs.map (fun x => x.key)) ∧ Below w.heap.size w w' := by
  have h1 : 1 ≤ n := by omega
  refine callsIn_of_wp_marks Tryz.func48 rfl trivial ?_ rfl
  simp only [Tryz.ntmps48, List.size_toArray, List.length_cons, List.length_nil, Nat.reduceAdd, Nat.reduceSub, Array.replicate_succ, Array.replicate_zero, List.push_toArray, List.append_toArray, List.nil_append, List.cons_append]
  gi_wp2_with (refine ⟨trivial, ?_⟩; gi_at_call 47; refine (active_in Fence.wide (n - 1) trivial rfl T _).mono ?_; rintro e w1 ⟨rfl, rfl⟩)
  obtain ⟨W0, hW0⟩ : ∃ W0, ((w.alloc (.cells #[(entV R)] Tfe)).alloc (.cells #[.slice none 0 0] Tens)).alloc (.cells #[ptr T] Ttp) = W0 := ⟨_, rfl⟩
  have bF : Boxed W0 w.heap.size Tfe (entV R) := by rw [← hW0]; exact ((Boxed.new w _ _).alloc _).alloc _
  have bO : Boxed W0 (w.heap.size + 1) Tens (.slice none 0 0) := by rw [← hW0]; have := (Boxed.new (w.alloc (.cells #[(entV R)] Tfe)) Tens (.slice none 0 0)).alloc (.cells #[ptr T] Ttp); simpa using this
  have bT : Boxed W0 (w.heap.size + 1 + 1) Ttp (ptr T) := by rw [← hW0]; have := Boxed.new ((w.alloc (.cells #[(entV R)] Tfe)).alloc (.cells #[.slice none 0 0] Tens)) Ttp (ptr T); simpa using this
  have hB0 : Below w.heap.size w W0 := by rw [← hW0]; exact (((Below.refl _ w).alloc (Nat.le_refl _) _).alloc (by simp) _).alloc (by simp; omega) _
  have hsz : W0.heap.size = w.heap.size + 3 := by rw [← hW0]; simp
  have hT0 : Tbm W0 T M (fun _ => True) m c S := (h.below hB0).mono (fun _ _ => trivial)
  have hfew : S.length ≤ 1000000 := by have := h.wf.len; have := h.wf.m2; omega
  have hok : ∀ x ∈ S, Oks x := fun x hx => (h.wf.ok x hx).oks
  have hcU := h.wf.cu
  have gT := h.tbl.cells.2.1
  rw [hW0]
  clear hW0 h
  refine wpIn_rangeFunc_ownH rfl h1 (gf := 81) (lb := #[ptr (w.heap.size + 1 + 1)]) rfl trivial (enters_of Tryz.func81 (by kernel_rfl) rfl)
    (act1_stops (n - 1) (by omega) T M (w.heap.size + 1 + 1) m c S id W0 bT hT0 hsort) Kpt.trans (fun W l o o' _ x y z => Kpt.put W l o o' x y z) (Below.refl _ _) (fun _ => rfl)
    (InE c R S w) (fun _ _ _ => False) (InE.own _ (by omega)) (fun _ s A Bw row hs hg hr => hs) ⟨⟨_, bO, World.ownsRow_nil _ _ _ _⟩, bF, hB0⟩
    (fun x a' W => ∃ b, Blk W b x.1.cs Tas ∧ a' = { tmps := #[ptr T, (entV R), undef, .pointer (some ⟨w.heap.size, 0, none⟩), .slice none 0 0, .pointer (some ⟨w.heap.size + 1, 0, none⟩), ptr b, ptr T, .func (.func 81) #[] #[ptr (w.heap.size + 1 + 1)], x.1.v, undef, undef, undef, undef, undef, undef, undef], defers := [] })
    ?hAx ?assign ?body ?done ?stop
  case hAx =>
    rintro x a' s X Y row ⟨b, hb, e⟩ hg hr
    refine ⟨b, (hg.block b hb.lt (fun e' => ?_)).trans hb, e⟩
    obtain ⟨_, o, ho, hc⟩ := hr b e'.symm
    rw [show X.heap[b]? = _ from hb] at ho; cases ho; cases hc
  case assign =>
    intro l pre x W K hI hK
    gi_wp2
    refine hK _ _ ((KeepsOthers.alloc W _).from _) (kpt_far (by simp) (fun k o ho _ => (al_old _ _ (heap_lt ho)).trans ho)) ((InE.own W0.heap.size (by omega)).alloc _ hI) ⟨W.heap.size, Blk.new _ _ _, rfl⟩
  case body =>
    rintro l pre x a' W hl ⟨r, hr⟩ hI ⟨b, hb, rfl⟩ hlen
    obtain ⟨⟨v, hv, hrow⟩, hF, hBW⟩ := id hI
    have xS : x.1 ∈ S := by obtain ⟨s, hs, _, e⟩ := x.2; rcases e with e | e <;> (rw [e]; exact hs)
    have CO := fun W' g1 g2 => CallsIn.inRound l (callsIn_wide (n := n - 1 - 1 - 1) |>.2 (entry1_any x.1 R T c W' (hok _ xS) hcU g1 g2))
    have cR := celln hBW gR
    have cT := celln hBW gT
    have cF := hF.cell
    have cO := hv.cell
    have fO := hv.frozen
    have x0 := hb.cell 0
    have x1 := hb.cell 1
    have x2 := hb.cell 2
    have x3 := hb.cell 3
    have x4 := hb.cell 4
    have x5 := hb.cell 5
    have x6 := hb.cell 6
    have x7 := hb.cell 7
    simp at x0 x1 x2 x3 x4 x5 x6 x7
    have h2 : 1 ≤ n - 1 - 1 := by omega
    have hws := hBW.size
    have hmix : Tryz.prog.follows .mixedOrders = true := by kernel_rfl
    have HI := Lib.hid hI
    have HV := Lib.hid hv
    have HR := Lib.hid hrow
    have HB := Lib.hid hb
    have HF := Lib.hid hF
    have HBW := Lib.hid hBW
    clear hI hv hrow hF hb hBW hB0 bF bO bT hT0 hsort
    gi_wp2
    gi_region_with (first
      | (refine ⟨trivial, ?_⟩; gi_at_call 49; refine (CO _ (by first | exact cR | exact dcell cR) (by first | exact cT | exact dcell cT)).mono ?_; rintro e w2 ⟨rfl, kb⟩; replace cO := celln kb (dcell cO); replace cF := celln kb (dcell cF); have cO2 : ∀ o, (w2.alloc o).cell? ⟨w.heap.size + 1, 0, none⟩ = some v := fun o => acell cO; have KB := kbq (Below.refl _ W).drew kb)
      | (obtain ⟨g, cap, w3, hrun, ho3, hg3, hg4⟩ := app_entry (entS c x.1) HR.out (by rw [List.length_map]) KB (by omega) (by omega); have b3 := ((HV.out.kept (row := none) ⟨KB.os, KB.tape, KB.output, KB.size, fun j hj _ => KB.block j hj⟩ (by simp)).alloc (.cells (En.cs (entS c x.1)) Tae)).kept hg3 (HV.out.not_row (by decide) HR.out); have c3 := b3.cell; have f3 := b3.frozen; rw [hrun]))
    all_goals
      show KeepsFrom _ _ _ ∧ Kpt _ _ _ _ _ _ _ _ ∧ InE _ _ _ _ _ _
      have z := app_end (T := T) (M := M) (m := m) (c := c) (S0 := S) (mv := id) (w := w) W0.heap.size HV.out (by decide) HR.out HF.out (by omega) (by decide) HBW.out (by omega) KB ho3 hg3 (by decide) (by decide)
      refine ⟨z.1, z.2.1, ?_⟩
      have z2 := z.2.2
      unfold InE
      rw [List.map_append, List.length_append]
      exact z2
  case done =>
    rintro D xs W hD hS hI hK
    obtain ⟨⟨v, hv, hrow⟩, hF, hBW⟩ := id hI
    have cO := hv.cell
    have fO := hv.frozen
    have HI := Lib.hid hI
    have HV := Lib.hid hv
    have HR := Lib.hid hrow
    have HBW := Lib.hid hBW
    clear hI hv hrow hF hB0 bF bO bT hT0 hsort
    dsimp only
    gi_wp2
    refine ⟨by simp, .inl ⟨_, _, rfl, run_takeDeferred hK, ?_⟩⟩
    refine ⟨v, by simp [results, Tryz.f48, go_sem], v, xs.map (fun x => x.1), rfl, ?_, ?_, ?_, ?_⟩
    · have z := ownsRow_putObj HR.out (.deferred none) hK rfl
      unfold OwE
      rw [List.length_map, List.length_map, List.map_map]; exact z
    · intro y hy
      obtain ⟨x, _, rfl⟩ := List.mem_map.1 hy
      obtain ⟨s, hs, _, e⟩ := x.2
      rcases e with e | e <;> (rw [e]; exact hs)
    · rw [List.map_map]; exact hS
    · exact HBW.out.grown (grownBy_putObj' W D _) HBW.out.size (fun k e => by cases e; omega)
  case stop =>
    rintro D cc pre W hD _ hF
    exact hF.elim
end Go.Proofs.YtkfncanfgpmgaaaGreat.Wd
