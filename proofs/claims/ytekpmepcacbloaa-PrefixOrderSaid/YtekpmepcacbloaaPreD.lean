/- What (*Tree).reach, add and prefix.New do; no conditions but those that each names. -/
import Derived.Test.YtekpmepcacbloaaPreC
namespace Go.Proofs.Ytekpmepcacbloaa.Wd
open Go Go.RowKit Go.Shelf
set_option linter.unusedVariables false
set_option maxRecDepth 100000
attribute [local go_sem] Oper.semAt_some

/-- The blocks of a wood, and all from n on. -/
def ownB (F : Nat → Option Nd) (n : Nat) (k : Nat) : Prop := (∃ b nd, F b = some nd ∧ (k = b ∨ nd.mp = some k)) ∨ n ≤ k
theorem Lies.kind {w : World} {F : Nat → Option Nd} {P Q : Nat → Prop} (h : Lies w F P) (hq : ∀ b nd, F b = some nd → Q b ∧ ∀ m, nd.mp = some m → Q m) : Lies w F Q := ⟨h.node, h.map, h.bare, h.apart, hq, h.small⟩
theorem Lies.own {w : World} {F : Nat → Option Nd} {P : Nat → Prop} (h : Lies w F P) (n : Nat) : Lies w F (ownB F n) := h.kind (fun b nd hb => ⟨.inl ⟨b, nd, hb, .inl rfl⟩, fun m hm => .inl ⟨b, nd, hb, .inr hm⟩⟩)
theorem Lies.putD {w : World} {F : Nat → Option Nd} {P : Nat → Prop} {D : Nat} {x : Option (List Deferred)} (h : Lies w F P) (hD : w.heap[D]? = some (.deferred x)) (o : Obj) : Lies (w.putObj D o) F P :=
  ⟨fun b nd hb => (World.putObj_heap_other (fun e => by have := h.node b nd hb; rw [e, hD] at this; cases this)).trans (h.node b nd hb),
   fun b nd m hb hm => (World.putObj_heap_other (fun e => by have := h.map b nd m hb hm; rw [e, hD] at this; cases this)).trans (h.map b nd m hb hm), h.bare, h.apart, h.low, h.small⟩
theorem Lies.notOwn {w : World} {F : Nat → Option Nd} {P : Nat → Prop} {D : Nat} {o : Obj} (h : Lies w F P) (hD : w.heap[D]? = some o) (h1 : ∀ cs, o ≠ .cells cs 54) (h2 : ∀ es c, o ≠ .map es c) : ¬ ownB F w.heap.size D := by
  rintro (⟨b, nd, hb, rfl | hm⟩ | hk)
  · have := h.node _ nd hb; rw [hD] at this; exact h1 _ (Option.some.inj this)
  · have := h.map b nd _ hb hm; rw [hD] at this; exact h2 _ _ (Option.some.inj this)
  · have := heap_lt hD; omega
def endR (l : List (Nat × ByteArray)) : Option Nat := l.getLast?.map (·.1)
def restR (l : List (Nat × ByteArray)) : ByteArray := (l.getLast?.map (·.2)).getD ⟨#[]⟩
theorem end_snoc (l : List (Nat × ByteArray)) (x : Nat × ByteArray) : endR (l ++ [x]) = some x.1 := by simp [endR]
theorem rest_snoc (l : List (Nat × ByteArray)) (x : Nat × ByteArray) : restR (l ++ [x]) = x.2 := by simp [restR]

set_option maxHeartbeats 2000000 in
theorem reach_in (n : Nat) (hn : 6 ≤ n) (t : Nat) (lo : Nat → Prop) (R : Nat) (c : Int) (K : ByteArray) (F : Nat → Option Nd) (w : World) (hK : K.size ≤ 281474976710656) (hT : w.heap[t]? = some (.cells #[ndp (some R), .int .i64 c] 56)) (hL : Lies w F lo) (hW : Wood F R) (hlo : Fr lo w.heap.size) :
    CallsIn Fence.wide n Try.prog 21 #[.pointer (some ⟨t, 0, none⟩), .string K] w fun e w' => ∃ G b, e = .returned (.pointer (some ⟨b, 0, none⟩)) ∧ Hid (Grew w' F G R lo b (lb K)) ∧ Tch lo w w' := by
  have h1 : 1 ≤ n := by omega
  have c0 : w.cell? ⟨t, 0, none⟩ = some (.pointer (some ⟨R, 0, none⟩)) := Blk.cell hT 0
  have htl := heap_lt hT
  have HL := Lib.hid hL
  have HW := Lib.hid hW
  have HLO := Lib.hid hlo
  clear hT hL hW hlo
  refine callsIn_of_wp_marks Try.func21 rfl trivial ?_ rfl
  simp only [Try.ntmps21, List.size_toArray, List.length_cons, List.length_nil, Nat.reduceAdd, Nat.reduceSub, Array.replicate_succ, Array.replicate_zero, List.push_toArray, List.append_toArray, List.nil_append, List.cons_append]
  gi_wp2_with (refine ⟨trivial, ?_⟩; gi_at_call 18; refine (way_in (n - 1) (some R) K _).mono ?_; rintro e w' ⟨rfl, rfl⟩)
  have bE := ((Boxed.new w 51 (.pointer none)).alloc (.cells #[.string ⟨#[]⟩] 9)).alloc (.cells #[ndp (some R)] 51) |>.alloc (.cells #[.string K] 9)
  have bS := ((Boxed.new (w.alloc (.cells #[.pointer none] 51)) 9 (.string ⟨#[]⟩)).alloc (.cells #[ndp (some R)] 51)).alloc (.cells #[.string K] 9)
  have bA := (Boxed.new ((w.alloc (.cells #[.pointer none] 51)).alloc (.cells #[.string ⟨#[]⟩] 9)) 51 (ndp (some R))).alloc (.cells #[.string K] 9)
  have bB := Boxed.new (((w.alloc (.cells #[.pointer none] 51)).alloc (.cells #[.string ⟨#[]⟩] 9)).alloc (.cells #[ndp (some R)] 51)) 9 (.string K)
  simp only [World.size_alloc] at bS bA bB
  have hB1 : Below w.heap.size w ((((w.alloc (.cells #[.pointer none] 51)).alloc (.cells #[.string ⟨#[]⟩] 9)).alloc (.cells #[ndp (some R)] 51)).alloc (.cells #[.string K] 9)) := ((((Below.refl _ _).alloc (Nat.le_refl _) _).alloc (by simp) _).alloc (by simp; omega) _).alloc (by simp; omega) _
  have hsz : ((((w.alloc (.cells #[.pointer none] 51)).alloc (.cells #[.string ⟨#[]⟩] 9)).alloc (.cells #[ndp (some R)] 51)).alloc (.cells #[.string K] 9)).heap.size = w.heap.size + 4 := by simp
  obtain ⟨W0, hW0⟩ : ∃ W0, ((((w.alloc (.cells #[.pointer none] 51)).alloc (.cells #[.string ⟨#[]⟩] 9)).alloc (.cells #[ndp (some R)] 51)).alloc (.cells #[.string K] 9)) = W0 := ⟨_, rfl⟩
  rw [hW0] at bE bS bA bB hB1 hsz ⊢
  clear hW0
  have hu := HL.out.under
  have L0 := HL.out.below hB1
  clear c0
  refine wpIn_rangeFunc_ownF rfl h1 (gf := 22) (lb := #[.pointer (some ⟨w.heap.size + 1 + 1, 0, none⟩), .pointer (some ⟨w.heap.size + 1 + 1 + 1, 0, none⟩)]) rfl trivial (enters_of Try.func22 (by kernel_rfl) rfl)
    (way1_stops (n - 1) (by omega) (w.heap.size + 1 + 1) w.heap.size lo R K F HW.out hK W0 L0 hu (by omega) bA bB) belowK_t (belowK_b (by omega)) (Below.refl _ _) (fun _ => rfl)
    (fun pre W => (W.cell? ⟨w.heap.size, 0, none⟩ = some (ndp (endR (rawW pre))) ∧ W.frozen? ⟨w.heap.size, 0, none⟩ = false ∧ W.cell? ⟨w.heap.size + 1, 0, none⟩ = some (.string (restR (rawW pre))) ∧ W.frozen? ⟨w.heap.size + 1, 0, none⟩ = false) ∧ Below w.heap.size w W)
    (fun c pre W => False ∧ Below w.heap.size w W)
    (OwnFrom.and (Own.from (fun s A B row hs hg hr => ⟨cell_kept hs.1 hg hr, (frozen_kept hs.1 hg hr).trans hs.2.1, cell_kept hs.2.2.1 hg hr, (frozen_kept hs.2.2.1 hg hr).trans hs.2.2.2⟩) _) (ownFrom_below (Nat.le_refl _) (by omega)))
    (fun c => OwnFrom.and (Own.from (fun s A B row hs hg hr => hs) _) (ownFrom_below (Nat.le_refl _) (by omega)))
    ⟨⟨bE.cell, bE.frozen, bS.cell, bS.frozen⟩, hB1⟩
    (fun x => { tmps := #[.pointer (some ⟨t, 0, none⟩), .string K, undef, undef, .pointer none, .pointer (some ⟨w.heap.size, 0, none⟩), .pointer (some ⟨w.heap.size + 1, 0, none⟩), .pointer (some ⟨x.1.1, 0, none⟩), .string x.1.2, .pointer (some ⟨t, 0, none⟩), .pointer (some ⟨t, 0, none⟩), .pointer (some ⟨t, 0, none⟩), .pointer (some ⟨R, 0, none⟩), .string K, .func (.func 22) #[] #[.pointer (some ⟨w.heap.size + 1 + 1, 0, none⟩), .pointer (some ⟨w.heap.size + 1 + 1 + 1, 0, none⟩)], .pointer (some ⟨x.1.1, 0, none⟩), .string x.1.2, undef, undef, undef, undef, undef, undef, undef, undef], defers := [] }) ?assign ?body ?done ?stop
  case assign =>
    intro l x W K hK
    gi_wp2
    exact hK
  case body =>
    rintro l pre x W ⟨⟨hc, hf, hc2, hf2⟩, hB⟩ hlen
    have E1 : Hid (endR (rawW (pre ++ [x])) = some x.1.1) := Lib.hid (by have := end_snoc (rawW pre) x.1; rw [← this]; simp [rawW])
    have E2 : Hid (restR (rawW (pre ++ [x])) = x.1.2) := Lib.hid (by have := rest_snoc (rawW pre) x.1; rw [← this]; simp [rawW])
    gi_wp2
    refine ⟨(KeepsOthers.setCell _ _ _).trans (KeepsOthers.setCell _ _ _), ((Below.refl _ _).setCell (p := ⟨w.heap.size, 0, none⟩) (Nat.le_refl _) _).setCell (p := ⟨w.heap.size + 1, 0, none⟩) (Nat.le_succ _) _, ⟨?_, by rw [World.frozen?_setCell, World.frozen?_setCell]; exact hf, ?_, by rw [World.frozen?_setCell, World.frozen?_setCell]; exact hf2⟩, (hB.setCell (p := ⟨w.heap.size, 0, none⟩) (Nat.le_refl _) _).setCell (p := ⟨w.heap.size + 1, 0, none⟩) (Nat.le_succ _) _⟩
    · rw [E1.out, cs_other _ _ _ _ _ _ (.inl (by omega))]
      exact World.cell?_setCell_same' _ _ _ (by rw [hc]; rfl)
    · rw [E2.out]
      exact World.cell?_setCell_same' _ _ _ (by rw [cs_other _ _ _ _ _ _ (.inl (by omega)), hc2]; rfl)
  case done =>
    rintro D ys W hD hw ⟨⟨hc, hf, hc2, hf2⟩, hB⟩ hK
    have LW := Lib.hid (HL.out.below hB)
    have hne : rawW ys ≠ [] := fun e => by have := hw.head HW.out; rw [e] at this; cases this
    obtain ⟨us, ⟨p, l1⟩, he⟩ : ∃ us x, rawW ys = us ++ [x] := ⟨_, _, (List.dropLast_concat_getLast hne).symm⟩
    obtain ⟨nd, hp, hKp⟩ := hw.ofRoot HW.out (p, l1) (by rw [he]; simp)
    have hen := hw.ends he hp
    rw [he, end_snoc] at hc
    rw [he, rest_snoc] at hc2
    replace hc : W.cell? ⟨w.heap.size, 0, none⟩ = some (.pointer (some ⟨p, 0, none⟩)) := hc
    replace hc2 : W.cell? ⟨w.heap.size + 1, 0, none⟩ = some (.string l1) := hc2
    have HP := Lib.hid hp
    have HKP := Lib.hid hKp
    have HEN := Lib.hid hen
    have HK := Lib.hid hK
    have TB := Lib.hid (Tch.of (S := lo) hB)
    have hl1 : l1.size ≤ K.size := by
      have := congrArg List.length hKp
      rw [lb_len, List.length_append] at this
      have g := lb_len l1
      show l1.size ≤ K.size
      simp only at this
      omega
    have hloD : lo D := HLO.out D (by omega)
    clear hp hKp hen hK he hne hw L0 bE bS bA bB hB1 hu hB
    by_cases hz : l1.size = 0
    · have ht := toList_none l1 hz
      have hl0 : lb l1 = [] := List.eq_nil_of_length_eq_zero (by rw [lb_len]; exact hz)
      have HZ := Lib.hid hl0
      clear hz hl0
      gi_wp2
      refine ⟨by simp, .inl ⟨_, _, rfl, run_takeDeferred HK.out, ?_⟩⟩
      exact ⟨_, results_tmp rfl _ _ _, F, p, rfl, Lib.hid ⟨LW.out.putD HK.out _, HW.out, Ext.refl F, nd, HP.out, by rw [HKP.out, HZ.out, List.append_nil]⟩, TB.out.trans (Tch.put W D _ hloD)⟩
    · have ht := toList_ne l1 (by omega)
      have C := Lib.hid (branch_any p (ownB F W.heap.size) R l1 nd F W (LW.out.own _) HW.out HP.out (by omega) (by omega) (HEN.out.elim (fun g => absurd g hz) id) (fun k hk => .inr hk))
      clear hz
      gi_wp2_with (refine ⟨trivial, ?_⟩; gi_at_call 26; refine (callsIn_wide.2 C.out).mono ?_; rintro e w5 ⟨G, b, rfl, g5, t5⟩)
      have hD5 : w5.heap[D]? = some (.deferred (some [])) := (t5.block D (heap_lt HK.out) (LW.out.notOwn HK.out (fun _ h => by cases h) (fun _ _ h => by cases h))).trans HK.out
      have hown : ∀ k, ownB F W.heap.size k → lo k := fun k hk => by
        rcases hk with ⟨b, nd, hb, rfl | hm⟩ | hk
        · exact (LW.out.low _ nd hb).1
        · exact (LW.out.low b nd hb).2 k hm
        · exact HLO.out k (Nat.le_trans TB.out.size hk)
      obtain ⟨a1, a2, a3, a4, a5, a6⟩ := g5.out
      refine ⟨by simp, .inl ⟨_, _, rfl, run_takeDeferred hD5, ?_⟩⟩
      exact ⟨_, results_tmp rfl _ _ _, G, b, rfl, Lib.hid ⟨(a1.kind (fun x y hx => ⟨hown _ (a1.low x y hx).1, fun m hm => hown _ ((a1.low x y hx).2 m hm)⟩)).putD hD5 _, a2, a3, a4, a5, by rw [a6, HKP.out]⟩, (TB.out.trans (t5.mono (fun k _ hk => hown k hk))).trans (Tch.put w5 D _ hloD)⟩
  case stop =>
    rintro D c pre W hD hpre ⟨h, _⟩ hK
    exact h.elim
end Go.Proofs.Ytekpmepcacbloaa.Wd
