/- What pack's reader answers: piece, number, room, head, entry; no conditions but those that each names. -/
import Derived.Test.YtbejkcdaefkibaaPacN
import Derived.Laws.CopyOwn
import Derived.ScopeJumps
import Derived.WalkMore
import Derived.WalkLawsBesides
import Derived.WalkSpells
namespace Go.Proofs.Ytbejkcdaefkibaa.Wd
open Go Go.RowKit Go.Shelf Go.Deep Go.Lib
set_option linter.unusedVariables false
set_option maxRecDepth 100000

abbrev Trd : TypeId := 56
/-- A reader in a block, and the bytes that are left. -/
def Rd (w : World) (R B : Nat) (l : List UInt8) : Prop :=
  ∃ A cap, Blk w R #[.slice A l.length cap] Trd ∧ l.length ≤ cap ∧ cap ≤ 9223372036854775807 ∧ Txt w A l.length l ∧ (∀ ad, A = some ad → ad.spot = none ∧ ad.block < B) ∧ B ≤ R
theorem Rd.below {w w' : World} {R B : Nat} {l : List UInt8} (h : Rd w R B l) (g : Below w.heap.size w w') : Rd w' R B l := by
  obtain ⟨A, cap, h1, h2, h3, h4, h5, h6⟩ := h
  exact ⟨A, cap, h1.below g, h2, h3, h4.below g, h5, h6⟩
theorem Rd.lt {w : World} {R B : Nat} {l : List UInt8} (h : Rd w R B l) : B ≤ R ∧ R < w.heap.size := by
  obtain ⟨A, cap, h1, h2, h3, h4, h5, h6⟩ := h
  exact ⟨h6, h1.lt⟩
theorem Txt.tch {S : Nat → Prop} {w w' : World} {A : Option Addr} {n : Nat} {l : List UInt8} (h : Txt w A n l) (g : Tch S w w') (hS : ∀ ad, A = some ad → ¬ S ad.block) : Txt w' A n l :=
  ⟨h.1, fun hn => by
    obtain ⟨b, off, e, hb, hc⟩ := h.2 hn
    refine ⟨b, off, e, Nat.lt_of_lt_of_le hb g.size, fun k hk => ?_⟩
    have e2 := g.block b hb (hS _ e)
    rw [← hc k hk]
    simp [World.cell?, e2]⟩
/-- What is behind: where it lies. -/
theorem bslice_rest (A : Option Addr) (n cap i : Nat) (hi : i ≤ n) (hn : n ≤ cap) : ∃ A', (∀ W : World, (Instr.slice 26 (.slice A n cap) (some (.int .i64 (i : Int))) none none).run Try.prog W = .ok (.slice A' (n - i) (cap - i)) W) ∧
    (∀ (W : World) (l : List UInt8), Txt W A n l → Txt W A' (n - i) (l.drop i)) ∧ (∀ ad, A' = some ad → ∃ ad0, A = some ad0 ∧ ad.block = ad0.block ∧ (ad0.spot = none → ad.spot = none)) := by
  obtain ⟨i0, hz, hz0, hz1, hz2⟩ := info_parts infoByte
  refine ⟨if cap = i then A else A.map (·.add (i * 1)), fun W => ?_, fun W l h => ?_, fun ad e => ?_⟩
  · simp [go_sem, Try.underlying26, sizeOf, typeInfo, hz, hz1, hi, sliced]
  · refine ⟨by rw [List.length_drop, h.1], fun h0 => ?_⟩
    obtain ⟨b, off, rfl, hb, hc⟩ := h.2 (by omega)
    rw [if_neg (by omega)]
    refine ⟨b, off + i, by simp [Go.WideShapes.add_plain], hb, fun k hk => ?_⟩
    rw [Nat.add_assoc, hc (i + k) (by omega)]
    simp [List.getD_eq_getElem?_getD]
  · split at e
    · exact ⟨ad, e, rfl, id⟩
    · cases A with
      | none => simp at e
      | some ad' =>
        simp only [Option.map_some, Option.some.injEq] at e
        refine ⟨ad', rfl, ?_, ?_⟩
        · rw [← e]; unfold Addr.add; split <;> rfl
        · intro hs
          obtain ⟨b, off, sp⟩ := ad'
          simp at hs
          subst hs
          simp [Go.WideShapes.add_plain] at e
          rw [← e]
theorem Rd.tch {S : Nat → Prop} {w w' : World} {R B : Nat} {l : List UInt8} (h : Rd w R B l) (g : Tch S w w') (hR : ¬ S R) (hS : ∀ k, k < B → ¬ S k) : Rd w' R B l := by
  obtain ⟨A, cap, h1, h2, h3, h4, h5, h6⟩ := h
  exact ⟨A, cap, g.blk h1 hR, h2, h3, h4.tch g (fun ad e => hS _ (h5 ad e).2), h5, h6⟩
set_option maxHeartbeats 1000000 in
theorem piece_yes (R B k : Nat) (l : List UInt8) (w : World) (h : Rd w R B l) (hk : k ≤ l.length) :
    Calls Try.prog 31 #[.pointer (some ⟨R, 0, none⟩), .int .i64 (k : Int)] w fun e w' => ∃ A c, e = .returned (.tuple #[.slice A k c, .bool true]) ∧ k ≤ c ∧ c ≤ 9223372036854775807 ∧ Txt w' A k (l.take k) ∧ Rd w' R B (l.drop k) ∧ (∀ ad, A = some ad → ad.spot = none ∧ ad.block < B) ∧ Tch (fun b => b = R) w w' := by
  obtain ⟨A, cap, hb, hc1, hc2, hT, hA, hBR⟩ := h
  have c0 := hb.cell 0
  have f0 := hb.fz 0
  simp at c0
  have hf := bslice_front A l.length cap k (by omega) hc2
  obtain ⟨A', hbk, hT', hs'⟩ := bslice_rest A l.length cap k hk hc1
  have hd : decide ((l.length : Int) < (k : Int)) = false := decide_eq_false (by omega)
  have HB := Lib.hid hb
  have HA := Lib.hid hA
  have hA' : Hid (∀ ad, A' = some ad → ad.spot = none ∧ ad.block < B) := Lib.hid (by
    intro ad e
    obtain ⟨ad0, e0, e1, e2⟩ := hs' ad e
    have := hA ad0 e0
    exact ⟨e2 this.1, by rw [e1]; exact this.2⟩)
  have HT := Lib.hid hT
  have HT' := Lib.hid (hT' w l hT)
  clear hb hA hs' hT' hT
  go_enter Try.func31, Try.ntmps31
  go_wp2
  have ht : Tch (fun b => b = R) w (w.setCell ⟨R, 0, none⟩ (.slice A' (l.length - k) (cap - k))) := Tch.set w R 0 _ rfl
  have z := HB.out.set 0 (.slice A' (l.length - k) (cap - k))
  refine bodyPost_ret (v := .tuple #[.slice A k cap, .bool true]) ?_ rfl ⟨A, cap, rfl, by omega, hc2, (HT.out.front hk).tch ht (fun ad e e2 => by have := (HA.out ad e).2; omega), ⟨A', cap - k, by rw [List.length_drop]; exact z, by rw [List.length_drop]; omega, by omega, by rw [List.length_drop]; exact HT'.out.tch ht (fun ad e e2 => by have := (hA'.out ad e).2; omega), hA'.out, hBR⟩, HA.out, ht⟩
  simp [results, Try.results31, go_sem]
set_option maxHeartbeats 1000000 in
theorem piece_no (R B k : Nat) (l : List UInt8) (w : World) (h : Rd w R B l) (hk : l.length < k) :
    Calls Try.prog 31 #[.pointer (some ⟨R, 0, none⟩), .int .i64 (k : Int)] w fun e w' => e = .returned (.tuple #[.slice none 0 0, .bool false]) ∧ w = w' := by
  obtain ⟨A, cap, hb, hc1, hc2, hT, hA, hBR⟩ := h
  have c0 := hb.cell 0
  simp at c0
  have hd : decide ((l.length : Int) < (k : Int)) = true := decide_eq_true (by omega)
  go_enter Try.func31, Try.ntmps31
  go_wp2
  refine bodyPost_ret (v := .tuple #[.slice none 0 0, .bool false]) ?_ rfl ⟨rfl, rfl⟩
  simp [results, Try.results31, go_sem]

/-- Bytes at the end of eight. -/
def pad8 (p : List UInt8) : List UInt8 := List.replicate (8 - p.length) 0 ++ p
theorem pad8_len (p : List UInt8) (h : p.length ≤ 8) : (pad8 p).length = 8 := by simp [pad8]; omega
theorem vl_pad8 (p : List UInt8) : vl (pad8 p) = vl p := vl_zeros p _
theorem pad8_nil : agB (pad8 []) = #[.int .u8 0, .int .u8 0, .int .u8 0, .int .u8 0, .int .u8 0, .int .u8 0, .int .u8 0, .int .u8 0] := by
  simp [pad8, agB, bvs, List.replicate]
theorem pad_copy (p : List UInt8) (h : p.length ≤ 8) : ((agB (pad8 [])).toList.take (8 - p.length) ++ (bvs p ++ (agB (pad8 [])).toList.drop (8 - p.length + (bvs p).length))).toArray = agB (pad8 p) := by
  have e : (agB (pad8 [])).toList = List.replicate 8 (.int .u8 0) := by rw [pad8_nil]; rfl
  rw [e, bvs_length, List.take_replicate, List.drop_replicate, show 8 - (8 - p.length + p.length) = 0 by omega, List.replicate_zero, List.append_nil, Nat.min_eq_left (by omega)]
  unfold agB pad8
  rw [bvs_append]
  congr 2
  simp [bvs]
set_option maxHeartbeats 1000000 in
theorem number_yes (R B k : Nat) (l : List UInt8) (w : World) (h : Rd w R B l) (hk : k ≤ l.length) (hk8 : k ≤ 8) (hk0 : 0 < k) :
    Calls Try.prog 32 #[.pointer (some ⟨R, 0, none⟩), .int .i64 (k : Int)] w fun e w' => e = .returned (.tuple #[.int .u64 (vl (l.take k) : Int), .bool true]) ∧ Rd w' R B (l.drop k) ∧ Tch (fun b => b = R) w w' := by
  have k0 := Lib.hid ((Below.refl _ w).alloc (Nat.le_refl _) (.cells (agB (pad8 [])) Tnb))
  have q0 := Lib.hid (Blk.new w (agB (pad8 [])) Tnb)
  have r0 := Lib.hid (h.below k0.out)
  obtain ⟨hBR, hRl⟩ := h.lt
  rw [pad8_nil] at k0 q0 r0
  go_enter Try.func32, Try.ntmps32
  go_upto_region 2 with fail
  generalize w.alloc (.cells #[.int .u8 0, .int .u8 0, .int .u8 0, .int .u8 0, .int .u8 0, .int .u8 0, .int .u8 0, .int .u8 0] Tnb) = W at *
  rw [← pad8_nil] at q0
  go_upto_region 3 with (go_at_call 31; refine (piece_yes R B k l _ r0.out hk).mono ?_; rintro e w1 ⟨A, c, rfl, hc1, hc2, T1, r1, hA, t1⟩)
  obtain ⟨b, off, rfl, hbl, hbc⟩ := T1.2 hk0
  have hlk : (l.take k).length = k := T1.1
  have hsl : ∀ (W : World), (Instr.sliceAt Tnb (.pointer (some ⟨w.heap.size, 0, none⟩)) (some (.int .i64 ((8 - k : Nat) : Int))) none none).run Try.prog W = .ok (.slice (some ⟨w.heap.size, 8 - k, none⟩) k k) W := fun W => by
    have hal : Try.prog.arrayLen Tnb = 8 := by kernel_rfl
    rw [run_sliceAt_array_l W Tnb ⟨w.heap.size, 0, none⟩ (by kernel_rfl) .i64 _ (by omega) (by rw [hal]; omega)]
    rw [hal]
    go_simp
    omega
  have hk8' : (8 : Int) - (k : Int) = ((8 - k : Nat) : Int) := by omega
  have q1 : Blk w1 w.heap.size (agB (pad8 [])) Tnb := t1.blk q0.out (fun e => by omega)
  have hpc := pad_copy (l.take k) (by omega)
  rw [hlk] at hpc
  have V := Lib.hid (fun W => value_any (pad8 (l.take k)) W (pad8_len _ (by omega)))
  rw [vl_pad8] at V
  have hcN : (bvs (l.take k)).length = Nat.min k k := by rw [bvs_length, hlk]; simp
  have hcF : 8 - k + (bvs (l.take k)).length ≤ (agB (pad8 [])).size := by rw [bvs_length, hlk, agB_size, pad8_len _ (by simp)]; omega
  have hcS := txt_news T1
  go_upto_region 4 with (refine wpList_copy_own rfl _ _ _ _ rfl 5 Try.underlying26 (by kernel_rfl) w.heap.size (8 - k) k k ⟨b, off, none⟩ k c rfl rfl (agB (pad8 [])) Tnb q1 (bvs (l.take k)) hcN hcS hcF (bvs_one _) ?_)
  rw [hpc]
  have q2 := q1.setRow (agB (pad8 (l.take k)))
  have t2 : Tch (fun b => b = w.heap.size) w1 (w1.setRow w.heap.size (agB (pad8 (l.take k)))) :=
    ⟨rfl, rfl, rfl, by simp [World.setRow], fun j hj hn => setRow_other w1 _ j _ hn⟩
  have r2 := r1.tch t2 (by omega) (fun j hj e => by omega)
  have t3 : Tch (fun b => b = R) w (w1.setRow w.heap.size (agB (pad8 (l.take k)))) := (Tch.of k0.out |>.trans t1).next (t2.mono (fun j _ e => .inr (by omega)))
  have E0 := agB_info (pad8 (l.take k)) (pad8_len _ (by omega))
  generalize w1.setRow w.heap.size (agB (pad8 (l.take k))) = W3 at *
  replace E0 := Lib.hid E0
  replace r2 := Lib.hid r2
  replace t3 := Lib.hid t3
  clear hcN hcF hcS T1 r1 t1 q1 t2 hpc hsl k0 q0 r0 hbc
  go_wp2_with (first
    | (refine wpList_load_row rfl Tnb _ rfl w.heap.size rfl Tnb (agB (pad8 (l.take k))) (0, 0) _ q2 Try.underlying68 rfl E0.out ?_)
    | (go_at_call 37; refine (V.out _).mono ?_; rintro e w4 ⟨rfl, g4⟩))
  refine bodyPost_ret (v := .tuple #[.int .u64 (vl (l.take k) : Int), .bool true]) ?_ rfl ⟨rfl, r2.out.below g4, tb t3.out g4⟩
  simp [results, Try.results32, go_sem]
set_option maxHeartbeats 1000000 in
theorem number_no (R B k : Nat) (l : List UInt8) (w : World) (h : Rd w R B l) (hk : l.length < k) (hk8 : k ≤ 8) :
    Calls Try.prog 32 #[.pointer (some ⟨R, 0, none⟩), .int .i64 (k : Int)] w fun e w' => e = .returned (.tuple #[.int .u64 0, .bool false]) ∧ Below w.heap.size w w' := by
  have k0 := Lib.hid ((Below.refl _ w).alloc (Nat.le_refl _) (.cells (agB (pad8 [])) Tnb))
  have q0 := Lib.hid (Blk.new w (agB (pad8 [])) Tnb)
  have r0 := Lib.hid (h.below k0.out)
  obtain ⟨hBR, hRl⟩ := h.lt
  rw [pad8_nil] at k0 q0 r0
  go_enter Try.func32, Try.ntmps32
  go_upto_region 2 with fail
  generalize w.alloc (.cells #[.int .u8 0, .int .u8 0, .int .u8 0, .int .u8 0, .int .u8 0, .int .u8 0, .int .u8 0, .int .u8 0] Tnb) = W at *
  rw [← pad8_nil] at q0
  have q1 := q0.out
  have hsl : ∀ (W : World), (Instr.sliceAt Tnb (.pointer (some ⟨w.heap.size, 0, none⟩)) (some (.int .i64 ((8 - k : Nat) : Int))) none none).run Try.prog W = .ok (.slice (some ⟨w.heap.size, 8 - k, none⟩) k k) W := fun W => by
    have hal : Try.prog.arrayLen Tnb = 8 := by kernel_rfl
    rw [run_sliceAt_array_l W Tnb ⟨w.heap.size, 0, none⟩ (by kernel_rfl) .i64 _ (by omega) (by rw [hal]; omega)]
    rw [hal]
    go_simp
    omega
  have hk8' : (8 : Int) - (k : Int) = ((8 - k : Nat) : Int) := by omega
  have V := Lib.hid (fun W => value_any (pad8 []) W (pad8_len _ (by simp)))
  rw [vl_pad8, vl_nil] at V
  have E0 := Lib.hid (agB_info (pad8 []) (pad8_len _ (by simp)))
  go_wp2_with (first
    | (go_at_call 31; refine (piece_no R B k l _ r0.out hk).mono ?_; rintro e w1 ⟨rfl, rfl⟩)
    | (refine wpList_copy_nothing rfl _ _ _ _ rfl 5 Try.underlying26 (by kernel_rfl) (some ⟨w.heap.size, 8 - k, none⟩) none k k 0 0 rfl rfl (by simp) ?_)
    | (refine wpList_load_row rfl Tnb _ rfl w.heap.size rfl Tnb (agB (pad8 [])) (0, 0) _ q1 Try.underlying68 rfl E0.out ?_)
    | (go_at_call 37; refine (V.out _).mono ?_; rintro e w4 ⟨rfl, g4⟩))
  refine bodyPost_ret (v := .tuple #[.int .u64 0, .bool false]) ?_ rfl ⟨rfl, kbq k0.out g4⟩
  simp [results, Try.results32, go_sem]

/-- A label that is jumped to ahead of what stands behind it. -/
theorem wp_scope_label {P : Program} {a : Act} {w : World} {Q : Exit → Act → World → Prop} {c rest : Code} (l : Nat) (hf : findLabel c l = some (Code.skip.seq rest))
    (first : c.wp P (Exit.jump l (fun a w => rest.wp P (Exit.jump l (fun _ _ => False) Q) a w) Q) a w) : (Code.scope c).wp P Q a w := by
  refine wp_scope_jumps l (fun a w => rest.wp P (Exit.jump l (fun _ _ => False) Q) a w) (fun _ _ => 0) hf first (fun a w h => wp_seq (wp_skip (Code.wp_mono ?_ h)))
  intro e a' w' h'
  cases e <;> first | exact h' | exact h'.2.elim

set_option maxHeartbeats 1000000 in
theorem entry_none (R B : Nat)  (w : World) (h : Rd w R B []) :
    Calls Try.prog 34 #[.pointer (some ⟨R, 0, none⟩)] w fun e w' => e = .returned (.tuple #[.agg #[.string ⟨#[]⟩, .int .u64 0], .bool false]) ∧ Tch (fun b => b = R) w w' := by
  have k0 := Lib.hid ((Below.refl _ w).alloc (Nat.le_refl _) (.cells #[.string ⟨#[]⟩, .int .u64 0] Tae))
  have q0 := Lib.hid (Blk.new w #[.string ⟨#[]⟩, .int .u64 0] Tae)
  have r0 := Lib.hid (h.below k0.out)
  obtain ⟨hBR, hRl⟩ := h.lt
  clear h
  go_enter Try.func34, Try.ntmps34
  go_wp2_with fail
  generalize w.alloc (.cells #[.string ⟨#[]⟩, .int .u64 0] Tae) = W at *
  refine wp_scope_label 0 rfl ?_
  go_wp2_with (first
    | (go_at_call 32; refine (number_no R B 1 [] _ r0.out (by simp) (by decide)).mono ?_; rintro e w1 ⟨rfl, g1⟩))
  have qF := q0.out.below g1
  have tF : Tch (fun b => b = R) W w1 := Tch.of g1
  have e0 := qF.cell 0
  have e1 := qF.cell 1
  have f0 := qF.fz 0
  have f1 := qF.fz 1
  simp at e0 e1
  have QF := Lib.hid qF
  have TF := Lib.hid tF
  clear qF tF
  go_step3
  refine ⟨rfl, ?_⟩
  go_wp2
  simp only [Exit.jump]
  have z := (QF.out.set 0 (.string ⟨#[]⟩)).set 1 (.int .u64 0)
  have y0 := z.cell 0
  have y1 := z.cell 1
  simp at y0 y1
  refine bodyPost_ret (v := .tuple #[.agg #[.string ⟨#[]⟩, .int .u64 0], .bool false]) ?_ rfl ⟨rfl, ((Tch.of k0.out).trans TF.out).next (tset (tset (Tch.refl _ _) (.inl (.inr (by omega)))) (.inl (.inr (by omega))))⟩
  simp [results, Try.f34, go_sem, y0, y1]
set_option maxHeartbeats 1000000 in
theorem entry_nokey (R B : Nat) (c : UInt8) (t : List UInt8) (w : World) (h : Rd w R B (c :: t)) (hs : t.length < c.toNat) :
    Calls Try.prog 34 #[.pointer (some ⟨R, 0, none⟩)] w fun e w' => e = .returned (.tuple #[.agg #[.string ⟨#[]⟩, .int .u64 0], .bool false]) ∧ Tch (fun b => b = R) w w' := by
  have k0 := Lib.hid ((Below.refl _ w).alloc (Nat.le_refl _) (.cells #[.string ⟨#[]⟩, .int .u64 0] Tae))
  have q0 := Lib.hid (Blk.new w #[.string ⟨#[]⟩, .int .u64 0] Tae)
  have r0 := Lib.hid (h.below k0.out)
  obtain ⟨hBR, hRl⟩ := h.lt
  clear h
  go_enter Try.func34, Try.ntmps34
  go_wp2_with fail
  generalize w.alloc (.cells #[.string ⟨#[]⟩, .int .u64 0] Tae) = W at *
  refine wp_scope_label 0 rfl ?_
  have hc := c.toNat_lt
  have hw : IntKind.i64.wrap (c.toNat : Int) = (c.toNat : Int) := by rw [IntKind.wrap_i64]; omega
  have N1 := Lib.hid (number_yes R B 1 (c :: t) W r0.out (by simp) (by decide) (by decide))
  rw [show vl ((c :: t).take 1) = c.toNat by simp [vl], show (c :: t).drop 1 = t from rfl] at N1
  go_wp2_with (first
    | (go_at_call 32; refine N1.out.mono ?_; rintro e w1 ⟨rfl, r1, t1⟩)
    | (go_at_call 31; refine (piece_no R B c.toNat t _ r1 hs).mono ?_; rintro e w2 ⟨rfl, rfl⟩))
  have qF := t1.blk q0.out (fun e => by omega)
  have tF := t1
  have e0 := qF.cell 0
  have e1 := qF.cell 1
  have f0 := qF.fz 0
  have f1 := qF.fz 1
  simp at e0 e1
  have QF := Lib.hid qF
  have TF := Lib.hid tF
  clear qF tF
  go_step3
  refine ⟨rfl, ?_⟩
  go_wp2
  simp only [Exit.jump]
  have z := (QF.out.set 0 (.string ⟨#[]⟩)).set 1 (.int .u64 0)
  have y0 := z.cell 0
  have y1 := z.cell 1
  simp at y0 y1
  refine bodyPost_ret (v := .tuple #[.agg #[.string ⟨#[]⟩, .int .u64 0], .bool false]) ?_ rfl ⟨rfl, ((Tch.of k0.out).trans TF.out).next (tset (tset (Tch.refl _ _) (.inl (.inr (by omega)))) (.inl (.inr (by omega))))⟩
  simp [results, Try.f34, go_sem, y0, y1]
set_option maxHeartbeats 1000000 in
theorem entry_nountil (R B : Nat) (c : UInt8) (t : List UInt8) (w : World) (h : Rd w R B (c :: t)) (hs : c.toNat ≤ t.length) (hs8 : t.length < c.toNat + 8) :
    Calls Try.prog 34 #[.pointer (some ⟨R, 0, none⟩)] w fun e w' => e = .returned (.tuple #[.agg #[.string ⟨#[]⟩, .int .u64 0], .bool false]) ∧ Tch (fun b => b = R) w w' := by
  have k0 := Lib.hid ((Below.refl _ w).alloc (Nat.le_refl _) (.cells #[.string ⟨#[]⟩, .int .u64 0] Tae))
  have q0 := Lib.hid (Blk.new w #[.string ⟨#[]⟩, .int .u64 0] Tae)
  have r0 := Lib.hid (h.below k0.out)
  obtain ⟨hBR, hRl⟩ := h.lt
  clear h
  go_enter Try.func34, Try.ntmps34
  go_wp2_with fail
  generalize w.alloc (.cells #[.string ⟨#[]⟩, .int .u64 0] Tae) = W at *
  refine wp_scope_label 0 rfl ?_
  have hc := c.toNat_lt
  have hw : IntKind.i64.wrap (c.toNat : Int) = (c.toNat : Int) := by rw [IntKind.wrap_i64]; omega
  have N1 := Lib.hid (number_yes R B 1 (c :: t) W r0.out (by simp) (by decide) (by decide))
  rw [show vl ((c :: t).take 1) = c.toNat by simp [vl], show (c :: t).drop 1 = t from rfl, show ((1 : Nat) : Int) = 1 from rfl] at N1
  have N8 := Lib.hid (fun W' (r2 : Rd W' R B (t.drop c.toNat)) => number_no R B 8 (t.drop c.toNat) W' r2 (by rw [List.length_drop]; omega) (by decide))
  rw [show ((8 : Nat) : Int) = 8 from rfl] at N8
  go_wp2_with (first
    | (go_at_call 32; (with_reducible refine N1.out.mono ?_); rintro e w1 ⟨rfl, r1, t1⟩)
    | (go_at_call 31; refine (piece_yes R B c.toNat t _ r1 hs).mono ?_; rintro e w2 ⟨A, cp, rfl, _, _, T2, r2, _, t2⟩)
    | (go_at_call 32; (with_reducible refine (N8.out _ r2).mono ?_); rintro e w3 ⟨rfl, g3⟩))
  have qF := (t2.blk (t1.blk q0.out (fun e => by omega)) (fun e => by omega)).below g3
  have tF := (t1.trans t2).trans (Tch.of g3)
  have e0 := qF.cell 0
  have e1 := qF.cell 1
  have f0 := qF.fz 0
  have f1 := qF.fz 1
  simp at e0 e1
  have QF := Lib.hid qF
  have TF := Lib.hid tF
  clear qF tF
  go_step3
  refine ⟨rfl, ?_⟩
  go_wp2
  simp only [Exit.jump]
  have z := (QF.out.set 0 (.string ⟨#[]⟩)).set 1 (.int .u64 0)
  have y0 := z.cell 0
  have y1 := z.cell 1
  simp at y0 y1
  refine bodyPost_ret (v := .tuple #[.agg #[.string ⟨#[]⟩, .int .u64 0], .bool false]) ?_ rfl ⟨rfl, ((Tch.of k0.out).trans TF.out).next (tset (tset (Tch.refl _ _) (.inl (.inr (by omega)))) (.inl (.inr (by omega))))⟩
  simp [results, Try.f34, go_sem, y0, y1]
set_option maxHeartbeats 1000000 in
theorem entry_yes (R B : Nat) (c : UInt8) (t : List UInt8) (w : World) (h : Rd w R B (c :: t)) (hs : c.toNat + 8 ≤ t.length) :
    Calls Try.prog 34 #[.pointer (some ⟨R, 0, none⟩)] w fun e w' => e = .returned (.tuple #[.agg #[.string (str (t.take c.toNat)), .int .u64 (vl ((t.drop c.toNat).take 8) : Int)], .bool true]) ∧ Rd w' R B (t.drop (c.toNat + 8)) ∧ Tch (fun b => b = R) w w' := by
  have k0 := Lib.hid ((Below.refl _ w).alloc (Nat.le_refl _) (.cells #[.string ⟨#[]⟩, .int .u64 0] Tae))
  have q0 := Lib.hid (Blk.new w #[.string ⟨#[]⟩, .int .u64 0] Tae)
  have r0 := Lib.hid (h.below k0.out)
  obtain ⟨hBR, hRl⟩ := h.lt
  clear h
  go_enter Try.func34, Try.ntmps34
  go_wp2_with fail
  generalize w.alloc (.cells #[.string ⟨#[]⟩, .int .u64 0] Tae) = W at *
  refine wp_scope_label 0 rfl ?_
  have hc := c.toNat_lt
  have hw : IntKind.i64.wrap (c.toNat : Int) = (c.toNat : Int) := by rw [IntKind.wrap_i64]; omega
  have N1 := Lib.hid (number_yes R B 1 (c :: t) W r0.out (by simp) (by decide) (by decide))
  rw [show vl ((c :: t).take 1) = c.toNat by simp [vl], show (c :: t).drop 1 = t from rfl, show ((1 : Nat) : Int) = 1 from rfl] at N1
  have N8 := Lib.hid (fun W' (r2 : Rd W' R B (t.drop c.toNat)) => number_yes R B 8 (t.drop c.toNat) W' r2 (by rw [List.length_drop]; omega) (by decide) (by decide))
  rw [show ((8 : Nat) : Int) = 8 from rfl, List.drop_drop] at N8
  have CK := Lib.hid (fun W' => clone_any (str (t.take c.toNat)) W' (by rw [← list_size]; show (t.take c.toNat).length ≤ _; rw [List.length_take]; omega))
  generalize hK : t.take c.toNat = key at *
  generalize hU : vl ((t.drop c.toNat).take 8) = un at *
  go_wp2_with (first
    | (go_at_call 32; (with_reducible refine N1.out.mono ?_); rintro e w1 ⟨rfl, r1, t1⟩)
    | (go_at_call 31; refine (piece_yes R B c.toNat t _ r1 (by omega)).mono ?_; rintro e w2 ⟨A, cp, rfl, _, _, T2, r2, hA2, t2⟩)
    | (go_at_call 32; (with_reducible refine (N8.out _ r2).mono ?_); rintro e w3 ⟨rfl, r3, t3⟩; have T3 := T2.tch t3 (fun ad e e2 => by have := (hA2 ad e).2; omega); rw [hK] at T3; have cv := all_str T3 cp; refine stopHere ?_))
  unfold Stop
  have qF := t3.blk (t2.blk (t1.blk q0.out (fun e => by omega)) (fun e => by omega)) (fun e => by omega)
  have QF := Lib.hid qF
  have T13 := Lib.hid (((Tch.of k0.out).trans t1).trans (t2.trans t3))
  have R3 := Lib.hid r3
  clear qF t1 t2 t3 r1 r2 r3 T2 T3 hA2 N1 N8
  go_wp2_with (first
    | (go_at_call 38; refine (CK.out _).mono ?_; rintro e w4 ⟨rfl, g4⟩; have q4 := QF.out.below g4; have e0 := q4.cell 0; have e1 := q4.cell 1; have f0 := q4.fz 0; have f1 := q4.fz 1; simp at e0 e1; replace q4 := Lib.hid q4))
  simp only [Exit.jump]
  have z := (q4.out.set 0 (.string (str key))).set 1 (.int .u64 (un : Int))
  have y0 := z.cell 0
  have y1 := z.cell 1
  simp at y0 y1
  have tf : Tch (fun b => b = w.heap.size) w4 ((w4.setCell ⟨w.heap.size, 0, none⟩ (.string (str key))).setCell ⟨w.heap.size, 1, none⟩ (.int .u64 (un : Int))) := tset (tset (Tch.refl _ _) (.inl rfl)) (.inl rfl)
  refine bodyPost_ret (v := .tuple #[.agg #[.string (str key), .int .u64 (un : Int)], .bool true]) ?_ rfl ⟨by rw [hK, hU], (R3.out.below g4).tch tf (by omega) (fun k hk e => by omega), (tb T13.out g4).next (tf.mono (fun k _ e => .inr (by omega)))⟩
  simp [results, Try.f34, go_sem, y0, y1]

theorem room_any (R B m : Nat) (l : List UInt8) (w : World) (h : Rd w R B l) (hm : m < 18446744073709551616) :
    Calls Try.prog 33 #[.pointer (some ⟨R, 0, none⟩), .int .u64 (m : Int)] w fun e w' => e = .returned (.int .u64 ((min m (l.length / 10) : Nat) : Int)) ∧ w = w' := by
  obtain ⟨A, cap, hb, hc1, hc2, hT, hA⟩ := h
  have c0 := hb.cell 0
  simp at c0
  go_enter Try.func33, Try.ntmps33
  go_wp2
  go_ret
  refine ⟨?_, rfl⟩
  rw [show (min (m : Int) ((l.length : Int) / 10)) = ((min m (l.length / 10) : Nat) : Int) by omega]
  rfl
end Go.Proofs.Ytbejkcdaefkibaa.Wd
