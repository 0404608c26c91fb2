/- What bytes are with one of them bent (tollerlaw16.Bent): some bytes, one more at most; no conditions but those that each names. -/
import Derived.Test.YtbejkcdaefkibaaPacB
import Derived.Laws.BitsAllLaws
namespace Go.Proofs.Ytbejkcdaefkibaa.Wd
open Go Go.RowKit Go.Shelf Go.Deep Go.Lib
set_option linter.unusedVariables false
set_option maxRecDepth 100000

theorem step_app_byt {ops : Array Oper} {o : Oper} {a : Act} {w : World} {K : Act → World → Prop} {Q : Exit → Act → World → Prop} {E : Prop} (hg : o.guard = none) (s x : Operand)
    (ho : o.op = .call { callee := .builtin .append, args := #[s, x], argTypes := #[26, 26] })
    (base : Nat) (v : Value) (acc : List UInt8) (hs : a.eval s = v) (hown : BRow w base v acc) (ad : Addr) (m c : Nat) (l : List UInt8) (hx : a.eval x = .slice (some ad) m c) (hT : Txt w (some ad) m l)
    (hsz : acc.length + m ≤ 1000000) (hbase : base ≤ w.heap.size)
    (h : ∀ v' w', BRow w' base v' (acc ++ l) → w.grownBy w' v.ownBlock → K (a.put o.dst v') w') :
    if Region.wanted o (yielded ops a.tmps) = true then Oper.wp Try.prog o a w K Q else E := by
  have hw : Region.wanted o (yielded ops a.tmps) = true := by simp [Region.wanted, hg]
  rw [if_pos hw]
  obtain ⟨i0, hz, hz0, hz1, hz2⟩ := info_parts infoByte
  have hnews : ∀ j u, (bvs l)[j]? = some u → w.cell? (ad.add j) = some u := by
    by_cases hm : 0 < m
    · obtain ⟨b', off', e, hb, hc⟩ := hT.2 hm
      simp only [Option.some.injEq] at e
      subst e
      exact txt_news hT
    · have hl : l = [] := List.eq_nil_of_length_eq_zero (by rw [hT.1]; omega)
      subst hl
      intro j u hu
      simp [bvs] at hu
  refine wp_append_own w s x 26 ho base 5 i0 (.int .u8 0) 1 1 Try.underlying26 hz hz0 hz1 hz2 rfl (by decide) v acc.length (bvs acc) hs hown ad m c (bvs l) hx (by rw [bvs_length, hT.1]; omega) hnews (bvs_one l) (by unfold maxLen; omega) (by omega) hbase ?_
  intro v' w' own grow _
  refine h v' w' ?_ grow
  unfold BRow
  rw [bvs_append, List.length_append, hT.1]
  exact own
/-- The front of a row is a row. -/
theorem BRow.cut {w : World} {base g n c : Nat} {l : List UInt8} (h : BRow w base (.slice (some ⟨g, 0, none⟩) n c) l) (hn : n = l.length) (i : Nat) (hi : i ≤ n) : BRow w base (.slice (some ⟨g, 0, none⟩) i c) (l.take i) := by
  rcases h.2 with ⟨e, _⟩ | ⟨g', cap, cur, e, hb, hg, h1, h2, h3, h4⟩
  · cases e
  · simp only [Value.slice.injEq, Option.some.injEq, Addr.mk.injEq] at e
    obtain ⟨⟨rfl, _, _⟩, _, rfl⟩ := e
    have hl : (l.take i).length = i := by rw [List.length_take]; omega
    refine ⟨by rw [bvs_length, hl, Nat.mul_one], .inr ⟨g, c, cur, by rw [hl], hb, hg, by rw [hl]; omega, h2, h3, ?_⟩⟩
    rw [hl, Nat.mul_one]
    rw [Nat.mul_one] at h4
    have e2 : (cur.toList.take l.length).take i = (bvs l).take i := by rw [h4]
    rw [List.take_take, Nat.min_eq_left (by omega)] at e2
    rw [e2, bvs, bvs, List.map_take]
theorem BRow.put {w : World} {base g n c : Nat} {l : List UInt8} (h : BRow w base (.slice (some ⟨g, 0, none⟩) n c) l) (hn : n = l.length) (i : Nat) (y : UInt8) : BRow (w.setCell ⟨g, i, none⟩ (.int .u8 (y.toNat : Int))) base (.slice (some ⟨g, 0, none⟩) n c) (l.set i y) := by
  subst hn
  have z := World.ownsRow.stored h i (.int .u8 (y.toNat : Int))
  unfold BRow
  rw [List.length_set, bvs, List.map_set]
  exact z.1
theorem xor_u8 (a b : Nat) (ha : a < 256) (hb : b < 256) : ∃ y : UInt8, bits .xor .u8 (a : Int) (b : Int) = (y.toNat : Int) := by
  have hx : a ^^^ b < 2 ^ 8 := Nat.xor_lt_two_pow (by omega) (by omega)
  refine ⟨UInt8.ofNat (a ^^^ b), ?_⟩
  rw [u8_xor_nat a b ha hb]
  rw [show (UInt8.ofNat (a ^^^ b)).toNat = (a ^^^ b) % 256 from rfl]
  omega
/-- Some bytes, so many at most. -/
def Some8 (w : World) (A : Option Addr) (n m : Nat) : Prop := n ≤ m ∧ ∃ l, Txt w A n l
set_option maxHeartbeats 4000000 in
theorem bent_any (A : Option Addr) (n cap : Nat) (l : List UInt8) (a x h : Nat) (w : World) (hT : Txt w A n l) (hc1 : n ≤ cap) (hc2 : cap ≤ 9223372036854775807) (hA0 : A = none → cap = 0) (hn : n ≤ 10000) (ha : a < 65536) (hx : x < 256) (hh : h < 256) :
    Calls Try.prog 10 #[.slice A n cap, .int .u16 (a : Int), .int .u8 (x : Int), .int .u8 (h : Int)] w fun e w' => ∃ A' n' c', e = .returned (.slice A' n' c') ∧ n' ≤ c' ∧ c' ≤ 9223372036854775807 ∧ Hid (Some8 w' A' n' (n + 1)) ∧ (A' = none → c' = 0) ∧ Below w.heap.size w w' := by
  have hl : l.length = n := hT.1
  have HT := Lib.hid hT
  have HA := Lib.hid hA0
  clear hT hA0
  go_enter Try.func10, Try.ntmps10
  go_upto_region 3 with (refine wpList_app_txt _ rfl _ _ rfl w.heap.size _ [] rfl (BRow.nil _ _) A n cap l rfl HT.out HA.out (by simp; omega) (Nat.le_refl _) ?_; intro v1 w1 o1 g1)
  rw [List.nil_append] at o1
  have B1 := Lib.hid ((Gr.row (BRow.nil w w.heap.size) (Nat.le_refl _) g1).below)
  have hs1 := g1.size
  clear g1
  by_cases h0 : n = 0
  · subst h0
    obtain ⟨A1, c1, rfl, _, _, _, _⟩ := o1.form2
    rw [hl]
    have T0 := Lib.hid (txt_one w1 (UInt8.ofNat x))
    rw [show ((UInt8.ofNat x).toNat : Int) = (x : Int) by show ((x % 256 : Nat) : Int) = _; omega] at T0
    clear o1
    go_wp2
    go_ret
    exact ⟨_, _, _, rfl, Nat.le_refl _, by omega, Lib.hid ⟨by omega, _, T0.out⟩, (fun e => by cases e), B1.out.alloc hs1 _⟩
  · obtain ⟨A1, c1, rfl, ⟨h11, h12⟩, T1, h10, _⟩ := o1.form2
    rw [hl] at o1 h11 T1 ⊢
    obtain ⟨g, off, rfl, hgl, hcs⟩ := T1.2 (by omega)
    have hoff : off = 0 := by
      rcases o1.2 with ⟨e, _⟩ | ⟨g', cap', cur, e, _⟩
      · cases e
      · simp only [Value.slice.injEq, Option.some.injEq, Addr.mk.injEq] at e
        exact e.1.2.1
    subst hoff
    obtain ⟨I, hI⟩ : ∃ I, I = a % n := ⟨_, rfl⟩
    have hti : (a : Int).tmod (n : Int) = (I : Int) := by rw [hI]; exact (Int.ofNat_tmod a n).symm
    have hti2 : (a : Int) % (n : Int) = (I : Int) := by rw [hI]; exact (Int.natCast_emod a n).symm
    have hIn : I < n := by rw [hI]; exact Nat.mod_lt _ (by omega)
    have hne : ((n : Int) == 0) = false := beq_eq_false_iff_ne.2 (by omega)
    have O1 := Lib.hid o1
    have T1' := Lib.hid T1
    have hcI := hcs I hIn
    rw [Nat.zero_add] at hcI
    have hf := bslice_front (some ⟨g, 0, none⟩) n c1 I (by omega) h12
    have HI := Lib.hid hI
    obtain ⟨hl', hlb⟩ : ∃ hb : Nat, (l.getD I 0).toNat = hb ∧ hb < 256 := ⟨_, rfl, (l.getD I 0).toNat_lt⟩
    rw [hlb.1] at hcI
    have hlb2 := hlb.2
    have fz : w1.frozen? ⟨g, I, none⟩ = false := by
      have z := o1
      unfold BRow at z
      rw [hl] at z
      exact World.ownsRow.frozenAt z I
    clear hcs o1 T1 hI hlb
    obtain ⟨k, hk, hk4⟩ : ∃ k : Nat, (h : Int) % 4 = (k : Int) ∧ k < 4 := ⟨h % 4, by omega, by omega⟩
    have hkt : (h : Int).tmod 4 = (k : Int) := by rw [Int.tmod_eq_emod_of_nonneg (by omega)]; exact hk
    rcases (by omega : k = 0 ∨ k = 1 ∨ k = 2 ∨ k = 3) with rfl | rfl | rfl | rfl
    · obtain ⟨y, hy⟩ := xor_u8 hl' x hlb2 hx
      have HP := Lib.hid (O1.out.put hl.symm I y)
      go_wp2
      go_ret
      have z := HP.out
      obtain ⟨A2, c2, e, ⟨h21, h22⟩, T2, _, _⟩ := z.form2
      simp only [Value.slice.injEq] at e
      obtain ⟨rfl, _, rfl⟩ := e
      rw [List.length_set, hl] at T2
      exact ⟨_, _, _, rfl, h11, h12, Lib.hid ⟨by omega, _, T2⟩, (fun e => by cases e), B1.out.trans ((Tch.set (S := fun b => b = g) w1 g I (.int .u8 (y.toNat : Int)) rfl).below hs1 (fun kk e => by subst e; exact (World.ownsRow.lt O1.out kk rfl).1))⟩
    · go_wp2
      go_ret
      exact ⟨_, _, _, rfl, by omega, h12, Lib.hid ⟨by omega, _, T1'.out.front (by omega)⟩, (fun e => by cases e), B1.out⟩
    · have T0 := Lib.hid (txt_one w1 (UInt8.ofNat x))
      rw [show ((UInt8.ofNat x).toNat : Int) = (x : Int) by show ((x % 256 : Nat) : Int) = _; omega] at T0
      have O2 := Lib.hid (O1.out.below ((Below.refl _ w1).alloc (Nat.le_refl _) (.cells #[.int .u8 (x : Int)] 5)))
      have hb2 : w.heap.size ≤ (w1.alloc (.cells #[.int .u8 (x : Int)] 5)).heap.size := by simp; omega
      go_wp2_with (refine wpList_app_bytes _ rfl _ _ rfl w.heap.size _ l rfl O2.out (some ⟨w1.heap.size, 0, none⟩) 1 1 [UInt8.ofNat x] rfl T0.out (fun e => by cases e) (fun ad e => by cases e; rfl) (by omega) hb2 ?_; intro v5 w5 o5 g5; obtain ⟨A5, c5, rfl, ⟨h51, h52⟩, T5, h50, _⟩ := o5.form2)
      go_ret
      have hl5 : (l ++ [UInt8.ofNat x]).length = n + 1 := by rw [List.length_append, hl]; rfl
      rw [hl5] at h51 T5
      exact ⟨_, _, _, rfl, h51, h52, Lib.hid ⟨Nat.le_refl _, _, T5⟩, h50, (B1.out.alloc hs1 _).trans (Gr.row O2.out hb2 g5).below⟩
    · have OC := Lib.hid (O1.out.cut hl.symm I (by omega))
      obtain ⟨A2, hbk, hbT, hbn, hbs⟩ := bslice_back (some ⟨g, 0, none⟩) n c1 (I + 1) (by omega) h11
      obtain ⟨ad, rfl⟩ : ∃ ad, A2 = some ad := by
        cases A2 with
        | none => cases hbn rfl
        | some ad => exact ⟨ad, rfl⟩
      have TB := Lib.hid (hbT w1 l T1'.out)
      have hw1 : IntKind.i64.wrap ((I : Int) + 1) = (I : Int) + 1 := by rw [IntKind.wrap_i64]; omega
      have hbk' : ∀ W : World, (Instr.slice 26 (.slice (some ⟨g, 0, none⟩) n c1) (some (.int .i64 ((I : Int) + 1))) none none).run Try.prog W = .ok (.slice (some ad) (n - (I + 1)) (c1 - (I + 1))) W := fun W => hbk W
      have hlt : (l.take I).length + (n - (I + 1)) ≤ 1000000 := by rw [List.length_take]; omega
      clear hbk hbT hbn hbs
      have kW := B1.out
      have OD : BRow w1.drew w.heap.size (.slice (some ⟨g, 0, none⟩) I c1) (l.take I) := OC.out.below ((Below.refl _ w1).drew)
      have TD : Txt w1.drew (some ad) (n - (I + 1)) (l.drop (I + 1)) := TB.out.below ((Below.refl _ w1).drew)
      have OC' := OC.out
      have TB' := TB.out
      have hs1' : w.heap.size ≤ w1.drew.heap.size := hs1
      obtain ⟨L5, hL5⟩ : ∃ L, L = (l.take I ++ l.drop (I + 1)).length := ⟨_, rfl⟩
      have hL6 : L5 ≤ n + 1 := by rw [hL5, List.length_append, List.length_take, List.length_drop]; omega
      have HL5 := Lib.hid hL5
      clear hL5
      go_upto_region 7 with fail
      go_wp2_with fail
      go_region_held3 (fun w' => Below w.heap.size w w')
        (first | with_reducible exact kW | with_reducible exact kW.drew | with_reducible exact hb3)
        ((refine step_app_byt (by rfl) _ _ (by rfl) w.heap.size (.slice (some ⟨g, 0, none⟩) I c1) (l.take I) (by rfl) (by first | with_reducible exact OC' | with_reducible exact OD) ad (n - (I + 1)) (c1 - (I + 1)) (l.drop (I + 1)) (by rfl) (by first | with_reducible exact TB' | with_reducible exact TD) hlt (by first | with_reducible exact hs1 | with_reducible exact hs1') ?_; intro v5 w5 o5 g5; have hb3 : Below w.heap.size w w5 := (by first | with_reducible exact kW.trans (Gr.row OC' hs1 g5).below | with_reducible exact kW.drew.trans (Gr.row OD hs1' g5).below); obtain ⟨A5, c5, rfl, ⟨h51, h52⟩, T5, h50, _⟩ := o5.form2; rw [← HL5.out] at h51 T5 ⊢; clear o5 g5))
      all_goals
        go_wp2
        go_ret
        exact ⟨_, _, _, rfl, h51, h52, Lib.hid ⟨hL6, _, T5⟩, h50, hb3⟩
end Go.Proofs.Ytbejkcdaefkibaa.Wd
