/- What tollerref12.Order answers, for any policy; no conditions but those that each names. -/
import Derived.Test.YtckaiejbgnhgcaaGreatDoorZQ
import Derived.Laws.AppendOwnNone
namespace Go.Proofs.YtckaiejbgnhgcaaGreatDoor.Wd
open Go Go.RowKit
set_option linter.unusedVariables false
set_option maxRecDepth 100000
theorem ORls.form2 {w : World} {base : Nat} {v : Value} {rs : List Rl} (h : ORls w base v rs) (hx : ∀ r ∈ rs, Okr r) : ∃ A c, v = .slice A rs.length c ∧ (rs.length ≤ c ∧ c ≤ 9223372036854775807) ∧ Rls w A rs.length rs ∧ (A = none → c = 0) ∧ (∀ ad, A = some ad → ad.spot = none) := by
  rcases h.2 with ⟨rfl, h0⟩ | ⟨g, cap, cur, rfl, _⟩
  · have : rs = [] := List.eq_nil_of_length_eq_zero h0
    subst this
    exact ⟨none, 0, rfl, ⟨by simp, by omega⟩, Rls.nil _ _, fun _ => rfl, fun ad e => by cases e⟩
  · obtain ⟨A, c, e, h1, h2, h3⟩ := h.rls hx
    simp only [Value.slice.injEq] at e
    obtain ⟨rfl, _, rfl⟩ := e
    exact ⟨_, _, rfl, ⟨h1, h2⟩, h3, (fun e => by cases e), fun ad e => by cases e; rfl⟩
theorem rslice_front (A : Option Addr) (n cap i : Nat) (hi : i ≤ cap) (hcap : cap ≤ 9223372036854775807) (W : World) : (Instr.slice 26 (.slice A n cap) none (some (.int .i64 (i : Int))) none).run Tryz.prog W = .ok (.slice A i cap) W := by
  obtain ⟨i0, hz, hz0, hz1, hz2⟩ := info_parts zeroRule
  simp [go_sem, Tryz.underlying26, sizeOf, typeInfo, hz, hz1, hi]
/-- What is left of a row of rules, and where it lies. -/
theorem rslice_rest (A : Option Addr) (n cap i : Nat) (hi : i ≤ n) (hn : n ≤ cap) : ∃ A', (∀ W : World, (Instr.slice 26 (.slice A n cap) (some (.int .i64 (i : Int))) none none).run Tryz.prog W = .ok (.slice A' (n - i) (cap - i)) W) ∧
    (∀ (W : World) (l : List Rl), Rls W A n l → Rls W A' (n - i) (l.drop i)) ∧ (A' = none → A = none) ∧ ((∀ ad, A = some ad → ad.spot = none) → ∀ ad, A' = some ad → ad.spot = none) := by
  obtain ⟨i0, hz, hz0, hz1, hz2⟩ := info_parts zeroRule
  refine ⟨if cap = i then A else A.map (·.add (i * 4)), fun W => ?_, fun W l h => ?_, fun h => ?_, fun h ad e => ?_⟩
  · simp [go_sem, Tryz.underlying26, sizeOf, typeInfo, hz, hz1, hi, sliced]
  · refine ⟨by rw [List.length_drop, h.1], fun r hr => h.2.1 r (List.mem_of_mem_drop hr), fun h0 => ?_⟩
    obtain ⟨b, off, rfl, hb, hc⟩ := h.2.2 (by omega)
    rw [if_neg (by omega)]
    refine ⟨b, off + i * 4, by simp [Go.WideShapes.add_plain], hb, fun k hk => ?_⟩
    rw [fnx_drop, Nat.add_assoc, ← Nat.add_mul]
    exact hc (i + k) (by omega)
  · split at h
    · exact h
    · cases A with
      | none => rfl
      | some ad => simp at h
  · split at e
    · exact h ad e
    · cases A with
      | none => simp at e
      | some ad' =>
        have := h ad' rfl
        obtain ⟨b, off, sp⟩ := ad'
        simp at this
        subst this
        simp [Go.WideShapes.add_plain] at e
        rw [← e]
/-- Rules behind rules: any number. -/
theorem wpList_app_rls (w : World) {ops : Array Oper} {rest : List Oper} {o : Oper} {a : Act} {Q : Exit → Act → World → Prop} (hgd : o.guard = none) (s x : Operand)
    (ho : o.op = .call { callee := .builtin .append, args := #[s, x], argTypes := #[26, 26] })
    (base : Nat) (v : Value) (acc : List Rl) (hs : a.eval s = v) (hown : ORls w base v acc) (ao : Option Addr) (m c : Nat) (xs : List Rl) (hx : a.eval x = .slice ao m c) (hT : Rls w ao m xs) (hn : ao = none → c = 0) (ha : ∀ ad, ao = some ad → ad.spot = none)
    (hsz : acc.length + m ≤ 1099511627776) (hbase : base ≤ w.heap.size)
    (h : ∀ v' w', ORls w' base v' (acc ++ xs) → Below base w w' → w.grownBy w' v.ownBlock → wpList Tryz.prog ops Q rest (a.put o.dst v') w') : wpList Tryz.prog ops Q (o :: rest) a w := by
  obtain ⟨i0, hz, hz0, hz1, hz2⟩ := info_parts zeroRule
  cases ao with
  | none =>
    obtain rfl := hn rfl
    have hm : m = 0 := by
      by_cases hm : 0 < m
      · obtain ⟨_, _, e, _⟩ := hT.2.2 hm; cases e
      · omega
    subst hm
    have hl : xs = [] := List.eq_nil_of_length_eq_zero hT.1
    subst hl
    exact wpList_append_own_none hgd s x 26 ho base 37 i0 4 Tryz.underlying26 hz v acc.length (flatR acc) hs hown hx (h _ w (by rw [List.append_nil]; exact hown) (Below.refl _ _) (World.grownBy.refl w _))
  | some ad =>
    obtain ⟨b, off, sp⟩ := ad
    obtain rfl : sp = none := ha _ rfl
    have hnews : ∀ j u, (flatR xs)[j]? = some u → w.cell? ((⟨b, off, none⟩ : Addr).add j) = some u := by
      by_cases hm : 0 < m
      · obtain ⟨b', off', e, hb, hc⟩ := hT.2.2 hm
        simp only [Option.some.injEq, Addr.mk.injEq, and_true] at e
        obtain ⟨rfl, rfl⟩ := e
        exact flatR_news (fun k hk => hc k (by rw [← hT.1]; exact hk))
      · have hl : xs = [] := List.eq_nil_of_length_eq_zero (by rw [hT.1]; omega)
        subst hl
        intro j u hu
        simp [flatR] at hu
    refine wpList_append_own w hgd s x 26 ho base 37 i0 (.agg #[.string ⟨#[]⟩, .int .u64 0, .int .u64 0, .int .u8 0]) 4 40 Tryz.underlying26 hz hz0 hz1 hz2 rfl (by decide) v acc.length (flatR acc) hs hown ⟨b, off, none⟩ m c (flatR xs) hx (by rw [flatR_length, hT.1]) hnews (flatR_one xs) (by unfold maxLen; omega) (by omega) hbase ?_
    intro v' w' own grow _
    refine h v' w' ?_ ((Below.refl base w).grown grow hbase (fun k hk => (World.ownsRow.lt hown k hk).1)) grow
    unfold ORls
    rw [flatR_append, List.length_append, hT.1]
    exact own
theorem PB.under {w w' : World} {P N : Nat} {m : Int} {v : Value} (h : PB w P m v) (g : Below N w w') (hN : P < N) : PB w' P m v :=
  ⟨(g.cell (p := ⟨P, 0, none⟩) hN).trans h.p0, (g.cell (p := ⟨P, 1, none⟩) hN).trans h.p1, (g.frozen (p := ⟨P, 0, none⟩) hN).trans h.f0, (g.frozen (p := ⟨P, 1, none⟩) hN).trans h.f1⟩
theorem ORls.form3 {w : World} {base n : Nat} {v : Value} {rs : List Rl} (h : ORls w base v rs) (hx : ∀ r ∈ rs, Okr r) (hn : rs.length = n) : ∃ A c, v = .slice A n c ∧ (n ≤ c ∧ c ≤ 9223372036854775807) ∧ Rls w A n rs ∧ (A = none → c = 0) ∧ (∀ ad, A = some ad → ad.spot = none) := by
  subst hn; exact h.form2 hx
theorem rls_one (W : World) (x : Rl) (hx : Okr x) : Rls (W.alloc (.cells #[.string x.p, .int .u64 x.e, .int .u64 x.b, .int .u8 x.k] 37)) (some ⟨W.heap.size, 0, none⟩) 1 [x] :=
  ⟨rfl, (fun r hr => by simp only [List.mem_cons, List.not_mem_nil, or_false] at hr; subst hr; exact hx), fun _ => ⟨W.heap.size, 0, rfl, by simp, fun k hk => by
    obtain rfl : k = 0 := by omega
    exact r4_new W x⟩⟩
theorem take_rl (rs : List Rl) (k : Nat) (h : k < rs.length) : rs.take (k + 1) = rs.take k ++ [fnOf rs k] := by rw [fn_at h, List.take_succ_eq_append_getElem h]

set_option maxHeartbeats 2000000 in
theorem rorder12_any (m : Int) (A : Option Addr) (n cap : Nat) (rs : List Rl) (w : World) (h : Rls w A n rs) (hn : n ≤ 1000000000) :
    Calls Tryz.prog 28 #[.agg #[.int .i64 m, .slice A n cap]] w fun e w' => (∃ A' c', e = .returned (.agg #[.int .i64 m, .slice A' n c']) ∧ (∀ b off, A' = some ⟨b, off, none⟩ → w.heap.size ≤ b) ∧ Rls w' A' n (ordL rs)) ∧ Below w.heap.size w w' := by
  have H := Lib.hid h
  have hl := h.1
  clear h
  have kA := (Below.refl _ w).alloc (Nat.le_refl _) (.cells #[.int .i64 m, .slice A n cap] 28)
  have kB := (Below.refl _ (w.alloc (.cells #[.int .i64 m, .slice A n cap] 28))).alloc (Nat.le_refl _) (.cells #[.int .i64 0, .slice none 0 0] 28)
  have hs : (w.alloc (.cells #[.int .i64 m, .slice A n cap] 28)).heap.size = w.heap.size + 1 := by simp
  have hs2 : ((w.alloc (.cells #[.int .i64 m, .slice A n cap] 28)).alloc (.cells #[.int .i64 0, .slice none 0 0] 28)).heap.size = w.heap.size + 2 := by simp
  have P1 := (PB.new w m (.slice A n cap)).below kB
  have P2 := PB.new (w.alloc (.cells #[.int .i64 m, .slice A n cap] 28)) 0 (.slice none 0 0)
  have B1 := kbq kA kB
  rw [hs] at P2
  clear hs kA kB
  go_enter Tryz.func28, Tryz.ntmps28
  go_wp2
  generalize hW : (w.alloc (.cells #[.int .i64 m, .slice A n cap] 28)).alloc (.cells #[.int .i64 0, .slice none 0 0] 28) = W1 at *
  clear hW
  have O1 := ORls.nil W1 (w.heap.size + 2)
  go_loopw [3, 4] (fun v i wr => ∃ k : Nat, i = .int .i64 (k : Int) ∧ k ≤ n ∧ ORls wr (w.heap.size + 2) v (ordL (rs.take k)) ∧ PB wr w.heap.size m (.slice A n cap) ∧ PB wr (w.heap.size + 1) 0 (.slice none 0 0) ∧ Below w.heap.size w wr) (fun _ i _ => n - (intOf i).toNat)
  case atStart => exact ⟨0, rfl, Nat.zero_le _, O1, P1, P2, B1⟩
  case round =>
    clear P1 P2 O1 B1 hs2
    obtain ⟨k, rfl, hk, hO, hP, hR, hB⟩ := hrel
    have i0 : (0 : Int) ≤ (k : Int) := Int.natCast_nonneg _
    have hlk : (ordL (rs.take k)).length = k := by rw [ordL_length, List.length_take]; omega
    have hok : ∀ r ∈ ordL (rs.take k), Okr r := ordL_ok (fun r hr => H.out.2.1 r (List.mem_of_mem_take hr))
    obtain ⟨A3, c3, rfl, ⟨hc1, hc2⟩, hRl, hA0, hAs⟩ := hO.form2 hok
    have HP := Lib.hid hP
    have HR := Lib.hid hR
    have HB := Lib.hid hB
    have HO := Lib.hid hO
    obtain ⟨p0, p1, f0, f1⟩ := hP
    by_cases hkn : k < n
    · have i1 : (k : Int) < (n : Int) := by omega
      have HT := Lib.hid (show ordL (rs.take (k + 1)) = insL (fnOf rs k) (ordL (rs.take k)) by rw [take_rl rs k (by omega), ordL_snoc])
      have hrk := H.out.ok k
      rw [hlk] at hc1 hRl
      have Hxx : Hid (∀ W, Below w.heap.size w W → ∃ b off, A = some ⟨b, off, none⟩ ∧ R4 W b (off + k * 4) (fnOf rs k)) := Lib.hid (fun W g => by
        obtain ⟨b, off, e, hb, hcl⟩ := (H.out.below g).2.2 (by omega)
        exact ⟨b, off, e, hcl k hkn⟩)
      obtain ⟨b, off, e0, hb, hcl⟩ := H.out.2.2 (by omega)
      subst e0
      have Hx : Hid (∀ W, Below w.heap.size w W → R4 W b (off + k * 4) (fnOf rs k)) := Lib.hid (fun W g => by
        obtain ⟨b', off', e, h4⟩ := Hxx.out W g
        simp only [Option.some.injEq, Addr.mk.injEq, and_true] at e
        obtain ⟨rfl, rfl⟩ := e
        exact h4)
      clear Hxx hcl
      rw [hlk]
      obtain ⟨x, hx⟩ : ∃ x, fnOf rs k = x := ⟨_, rfl⟩
      rw [hx] at HT hrk Hx
      obtain ⟨L, hL⟩ : ∃ L, ordL (rs.take k) = L := ⟨_, rfl⟩
      rw [hL] at HT hlk hok hRl HO hO
      obtain ⟨wa, rfl⟩ : ∃ wa, wa = wr := ⟨_, rfl⟩
      have HBa := HB
      clear hx hL hO hR hB
      go_wp2_with fail
      have E0 := Below.refl wa.heap.size wa
      go_loopw [5] (fun a wi => ∃ j : Nat, a = .int .i64 (j : Int) ∧ j ≤ k ∧ Hid (posL x L k = posL x L j) ∧ Below wa.heap.size wa wi) (fun a _ => (intOf a).toNat)
      case atStart => exact ⟨k, rfl, Nat.le_refl _, Lib.hid rfl, E0⟩
      case round =>
        clear E0
        obtain ⟨j, rfl, hj, hp, hBi⟩ := hrel
        have j0 : (0 : Int) ≤ (j : Int) := Int.natCast_nonneg _
        have p1 := celln hBi p1
        by_cases c0 : j = 0
        · have hpos : Hid (posL x L k = j) := Lib.hid (by rw [hp.out, c0]; rfl)
          have d0 : decide ((0 : Int) < (j : Int)) = false := decide_eq_false (by omega)
          have d2 : decide (0 < j) = false := decide_eq_false (by omega)
          clear c0 hp
          go_wp2_with fail
          go_quiet (fail)
          generalize hwq : World.drewN _ _ = wq at *
          have kq : Below wr.heap.size wr wq := by rw [← hwq]; exact dbel ⟨_, rfl⟩
          clear hwq
          have kq2 := kbq hBi kq
          have HBq := Lib.hid (kbq HBa.out kq2)
          have hRq := Lib.hid (hRl.below kq2)
          have PQ := Lib.hid (HP.out.below kq2)
          have RQ := Lib.hid (HR.out.below kq2)
          obtain ⟨p0, p1, f0, f1⟩ := PQ.out
          have hszq : w.heap.size + 2 ≤ wq.heap.size := RQ.out.lt
          have hS1 := fun W => rslice_front A3 k c3 j (by omega) hc2 W
          obtain ⟨A7, hS2, hS3, hA7, hA8⟩ := rslice_rest A3 k c3 j hj hc1
          have hR5 := Lib.hid (hRq.out.front hj)
          have hR7 := Lib.hid (hS3 _ _ hRq.out)
          have hins := Lib.hid (show insL x L = L.take j ++ x :: L.drop j by unfold insL; rw [hlk, hpos.out])
          have hl5 : (L.take j).length = j := by rw [List.length_take]; omega
          have hl7 : (L.drop j).length = k - j := by rw [List.length_drop]; omega
          have ok5 := Lib.hid (fun r (hr : r ∈ L.take j) => hok r (List.mem_of_mem_take hr))
          generalize L.take j = L5 at hR5 hins hl5 ok5
          generalize L.drop j = L7 at hR7 hins hl7
          have HL5 := Lib.hid hl5
          have HL7 := Lib.hid hl7
          have HA := Lib.hid (And.intro hA0 (And.intro hAs (And.intro (fun h => by rw [hA0 (hA7 h)]; simp : A7 = none → c3 - j = 0) (hA8 hAs))))
          have kq3 := Lib.hid kq2
          clear hS3 hl5 hl7 hA7 hA8 kq kq2 hBi hpos hRl
          go_wp2_with (at_builtin; refine wpList_app_rls _ rfl _ _ rfl wq.heap.size (.slice none 0 0) [] rfl (ORls.nil _ _) A3 j c3 L5 rfl hR5.out HA.out.1 HA.out.2.1 (by simp; omega) (Nat.le_refl _) ?_; intro v5 w5 hO5 b5 gw5; rw [List.nil_append] at hO5; obtain ⟨A5, c5, rfl, ⟨hc5, hc5'⟩, _, _, _⟩ := hO5.form3 ok5.out HL5.out; refine stopHere ?_)
          unfold Stop
          have HO5 := Lib.hid hO5
          have HB5 := Lib.hid b5
          obtain ⟨p0, p1, f0, f1⟩ := PQ.out.under b5 (by omega)
          obtain ⟨x0, x1, x2, x3⟩ := Hx.out w5 (kbq HBq.out b5)
          have kE := (Below.refl _ w5).alloc (Nat.le_refl _) (.cells #[.string x.p, .int .u64 x.e, .int .u64 x.b, .int .u8 x.k] 37)
          have hR1 := Lib.hid (rls_one w5 x hrk)
          have HO6 := Lib.hid (ownR_below hO5 kE)
          have b6 := Lib.hid (b5.trans (kE.mono b5.size))
          have hbz : wq.heap.size ≤ (w5.alloc (.cells #[.string x.p, .int .u64 x.e, .int .u64 x.b, .int .u8 x.k] 37)).heap.size := b6.out.size
          obtain ⟨xp, xe, xb, xk⟩ := x
          simp only at x0 x1 x2 x3
          clear hO5 b5 gw5 kE
          go_wp2_with (at_builtin; refine wpList_app_rls _ rfl _ _ rfl wq.heap.size (.slice A5 j c5) L5 rfl HO6.out (some ⟨w5.heap.size, 0, none⟩) 1 1 [⟨xp, xe, xb, xk⟩] rfl hR1.out (fun h => nomatch h) (fun ad h => by cases h; rfl) (by have := HL5.out; omega) hbz ?_; intro v6 w6 hO7 b7 gw7; obtain ⟨A6, c6, rfl, ⟨hc6, hc6'⟩, _, _, _⟩ := hO7.form3 (n := j + 1) (fun r hr => by (rcases List.mem_append.1 hr with hr | hr); exact ok5.out r hr; (simp only [List.mem_cons, List.not_mem_nil, or_false] at hr); subst hr; exact hrk) (by rw [List.length_append, HL5.out]; rfl); refine stopHere ?_)
          unfold Stop
          have B7 := b6.out.trans b7
          have HO7 := Lib.hid hO7
          have HB7 := Lib.hid B7
          have hR8 := Lib.hid (hR7.out.below B7)
          have hbz7 : wq.heap.size ≤ w6.heap.size := B7.size
          clear hO7 b7 gw7 x0 x1 x2 x3 p0 p1 f0 f1 B7
          go_wp2_with (at_builtin; refine wpList_app_rls _ rfl _ _ rfl wq.heap.size (.slice A6 (j + 1) c6) (L5 ++ [⟨xp, xe, xb, xk⟩]) rfl HO7.out A7 (k - j) (c3 - j) L7 rfl hR8.out HA.out.2.2.1 HA.out.2.2.2 (by rw [List.length_append, HL5.out]; simp; omega) hbz7 ?_; intro v8 w8 hO9 b9 gw9; refine stopHere ?_)
          unfold Stop
          have B9 := HB7.out.trans b9
          have hPz := Lib.hid (PQ.out.under B9 (by omega))
          have hRz := Lib.hid (RQ.out.under B9 (by omega))
          have hBz := Lib.hid (kbq HBq.out B9)
          have hOz : ORls w8 (w.heap.size + 2) v8 (ordL (rs.take (k + 1))) := by
            rw [HT.out, hins.out]
            have := ownR_low hO9 hszq
            rw [List.append_assoc] at this
            exact this
          have hOz := Lib.hid hOz
          clear hO9 b9 gw9 B9
          go_wp2
          go_roundw
          case rel => exact ⟨k + 1, by go_num, hkn, hOz.out, hPz.out, hRz.out, hBz.out⟩
          case measure => simp [intOf]; omega
        · have d0 : decide ((0 : Int) < (j : Int)) = true := decide_eq_true (by omega)
          have d2 : decide (0 < j) = true := decide_eq_true (by omega)
          obtain ⟨q, hq⟩ : ∃ q, j = q + 1 := ⟨j - 1, by omega⟩
          have hw1 : IntKind.i64.wrap ((j : Int) - 1) = (q : Int) := by rw [show (j : Int) - 1 = (q : Int) by omega]; exact IntWalk.i64_in _ (by omega)
          have q0 : (0 : Int) ≤ (q : Int) := Int.natCast_nonneg _
          have q1 : (q : Int) < (k : Int) := by omega
          obtain ⟨x0, x1, x2, x3⟩ := Hx.out wr (kbq HBa.out hBi)
          obtain ⟨b3, o3, e3, hb3, hc3⟩ := (hRl.below hBi).2.2 (by omega)
          have y0 := (hc3 q (by omega)).1
          have okq := fn_ok hok q
          have hpo : Hid (posL x L j = if ls (lb x.p) (lb (fnOf L q).p) = true then posL x L q else j) := Lib.hid (by rw [hq]; rfl)
          have L1 := fun W => rless_any x.p (fnOf L q).p W (by have := hrk.p; omega) (by have := okq.p; omega)
          generalize ls (lb x.p) (lb (fnOf L q).p) = o at L1 hpo
          have L2 := Lib.hid L1
          generalize (fnOf L q).p = yp at y0 L2
          have HE3 := Lib.hid e3
          have HQ := Lib.hid hq
          clear hc3 okq L1 c0 hq
          subst e3
          have HA0 := Lib.hid hA0
          have HAs := Lib.hid hAs
          clear hA0 hAs
          go_wp2_with fail
          go_quiet ((go_at_call 49; exact Calls.quiet_of (L2.out _)))
          have hA0 := HA0.out
          have hAs := HAs.out
          clear HA0 HAs y0 x1 x2 x3 L2 HE3
          rcases o with _ | _
          · have hpos : Hid (posL x L k = j) := Lib.hid (by rw [hp.out, hpo.out, if_neg (by decide)])
            clear x0 hw1 q0 q1 hpo hp HQ
            generalize hwq : World.drewN _ _ = wq at *
            have kq : Below wr.heap.size wr wq := by rw [← hwq]; exact dbel ⟨_, rfl⟩
            clear hwq
            have kq2 := kbq hBi kq
            have HBq := Lib.hid (kbq HBa.out kq2)
            have hRq := Lib.hid (hRl.below kq2)
            have PQ := Lib.hid (HP.out.below kq2)
            have RQ := Lib.hid (HR.out.below kq2)
            obtain ⟨p0, p1, f0, f1⟩ := PQ.out
            have hszq : w.heap.size + 2 ≤ wq.heap.size := RQ.out.lt
            have hS1 := fun W => rslice_front (some ⟨b3, o3, none⟩) k c3 j (by omega) hc2 W
            obtain ⟨A7, hS2, hS3, hA7, hA8⟩ := rslice_rest (some ⟨b3, o3, none⟩) k c3 j hj hc1
            have hR5 := Lib.hid (hRq.out.front hj)
            have hR7 := Lib.hid (hS3 _ _ hRq.out)
            have hins := Lib.hid (show insL x L = L.take j ++ x :: L.drop j by unfold insL; rw [hlk, hpos.out])
            have hl5 : (L.take j).length = j := by rw [List.length_take]; omega
            have hl7 : (L.drop j).length = k - j := by rw [List.length_drop]; omega
            have ok5 := Lib.hid (fun r (hr : r ∈ L.take j) => hok r (List.mem_of_mem_take hr))
            generalize L.take j = L5 at hR5 hins hl5 ok5
            generalize L.drop j = L7 at hR7 hins hl7
            have HL5 := Lib.hid hl5
            have HL7 := Lib.hid hl7
            have HA := Lib.hid (And.intro hA0 (And.intro hAs (And.intro (fun h => by rw [hA0 (hA7 h)]; simp : A7 = none → c3 - j = 0) (hA8 hAs))))
            have kq3 := Lib.hid kq2
            clear hS3 hl5 hl7 hA7 hA8 kq kq2 hBi hpos hRl
            go_wp2_with (at_builtin; refine wpList_app_rls _ rfl _ _ rfl wq.heap.size (.slice none 0 0) [] rfl (ORls.nil _ _) (some ⟨b3, o3, none⟩) j c3 L5 rfl hR5.out HA.out.1 HA.out.2.1 (by simp; omega) (Nat.le_refl _) ?_; intro v5 w5 hO5 b5 gw5; rw [List.nil_append] at hO5; obtain ⟨A5, c5, rfl, ⟨hc5, hc5'⟩, _, _, _⟩ := hO5.form3 ok5.out HL5.out; refine stopHere ?_)
            unfold Stop
            have HO5 := Lib.hid hO5
            have HB5 := Lib.hid b5
            obtain ⟨p0, p1, f0, f1⟩ := PQ.out.under b5 (by omega)
            obtain ⟨x0, x1, x2, x3⟩ := Hx.out w5 (kbq HBq.out b5)
            have kE := (Below.refl _ w5).alloc (Nat.le_refl _) (.cells #[.string x.p, .int .u64 x.e, .int .u64 x.b, .int .u8 x.k] 37)
            have hR1 := Lib.hid (rls_one w5 x hrk)
            have HO6 := Lib.hid (ownR_below hO5 kE)
            have b6 := Lib.hid (b5.trans (kE.mono b5.size))
            have hbz : wq.heap.size ≤ (w5.alloc (.cells #[.string x.p, .int .u64 x.e, .int .u64 x.b, .int .u8 x.k] 37)).heap.size := b6.out.size
            obtain ⟨xp, xe, xb, xk⟩ := x
            simp only at x0 x1 x2 x3
            clear hO5 b5 gw5 kE
            go_wp2_with (at_builtin; refine wpList_app_rls _ rfl _ _ rfl wq.heap.size (.slice A5 j c5) L5 rfl HO6.out (some ⟨w5.heap.size, 0, none⟩) 1 1 [⟨xp, xe, xb, xk⟩] rfl hR1.out (fun h => nomatch h) (fun ad h => by cases h; rfl) (by have := HL5.out; omega) hbz ?_; intro v6 w6 hO7 b7 gw7; obtain ⟨A6, c6, rfl, ⟨hc6, hc6'⟩, _, _, _⟩ := hO7.form3 (n := j + 1) (fun r hr => by (rcases List.mem_append.1 hr with hr | hr); exact ok5.out r hr; (simp only [List.mem_cons, List.not_mem_nil, or_false] at hr); subst hr; exact hrk) (by rw [List.length_append, HL5.out]; rfl); refine stopHere ?_)
            unfold Stop
            have B7 := b6.out.trans b7
            have HO7 := Lib.hid hO7
            have HB7 := Lib.hid B7
            have hR8 := Lib.hid (hR7.out.below B7)
            have hbz7 : wq.heap.size ≤ w6.heap.size := B7.size
            clear hO7 b7 gw7 x0 x1 x2 x3 p0 p1 f0 f1 B7
            go_wp2_with (at_builtin; refine wpList_app_rls _ rfl _ _ rfl wq.heap.size (.slice A6 (j + 1) c6) (L5 ++ [⟨xp, xe, xb, xk⟩]) rfl HO7.out A7 (k - j) (c3 - j) L7 rfl hR8.out HA.out.2.2.1 HA.out.2.2.2 (by rw [List.length_append, HL5.out]; simp; omega) hbz7 ?_; intro v8 w8 hO9 b9 gw9; refine stopHere ?_)
            unfold Stop
            have B9 := HB7.out.trans b9
            have hPz := Lib.hid (PQ.out.under B9 (by omega))
            have hRz := Lib.hid (RQ.out.under B9 (by omega))
            have hBz := Lib.hid (kbq HBq.out B9)
            have hOz : ORls w8 (w.heap.size + 2) v8 (ordL (rs.take (k + 1))) := by
              rw [HT.out, hins.out]
              have := ownR_low hO9 hszq
              rw [List.append_assoc] at this
              exact this
            have hOz := Lib.hid hOz
            clear hO9 b9 gw9 B9
            go_wp2
            go_roundw
            case rel => exact ⟨k + 1, by go_num, hkn, hOz.out, hPz.out, hRz.out, hBz.out⟩
            case measure => simp [intOf]; omega
          · go_wp2
            go_roundw
            case rel => exact ⟨q, rfl, by have := HQ.out; omega, Lib.hid (by rw [hp.out, hpo.out, if_pos rfl]), kbq hBi (dbel ⟨_, rfl⟩)⟩
            case measure => have := HQ.out; simp [intOf]; omega
    · have i1 : ¬ (k : Int) < (n : Int) := by omega
      obtain rfl : k = n := by omega
      have hO1 : wr.ownsRow (w.heap.size + 2) 37 4 (.slice A3 k c3) (ordL rs).length (flatR (ordL rs)) := by
        have h1 := hO
        rw [hlk] at h1
        rw [List.take_of_length_le (by omega)] at h1
        exact h1
      rw [hlk]
      have hlo : (ordL rs).length = k := by rw [ordL_length]; exact hl
      have oko : ∀ r ∈ ordL rs, Okr r := ordL_ok H.out.2.1
      have P3 := HP.out.put (.slice A3 k c3)
      have R3 : PB (wr.setCell ⟨w.heap.size, 1, none⟩ (.slice A3 k c3)) (w.heap.size + 1) 0 (.slice none 0 0) := by
        obtain ⟨r0, r1, g0, g1⟩ := HR.out
        exact ⟨(cs_other _ _ _ _ _ _ (.inl (by omega))).trans r0, (cs_other _ _ _ _ _ _ (.inl (by omega))).trans r1, (World.frozen?_setCell _ _ _ _).trans g0, (World.frozen?_setCell _ _ _ _).trans g1⟩
      have q0 : (((wr.setCell ⟨w.heap.size, 1, none⟩ (.slice A3 k c3)).setCell ⟨w.heap.size + 1, 0, none⟩ (.int .i64 m)).setCell ⟨w.heap.size + 1, 1, none⟩ (.slice A3 k c3)).cell? ⟨w.heap.size + 1, 0, none⟩ = some (.int .i64 m) := by
        rw [cs_other _ _ _ _ _ _ (.inr (by omega))]
        exact World.cell?_setCell_same _ _ _ R3.p0
      have q1 : (((wr.setCell ⟨w.heap.size, 1, none⟩ (.slice A3 k c3)).setCell ⟨w.heap.size + 1, 0, none⟩ (.int .i64 m)).setCell ⟨w.heap.size + 1, 1, none⟩ (.slice A3 k c3)).cell? ⟨w.heap.size + 1, 1, none⟩ = some (.slice A3 k c3) :=
        World.cell?_setCell_same _ _ _ ((cs_other _ _ _ _ _ _ (.inr (by omega))).trans R3.p1)
      have OZ : ORls (((wr.setCell ⟨w.heap.size, 1, none⟩ (.slice A3 k c3)).setCell ⟨w.heap.size + 1, 0, none⟩ (.int .i64 m)).setCell ⟨w.heap.size + 1, 1, none⟩ (.slice A3 k c3)) (w.heap.size + 2) (.slice A3 k c3) (ordL rs) :=
        ownsRow_setCell_below (ownsRow_setCell_below (ownsRow_setCell_below hO1 (by show w.heap.size < w.heap.size + 2; omega) _) (by show w.heap.size + 1 < w.heap.size + 2; omega) _) (by show w.heap.size + 1 < w.heap.size + 2; omega) _
      have BZ := ((HB.out.setCell (p := ⟨w.heap.size, 1, none⟩) (Nat.le_refl _) (.slice A3 k c3)).setCell (p := ⟨w.heap.size + 1, 0, none⟩) (by show w.heap.size ≤ w.heap.size + 1; omega) (.int .i64 m)).setCell (p := ⟨w.heap.size + 1, 1, none⟩) (by show w.heap.size ≤ w.heap.size + 1; omega) (.slice A3 k c3)
      have hAb : ∀ b off, A3 = some ⟨b, off, none⟩ → w.heap.size ≤ b := fun b off e => by
        have := (World.ownsRow.lt OZ b (by rw [e]; rfl)).1
        omega
      obtain ⟨A9, c9, e9, _, _, R9⟩ := OZ.rls oko
      rw [hlo] at e9 R9
      simp only [Value.slice.injEq, true_and] at e9
      obtain ⟨rfl, rfl⟩ := e9
      have HZ := Lib.hid (And.intro q0 (And.intro q1 (And.intro (And.intro hAb R9) BZ)))
      obtain ⟨p0, p1, f0, f1⟩ := P3
      obtain ⟨r0, r1, g0, g1⟩ := R3
      have h01 := HP.out.p1
      clear hAb q0 q1 R9 BZ OZ hO1 hO hRl hok hB hR hlo oko
      go_wp2
      obtain ⟨q0, q1, R9, BZ⟩ := HZ.out
      show bodyPost Tryz.prog Tryz.f28 _ _ _ _
      refine bodyPost_ret (v := .agg #[.int .i64 m, (.slice A3 k c3)]) ?_ rfl ⟨⟨A3, ⟨c3, rfl⟩, R9.1, R9.2⟩, BZ⟩
      simp [results, Tryz.results28, go_sem, q0, q1]
end Go.Proofs.YtckaiejbgnhgcaaGreatDoor.Wd
