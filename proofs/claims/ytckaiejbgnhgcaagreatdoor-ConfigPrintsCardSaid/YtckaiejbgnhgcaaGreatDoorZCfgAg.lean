/- What is read is right and in order (plain), and tollerlaw12.again; no conditions but those that each names. -/
import Derived.Test.YtckaiejbgnhgcaaGreatDoorZQ
import Derived.Test.YtckaiejbgnhgcaaGreatDoorZO
namespace Go.Proofs.YtckaiejbgnhgcaaGreatDoor.Wd
open Go Go.RowKit
set_option linter.unusedVariables false
set_option maxRecDepth 100000
/-- All of a row of bytes as a text. -/
theorem all_str {w : World} {A : Option Addr} {N : Nat} {bs : List UInt8} (hT : Ws.Txt w A N bs) (cap : Nat) : (convert 22 9 (.slice A N cap)).run Tryz.prog w = .ok (.string (str bs)) w := by
  cases A with
  | none =>
    have h0 : N = 0 := by
      rcases Nat.eq_zero_or_pos N with h | h
      · exact h
      · obtain ⟨_, _, e, _⟩ := hT.2 h; cases e
    subst h0
    have hb : bs = [] := List.eq_nil_of_length_eq_zero hT.1
    subst hb
    rw [run_convert_bytes_string w 22 9 5 none 0 cap Tryz.underlying22 Tryz.underlying5 Tryz.underlying9]
    rfl
  | some ad =>
    have h := run_convert_bytes_back w 22 9 5 ad cap bs Tryz.underlying22 Tryz.underlying5 Tryz.underlying9 (fun j hj => by
      obtain ⟨b', off', e', hb, hc⟩ := hT.2 (by rw [← hT.1]; omega)
      simp only [Option.some.injEq] at e'
      subst e'
      rw [Go.WideShapes.add_plain, hc j (by rw [← hT.1]; exact hj)]
      simp [List.getD_eq_getElem?_getD, List.getElem?_eq_getElem hj])
    rw [hT.1] at h
    exact h

/-- What stands behind any line that is right, more. -/
structure Inv1 (m : Int) (rs : List Rl) : Prop where
  i0 : Inv0 m rs
  er : ∀ r ∈ rs, r.er = 0
  dst : Dst rs
theorem inv1_start : Inv1 0 [] := ⟨inv0_start, (fun r h => nomatch h), fun i j _ h => absurd h (Nat.not_lt_zero _)⟩
theorem ans_right (xs : List ByteArray) (h : (ansA xs).err = 0) : (⟨(ansA xs).p, (ansA xs).e, (ansA xs).b, (ansA xs).k⟩ : Rl).er = 0 := by
  rcases ans_read xs with ⟨err, at_, e, h1, h2, h3, h4⟩ | ⟨p, E, B, k, e, hr, _⟩
  · rw [e] at h; have : err = 0 := h; omega
  · rw [e]; exact hr
theorem dst_snoc {rs : List Rl} {r : Rl} (h : Dst rs) (hn : hasB rs r.p = false) : Dst (rs ++ [r]) := by
  intro i j hij hj e
  rw [List.length_append, List.length_singleton] at hj
  have hi : i < rs.length := by omega
  have e1 : fnOf (rs ++ [r]) i = fnOf rs i := by simp [fnOf, List.getD_eq_getElem?_getD, List.getElem?_append_left hi]
  by_cases c : j < rs.length
  · have e2 : fnOf (rs ++ [r]) j = fnOf rs j := by simp [fnOf, List.getD_eq_getElem?_getD, List.getElem?_append_left c]
    rw [e1, e2] at e
    exact h i j hij c e
  · have hj2 : j = rs.length := by omega
    have e2 : fnOf (rs ++ [r]) j = r := by rw [hj2]; simp [fnOf, List.getD_eq_getElem?_getD]
    rw [e1, e2] at e
    rcases fd_ways rs r.p with ⟨k, _, _, _, g⟩ | ⟨h2, _⟩
    · unfold hasB at hn
      rw [g, decide_eq_true (Int.natCast_nonneg _)] at hn
      cases hn
    · exact h2 i hi e
theorem lnA_inv1 {m : Int} {rs : List Rl} {xs : List ByteArray} (h : Inv1 m rs) (he : (lnA m rs xs).e = 0) : Inv1 (lnA m rs xs).m (lnA m rs xs).rs := by
  refine ⟨lnA_inv h.i0 he, ?_, ?_⟩
  all_goals
    unfold lnA at he ⊢
    by_cases c : xs.getD 0 nob = sizS
    · rw [if_pos c] at he ⊢
      unfold lnS at he ⊢
      by_cases c1 : xs.length ≠ 2
      · rw [if_pos c1] at he; cases he
      · rw [if_neg c1] at he ⊢
        by_cases c2 : m ≠ 0
        · rw [if_pos c2] at he; cases he
        · rw [if_neg c2] at he ⊢
          by_cases c3 : paE (lb (xs.getD 1 nob)) ≠ 0
          · rw [if_pos c3] at he; exact absurd he c3
          · rw [if_neg c3] at he ⊢
            by_cases c4 : ¬ (1 ≤ paN (lb (xs.getD 1 nob)) ∧ paN (lb (xs.getD 1 nob)) ≤ 1000000)
            · rw [if_pos c4] at he; cases he
            · rw [if_neg c4] at he ⊢
              first | exact h.er | exact h.dst
    · rw [if_neg c] at he ⊢
      unfold lnR at he ⊢
      by_cases c1 : (ansA xs).err ≠ 0
      · rw [if_pos c1] at he; exact absurd he c1
      · rw [if_neg c1] at he ⊢
        by_cases c2 : hasB rs (ansA xs).p = true
        · rw [if_pos c2] at he; cases he
        · rw [if_neg c2] at he ⊢
          by_cases c3 : ¬ rs.length < 1000
          · rw [if_pos c3] at he; cases he
          · rw [if_neg c3] at he ⊢
            first
            | (show ∀ r ∈ rs ++ [_], r.er = 0
               intro r hr
               rcases List.mem_append.1 hr with hr | hr
               · exact h.er r hr
               · simp only [List.mem_cons, List.not_mem_nil, or_false] at hr
                 subst hr
                 exact ans_right xs (by simpa using c1))
            | (show Dst (rs ++ [_])
               exact dst_snoc h.dst (by simpa using c2))
theorem psL_right : ∀ (l : List (List Ws.Wo)) (m : Int) (rs : List Rl), Inv1 m rs → (psL m rs l).e = 0 → riE (psL m rs l).m (psL m rs l).rs = 0 ∧ ordL (psL m rs l).rs = (psL m rs l).rs ∧ (∀ r ∈ (psL m rs l).rs, Okr r) ∧ (psL m rs l).rs.length ≤ 1000 ∧ (0 ≤ (psL m rs l).m ∧ (psL m rs l).m ≤ 1000000)
  | [], m, rs, h, he => by
    unfold psL at he ⊢
    by_cases c : enE m rs ≠ 0
    · rw [if_pos c] at he; exact absurd he c
    · rw [if_neg c] at he ⊢
      have c' : enE m rs = 0 := by simpa using c
      unfold enE at c'
      by_cases d0 : m = 0
      · rw [if_pos d0] at c'; cases c'
      · rw [if_neg d0] at c'
        by_cases d1 : hasB rs nob = false
        · rw [if_pos d1] at c'; cases c'
        · have hm := h.i0.m
          have hl := h.i0.len
          have hh : hasB (ordL rs) nob = true := has_ord (by simpa using d1)
          have hf : frE (ordL rs) = 0 := fr_all0 (fun r hr => h.er r ((ordL_mem rs r).1 hr))
          have hs : soB ((ordL (ordL rs)).map Rl.p) = true := (ordL_so (ordL rs)).2 ((ordL_dst rs).2 h.dst)
          refine ⟨?_, ordL_again rs, ordL_ok h.i0.ok, by show (ordL rs).length ≤ 1000; rw [ordL_length]; exact hl, hm⟩
          show riE m (ordL rs) = 0
          unfold riE
          rw [if_neg (by omega), if_neg (by rw [ordL_length]; omega), hf, if_neg (by simp), if_neg (by rw [hh]; decide), if_neg (by rw [hs]; decide)]
  | ws :: rest, m, rs, h, he => by
    unfold psL at he ⊢
    by_cases c : (lnA m rs (txs ws)).e ≠ 0
    · rw [if_pos c] at he; exact absurd he c
    · rw [if_neg c] at he ⊢
      exact psL_right rest _ _ (lnA_inv1 h (by simpa using c)) he
/-- What is read is right, and in order. -/
theorem cfgP_right (bs : List UInt8) (he : (cfgP bs).e = 0) : riE (cfgP bs).m (cfgP bs).rs = 0 ∧ ordL (cfgP bs).rs = (cfgP bs).rs ∧ (∀ r ∈ (cfgP bs).rs, Okr r) ∧ (cfgP bs).rs.length ≤ 1000 ∧ (0 ≤ (cfgP bs).m ∧ (cfgP bs).m ≤ 1000000) := by
  unfold cfgP at he ⊢
  by_cases c : (Ws.spl bs).er ≠ 0
  · rw [if_pos c] at he
    have : ((Ws.spl bs).er : Int) = 0 := he
    omega
  · rw [if_neg c] at he ⊢
    exact psL_right _ _ _ inv1_start he

set_option maxHeartbeats 4000000 in
theorem again_any (A : Option Addr) (N cap : Nat) (bs : List UInt8) (w : World) (hN : Nam w) (hT : Ws.Txt w A N bs) (hcap : N ≤ cap) (hcm : cap ≤ 9223372036854775807) :
    Calls Tryz.prog 20 #[.slice A N cap] w fun r w' => r = .returned (.bool true) ∧ Below w.heap.size w w' := by
  have CP := cparse_any A N cap bs w hN hT hcap hcm
  have HW := cfgP_ways bs
  have HR := cfgP_right bs
  generalize cfgP bs = P at *
  obtain ⟨e, ln, cl, m, rs⟩ := P
  dsimp only at CP HW HR
  clear hT
  by_cases he : e = 0
  · obtain ⟨h0, hord, hok, hl, hm⟩ := HR he
    clear HW HR
    have hback := print_back h0 hok
    rw [hord] at hback
    subst he
    go_enter Tryz.func20, Tryz.ntmps20
    go_wp2_with (go_at_call 17; (with_reducible refine CP.mono ?_); rintro r w1 ⟨⟨A1, rfl, hR1⟩, k1⟩; refine stopHere ?_)
    unfold Stop
    obtain ⟨n, hn⟩ : ∃ n, rs.length = n := ⟨_, rfl⟩
    rw [hn] at hR1 hl ⊢
    have kA := (Below.refl _ w1).alloc (Nat.le_refl _) (.cells #[.int .i64 m, .slice A1 n n] 28)
    have kB := (Below.refl _ (w1.alloc (.cells #[.int .i64 m, .slice A1 n n] 28))).alloc (Nat.le_refl _) (.cells #[.int .i64 ln, .int .i64 cl] 44)
    have kC := kbq kA kB
    have p0 : ((w1.alloc (.cells #[.int .i64 m, .slice A1 n n] 28)).alloc (.cells #[.int .i64 ln, .int .i64 cl] 44)).cell? ⟨w1.heap.size, 0, none⟩ = some (.int .i64 m) := by simp
    have p1 : ((w1.alloc (.cells #[.int .i64 m, .slice A1 n n] 28)).alloc (.cells #[.int .i64 ln, .int .i64 cl] 44)).cell? ⟨w1.heap.size, 1, none⟩ = some (.slice A1 n n) := by simp
    have B2 := kbq k1 kC
    have hN2 := hN.below B2
    have hR2 := hR1.below kC
    have CR := cprint_any m A1 n n rs _ hN2 hR2 (by omega) (by omega)
    rw [h0, if_pos rfl] at CR
    clear CP kA kB kC hR1
    obtain ⟨tx, htx⟩ : ∃ tx, prTx m rs = tx := ⟨_, rfl⟩
    rw [htx] at CR hback
    have HTX := Lib.hid htx
    have H0 := Lib.hid h0
    clear htx h0 hord hok
    go_wp2_with fail
    generalize hW : ((w1.alloc (.cells #[.int .i64 m, .slice A1 n n] 28)).alloc (.cells #[.int .i64 ln, .int .i64 cl] 44)) = W2 at *
    clear hW
    go_wp2_with (go_at_call 16; (with_reducible refine CR.mono ?_); rintro r w3 ⟨⟨v3, rfl, hB3⟩, k3⟩; refine stopHere ?_)
    unfold Stop
    obtain ⟨A3, c3, rfl, ⟨hc3, hc3'⟩, hT3, _⟩ := hB3.form2
    have C2 := cparse_any A3 tx.length c3 tx w3 (hN2.below k3) hT3 hc3 hc3'
    rw [hback] at C2
    dsimp only at C2
    rw [hn] at C2
    have B3 := kbq B2 k3
    have hR3 := hR2.below k3
    replace p0 := celln k3 p0
    replace p1 := celln k3 p1
    clear CR k3 hR2 B2 hB3 hback
    go_wp2_with (go_at_call 17; (with_reducible refine C2.mono ?_); rintro r w4 ⟨⟨A4, rfl, hR4⟩, k4⟩; refine stopHere ?_)
    unfold Stop
    have kA := (Below.refl _ w4).alloc (Nat.le_refl _) (.cells #[.int .i64 m, .slice A4 n n] 28)
    have kB := (Below.refl _ (w4.alloc (.cells #[.int .i64 m, .slice A4 n n] 28))).alloc (Nat.le_refl _) (.cells #[.int .i64 0, .int .i64 0] 44)
    have kC := kbq kA kB
    have q0 : ((w4.alloc (.cells #[.int .i64 m, .slice A4 n n] 28)).alloc (.cells #[.int .i64 0, .int .i64 0] 44)).cell? ⟨w4.heap.size, 0, none⟩ = some (.int .i64 m) := by simp
    have q1 : ((w4.alloc (.cells #[.int .i64 m, .slice A4 n n] 28)).alloc (.cells #[.int .i64 0, .int .i64 0] 44)).cell? ⟨w4.heap.size, 1, none⟩ = some (.slice A4 n n) := by simp
    have k5 := kbq k4 kC
    have B5 := kbq B3 k5
    have hN5 := hN.below B5
    have hR5 := hR4.below kC
    have hP5 := hR3.below k5
    have hT5 := hT3.below k5
    replace p0 := celln k5 p0
    replace p1 := celln k5 p1
    have CR := cprint_any m A4 n n rs _ hN5 hR5 (by omega) (by omega)
    rw [H0.out, if_pos rfl, HTX.out] at CR
    clear C2 kA kB kC k5 k4 B3 hR4 hR3 hT3
    go_wp2_with fail
    generalize hW : ((w4.alloc (.cells #[.int .i64 m, .slice A4 n n] 28)).alloc (.cells #[.int .i64 0, .int .i64 0] 44)) = W5 at *
    clear hW
    go_wp2_with (go_at_call 16; (with_reducible refine CR.mono ?_); rintro r w6 ⟨⟨v6, rfl, hB6⟩, k6⟩; refine stopHere ?_)
    unfold Stop
    obtain ⟨A6, c6, rfl, _, hT6, _⟩ := hB6.form2
    replace p0 := celln k6 p0
    replace p1 := celln k6 p1
    replace q0 := celln k6 q0
    replace q1 := celln k6 q1
    have B6 := kbq B5 k6
    have hR6 := hR5.below k6
    have hP6 := hP5.below k6
    have hT7 := hT5.below k6
    have CRt := cright_any m A1 n n rs w6 hP6 (by omega) (by omega)
    rw [H0.out] at CRt
    clear CR k6 hB6
    go_wp2_with (go_at_call 23; (with_reducible refine CRt.mono ?_); rintro r w7 ⟨rfl, k7⟩; refine stopHere ?_)
    unfold Stop
    replace p0 := celln k7 p0
    replace p1 := celln k7 p1
    replace q0 := celln k7 q0
    replace q1 := celln k7 q1
    have B7 := kbq B6 k7
    have CS := same12_any m A1 A4 n n n rs w7 (hP6.below k7) (hR6.below k7) (by omega)
    replace hT6 := hT6.below k7
    replace hT7 := hT7.below k7
    clear CRt k7 hR6 hP6 B6
    go_wp2_with (go_at_call 18; (with_reducible refine CS.mono ?_); rintro r w8 ⟨rfl, k8⟩; refine stopHere ?_)
    unfold Stop
    have v1 := all_str (hT6.below k8) c6
    have v2 := all_str (hT7.below k8) c3
    have B8 := kbq B7 k8
    clear CS k8 hT6 hT7
    go_wp2
    go_ret
    exact ⟨rfl, B8⟩
  · obtain ⟨hm, hr⟩ : m = 0 ∧ rs = [] := by
      rcases HW with ⟨h, _⟩ | ⟨_, h1, h2⟩
      · exact absurd h he
      · exact ⟨h1, h2⟩
    subst hm hr
    have t1 : (e != 0) = true := by simpa using he
    have t2 : (e == 0) = false := by simpa using he
    clear HW HR he
    go_enter Tryz.func20, Tryz.ntmps20
    go_wp2_with (go_at_call 17; (with_reducible refine CP.mono ?_); rintro r w1 ⟨⟨A1, rfl, hR1⟩, k1⟩; refine stopHere ?_)
    unfold Stop
    have kA := (Below.refl _ w1).alloc (Nat.le_refl _) (.cells #[.int .i64 0, .slice A1 0 0] 28)
    have kB := (Below.refl _ (w1.alloc (.cells #[.int .i64 0, .slice A1 0 0] 28))).alloc (Nat.le_refl _) (.cells #[.int .i64 ln, .int .i64 cl] 44)
    have B2 := kbq k1 (kbq kA kB)
    have p0 : ((w1.alloc (.cells #[.int .i64 0, .slice A1 0 0] 28)).alloc (.cells #[.int .i64 ln, .int .i64 cl] 44)).cell? ⟨w1.heap.size, 0, none⟩ = some (.int .i64 0) := by simp
    have p1 : ((w1.alloc (.cells #[.int .i64 0, .slice A1 0 0] 28)).alloc (.cells #[.int .i64 ln, .int .i64 cl] 44)).cell? ⟨w1.heap.size, 1, none⟩ = some (.slice A1 0 0) := by simp
    clear kA kB CP
    go_wp2
    go_ret
    exact ⟨rfl, B2⟩
end Go.Proofs.YtckaiejbgnhgcaaGreatDoor.Wd
