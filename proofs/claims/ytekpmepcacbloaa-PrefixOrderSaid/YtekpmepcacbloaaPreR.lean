/- The document's answers of chapter 13 (tollerref13); no conditions but those that each names. -/
import Derived.Test.YtekpmepcacbloaaPreQ
import Derived.Test.YtekpmepcacbloaaPreF
import Derived.Lib.QuietBelow
namespace Go.Proofs.Ytekpmepcacbloaa.Wd
open Go Go.RowKit Go.Shelf Go.Sort
set_option linter.unusedVariables false
set_option maxRecDepth 100000

def atI : Option Nat → Int
  | none => -1
  | some j => (j : Int)
theorem best_lt {rs : List Rl} {K : ByteArray} {n j : Nat} (h : bestT rs K n = some j) : j < n := by
  rcases best_is rs K n with ⟨e, _⟩ | ⟨k, e, B⟩
  · rw [e] at h; cases h
  · rw [e] at h; cases h; exact B.lt
set_option maxHeartbeats 2000000 in
theorem rfind_any (A : Option Addr) (n cap : Nat) (rs : List Rl) (K : ByteArray) (w : World) (h : Rls w A n rs) (hn : n ≤ 9223372036854775806) (hK : K.size ≤ 9223372036854775807) :
    Calls Try.prog 15 #[.slice A n cap, .string K] w fun e w' => e = .returned (.tuple #[((findR rs K).getD rl0).v, .bool (findR rs K).isSome]) ∧ Below w.heap.size w w' := by
  have H := Lib.hid h
  have hl := Lib.hid h.1
  clear h
  go_enter Try.func15, Try.ntmps15
  go_wp2
  have b0 := Blk.new w #[.string ⟨#[]⟩, .int .u64 0, .int .u64 0, .int .u8 0] 28
  have k0 := (Below.refl _ w).alloc (Nat.le_refl _) (.cells #[.string ⟨#[]⟩, .int .u64 0, .int .u64 0, .int .u8 0] 28)
  have hs0 : (w.alloc (.cells #[.string ⟨#[]⟩, .int .u64 0, .int .u64 0, .int .u8 0] 28)).heap.size = w.heap.size + 1 := by simp
  generalize hW0 : w.alloc (.cells #[.string ⟨#[]⟩, .int .u64 0, .int .u64 0, .int .u8 0] 28) = W0 at *
  clear hW0
  have HB0 := Lib.hid b0
  have HK0 := Lib.hid k0
  clear b0 k0
  go_loopw [6, 7] (fun at_ i wr => ∃ (k : Nat) (o : Option Nat), at_ = .int .i64 (atI o) ∧ i = .int .i64 (k : Int) ∧ k ≤ n ∧ Hid (bestT rs K k = o) ∧ Below W0.heap.size W0 wr) (fun _ i _ => n - (intOf i).toNat)
  case atStart => exact ⟨0, none, rfl, rfl, Nat.zero_le _, Lib.hid rfl, Below.refl _ _⟩
  case round =>
    obtain ⟨k, o, rfl, rfl, hk, HO, hB⟩ := hrel
    have kk := Lib.hid (HK0.out.trans (hB.mono (by omega)))
    have HB := Lib.hid hB
    clear hB
    by_cases hlt : k < n
    · obtain ⟨b, off, rfl, hb, hc⟩ := (H.out.below kk.out).2.2 (by omega)
      have z0 := cell_regrown (hc k hlt).1
      have hpk := (H.out.ok k).p
      have HST := Lib.hid (show bestT rs K (k + 1) = if hsK K (fnOf rs k).p && (match bestT rs K k with | none => true | some j => decide ((fnOf rs j).p.size < (fnOf rs k).p.size)) then some k else bestT rs K k from rfl)
      rw [HO.out] at HST
      have C := fun d os => Calls.regrown_of (d := d) (os := os) (w := wr) ((rhas_any K (fnOf rs k).p (grow (redrawn wr d) os) hK (by omega)).mono (fun e w' h => ⟨h.1, dbel h.2⟩))
      have hq : Hid (decide (cm (lb K) (lb (fnOf rs k).p) = (fnOf rs k).p.size) = hsK K (fnOf rs k).p) := Lib.hid rfl
      generalize decide (cm (lb K) (lb (fnOf rs k).p) = (fnOf rs k).p.size) = q at C hq
      have hw1 : IntKind.i64.wrap ((k : Int) + 1) = (k : Int) + 1 := by rw [IntKind.wrap_i64]; omega
      cases o with
      | none =>
        have a0 : (atI none : Int) = -1 := rfl
        generalize (fnOf rs k).p = pk at *
        clear hc
        simp only [a0]
        clear a0
        cases q
        · have HE : Hid (bestT rs K (k + 1) = none) := Lib.hid (by rw [HST.out, ← hq.out]; rfl)
          go_wp2_with fail
          refine wp_region_quiet_below (by kernel_rfl) (by kernel_rfl) ?_
          repeat (go_big_quiet_step (with_reducible exact C _ _))
          refine wpQuiet_nil ?_
          intro _ hw'
          obtain ⟨⟨dq, osq⟩, hw''⟩ := hw'
          subst hw''
          have kB := Lib.hid (kbq HB.out (below_regrown wr dq osq))
          go_wp2
          go_roundw
          case rel => exact ⟨k + 1, none, rfl, rfl, hlt, Lib.hid (HE.out), kB.out⟩
          case measure => simp [intOf]; omega
        · have HE : Hid (bestT rs K (k + 1) = some k) := Lib.hid (by rw [HST.out, ← hq.out]; rfl)
          go_wp2_with fail
          refine wp_region_quiet_below (by kernel_rfl) (by kernel_rfl) ?_
          repeat (go_big_quiet_step (with_reducible exact C _ _))
          refine wpQuiet_nil ?_
          intro _ hw'
          obtain ⟨⟨dq, osq⟩, hw''⟩ := hw'
          subst hw''
          have kB := Lib.hid (kbq HB.out (below_regrown wr dq osq))
          go_wp2
          go_roundw
          case rel => exact ⟨k + 1, some k, rfl, rfl, hlt, Lib.hid (HE.out), kB.out⟩
          case measure => simp [intOf]; omega
      | some j =>
        have hjk : j < k := best_lt HO.out
        have z1 := cell_regrown (hc j (by omega)).1
        have hpj := (H.out.ok j).p
        have a0 : (atI (some j) : Int) = (j : Int) := rfl
        replace HST : Hid (bestT rs K (k + 1) = if hsK K (fnOf rs k).p && decide ((fnOf rs j).p.size < (fnOf rs k).p.size) then some k else some j) := HST
        generalize (fnOf rs k).p = pk at *
        generalize (fnOf rs j).p = pj at *
        clear hc
        simp only [a0]
        clear a0
        have j0 : (0 : Int) ≤ (j : Int) := Int.natCast_nonneg _
        have j1 : j < n := by omega
        have j2 : decide ((j : Int) < 0) = false := decide_eq_false (by omega)
        cases q
        · have HE : Hid (bestT rs K (k + 1) = some j) := Lib.hid (by rw [HST.out, ← hq.out]; rfl)
          go_wp2_with fail
          refine wp_region_quiet_below (by kernel_rfl) (by kernel_rfl) ?_
          repeat (go_big_quiet_step (with_reducible exact C _ _))
          refine wpQuiet_nil ?_
          intro _ hw'
          obtain ⟨⟨dq, osq⟩, hw''⟩ := hw'
          subst hw''
          have kB := Lib.hid (kbq HB.out (below_regrown wr dq osq))
          go_wp2
          go_roundw
          case rel => exact ⟨k + 1, some j, rfl, rfl, hlt, Lib.hid (HE.out), kB.out⟩
          case measure => simp [intOf]; omega
        · by_cases cs : pj.size < pk.size
          · have HE : Hid (bestT rs K (k + 1) = some k) := Lib.hid (by rw [HST.out, ← hq.out]; simp [cs])
            go_wp2_with fail
            refine wp_region_quiet_below (by kernel_rfl) (by kernel_rfl) ?_
            repeat (go_big_quiet_step (with_reducible exact C _ _))
            refine wpQuiet_nil ?_
            intro _ hw'
            obtain ⟨⟨dq, osq⟩, hw''⟩ := hw'
            subst hw''
            have kB := Lib.hid (kbq HB.out (below_regrown wr dq osq))
            go_wp2
            go_roundw
            case rel => exact ⟨k + 1, some k, rfl, rfl, hlt, Lib.hid (HE.out), kB.out⟩
            case measure => simp [intOf]; omega
          · have HE : Hid (bestT rs K (k + 1) = some j) := Lib.hid (by rw [HST.out, ← hq.out]; simp [cs])
            go_wp2_with fail
            refine wp_region_quiet_below (by kernel_rfl) (by kernel_rfl) ?_
            repeat (go_big_quiet_step (with_reducible exact C _ _))
            refine wpQuiet_nil ?_
            intro _ hw'
            obtain ⟨⟨dq, osq⟩, hw''⟩ := hw'
            subst hw''
            have kB := Lib.hid (kbq HB.out (below_regrown wr dq osq))
            go_wp2
            go_roundw
            case rel => exact ⟨k + 1, some j, rfl, rfl, hlt, Lib.hid (HE.out), kB.out⟩
            case measure => simp [intOf]; omega
    · obtain rfl : k = n := by omega
      have bZ := Lib.hid (HB0.out.below HB.out)
      have hfe : findR rs K = o.map (fnOf rs) := by unfold findR; rw [hl.out, HO.out]
      have HF := Lib.hid hfe
      have z0 := bZ.out.cell 0
      have z1 := bZ.out.cell 1
      have z2 := bZ.out.cell 2
      have z3 := bZ.out.cell 3
      have f0 := bZ.out.fz 0
      have f1 := bZ.out.fz 1
      have f2 := bZ.out.fz 2
      have f3 := bZ.out.fz 3
      simp at z0 z1 z2 z3
      clear hfe
      cases o with
      | none =>
        have a0 : (atI none : Int) = -1 := rfl
        simp only [a0]
        clear a0
        go_wp2
        have y := (((bZ.out.set 0 (.string ⟨#[]⟩)).set 1 (.int .u64 0)).set 2 (.int .u64 0)).set 3 (.int .u8 0)
        have yk := (((kk.out.setCell (p := ⟨w.heap.size, 0, none⟩) (Nat.le_refl _) (.string ⟨#[]⟩)).setCell (p := ⟨w.heap.size, 1, none⟩) (Nat.le_refl _) (.int .u64 0)).setCell (p := ⟨w.heap.size, 2, none⟩) (Nat.le_refl _) (.int .u64 0)).setCell (p := ⟨w.heap.size, 3, none⟩) (Nat.le_refl _) (.int .u8 0)
        have q0 := y.cell 0
        have q1 := y.cell 1
        have q2 := y.cell 2
        have q3 := y.cell 3
        simp at q0 q1 q2 q3
        refine bodyPost_ret (v := .tuple #[rl0.v, .bool false]) ?_ rfl ⟨by rw [HF.out]; rfl, yk⟩
        simp [results, Try.f15, go_sem, q0, q1, q2, q3]
      | some j =>
        have hjk : j < k := best_lt HO.out
        obtain ⟨b, off, rfl, hb, hc⟩ := (H.out.below kk.out).2.2 (by omega)
        obtain ⟨r0, r1, r2, r3⟩ := hc j hjk
        have a0 : (atI (some j) : Int) = (j : Int) := rfl
        have j0 : (0 : Int) ≤ (j : Int) := Int.natCast_nonneg _
        have j2 : decide ((j : Int) < 0) = false := decide_eq_false (by omega)
        have HF2 : Hid (findR rs K = some (fnOf rs j)) := Lib.hid HF.out
        generalize fnOf rs j = r at *
        simp only [a0]
        clear a0 hc
        go_wp2
        have y := (((bZ.out.set 0 (.string r.p)).set 1 (.int .u64 r.e)).set 2 (.int .u64 r.b)).set 3 (.int .u8 r.k)
        have yk := (((kk.out.setCell (p := ⟨w.heap.size, 0, none⟩) (Nat.le_refl _) (.string r.p)).setCell (p := ⟨w.heap.size, 1, none⟩) (Nat.le_refl _) (.int .u64 r.e)).setCell (p := ⟨w.heap.size, 2, none⟩) (Nat.le_refl _) (.int .u64 r.b)).setCell (p := ⟨w.heap.size, 3, none⟩) (Nat.le_refl _) (.int .u8 r.k)
        have q0 := y.cell 0
        have q1 := y.cell 1
        have q2 := y.cell 2
        have q3 := y.cell 3
        simp at q0 q1 q2 q3
        refine bodyPost_ret (v := .tuple #[r.v, .bool true]) ?_ rfl ⟨by rw [HF2.out]; rfl, yk⟩
        simp [results, Try.f15, go_sem, q0, q1, q2, q3]

theorem fst_step (rs : List Rl) (p : List UInt8) (j : Nat) (hj : j < rs.length) : (fstR (rs.take (j + 1)) p).isNone = ((fstR (rs.take j) p).isNone && !decide (lb (fnOf rs j).p = p)) := by
  rw [show rs.take (j + 1) = rs.take j ++ [fnOf rs j] by rw [fn_at hj, List.take_succ_eq_append_getElem hj], fst_snoc]
  cases fstR (rs.take j) p with
  | some x => rfl
  | none =>
    generalize fnOf rs j = r
    by_cases h : lb r.p = p
    · simp [h]
    · simp [h]
set_option maxHeartbeats 2000000 in
theorem rlen_any (A : Option Addr) (n cap : Nat) (rs : List Rl) (w : World) (h : Rls w A n rs) (hn : n ≤ 9223372036854775806) :
    Calls Try.prog 16 #[.slice A n cap] w fun e w' => e = .returned (.int .i64 (cntT rs rs.length : Int)) ∧ Below w.heap.size w w' := by
  have H := Lib.hid h
  have hl := Lib.hid h.1
  clear h
  go_enter Try.func16, Try.ntmps16
  go_wp2
  go_loopw [3, 4] (fun nv i wr => ∃ k : Nat, nv = .int .i64 ((cntT rs k : Nat) : Int) ∧ i = .int .i64 (k : Int) ∧ k ≤ n ∧ Below w.heap.size w wr) (fun _ i _ => n - (intOf i).toNat)
  case atStart => exact ⟨0, rfl, rfl, Nat.zero_le _, Below.refl _ _⟩
  case round =>
    obtain ⟨k, rfl, rfl, hk, hB⟩ := hrel
    by_cases hlt : k < n
    · have hw1 : IntKind.i64.wrap ((k : Int) + 1) = (k : Int) + 1 := by rw [IntKind.wrap_i64]; omega
      have hcl := cnt_le rs k
      have HC := Lib.hid (show cntT rs (k + 1) = cntT rs k + (if (fstR (rs.take k) (lb (fnOf rs k).p)).isNone then 1 else 0) from rfl)
      have hw2 : IntKind.i64.wrap (((cntT rs k : Nat) : Int) + 1) = ((cntT rs k : Nat) : Int) + 1 := by rw [IntKind.wrap_i64]; omega
      generalize cntT rs k = m at *
      go_wp2
      go_loopw [5, 6] (fun tv j wi => ∃ (j' : Nat) (tb : Bool), tv = .bool tb ∧ j = .int .i64 (j' : Int) ∧ j' ≤ k ∧ Hid (tb = (fstR (rs.take j') (lb (fnOf rs k).p)).isNone) ∧ Below w.heap.size w wi) (fun _ j _ => k - (intOf j).toNat)
      case atStart => exact ⟨0, true, rfl, rfl, Nat.zero_le _, Lib.hid rfl, hB⟩
      case round =>
        obtain ⟨j, tb, rfl, rfl, hj, ht, kB⟩ := hrel
        by_cases cj : j < k
        · obtain ⟨b, off, rfl, hb, hc⟩ := (H.out.below kB).2.2 (by omega)
          have e0 := (hc j (by omega)).1
          have e1 := (hc k hlt).1
          have hst := Lib.hid (fst_step rs (lb (fnOf rs k).p) j (by rw [hl.out]; omega))
          have hw3 : IntKind.i64.wrap ((j : Int) + 1) = (j : Int) + 1 := by rw [IntKind.wrap_i64]; omega
          have jn : j < n := by omega
          generalize (fnOf rs j).p = pe at *
          generalize (fnOf rs k).p = pk at *
          clear hc
          cases tb
          · go_wp2
            go_region
            go_wp2
            go_roundw
            case rel => exact ⟨j + 1, false, rfl, rfl, cj, Lib.hid (by rw [hst.out, ← ht.out]; rfl), kB.drew⟩
            case measure => simp [intOf]; omega
          · have ts := text_same (a := pe) (b := pk)
            cases hd : decide (pe = pk)
            · rw [hd] at ts
              have hne : decide (lb pe = lb pk) = false := decide_eq_false (fun e => of_decide_eq_false hd (lb_inj e))
              have HN := Lib.hid hne
              clear hd hne
              go_wp2
              go_region
              go_wp2
              go_roundw
              case rel => exact ⟨j + 1, true, rfl, rfl, cj, Lib.hid (by rw [hst.out, ← ht.out, HN.out]; rfl), kB.drew⟩
              case measure => simp [intOf]; omega
            · rw [hd] at ts
              have heq : decide (lb pe = lb pk) = true := decide_eq_true (by rw [of_decide_eq_true hd])
              have HN := Lib.hid heq
              clear hd heq
              go_wp2
              go_region
              go_wp2
              go_roundw
              case rel => exact ⟨j + 1, false, rfl, rfl, cj, Lib.hid (by rw [hst.out, ← ht.out, HN.out]; rfl), kB.drew⟩
              case measure => simp [intOf]; omega
        · obtain rfl : j = k := by omega
          cases tb
          · have HE : Hid (cntT rs (j + 1) = m) := Lib.hid (by rw [HC.out, ← ht.out]; rfl)
            go_wp2
            go_roundw
            case rel => exact ⟨j + 1, by rw [HE.out], rfl, hlt, kB⟩
            case measure => simp [intOf]; omega
          · have HE : Hid (cntT rs (j + 1) = m + 1) := Lib.hid (by rw [HC.out, ← ht.out]; rfl)
            go_wp2
            go_roundw
            case rel => exact ⟨j + 1, by rw [HE.out]; rfl, rfl, hlt, kB⟩
            case measure => simp [intOf]; omega
    · obtain rfl : k = n := by omega
      go_wp2
      go_ret
      exact ⟨by rw [hl.out]; rfl, hB⟩
end Go.Proofs.Ytekpmepcacbloaa.Wd
