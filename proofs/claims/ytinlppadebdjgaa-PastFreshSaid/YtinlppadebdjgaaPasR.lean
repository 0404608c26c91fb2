/- What the document's sum, Fill, Conforms, Rises and Same of chapter 8, and past's Rises, answer, for any row of events; no conditions but those that each names. -/
import Derived.Test.YtinlppadebdjgaaPasB
import Derived.Test.YtinlppadebdjgaaPasM2
import Derived.Test.YtinlppadebdjgaaRefC
namespace Go.Proofs.Ytinlppadebdjgaa.Wd
open Go Go.RowKit
set_option linter.unusedVariables false

theorem EvsIn.cells {n₀ : Nat} {w : World} {b off : Nat} {es : List (Int × Int)} (h : EvsIn n₀ w (some ⟨b, off, none⟩) es) {i : Nat} {e : Int × Int} (he : es[i]? = some e) :
    b < n₀ ∧ w.cell? ⟨b, off + i * 2, none⟩ = some (.int .u64 e.1) ∧ w.cell? ⟨b, off + i * 2 + 1, none⟩ = some (.int .u64 e.2) := by
  obtain ⟨b', off', h1, h2, h3, h4⟩ := h i e he
  cases h1
  exact ⟨h2, h3, h4⟩
theorem EvsIn.sub {n₀ : Nat} {w : World} {b off : Nat} {es : List (Int × Int)} (h : EvsIn n₀ w (some ⟨b, off, none⟩) es) (i m : Nat) : EvsIn n₀ w (some ⟨b, off + i * 2, none⟩) ((es.drop i).take m) := fun j e he => by
  rw [List.getElem?_take] at he
  split at he
  · rw [List.getElem?_drop] at he
    obtain ⟨h2, h3, h4⟩ := h.cells he
    exact ⟨b, _, rfl, h2, by rw [show off + i * 2 + j * 2 = off + (i + j) * 2 by omega]; exact h3, by rw [show off + i * 2 + j * 2 + 1 = off + (i + j) * 2 + 1 by omega]; exact h4⟩
  · cases he

theorem rsum_any (a : Option Addr) (n cap : Nat) (es : List (Int × Int)) (w : World) (hl : es.length = n) (hU : EU es) (hlen : es.length ≤ 4611686018427387904) (hE : EvsIn w.heap.size w a es) :
    Calls Try.prog 32 #[.slice a n cap] w fun e w' => e = .returned (.int .u64 (smL es)) ∧ w = w' := by
  have HL := Lib.hid hl
  have HE := Lib.hid hE
  have hn : n ≤ 4611686018427387904 := by omega
  clear hl hE hlen
  go_enter Try.func32, Try.ntmps32
  go_wp2
  go_loop [3, 4] (fun s i => ∃ k : Nat, k ≤ n ∧ i = .int .i64 k ∧ s = .int .u64 (smL (es.take k))) (fun _ i => n - (intOf i).toNat)
  case atStart => exact ⟨0, Nat.zero_le _, rfl, rfl⟩
  case round =>
    obtain ⟨k, hk, rfl, rfl⟩ := hrel
    by_cases hlt : k < n
    · have he : es[k]? = some (es[k]?.getD (0, 0)) := by simp [show k < es.length by rw [HL.out]; exact hlt]
      obtain ⟨b, off, rfl, hb, c0, c1⟩ := HE.out k _ he
      have us := smL_U _ (hU.take k)
      have ue := (hU.get he).2
      have E := Lib.hid (sm_take hU he)
      generalize es[k]?.getD (0, 0) = x at *
      clear he
      generalize smL (es.take k) = s at *
      obtain ⟨xa, xw⟩ := x
      dsimp only at c0 c1 ue E
      go_wp2_with (go_at_call 31; ((with_reducible refine (ref_add _ _ _ us ue).mono ?_); rintro e w' ⟨rfl, rfl⟩))
      go_round
      case rel => exact ⟨k + 1, by omega, by go_num, by rw [E.out]⟩
      case measure => simp [intOf]; omega
    · obtain rfl : n = k := by omega
      have e : es.take n = es := List.take_of_length_le (by rw [HL.out]; exact Nat.le_refl _)
      rw [e]
      clear e
      go_wp2
      go_ret
      exact ⟨rfl, rfl⟩

set_option maxRecDepth 100000 in
set_option maxHeartbeats 1000000 in
theorem rfill_any (a : Option Addr) (n cap : Nat) (es : List (Int × Int)) (now : Int) (w : World) (hl : es.length = n) (hcap : n ≤ cap) (hU : EU es) (hnow : U now) (hlen : es.length ≤ 4611686018427387904) (hE : EvsIn w.heap.size w a es) :
    Calls Try.prog 23 #[.slice a n cap, .int .u64 now] w fun e w' => e = .returned (.int .u64 (flL es now)) ∧ Drew w w' := by
  have HL := Lib.hid hl
  have HE := Lib.hid hE
  have hn : n ≤ 4611686018427387904 := by omega
  clear hl hE hlen
  go_enter Try.func23, Try.ntmps23
  go_wp2
  go_loopw [5, 6] (fun s i wr => ∃ (k : Nat) (m : Int), k ≤ n ∧ i = .int .i64 k ∧ s = .int .u64 m ∧ U m ∧ max m (flL (es.drop k) now) = flL es now ∧ Drew w wr) (fun _ i _ => n - (intOf i).toNat)
  case atStart => exact ⟨0, 0, Nat.zero_le _, rfl, rfl, U_zero, by have := flL_nonneg es now; simp only [List.drop_zero]; omega, Drew.refl _⟩
  case round =>
    obtain ⟨k, m, hk, rfl, rfl, um, hm, hd⟩ := hrel
    by_cases hlt : k < n
    · have HW : EvsIn wr.heap.size wr a es := by obtain ⟨N, rfl⟩ := hd; exact HE.out
      have he : es[k]? = some (es[k]?.getD (0, 0)) := by simp [show k < es.length by rw [HL.out]; exact hlt]
      obtain ⟨b, off, rfl, hb, c0, c1⟩ := HW k _ he
      have ue := (hU.get he).1
      have hf := fl_drop now he
      rw [hf] at hm
      generalize es[k]?.getD (0, 0) = x at *
      obtain ⟨xa, xw⟩ := x
      dsimp only at c0 c1 ue hm
      have us := smL_U _ (hU.drop k)
      have hcs : (es.drop k).length = n - k := by rw [List.length_drop, HL.out]
      have hsub : EvsIn wr.heap.size wr (some ⟨b, off + k * 2, none⟩) (es.drop k) := by
        have := HW.sub k (es.length)
        rwa [List.take_of_length_le (by rw [List.length_drop]; omega)] at this
      have S (c N : Nat) := rsum_any (some ⟨b, off + k * 2, none⟩) (n - k) c (es.drop k) (wr.drewN N) hcs (hU.drop k) (by rw [hcs]; omega) hsub
      generalize smL (es.drop k) = s at *
      have hg0 := flL_nonneg (es.drop (k + 1)) now
      generalize hgg : flL (es.drop (k + 1)) now = g at *
      obtain ⟨q, hq⟩ : ∃ q, sbI now xa = q := ⟨_, rfl⟩
      obtain ⟨z, hz⟩ : ∃ z, sbI s q = z := ⟨_, rfl⟩
      have uq : U q := hq ▸ sbI_U now xa hnow ue
      have uz : U z := hz ▸ sbI_U s q us uq
      obtain ⟨t, ht⟩ : ∃ t, (if m < z then z else m) = t := ⟨_, rfl⟩
      have S1 (w : World) := ref_sub now xa w hnow ue
      have S2 (w : World) := ref_sub s q w us uq
      rw [hq] at S1
      rw [hz] at S2
      rw [hq, hz] at hm
      have ut : U t := by rw [← ht]; split; exact uz; exact um
      have HM : max t g = flL es now := by
        have htm : max m z = t := by rw [← ht]; split <;> omega
        omega
      have H0 := Lib.hid S
      have H1 := Lib.hid S1
      have H2 := Lib.hid S2
      have HMM := Lib.hid HM
      have HG := Lib.hid hgg
      clear S S1 S2 hm hq hz hf hcs hsub HM he HW hgg
      have hk1 : ¬ cap = k := by omega
      have hk2 : k ≤ cap := by omega
      go_wp2
      go_quiet (first
        | (go_at_call 32; with_reducible exact still_call (H0.out _ _))
        | (go_at_call 20; with_reducible exact still_call (H1.out _))
        | (go_at_call 20; with_reducible exact still_call (H2.out _)))
      go_wp2
      go_roundw
      case rel => exact ⟨k + 1, t, by omega, by go_num, rfl, ut, by rw [HG.out]; exact HMM.out, hd.trans ⟨_, rfl⟩⟩
      case measure => simp [intOf]; omega
    · obtain rfl : n = k := by omega
      have e : es.drop n = [] := List.drop_of_length_le (by rw [HL.out]; exact Nat.le_refl _)
      rw [e] at hm
      have hm2 : m = flL es now := by
        unfold U at um
        simp only [flL] at hm
        omega
      subst hm2
      clear e hm
      go_wp2
      go_ret
      exact ⟨rfl, hd⟩

theorem drew_evs {w wr : World} (hd : Drew w wr) {a : Option Addr} {es : List (Int × Int)} (h : EvsIn w.heap.size w a es) : EvsIn wr.heap.size wr a es := by obtain ⟨N, rfl⟩ := hd; exact h

set_option maxRecDepth 100000 in
set_option maxHeartbeats 1000000 in
theorem rconf_any (a : Option Addr) (n cap : Nat) (es : List (Int × Int)) (c : Int) (w : World) (hl : es.length = n) (hcap : n ≤ cap) (hU : EU es) (hc : U c) (hlen : es.length ≤ 4611686018427387904) (hE : EvsIn w.heap.size w a es) :
    Calls Try.prog 24 #[.slice a n cap, .int .u64 c] w fun e w' => e = .returned (.bool (cfB es c)) ∧ Drew w w' := by
  have HL := Lib.hid hl
  have HE := Lib.hid hE
  have hn : n ≤ 4611686018427387904 := by omega
  clear hl hE hlen
  go_enter Try.func24, Try.ntmps24
  go_wp2
  go_loopw [5] (fun i wr => ∃ k : Nat, k ≤ n ∧ i = .int .i64 k ∧ (∀ i j ei ej, i < k → i ≤ j → es[i]? = some ei → es[j]? = some ej → sbI (smL ((es.drop i).take (j + 1 - i))) (sbI ej.1 ei.1) ≤ c) ∧ Drew w wr) (fun i _ => n - (intOf i).toNat)
  case atStart => exact ⟨0, Nat.zero_le _, rfl, fun i j ei ej h => absurd h (by omega), Drew.refl _⟩
  case round =>
    obtain ⟨k, hk, rfl, hP, hd⟩ := hrel
    have HP := Lib.hid hP
    clear hP
    by_cases hlt : k < n
    · go_wp2
      go_loopw [6] (fun i wr => ∃ j : Nat, k ≤ j ∧ j ≤ n ∧ i = .int .i64 j ∧ (∀ j' ei ej, k ≤ j' → j' < j → es[k]? = some ei → es[j']? = some ej → sbI (smL ((es.drop k).take (j' + 1 - k))) (sbI ej.1 ei.1) ≤ c) ∧ Drew w wr) (fun i _ => n - (intOf i).toNat)
      case atStart => exact ⟨k, by omega, by omega, rfl, fun j' ei ej h1 h2 => absurd h2 (by omega), hd⟩
      case round =>
        clear hd
        obtain ⟨j, hkj, hj, rfl, hQ, hd⟩ := hrel
        have HQ := Lib.hid hQ
        clear hQ
        by_cases hlt2 : j < n
        · have HW := drew_evs hd HE.out
          have he : es[k]? = some (es[k]?.getD (0, 0)) := by simp [show k < es.length by rw [HL.out]; exact hlt]
          have hf : es[j]? = some (es[j]?.getD (0, 0)) := by simp [show j < es.length by rw [HL.out]; exact hlt2]
          generalize es[k]?.getD (0, 0) = x at *
          generalize es[j]?.getD (0, 0) = y at *
          obtain ⟨b, off, rfl, hb, c0, c1⟩ := HW k _ he
          obtain ⟨_, d0, d1⟩ := HW.cells hf
          have ux := (hU.get he).1
          have uy := (hU.get hf).1
          have HX := Lib.hid he
          have HY := Lib.hid hf
          obtain ⟨xa, xw⟩ := x
          obtain ⟨ya, yw⟩ := y
          dsimp only at c0 c1 d0 d1 ux uy
          have hsub := HW.sub k (j + 1 - k)
          have hsu : EU ((es.drop k).take (j + 1 - k)) := (hU.drop k).take _
          have us := smL_U _ hsu
          have hcs : ((es.drop k).take (j + 1 - k)).length = j + 1 - k := by rw [List.length_take, List.length_drop, HL.out]; omega
          have S (c N : Nat) := rsum_any (some ⟨b, off + k * 2, none⟩) (j + 1 - k) c ((es.drop k).take (j + 1 - k)) (wr.drewN N) hcs hsu (by rw [hcs]; omega) hsub
          obtain ⟨s, hs⟩ : ∃ s, smL ((es.drop k).take (j + 1 - k)) = s := ⟨_, rfl⟩
          rw [hs] at S us
          obtain ⟨q, hq⟩ : ∃ q, sbI ya xa = q := ⟨_, rfl⟩
          obtain ⟨z, hz⟩ : ∃ z, sbI s q = z := ⟨_, rfl⟩
          have uq : U q := hq ▸ sbI_U ya xa uy ux
          have uz : U z := hz ▸ sbI_U s q us uq
          have S1 (w : World) := ref_sub ya xa w uy ux
          have S2 (w : World) := ref_sub s q w us uq
          rw [hq] at S1
          rw [hz] at S2
          have HZ : sbI (smL ((es.drop k).take (j + 1 - k))) (sbI ya xa) = z := by rw [hs, hq, hz]
          have HZZ := Lib.hid HZ
          have H0 := Lib.hid S
          have H1 := Lib.hid S1
          have H2 := Lib.hid S2
          clear S S1 S2 hq hz hs hcs hsub he hf HW HZ
          have hk1 : ¬ cap = k := by omega
          have hk2 : k ≤ cap := by omega
          have hk3 : j + 1 ≤ cap := by omega
          have hw1 : IntKind.i64.wrap ((j : Int) + 1) = ((j + 1 : Nat) : Int) := by rw [IntKind.wrap_i64]; omega
          have hk4 : k ≤ j + 1 := by omega
          go_wp2
          go_quiet (first
            | (go_at_call 32; with_reducible exact still_call (H0.out _ _))
            | (go_at_call 20; with_reducible exact still_call (H1.out _))
            | (go_at_call 20; with_reducible exact still_call (H2.out _)))
          have hd2 : Drew w (wr.drewN nq) := hd.trans ⟨_, rfl⟩
          by_cases hcz : c < z
          · go_wp2
            go_ret
            have hF : cfB es c = false := by
              refine cfB_false _ _ fun h => ?_
              have := (cfB_pairs es c hc.1).1 h k j _ _ hkj HX.out HY.out
              rw [HZZ.out] at this
              omega
            exact ⟨by rw [hF]; rfl, hd2⟩
          · go_wp2
            go_roundw
            case rel =>
              refine ⟨j + 1, by omega, by omega, by go_num, fun j' ei ej h1 h2 h3 h4 => ?_, hd2⟩
              by_cases hjj : j' = j
              · subst hjj
                have a1 := HX.out
                have a2 := HY.out
                rw [h3] at a1
                rw [h4] at a2
                cases a1
                cases a2
                rw [HZZ.out]
                omega
              · exact HQ.out j' ei ej h1 (by omega) h3 h4
            case measure => simp [intOf]; omega
        · obtain rfl : j = n := by omega
          go_wp2
          go_roundw
          case rel =>
            refine ⟨k + 1, by omega, by go_num, fun i j' ei ej h1 h2 h3 h4 => ?_, hd⟩
            by_cases hik : i = k
            · subst hik
              exact HQ.out j' ei ej h2 (by rw [← HL.out]; exact (List.getElem?_eq_some_iff.1 h4).1) h3 h4
            · exact HP.out i j' ei ej (by omega) h2 h3 h4
          case measure => simp [intOf]; omega
    · obtain rfl : k = n := by omega
      have hT : cfB es c = true := (cfB_pairs es c hc.1).2 fun i j ei ej h1 h2 h3 => HP.out i j ei ej (by rw [← HL.out]; exact (List.getElem?_eq_some_iff.1 h2).1) h1 h2 h3
      go_wp2
      go_ret
      exact ⟨by rw [hT]; rfl, hd⟩

set_option maxRecDepth 100000 in
set_option maxHeartbeats 1000000 in
theorem rrise_any (a : Option Addr) (n cap : Nat) (es : List (Int × Int)) (w : World) (hl : es.length = n) (hlen : es.length ≤ 4611686018427387904) (hE : EvsIn w.heap.size w a es) :
    Calls Try.prog 25 #[.slice a n cap] w fun e w' => e = .returned (.bool (rsB es)) ∧ Drew w w' := by
  have HL := Lib.hid hl
  have HE := Lib.hid hE
  have hn : n ≤ 4611686018427387904 := by omega
  clear hl hE hlen
  go_enter Try.func25, Try.ntmps25
  go_wp2
  go_loopw [3] (fun i wr => ∃ k : Nat, i = .int .i64 ((k + 1 : Nat) : Int) ∧ (∀ i e f, i < k → es[i]? = some e → es[i + 1]? = some f → e.1 ≤ f.1) ∧ k ≤ n ∧ Drew w wr) (fun i _ => (n : Nat) + 1 - (intOf i).toNat)
  case atStart => exact ⟨0, rfl, fun i e f h => absurd h (by omega), Nat.zero_le _, Drew.refl _⟩
  case round =>
    obtain ⟨k, rfl, hP, hkn, hd⟩ := hrel
    have HP := Lib.hid hP
    clear hP
    have hw0 : IntKind.i64.wrap (((k + 1 : Nat) : Int) - 1) = (k : Int) := by rw [IntKind.wrap_i64]; omega
    have hw2 : IntKind.i64.wrap (((k + 1 : Nat) : Int) + 1) = ((k + 1 + 1 : Nat) : Int) := by rw [IntKind.wrap_i64]; omega
    by_cases hlt : k + 1 < n
    · have HW := drew_evs hd HE.out
      have he : es[k]? = some (es[k]?.getD (0, 0)) := by simp [show k < es.length by rw [HL.out]; omega]
      have hf : es[k + 1]? = some (es[k + 1]?.getD (0, 0)) := by simp [show k + 1 < es.length by rw [HL.out]; omega]
      generalize es[k]?.getD (0, 0) = x at *
      generalize es[k + 1]?.getD (0, 0) = y at *
      obtain ⟨b, off, rfl, hb, c0, c1⟩ := HW k _ he
      obtain ⟨_, d0, d1⟩ := HW.cells hf
      have HX := Lib.hid he
      have HY := Lib.hid hf
      obtain ⟨xa, xw⟩ := x
      obtain ⟨ya, yw⟩ := y
      dsimp only at c0 c1 d0 d1
      have hkn2 : k < n := by omega
      generalize hm : k + 1 = m at *
      have HMm := Lib.hid hm
      clear he hf HW hm
      go_wp2
      go_quiet (fail)
      have hd2 : Drew w (wr.drewN nq) := hd.trans ⟨_, rfl⟩
      by_cases hcz : ya < xa
      · go_wp2
        go_ret
        have hF : rsB es = false := by
          by_cases h : rsB es = true
          · have a2 := HY.out
            rw [← HMm.out] at a2
            have := (rsB_iff es).1 h k _ _ HX.out a2
            dsimp only at this
            omega
          · simpa using h
        exact ⟨by rw [hF]; rfl, hd2⟩
      · go_wp2
        go_roundw
        case rel =>
          refine ⟨m, by go_num, fun i e f h1 h2 h3 => ?_, by omega, hd2⟩
          by_cases hik : i = k
          · subst hik
            have a1 := HX.out
            have a2 := HY.out
            rw [← HMm.out] at a2
            rw [h2] at a1
            rw [h3] at a2
            cases a1
            cases a2
            dsimp only
            omega
          · exact HP.out i e f (by have := HMm.out; omega) h2 h3
        case measure => have := HMm.out; simp [intOf]; omega
    · have hT : rsB es = true := (rsB_iff es).2 fun i e f h2 h3 => HP.out i e f (by have := (List.getElem?_eq_some_iff.1 h3).1; have := HL.out; omega) h2 h3
      go_wp2
      go_ret
      exact ⟨by rw [hT]; rfl, hd⟩

set_option maxRecDepth 100000 in
set_option maxHeartbeats 1000000 in
theorem prise_any (a : Option Addr) (n cap : Nat) (es : List (Int × Int)) (w : World) (hl : es.length = n) (hlen : es.length ≤ 4611686018427387904) (hE : EvsIn w.heap.size w a es) :
    Calls Try.prog 18 #[.slice a n cap] w fun e w' => e = .returned (.bool (rsB es)) ∧ Drew w w' := by
  have HL := Lib.hid hl
  have HE := Lib.hid hE
  have hn : n ≤ 4611686018427387904 := by omega
  clear hl hE hlen
  go_enter Try.func18, Try.ntmps18
  go_wp2
  go_loopw [3] (fun i wr => ∃ k : Nat, i = .int .i64 ((k + 1 : Nat) : Int) ∧ (∀ i e f, i < k → es[i]? = some e → es[i + 1]? = some f → e.1 ≤ f.1) ∧ k ≤ n ∧ Drew w wr) (fun i _ => (n : Nat) + 1 - (intOf i).toNat)
  case atStart => exact ⟨0, rfl, fun i e f h => absurd h (by omega), Nat.zero_le _, Drew.refl _⟩
  case round =>
    obtain ⟨k, rfl, hP, hkn, hd⟩ := hrel
    have HP := Lib.hid hP
    clear hP
    have hw0 : IntKind.i64.wrap (((k + 1 : Nat) : Int) - 1) = (k : Int) := by rw [IntKind.wrap_i64]; omega
    have hw2 : IntKind.i64.wrap (((k + 1 : Nat) : Int) + 1) = ((k + 1 + 1 : Nat) : Int) := by rw [IntKind.wrap_i64]; omega
    by_cases hlt : k + 1 < n
    · have HW := drew_evs hd HE.out
      have he : es[k]? = some (es[k]?.getD (0, 0)) := by simp [show k < es.length by rw [HL.out]; omega]
      have hf : es[k + 1]? = some (es[k + 1]?.getD (0, 0)) := by simp [show k + 1 < es.length by rw [HL.out]; omega]
      generalize es[k]?.getD (0, 0) = x at *
      generalize es[k + 1]?.getD (0, 0) = y at *
      obtain ⟨b, off, rfl, hb, c0, c1⟩ := HW k _ he
      obtain ⟨_, d0, d1⟩ := HW.cells hf
      have HX := Lib.hid he
      have HY := Lib.hid hf
      obtain ⟨xa, xw⟩ := x
      obtain ⟨ya, yw⟩ := y
      dsimp only at c0 c1 d0 d1
      have hkn2 : k < n := by omega
      generalize hm : k + 1 = m at *
      have HMm := Lib.hid hm
      clear he hf HW hm
      go_wp2
      go_quiet (fail)
      have hd2 : Drew w (wr.drewN nq) := hd.trans ⟨_, rfl⟩
      by_cases hcz : ya < xa
      · go_wp2
        go_ret
        have hF : rsB es = false := by
          by_cases h : rsB es = true
          · have a2 := HY.out
            rw [← HMm.out] at a2
            have := (rsB_iff es).1 h k _ _ HX.out a2
            dsimp only at this
            omega
          · simpa using h
        exact ⟨by rw [hF]; rfl, hd2⟩
      · go_wp2
        go_roundw
        case rel =>
          refine ⟨m, by go_num, fun i e f h1 h2 h3 => ?_, by omega, hd2⟩
          by_cases hik : i = k
          · subst hik
            have a1 := HX.out
            have a2 := HY.out
            rw [← HMm.out] at a2
            rw [h2] at a1
            rw [h3] at a2
            cases a1
            cases a2
            dsimp only
            omega
          · exact HP.out i e f (by have := HMm.out; omega) h2 h3
        case measure => have := HMm.out; simp [intOf]; omega
    · have hT : rsB es = true := (rsB_iff es).2 fun i e f h2 h3 => HP.out i e f (by have := (List.getElem?_eq_some_iff.1 h3).1; have := HL.out; omega) h2 h3
      go_wp2
      go_ret
      exact ⟨by rw [hT]; rfl, hd⟩
end Go.Proofs.Ytinlppadebdjgaa.Wd
