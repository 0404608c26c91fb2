/- What the document's Same answers of rows that hold the same, and past's Conforms of any row of events; no conditions but those that each names. -/
import Derived.Test.YtinlppadebdjgaaPasL
import Derived.Test.YtinlppadebdjgaaPasR
namespace Go.Proofs.Ytinlppadebdjgaa.Wd
open Go Go.RowKit
set_option linter.unusedVariables false

set_option maxRecDepth 100000 in
set_option maxHeartbeats 1000000 in
theorem rsame_eq (a a' : Option Addr) (n cap cap' : Nat) (es : List (Int × Int)) (w : World) (hl : es.length = n) (hlen : es.length ≤ 4611686018427387904) (hE : EvsIn w.heap.size w a es) (hE' : EvsIn w.heap.size w a' es) :
    Calls Try.prog 21 #[.slice a n cap, .slice a' n cap'] w fun e w' => e = .returned (.bool true) ∧ Drew w w' := by
  have HL := Lib.hid hl
  have HE := Lib.hid hE
  have HE' := Lib.hid hE'
  have hn : n ≤ 4611686018427387904 := by omega
  clear hl hE hlen hE'
  go_enter Try.func21, Try.ntmps21
  go_wp2
  go_loopw [5] (fun i wr => ∃ k : Nat, k ≤ n ∧ i = .int .i64 k ∧ Drew w wr) (fun i _ => n - (intOf i).toNat)
  case atStart => exact ⟨0, Nat.zero_le _, rfl, Drew.refl _⟩
  case round =>
    obtain ⟨k, hk, rfl, hd⟩ := hrel
    by_cases hlt : k < n
    · have HW := drew_evs hd HE.out
      have HW' := drew_evs hd HE'.out
      have he : es[k]? = some (es[k]?.getD (0, 0)) := by simp [show k < es.length by rw [HL.out]; omega]
      generalize es[k]?.getD (0, 0) = x at *
      obtain ⟨b, off, rfl, hb, c0, c1⟩ := HW k _ he
      obtain ⟨b', off', rfl, hb', d0, d1⟩ := HW' k _ he
      obtain ⟨xa, xw⟩ := x
      dsimp only at c0 c1 d0 d1
      clear he HW HW'
      go_wp2
      go_quiet (fail)
      have hd2 : Drew w (wr.drewN nq) := hd.trans ⟨_, rfl⟩
      go_wp2
      go_roundw
      case rel => exact ⟨k + 1, by omega, by go_num, hd2⟩
      case measure => simp [intOf]; omega
    · obtain rfl : k = n := by omega
      go_wp2
      go_ret
      exact ⟨rfl, hd⟩

theorem dcell {w : World} {a : Addr} {v : Value} (h : w.cell? a = some v) : w.drew.cell? a = some v := h
theorem below_evs {w wr : World} (hd : Below w.heap.size w wr) {a : Option Addr} {es : List (Int × Int)} (h : EvsIn w.heap.size w a es) : EvsIn wr.heap.size wr a es := fun i e he => by
  obtain ⟨b, off, h1, h2, h3, h4⟩ := h.below hd i e he
  exact ⟨b, off, h1, Nat.lt_of_lt_of_le h2 hd.size, h3, h4⟩

set_option maxRecDepth 100000 in
set_option maxHeartbeats 1000000 in
theorem pconf_any (a : Option Addr) (n cap : Nat) (es : List (Int × Int)) (c : Int) (w : World) (hl : es.length = n) (hcap : n ≤ cap) (hU : EU es) (hc : U c) (hlen : es.length ≤ 4611686018427387904) (hE : EvsIn w.heap.size w a es) :
    Calls Try.prog 17 #[.slice a n cap, .int .u64 c] w fun e w' => e = .returned (.bool (cfB es c)) ∧ Below w.heap.size w w' := by
  have HL := Lib.hid hl
  have HE := Lib.hid hE
  have hn : n ≤ 4611686018427387904 := by omega
  clear hl hE hlen
  go_enter Try.func17, Try.ntmps17
  go_wp2
  go_loopw [9] (fun i wr => ∃ k : Nat, k ≤ n ∧ i = .int .i64 k ∧ (∀ j e, j < k → es[j]? = some e → flL (es.take (j + 1)) e.1 ≤ c) ∧ Below w.heap.size w wr) (fun i _ => n - (intOf i).toNat)
  case atStart => exact ⟨0, Nat.zero_le _, rfl, fun j e h => absurd h (by omega), Below.refl _ _⟩
  case round =>
    obtain ⟨k, hk, rfl, hP, hd⟩ := hrel
    have HP := Lib.hid hP
    clear hP
    by_cases hlt : k < n
    · have HW := below_evs hd HE.out
      have he : es[k]? = some (es[k]?.getD (0, 0)) := by simp [show k < es.length by rw [HL.out]; omega]
      generalize es[k]?.getD (0, 0) = x at *
      obtain ⟨b, off, rfl, hb, c0, c1⟩ := HW k _ he
      have ux := (hU.get he).1
      have HX := Lib.hid he
      have hcs : (es.take (k + 1)).length = k + 1 := by rw [List.length_take, HL.out]; omega
      have hsub : EvsIn wr.heap.size wr (some ⟨b, off, none⟩) (es.take (k + 1)) := by
        have := HW.sub 0 (k + 1)
        simpa using this
      obtain ⟨xa, xw⟩ := x
      dsimp only at c0 c1 ux
      have F (cp : Nat) (w' : World) (g : Below wr.heap.size wr w') := pfill_any (some ⟨b, off, none⟩) cp (es.take (k + 1)) xa w' (hU.take _) ux (by rw [hcs]; omega) (below_evs g hsub)
      rw [hcs] at F
      obtain ⟨z, hz⟩ : ∃ z, flL (es.take (k + 1)) xa = z := ⟨_, rfl⟩
      rw [hz] at F
      have HZ := Lib.hid hz
      have FF := Lib.hid F
      clear F hz hcs hsub he HW
      have hk0 : ¬ cap = 0 := by omega
      have hk3 : k + 1 ≤ cap := by omega
      have hw1 : IntKind.i64.wrap ((k : Int) + 1) = (k : Int) + 1 := by rw [IntKind.wrap_i64]; omega
      have hw2 : (0 : Int) ≤ (k : Int) + 1 := by omega
      have hw3 : (k : Int) + 1 ≤ (cap : Int) := by omega
      go_wp2
      have kW : Below wr.heap.size wr (wr.alloc (.cells #[.int .u64 xa, .int .u64 xw] 29)) := (Below.refl _ _).alloc (Nat.le_refl _) _
      have x0 : (wr.alloc (.cells #[.int .u64 xa, .int .u64 xw] 29)).cell? ⟨wr.heap.size, 0, none⟩ = some (.int .u64 xa) := by simp
      go_region_held3 (fun w' => Below wr.heap.size wr w' ∧ w'.cell? ⟨wr.heap.size, 0, none⟩ = some (.int .u64 xa))
        (first | with_reducible exact ⟨kW, x0⟩ | with_reducible exact ⟨kW.drew, dcell x0⟩)
        ((go_at_call 15; ((with_reducible refine (FF.out _ _ (by first | exact kW | exact kW.drew)).mono ?_); rintro e w' ⟨rfl, g⟩; replace x0 := (g.cell (p := ⟨wr.heap.size, 0, none⟩) (by simp)).trans x0; (first | with_reducible (replace kW := kW.trans (g.mono (by simp))) | with_reducible (replace kW := kW.drew.trans (g.mono (by simp)))))))
      have hd2 : Below w.heap.size w w' := hd.trans (kW.mono hd.size)
      by_cases hcz : c < z
      · go_wp2
        go_ret
        have hF : cfB es c = false := by
          refine cfB_false _ _ fun h => ?_
          have := (cfB_iff es c).1 h k _ HX.out
          dsimp only at this
          rw [HZ.out] at this
          omega
        exact ⟨by rw [hF]; rfl, hd2⟩
      · go_wp2
        go_roundw
        case rel =>
          refine ⟨k + 1, by omega, by go_num, fun j e h1 h2 => ?_, hd2⟩
          by_cases hjk : j = k
          · subst hjk
            have a1 := HX.out
            rw [h2] at a1
            cases a1
            dsimp only
            rw [HZ.out]
            omega
          · exact HP.out j e (by omega) h2
        case measure => simp [intOf]; omega
    · obtain rfl : k = n := by omega
      have hT : cfB es c = true := (cfB_iff es c).2 fun j e h => HP.out j e (by rw [← HL.out]; exact (List.getElem?_eq_some_iff.1 h).1) h
      go_wp2
      go_ret
      exact ⟨by rw [hT]; rfl, hd⟩
end Go.Proofs.Ytinlppadebdjgaa.Wd
