/- tollerlaw09.KeyAsks answers true, for any texts, any row of texts, any rows of bytes, and any number of 8 bits; no conditions. -/
import Derived.Test.YtndipebpccdlfaaKeyW5
namespace Go.Proofs.Ytndipebpccdlfaa.Wd
open Go Go.RowKit
set_option linter.unusedVariables false

theorem dbel {w w' : World} (h : Drew w w') : Below w.heap.size w w' := h.kept.2

set_option maxHeartbeats 1000000 in
theorem asks_any (a b : ByteArray) (w : World) (ha : a.size ≤ 9223372036854775807) (hb : b.size ≤ 9223372036854775807) :
    Calls Try.prog 11 #[.string a, .string b] w fun e w' => e = .returned (.bool true) ∧ Below w.heap.size w w' := by
  have k1 := fun W => right_any a W ha
  have k2 := fun W => rright_any a W ha
  have k3 := fun W => less_any a b W ha hb
  have k4 := fun W => rless_any a b W ha hb
  have k5 := fun W => common_any a b W ha hb
  have k6 := fun W => rcommon_any a b W ha hb
  have k7 := fun W => has_any a b W ha hb
  have k8 := fun W => rhas_any a b W ha hb
  generalize decide (cm (lb a) (lb b) = b.size) = x at *
  generalize ((cm (lb a) (lb b) : Nat) : Int) = m at *
  generalize ls (lb a) (lb b) = y at *
  generalize rtB (lb a) = z at *
  have K1 := Lib.hid k1
  have K2 := Lib.hid k2
  have K3 := Lib.hid k3
  have K4 := Lib.hid k4
  have K5 := Lib.hid k5
  have K6 := Lib.hid k6
  have K7 := Lib.hid k7
  have K8 := Lib.hid k8
  clear k1 k2 k3 k4 k5 k6 k7 k8
  have kW := Below.refl w.heap.size w
  go_enter Try.func11, Try.ntmps11
  go_wp2_with (first
    | (go_at_call 16; (with_reducible refine (K1.out _).mono ?_); rintro e w2 ⟨rfl, rfl⟩)
    | (go_at_call 21; (with_reducible refine (K2.out _).mono ?_); rintro e w2 ⟨rfl, rfl⟩)
    | (go_at_call 20; (with_reducible refine (K3.out _).mono ?_); rintro e w2 ⟨rfl, g⟩; replace kW := kbq kW g; clear g)
    | (go_at_call 22; (with_reducible refine (K4.out _).mono ?_); rintro e w2 ⟨rfl, g⟩; replace kW := kbq kW (dbel g); clear g)
    | (go_at_call 19; (with_reducible refine (K5.out _).mono ?_); rintro e w2 ⟨rfl, g⟩; replace kW := kbq kW g; clear g)
    | (go_at_call 23; (with_reducible refine (K6.out _).mono ?_); rintro e w2 ⟨rfl, g⟩; replace kW := kbq kW (dbel g); clear g)
    | (go_at_call 18; (with_reducible refine (K7.out _).mono ?_); rintro e w2 ⟨rfl, g⟩; replace kW := kbq kW g; clear g)
    | (go_at_call 24; (with_reducible refine (K8.out _).mono ?_); rintro e w2 ⟨rfl, g⟩; replace kW := kbq kW (dbel g); clear g))
  go_ret
  exact ⟨rfl, kW⟩

theorem two_sts (W : World) (x y : ByteArray) (hx : x.size ≤ 12) (hy : y.size ≤ 12) : Sts (W.alloc (.cells #[.string x, .string y] 9)) (some ⟨W.heap.size, 0, none⟩) 2 [x, y] :=
  ⟨rfl, (fun z hz => by
    simp at hz
    rcases hz with rfl | rfl <;> omega), fun _ => ⟨W.heap.size, 0, rfl, by simp, fun k hk => by
    match k, hk with
    | 0, _ => simp
    | 1, _ => simp⟩⟩

set_option maxRecDepth 100000 in
set_option maxHeartbeats 2000000 in
theorem keyAsks_any (a b : ByteArray) (A : Option Addr) (n cap : Nat) (xs : List ByteArray) (X Y : Option Addr) (n1 c1 n2 c2 : Nat) (v : Int) (w : World) (ha : a.size ≤ 140737488355328) (hb : b.size ≤ 140737488355328)
    (h : Sts w A n xs) (hn : n ≤ 9223372036854775807) (hX : Byts w X n1) (hn1 : n1 ≤ 9223372036854775807) (hY : Byts w Y n2) (hn2 : n2 ≤ 9223372036854775807) (hv : 0 ≤ v ∧ v ≤ 255) :
    Calls Try.prog 3 #[.string a, .string b, .slice A n cap, .slice X n1 c1, .slice Y n2 c2, .int .u8 v] w fun e w' => e = .returned (.bool true) ∧ Below w.heap.size w w' := by
  have K0 := Lib.hid known_any
  obtain ⟨N, rfl⟩ : ∃ N : Nat, v = (N : Int) := ⟨v.toNat, by omega⟩
  have KX := Lib.hid (fun (W : World) (hW : Below w.heap.size w W) => key_any X n1 c1 W (hX.below hW) hn1)
  have KY := Lib.hid (fun (W : World) (hW : Below w.heap.size w W) => key_any Y n2 c2 W (hY.below hW) hn2)
  have SA := Lib.hid (fun (W : World) (hW : Below w.heap.size w W) => sorted_any A n cap xs W (h.below hW) hn)
  have SR := Lib.hid (fun (W : World) (hW : Below w.heap.size w W) => rsorted_any A n cap xs W (h.below hW) hn)
  have H := Lib.hid h
  have hsum : IntKind.i64.wrap ((a.size : Int) + (b.size : Int)) = (a.size : Int) + (b.size : Int) := by rw [IntKind.wrap_i64]; omega
  clear hX hY h
  go_enter Try.func3, Try.ntmps3
  go_wp2
  go_loop [13, 14] (fun t i => ∃ (T : Int) (k : Nat), t = .int .i64 T ∧ i = .int .i64 (k : Int) ∧ k ≤ n) (fun _ i => n - (intOf i).toNat)
  case atStart => exact ⟨_, 0, rfl, rfl, Nat.zero_le _⟩
  case round =>
    obtain ⟨T, k, rfl, rfl, hk⟩ := hrel
    by_cases hlt : k < n
    · by_cases hT : T ≤ 1000
      · obtain ⟨p, off, e, hp, hc⟩ := H.out.2.2 (by omega)
        subst e
        have c0 := hc k hlt
        generalize xs.getD k nob = s at *
        clear hc
        go_wp2
        go_round
        case rel => exact ⟨_, k + 1, rfl, by go_num, by omega⟩
        case measure => simp [intOf]; omega
      · have hT' : decide (T ≤ 1000) = false := decide_eq_false hT
        have hT2 : (1000 : Int) < T := by omega
        go_wp2_with (go_at_call 9; refine (K0.out _).mono ?_; rintro e w3 ⟨rfl, g3⟩)
        go_ret
        exact ⟨rfl, g3⟩
    · obtain rfl : k = n := by omega
      by_cases hT : (1000 : Int) < T
      · go_wp2_with (go_at_call 9; refine (K0.out _).mono ?_; rintro e w3 ⟨rfl, g3⟩)
        go_ret
        exact ⟨rfl, g3⟩
      · have hT' : decide ((1000 : Int) < T) = false := decide_eq_false hT
        go_wp2_with (go_at_call 9; refine (K0.out _).mono ?_; rintro e w3 ⟨rfl, g3⟩)
        go_loop [15, 16] (fun l j => ∃ q : Nat, q ≤ N ∧ j = .int .i64 (q : Int) ∧ l = .string (reps 120 q)) (fun _ j => N - (intOf j).toNat)
        case atStart => exact ⟨0, Nat.zero_le _, rfl, rfl⟩
        case round =>
          obtain ⟨q, hq, rfl, rfl⟩ := hrel
          by_cases hqn : q < N
          · have la := fun W => reps_add Try.prog W 120 q (by omega)
            generalize reps 120 q = L at *
            generalize hL' : reps 120 (q + 1) = L' at *
            have HL := Lib.hid hL'
            clear hL'
            go_wp2
            go_round
            case rel => exact ⟨q + 1, by omega, by go_num, by rw [HL.out]⟩
            case measure => simp [intOf]; omega
          · obtain rfl : q = N := by omega
            have zL : (reps 120 q).size ≤ 255 := by rw [reps_size]; omega
            generalize reps 120 q = L at *
            have kW := g3
            go_wp2_with (first
              | (go_at_call 10; (with_reducible refine (KX.out _ kW).mono ?_); rintro e w4 ⟨x, rfl, _, zx, g⟩; replace kW := kbq kW g; clear g)
              | (go_at_call 10; (with_reducible refine (KY.out _ kW).mono ?_); rintro e w5 ⟨y, rfl, _, zy, g⟩; replace kW := kbq kW g; clear g; refine stopHere ?_))
            unfold Stop
            have A1 := Lib.hid (fun W => asks_any a b W (by omega) (by omega))
            have A2 := Lib.hid (fun W => asks_any x y W (by omega) (by omega))
            have A3 := Lib.hid (fun W => asks_any (x ++ a) (x ++ b) W (by rw [ByteArray.size_append']; omega) (by rw [ByteArray.size_append']; omega))
            have A4 := Lib.hid (fun W => asks_any L (L ++ a) W (by omega) (by rw [ByteArray.size_append']; omega))
            have A5 := Lib.hid (fun W => asks_any x x W (by omega) (by omega))
            have B1 := Lib.hid (fun (W : World) => sorted_any (some ⟨W.heap.size, 0, none⟩) 2 2 [x, y] _ (two_sts W x y zx zy) (by decide))
            have B2 := Lib.hid (fun (W : World) => rsorted_any (some ⟨W.heap.size, 0, none⟩) 2 2 [x, y] _ (two_sts W x y zx zy) (by decide))
            generalize soB [x, y] = r2 at *
            generalize soB xs = r1 at *
            clear KX KY K0 H hk hlt hq hqn hsum
            go_wp2_with (first
              | (go_at_call 11; first
                  | ((with_reducible refine (A1.out _).mono ?_); rintro e w6 ⟨rfl, g⟩; replace kW := kbq kW g; clear g)
                  | ((with_reducible refine (A2.out _).mono ?_); rintro e w6 ⟨rfl, g⟩; replace kW := kbq kW g; clear g)
                  | ((with_reducible refine (A3.out _).mono ?_); rintro e w6 ⟨rfl, g⟩; replace kW := kbq kW g; clear g)
                  | ((with_reducible refine (A4.out _).mono ?_); rintro e w6 ⟨rfl, g⟩; replace kW := kbq kW g; clear g)
                  | ((with_reducible refine (A5.out _).mono ?_); rintro e w6 ⟨rfl, g⟩; replace kW := kbq kW g; clear g))
              | (go_at_call 12; (with_reducible refine (SA.out _ kW).mono ?_); rintro e w7 ⟨rfl, g⟩; replace kW := kbq kW g; clear g)
              | (go_at_call 13; (with_reducible refine (SR.out _ kW).mono ?_); rintro e w7 ⟨rfl, g⟩; replace kW := kbq kW (dbel g); clear g)
              | (go_at_call 12; (with_reducible refine (B1.out _).mono ?_); rintro e w8 ⟨rfl, g⟩; replace kW := kbq (kW.alloc kW.size _) g; clear g)
              | (go_at_call 13; (with_reducible refine (B2.out _).mono ?_); rintro e w8 ⟨rfl, g⟩; replace kW := kbq (kW.alloc kW.size _) (dbel g); clear g))
            go_ret
            exact ⟨rfl, kW⟩
end Go.Proofs.Ytndipebpccdlfaa.Wd
