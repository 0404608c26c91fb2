/- The law's own parts tells yes, for any history and numbers; the law PastParts; no conditions but those that each names. -/
import Derived.Test.YtinlppadebdjgaaPasT
namespace Go.Proofs.Ytinlppadebdjgaa.Wd
open Go Go.RowKit
set_option linter.unusedVariables false

/-- What a slice of a slice is, where it does not begin at the capacity's end. -/
theorem hist_sub {w : World} {b off n cap : Nat} {es : List (Int × Int)} (hl : es.length = n) (h : EvsIn w.heap.size w (some ⟨b, off, none⟩) es) (i j : Nat) (hij : i ≤ j) (hj : j ≤ n) (hc : n ≤ cap) : Hist w (.slice (some ⟨b, off + i * 2, none⟩) (j - i) (cap - i)) ((es.drop i).take (j - i)) := by
  have hll : ((es.drop i).take (j - i)).length = j - i := by rw [List.length_take, List.length_drop]; omega
  exact ⟨_, _, by rw [hll], by omega, fun h => (by cases h), h.sub i (j - i)⟩
theorem hist_empty (w : World) (a : Option Addr) (cap : Nat) (h : a = none → cap = 0) : Hist w (.slice a 0 cap) [] := ⟨a, cap, rfl, Nat.zero_le _, h, fun i e he => by simp at he⟩

theorem belowc {w w' : World} (g : Below w.heap.size w w') {b o : Nat} {v : Value} (c : w.cell? ⟨b, o, none⟩ = some v) : w'.cell? ⟨b, o, none⟩ = some v := (g.cell (p := ⟨b, o, none⟩) (block_of_cell c)).trans c
theorem cf_empty (c : Int) : cfB [] c = true := rfl

set_option maxRecDepth 100000 in
set_option maxHeartbeats 2000000 in
theorem parts_nil (a : Option Addr) (cap : Nat) (most more fr to : Int) (w : World) (hv : Hist w (.slice a 0 cap) []) (h1 : U most) (h2 : 0 ≤ more ∧ more ≤ 4294967295) (h3 : 0 ≤ fr ∧ fr ≤ 255) (h4 : 0 ≤ to ∧ to ≤ 255) :
    Calls Try.prog 19 #[.slice a 0 cap, .int .u64 most, .int .u32 more, .int .u8 fr, .int .u8 to] w fun e w' => e = .returned (.bool true) ∧ Below w.heap.size w w' := by
  have eu : EU [] := by intro e he; cases he
  have um : U more := by unfold U; omega
  have uw := sat_U (most + more) (by unfold U at *; omega)
  have C0 := Lib.hid (fun (w : World) (v : Value) (h : Hist w v []) => h.conf eu (by simp) h1)
  have C2 := Lib.hid (fun (w : World) (v : Value) (h : Hist w v []) => h.conf eu (by simp) uw)
  have C3 := Lib.hid (fun (w : World) => (nil_hist w).conf eu (by simp) h1)
  have A1 := Lib.hid (fun (w : World) => ref_add most more w h1 um)
  rw [cf_empty] at C0 C2 C3
  have CP := C0
  have t1 : fr.tmod 1 = 0 := by rw [Int.tmod_eq_emod_of_nonneg h3.1]; omega
  have t2 : to.tmod 1 = 0 := by rw [Int.tmod_eq_emod_of_nonneg h4.1]; omega
  have wm : IntKind.u64.wrap more = more := IntWalk.u64_in _ (by omega)
  have hn0 : a = none → cap = 0 := by
    obtain ⟨a', cap', g1, g2, g3, g4⟩ := hv
    simp only [Value.slice.injEq] at g1
    obtain ⟨rfl, -, rfl⟩ := g1
    exact g3
  clear eu um uw h1
  cases a with
  | none =>
    have hc := hn0 rfl
    subst hc
    clear hn0
    go_enter Try.func19, Try.ntmps19
    go_wp2_with (first
        | (go_at_call 17; ((with_reducible refine (C0.out _ _ hv).mono ?_); rintro e w1 ⟨rfl, b1⟩; have hv1 := hv.below b1))
        | (go_at_call 17; ((with_reducible refine (CP.out _ _ (nil_hist _)).mono ?_); rintro e w2 ⟨rfl, b2⟩; have hv2 := hv1.below b2))
        | (go_at_call 31; ((with_reducible refine (A1.out _).mono ?_); rintro e w3 ⟨rfl, rfl⟩))
        | (go_at_call 17; ((with_reducible refine (C2.out _ _ hv2).mono ?_); rintro e w4 ⟨rfl, b4⟩; have hv4 := hv2.below b4))
        | (go_at_call 17; ((with_reducible refine (C3.out _).mono ?_); rintro e w6 ⟨rfl, b6⟩)))
    go_ret
    exact ⟨rfl, kbq (kbq (kbq b1 b2) b4) b6⟩
  | some ad =>
    clear hn0
    by_cases hc : cap = 0
    · subst hc
      go_enter Try.func19, Try.ntmps19
      go_wp2_with (first
          | (go_at_call 17; ((with_reducible refine (C0.out _ _ hv).mono ?_); rintro e w1 ⟨rfl, b1⟩; have hv1 := hv.below b1))
          | (go_at_call 17; ((with_reducible refine (CP.out _ _ (hist_empty _ (some _) _ (fun h => by cases h))).mono ?_); rintro e w2 ⟨rfl, b2⟩; have hv2 := hv1.below b2))
          | (go_at_call 31; ((with_reducible refine (A1.out _).mono ?_); rintro e w3 ⟨rfl, rfl⟩))
          | (go_at_call 17; ((with_reducible refine (C2.out _ _ hv2).mono ?_); rintro e w4 ⟨rfl, b4⟩; have hv4 := hv2.below b4))
          | (go_at_call 17; ((with_reducible refine (C3.out _).mono ?_); rintro e w6 ⟨rfl, b6⟩)))
      go_ret
      exact ⟨rfl, kbq (kbq (kbq b1 b2) b4) b6⟩
    · go_enter Try.func19, Try.ntmps19
      go_wp2_with (first
          | (go_at_call 17; ((with_reducible refine (C0.out _ _ hv).mono ?_); rintro e w1 ⟨rfl, b1⟩; have hv1 := hv.below b1))
          | (go_at_call 17; ((with_reducible refine (CP.out _ _ (hist_empty _ (some _) _ (fun h => by cases h))).mono ?_); rintro e w2 ⟨rfl, b2⟩; have hv2 := hv1.below b2))
          | (go_at_call 31; ((with_reducible refine (A1.out _).mono ?_); rintro e w3 ⟨rfl, rfl⟩))
          | (go_at_call 17; ((with_reducible refine (C2.out _ _ hv2).mono ?_); rintro e w4 ⟨rfl, b4⟩; have hv4 := hv2.below b4))
          | (go_at_call 17; ((with_reducible refine (C3.out _).mono ?_); rintro e w6 ⟨rfl, b6⟩)))
      go_ret
      exact ⟨rfl, kbq (kbq (kbq b1 b2) b4) b6⟩

set_option maxRecDepth 100000 in
set_option maxHeartbeats 4000000 in
theorem parts_some (b off n cap : Nat) (es : List (Int × Int)) (hes : es.length = n) (most more fr to : Int) (w : World) (hv : Hist w (.slice (some ⟨b, off, none⟩) n cap) es) (hU : EU es) (hn0 : 0 < n) (hn : n ≤ 60) (h1 : U most) (h2 : 0 ≤ more ∧ more ≤ 4294967295) (h3 : 0 ≤ fr ∧ fr ≤ 255) (h4 : 0 ≤ to ∧ to ≤ 255) :
    Calls Try.prog 19 #[.slice (some ⟨b, off, none⟩) n cap, .int .u64 most, .int .u32 more, .int .u8 fr, .int .u8 to] w fun e w' => e = .returned (.bool true) ∧ Below w.heap.size w w' := by
  have eu : EU [] := by intro e he; cases he
  obtain ⟨hcap, hev⟩ : n ≤ cap ∧ EvsIn w.heap.size w (some ⟨b, off, none⟩) es := by
    obtain ⟨a', cap', g1, g2, g3, g4⟩ := hv
    simp only [Value.slice.injEq] at g1
    obtain ⟨rfl, g5, rfl⟩ := g1
    exact ⟨by omega, g4⟩
  have um : U more := by unfold U; omega
  have uw := sat_U (most + more) (by unfold U at *; omega)
  have hlast : es[es.length - 1]? = some (es[es.length - 1]?.getD (0, 0)) := by simp [show es.length - 1 < es.length by omega]
  obtain ⟨_, d0, _⟩ := hev.cells hlast
  have ul := (hU.get hlast).1
  have hfine := cfB_last es most
  obtain ⟨i, hi⟩ : ∃ i : Nat, fr % ((n : Int) + 1) = (i : Int) := ⟨(fr % ((n : Int) + 1)).toNat, by have := Int.emod_nonneg fr (b := (n : Int) + 1) (by omega); omega⟩
  have hi2 : i ≤ n := by have := Int.emod_lt_of_pos fr (b := (n : Int) + 1) (by omega); omega
  obtain ⟨d, hd⟩ : ∃ d : Nat, to % ((n : Int) - i + 1) = (d : Int) := ⟨(to % ((n : Int) - i + 1)).toNat, by have := Int.emod_nonneg to (b := (n : Int) - i + 1) (by omega); omega⟩
  have hd2 : d ≤ n - i := by have := Int.emod_lt_of_pos to (b := (n : Int) - i + 1) (by omega); omega
  have t1 : fr.tmod ((n : Int) + 1) = (i : Int) := by rw [Int.tmod_eq_emod_of_nonneg h3.1]; exact hi
  have t2 : to.tmod ((n : Int) - i + 1) = (d : Int) := by rw [Int.tmod_eq_emod_of_nonneg h4.1]; exact hd
  have w1 : IntKind.i64.wrap ((n : Int) + 1) = (n : Int) + 1 := by rw [IntKind.wrap_i64]; omega
  have w2 : IntKind.i64.wrap ((n : Int) - i) = (n : Int) - i := by rw [IntKind.wrap_i64]; omega
  have w3 : IntKind.i64.wrap ((n : Int) - i + 1) = (n : Int) - i + 1 := by rw [IntKind.wrap_i64]; omega
  obtain ⟨j, hj⟩ : ∃ j : Nat, i + d = j := ⟨_, rfl⟩
  have w4 : IntKind.i64.wrap ((i : Int) + d) = (j : Int) := by rw [IntKind.wrap_i64]; omega
  have w5 : IntKind.i64.wrap ((n : Int) - 1) = ((n - 1 : Nat) : Int) := by rw [IntKind.wrap_i64]; omega
  have wm : IntKind.u64.wrap more = more := IntWalk.u64_in _ (by omega)
  have z1 : ¬ ((n : Int) + 1 = 0) := by omega
  have z2 : ¬ ((n : Int) - i + 1 = 0) := by omega
  have hij : i ≤ j := by omega
  have hjn : j ≤ n := by omega
  have hjc : j ≤ cap := by omega
  have hic : i ≤ cap := by omega
  rw [hes] at d0 hlast ul hfine
  have hn1 : n - 1 < n := by omega
  have hnz : ¬ (n = 0) := by omega
  have hnz2 : ((n : Int) == 0) = false := by simp; omega
  have hpl : ((es.drop i).take (j - i)).length ≤ 100 := by rw [List.length_take, List.length_drop]; omega
  have hpu : EU ((es.drop i).take (j - i)) := (hU.drop i).take _
  have hpart := fun h => cfB_part es most h1.1 h i (j - i)
  have hmore := fun h => cfB_more es most (sat (most + more)) h (by rw [sat_min]; unfold U at *; omega)
  have hF2 := fun h => hfine h hlast
  have C0 := Lib.hid (fun (w : World) (v : Value) (h : Hist w v es) => h.conf hU (by omega) h1)
  have CP := Lib.hid (fun (w : World) (v : Value) (h : Hist w v ((es.drop i).take (j - i))) => h.conf hpu hpl h1)
  have C2 := Lib.hid (fun (w : World) (v : Value) (h : Hist w v es) => h.conf hU (by omega) uw)
  have C3 := Lib.hid (fun (w : World) => (nil_hist w).conf eu (by simp) h1)
  have A1 := Lib.hid (fun (w : World) => ref_add most more w h1 um)
  rw [cf_empty] at C3
  obtain ⟨ea, hea⟩ : ∃ ea, (es[n - 1]?.getD (0, 0)).1 = ea := ⟨_, rfl⟩
  rw [hea] at d0 ul hF2
  have F1 := Lib.hid (fun (w : World) (v : Value) (h : Hist w v es) => h.fill hU (by omega) ul)
  have HC := Lib.hid d0
  have HE := Lib.hid hev
  generalize flL es ea = X at *
  obtain ⟨pt, hpt⟩ : ∃ pt, cfB ((es.drop i).take (j - i)) most = pt := ⟨_, rfl⟩
  obtain ⟨wd, hwd⟩ : ∃ wd, cfB es (sat (most + more)) = wd := ⟨_, rfl⟩
  obtain ⟨is, his⟩ : ∃ is, cfB es most = is := ⟨_, rfl⟩
  rw [hpt] at CP hpart
  rw [hwd] at C2 hmore
  rw [his] at C0 hpart hmore hF2
  have P0 (w1 : World) (b1 : Below w.heap.size w w1) : Hist w1 (.slice (some ⟨b, off + i * 2, none⟩) (j - i) (cap - i)) ((es.drop i).take (j - i)) := hist_sub hes (below_evs b1 HE.out) i j hij hjn hcap
  have P1 (hh : cap = i) (w1 : World) : Hist w1 (.slice (some ⟨b, off, none⟩) 0 0) ((es.drop i).take (j - i)) := by
    have e1 : j - i = 0 := by omega
    rw [e1, List.take_zero]
    exact hist_empty _ _ _ (fun h => by cases h)
  have PP0 := Lib.hid P0
  have PP1 := Lib.hid P1
  clear eu um uw hlast ul hfine hi hd hU hpl hpu h1 h2 hpt hwd his hea d0 hev P0 P1 hj hd2
  cases is
  · clear hpart hmore hF2
    by_cases hci : cap = i
    · have HP := Lib.hid (PP1.out hci)
      clear PP0 PP1
      subst hci
      go_enter Try.func19, Try.ntmps19
      go_wp2_with (first
          | (go_at_call 17; ((with_reducible refine (C0.out _ _ hv).mono ?_); rintro e w1 ⟨rfl, b1⟩; have hv1 := hv.below b1))
          | (go_at_call 17; ((with_reducible refine (CP.out _ _ (HP.out _)).mono ?_); rintro e w2 ⟨rfl, b2⟩; have hv2 := hv1.below b2))
          | (go_at_call 31; ((with_reducible refine (A1.out _).mono ?_); rintro e w3 ⟨rfl, rfl⟩))
          | (go_at_call 17; ((with_reducible refine (C2.out _ _ hv2).mono ?_); rintro e w4 ⟨rfl, b4⟩; have hv4 := hv2.below b4; have d0 := belowc b4 (belowc b2 (belowc b1 HC.out))))
          | (go_at_call 15; ((with_reducible refine (F1.out _ _ hv4).mono ?_); rintro e w5 ⟨rfl, b5⟩))
          | (go_at_call 17; ((with_reducible refine (C3.out _).mono ?_); rintro e w6 ⟨rfl, b6⟩)))
      go_ret
      exact ⟨rfl, kbq (kbq (kbq (kbq b1 b2) b4) b5) b6⟩
    · go_enter Try.func19, Try.ntmps19
      go_wp2_with (first
          | (go_at_call 17; ((with_reducible refine (C0.out _ _ hv).mono ?_); rintro e w1 ⟨rfl, b1⟩; have hv1 := hv.below b1))
          | (go_at_call 17; ((with_reducible refine (CP.out _ _ (PP0.out _ b1)).mono ?_); rintro e w2 ⟨rfl, b2⟩; have hv2 := hv1.below b2))
          | (go_at_call 31; ((with_reducible refine (A1.out _).mono ?_); rintro e w3 ⟨rfl, rfl⟩))
          | (go_at_call 17; ((with_reducible refine (C2.out _ _ hv2).mono ?_); rintro e w4 ⟨rfl, b4⟩; have hv4 := hv2.below b4; have d0 := belowc b4 (belowc b2 (belowc b1 HC.out))))
          | (go_at_call 15; ((with_reducible refine (F1.out _ _ hv4).mono ?_); rintro e w5 ⟨rfl, b5⟩))
          | (go_at_call 17; ((with_reducible refine (C3.out _).mono ?_); rintro e w6 ⟨rfl, b6⟩)))
      go_ret
      exact ⟨rfl, kbq (kbq (kbq (kbq b1 b2) b4) b5) b6⟩
  · have hpt := hpart rfl
    have hwd := hmore rfl
    have hX := hF2 rfl
    subst hpt
    subst hwd
    have hXd : decide (X ≤ most) = true := by simpa using hX
    clear hpart hmore hF2
    by_cases hci : cap = i
    · have HP := Lib.hid (PP1.out hci)
      clear PP0 PP1
      subst hci
      go_enter Try.func19, Try.ntmps19
      go_wp2_with (first
          | (go_at_call 17; ((with_reducible refine (C0.out _ _ hv).mono ?_); rintro e w1 ⟨rfl, b1⟩; have hv1 := hv.below b1))
          | (go_at_call 17; ((with_reducible refine (CP.out _ _ (HP.out _)).mono ?_); rintro e w2 ⟨rfl, b2⟩; have hv2 := hv1.below b2))
          | (go_at_call 31; ((with_reducible refine (A1.out _).mono ?_); rintro e w3 ⟨rfl, rfl⟩))
          | (go_at_call 17; ((with_reducible refine (C2.out _ _ hv2).mono ?_); rintro e w4 ⟨rfl, b4⟩; have hv4 := hv2.below b4; have d0 := belowc b4 (belowc b2 (belowc b1 HC.out))))
          | (go_at_call 15; ((with_reducible refine (F1.out _ _ hv4).mono ?_); rintro e w5 ⟨rfl, b5⟩))
          | (go_at_call 17; ((with_reducible refine (C3.out _).mono ?_); rintro e w6 ⟨rfl, b6⟩)))
      go_ret
      exact ⟨rfl, kbq (kbq (kbq (kbq b1 b2) b4) b5) b6⟩
    · go_enter Try.func19, Try.ntmps19
      go_wp2_with (first
          | (go_at_call 17; ((with_reducible refine (C0.out _ _ hv).mono ?_); rintro e w1 ⟨rfl, b1⟩; have hv1 := hv.below b1))
          | (go_at_call 17; ((with_reducible refine (CP.out _ _ (PP0.out _ b1)).mono ?_); rintro e w2 ⟨rfl, b2⟩; have hv2 := hv1.below b2))
          | (go_at_call 31; ((with_reducible refine (A1.out _).mono ?_); rintro e w3 ⟨rfl, rfl⟩))
          | (go_at_call 17; ((with_reducible refine (C2.out _ _ hv2).mono ?_); rintro e w4 ⟨rfl, b4⟩; have hv4 := hv2.below b4; have d0 := belowc b4 (belowc b2 (belowc b1 HC.out))))
          | (go_at_call 15; ((with_reducible refine (F1.out _ _ hv4).mono ?_); rintro e w5 ⟨rfl, b5⟩))
          | (go_at_call 17; ((with_reducible refine (C3.out _).mono ?_); rintro e w6 ⟨rfl, b6⟩)))
      go_ret
      exact ⟨rfl, kbq (kbq (kbq (kbq b1 b2) b4) b5) b6⟩

theorem parts_any (v : Value) (es : List (Int × Int)) (most more fr to : Int) (w : World) (hv : Hist w v es) (hU : EU es) (hn : es.length ≤ 60) (h1 : U most) (h2 : 0 ≤ more ∧ more ≤ 4294967295) (h3 : 0 ≤ fr ∧ fr ≤ 255) (h4 : 0 ≤ to ∧ to ≤ 255) :
    Calls Try.prog 19 #[v, .int .u64 most, .int .u32 more, .int .u8 fr, .int .u8 to] w fun e w' => e = .returned (.bool true) ∧ Below w.heap.size w w' := by
  obtain ⟨a, cap, hvv, g1, g2, g3⟩ := id hv
  subst hvv
  by_cases h0 : es.length = 0
  · obtain rfl : es = [] := List.eq_nil_of_length_eq_zero h0
    exact parts_nil a cap most more fr to w hv h1 h2 h3 h4
  · have he : es[0]? = some (es[0]?.getD (0, 0)) := by simp [show 0 < es.length by omega]
    obtain ⟨b, off, rfl, _⟩ := g3 0 _ he
    exact parts_some b off es.length cap es rfl most more fr to w hv hU (by omega) hn h1 h2 h3 h4

set_option maxRecDepth 100000 in
theorem pastParts_long (a : Option Addr) (n cap : Nat) (most more fr to k : Int) (v : Value) (w : World) (hn : 30 < n) (hm : n ≤ 9223372036854775807) :
    Calls Try.prog 5 #[.slice a n cap, .int .u64 most, .int .u32 more, .int .u8 fr, .int .u8 to, v, .int .u8 k] w fun e w' => e = .returned (.bool true) ∧ Below w.heap.size w w' := by
  have hn' : (30 : Int) < (n : Int) := by omega
  go_enter Try.func5, Try.ntmps5
  go_wp2_with (go_at_call 10; ((with_reducible refine (known_any _).mono ?_); rintro e w1 ⟨rfl, g1⟩))
  go_ret
  exact ⟨rfl, g1⟩

set_option maxRecDepth 100000 in
set_option maxHeartbeats 2000000 in
theorem pastParts_short (a : Option Addr) (n cap : Nat) (es : List (Int × Int)) (hes : es.length = n) (most more fr to : Int) (a' : Option Addr) (n' cap' : Nat) (p q r s : Nat → Int) (k : Int) (w : World) (hv : Hist w (.slice a n cap) es) (hU : EU es) (hn : n ≤ 30) (h1 : U most) (h2 : 0 ≤ more ∧ more ≤ 4294967295) (h3 : 0 ≤ fr ∧ fr ≤ 255) (h4 : 0 ≤ to ∧ to ≤ 255)
    (hst : Steps w a' n' p q r s) (hm' : n' ≤ 9223372036854775807) (h5 : 0 ≤ k ∧ k ≤ 255) :
    Calls Try.prog 5 #[.slice a n cap, .int .u64 most, .int .u32 more, .int .u8 fr, .int .u8 to, .slice a' n' cap', .int .u8 k] w fun e w' => e = .returned (.bool true) ∧ Below w.heap.size w w' := by
  have hn' : ¬ ((30 : Int) < (n : Int)) := by omega
  obtain ⟨sh, hs⟩ : ∃ sh : Nat, k % 32 = (sh : Int) := ⟨(k % 32).toNat, by omega⟩
  have hs2 : sh < 32 := by omega
  obtain ⟨P, hP⟩ : ∃ P : Int, (2 : Int) ^ sh = P := ⟨_, rfl⟩
  have hP1 : 1 ≤ P := by rw [← hP]; have := pow_pos sh; omega
  have um : U more := by unfold U; omega
  have ud := div_pow_U more P um hP1
  obtain ⟨j, hj⟩ : ∃ j, min n' 40 = j := ⟨_, rfl⟩
  have hni : Nice j p q r := fun i hi => hst.nice i (by omega)
  have hev := evL_eu hni (by omega) j (Nat.le_refl _)
  have hel := evL_length p q r j
  have E1 := Lib.hid (fun (w : World) (h : Steps w a' n' p q r s) => events_any a' n' cap' p q r s w h hm')
  rw [hj] at E1
  generalize evL p q r j = ev at *
  have A1 := Lib.hid (fun (w : World) (h : Hist w (.slice a n cap) es) => parts_any _ es most more fr to w h hU (by omega) h1 h2 h3 h4)
  have A2 := Lib.hid (fun (w : World) (v : Value) (h : Hist w v ev) => parts_any v ev (more / P) more fr to w h hev (by omega) ud h2 h3 h4)
  have wm : IntKind.u64.wrap more = more := IntWalk.u64_in _ (by omega)
  have HST := Lib.hid hst
  clear hev um ud hU hni hst hj h1
  go_enter Try.func5, Try.ntmps5
  go_wp2_with (first
    | (go_at_call 10; ((with_reducible refine (known_any _).mono ?_); rintro e w1 ⟨rfl, b1⟩; have hv1 := hv.below b1; have hs1 := HST.out.below b1))
    | (go_at_call 19; ((with_reducible refine (A1.out _ hv1).mono ?_); rintro e w2 ⟨rfl, b2⟩; have hs2' := hs1.below b2))
    | (go_at_call 11; ((with_reducible refine (E1.out _ hs2').mono ?_); rintro e w3 ⟨v3, rfl, own3, b3⟩; have hd3 := own_hist hel own3))
    | (go_at_call 19; ((with_reducible refine (A2.out _ _ hd3).mono ?_); rintro e w4 ⟨rfl, b4⟩)))
  go_ret
  exact ⟨rfl, kbq (kbq (kbq b1 b2) b3) b4⟩

theorem pastParts_law (a : Option Addr) (n cap : Nat) (es : List (Int × Int)) (hes : es.length = n) (most more fr to : Int) (a' : Option Addr) (n' cap' : Nat) (p q r s : Nat → Int) (k : Int) (w : World) (hv : Hist w (.slice a n cap) es) (hU : EU es) (hm : n ≤ 9223372036854775807) (h1 : U most) (h2 : 0 ≤ more ∧ more ≤ 4294967295) (h3 : 0 ≤ fr ∧ fr ≤ 255) (h4 : 0 ≤ to ∧ to ≤ 255)
    (hst : Steps w a' n' p q r s) (hm' : n' ≤ 9223372036854775807) (h5 : 0 ≤ k ∧ k ≤ 255) :
    Calls Try.prog 5 #[.slice a n cap, .int .u64 most, .int .u32 more, .int .u8 fr, .int .u8 to, .slice a' n' cap', .int .u8 k] w fun e w' => e = .returned (.bool true) ∧ Below w.heap.size w w' := by
  by_cases hn : 30 < n
  · exact pastParts_long a n cap most more fr to k _ w hn hm
  · exact pastParts_short a n cap es hes most more fr to a' n' cap' p q r s k w hv hU (by omega) h1 h2 h3 h4 hst hm' h5
end Go.Proofs.Ytinlppadebdjgaa.Wd
