/- The law's own asks tells yes, for any history and numbers; the law PastAsks; no conditions but those that each names. -/
import Derived.Test.YtinlppadebdjgaaPasK
import Derived.Test.YtinlppadebdjgaaPasE
namespace Go.Proofs.Ytinlppadebdjgaa.Wd
open Go Go.RowKit
set_option linter.unusedVariables false

theorem kbq {w a b : World} (h : Below w.heap.size w a) (g : Below a.heap.size a b) : Below w.heap.size w b := h.trans (g.mono h.size)
theorem dcL_len (es : List (Int × Int)) (now c x : Int) : (dcL es now c x).length ≤ es.length + 1 := by unfold dcL; split <;> simp

set_option maxRecDepth 100000 in
set_option maxHeartbeats 2000000 in
theorem asks_any (v : Value) (es : List (Int × Int)) (now c x : Int) (w : World) (hv : Hist w v es) (hU : EU es) (hl : es.length ≤ 60) (h1 : U now) (h2 : U c) (h3 : U x) :
    Calls Try.prog 12 #[v, .int .u64 now, .int .u64 c, .int .u64 x] w fun e w' => e = .returned (.bool true) ∧ Below w.heap.size w w' := by
  have D1 := Lib.hid (fun (w : World) (h : Hist w v es) => pdec_any v es now c x w h hU hl h1 h2 h3)
  have D2 := Lib.hid (fun (w : World) (h : Hist w v es) => rdec_any v es now c x w h hU hl h1 h2 h3)
  have F1 := Lib.hid (fun (w : World) (h : Hist w v es) => h.fill hU (by omega) h1)
  have F2 := Lib.hid (fun (w : World) (h : Hist w v es) => h.rfill hU (by omega) h1)
  have C1 := Lib.hid (fun (w : World) (h : Hist w v es) => h.conf hU (by omega) h2)
  have C2 := Lib.hid (fun (w : World) (h : Hist w v es) => h.rconf hU (by omega) h2)
  have R1 := Lib.hid (fun (w : World) (h : Hist w v es) => h.rises (by omega))
  have R2 := Lib.hid (fun (w : World) (h : Hist w v es) => h.rrises (by omega))
  have hdl := dcL_len es now c x
  have S1 := Lib.hid (fun (w : World) (u u' : Value) (h : Hist w u (dcL es now c x)) (h' : Hist w u' (dcL es now c x)) => h.same h' (by omega))
  generalize dcL es now c x = ds at *
  generalize cfB (es ++ [(now, x)]) c = q at *
  generalize cfB es c = cq at *
  generalize flL es now = fl at *
  generalize rsB es = rs at *
  have e1 : (fl == fl) = true := by simp
  have e2 : (cq == cq) = true := by simp
  have e3 : (rs == rs) = true := by simp
  have e4 : (q == q) = true := by simp
  clear hdl hU h1 h2 h3
  go_enter Try.func12, Try.ntmps12
  go_wp2_with (first
    | (go_at_call 13; ((with_reducible refine (D1.out _ hv).mono ?_); rintro e w1 ⟨v1, rfl, own1, b1⟩; have hv1 := hv.below b1; have hd1 := own_hist rfl own1))
    | (go_at_call 22; ((with_reducible refine (D2.out _ hv1).mono ?_); rintro e w2 ⟨v2, rfl, hd2, b2⟩; have hv2 := hv1.below b2; have hd12 := hd1.below b2))
    | (go_at_call 15; ((with_reducible refine (F1.out _ hv2).mono ?_); rintro e w3 ⟨rfl, b3⟩; have hv3 := hv2.below b3))
    | (go_at_call 23; ((with_reducible refine (F2.out _ hv3).mono ?_); rintro e w4 ⟨rfl, b4⟩; have hv4 := hv3.below b4))
    | (go_at_call 17; ((with_reducible refine (C1.out _ hv4).mono ?_); rintro e w5 ⟨rfl, b5⟩; have hv5 := hv4.below b5))
    | (go_at_call 24; ((with_reducible refine (C2.out _ hv5).mono ?_); rintro e w6 ⟨rfl, b6⟩; have hv6 := hv5.below b6; have hd16 := ((((hd12.below b3).below b4).below b5).below b6); have hd26 := ((((hd2.below b3).below b4).below b5).below b6)))
    | (go_at_call 21; ((with_reducible refine (S1.out _ _ _ hd16 hd26).mono ?_); rintro e w7 ⟨rfl, b7⟩; have hv7 := hv6.below b7))
    | (go_at_call 18; ((with_reducible refine (R1.out _ hv7).mono ?_); rintro e w8 ⟨rfl, b8⟩; have hv8 := hv7.below b8))
    | (go_at_call 25; ((with_reducible refine (R2.out _ hv8).mono ?_); rintro e w9 ⟨rfl, b9⟩)))
  go_ret
  exact ⟨rfl, kbq (kbq (kbq (kbq (kbq (kbq (kbq (kbq b1 b2) b3) b4) b5) b6) b7) b8) b9⟩

/-- A number that is shifted down is a number. -/
theorem div_pow_U (a P : Int) (ha : U a) (hP : 1 ≤ P) : U (a / P) := by
  unfold U at *
  have h1 := Int.ediv_nonneg ha.1 (show 0 ≤ P by omega)
  have h2 := Int.ediv_le_self P ha.1
  omega

set_option maxRecDepth 100000 in
set_option maxHeartbeats 2000000 in
theorem pastAsks_long (a : Option Addr) (n cap : Nat) (now most x k m : Int) (v : Value) (w : World) (hn : 40 < n) (hm : n ≤ 9223372036854775807) :
    Calls Try.prog 3 #[.slice a n cap, .int .u64 now, .int .u64 most, .int .u64 x, v, .int .u8 k, .int .u32 m] w fun e w' => e = .returned (.bool true) ∧ Below w.heap.size w w' := by
  have hn' : (40 : Int) < (n : Int) := by omega
  go_enter Try.func3, Try.ntmps3
  go_wp2_with (go_at_call 10; ((with_reducible refine (known_any _).mono ?_); rintro e w1 ⟨rfl, g1⟩))
  go_ret
  exact ⟨rfl, g1⟩

set_option maxRecDepth 100000 in
set_option maxHeartbeats 2000000 in
theorem pastAsks_short (a : Option Addr) (n cap : Nat) (es : List (Int × Int)) (hes : es.length = n) (now most x k m : Int) (a' : Option Addr) (n' cap' : Nat) (p q r s : Nat → Int) (w : World)
    (hv : Hist w (.slice a n cap) es) (hU : EU es) (hst : Steps w a' n' p q r s) (hm' : n' ≤ 9223372036854775807) (hn : n ≤ 40) (h1 : U now) (h2 : U most) (h3 : U x) (h4 : 0 ≤ k ∧ k ≤ 255) (h5 : 0 ≤ m ∧ m ≤ 4294967295) :
    Calls Try.prog 3 #[.slice a n cap, .int .u64 now, .int .u64 most, .int .u64 x, .slice a' n' cap', .int .u8 k, .int .u32 m] w fun e w' => e = .returned (.bool true) ∧ Below w.heap.size w w' := by
  have hn' : ¬ ((40 : Int) < (n : Int)) := by omega
  obtain ⟨sh, hs⟩ : ∃ sh : Nat, k % 64 = (sh : Int) := ⟨(k % 64).toNat, by omega⟩
  have hs2 : sh < 64 := by omega
  obtain ⟨P, hP⟩ : ∃ P : Int, (2 : Int) ^ sh = P := ⟨_, rfl⟩
  have hP1 : 1 ≤ P := by rw [← hP]; have := pow_pos sh; omega
  have um := div_pow_U most P h2 hP1
  have ux := div_pow_U x P h3 hP1
  obtain ⟨j, hj⟩ : ∃ j, min n' 40 = j := ⟨_, rfl⟩
  have hni : Nice j p q r := fun i hi => hst.nice i (by omega)
  have hev := evL_eu hni (by omega) j (Nat.le_refl _)
  have hel := evL_length p q r j
  have E1 := Lib.hid (fun (w : World) (h : Steps w a' n' p q r s) => events_any a' n' cap' p q r s w h hm')
  rw [hj] at E1
  have bT := tmL_le hni j (Nat.le_refl _)
  have hlast : ∀ i e, (evL p q r j)[i]? = some e → i + 1 = j → e.1 = tmL p r j := by
    intro i e he hi
    obtain ⟨h1, rfl⟩ := evL_get p q r j i e he
    rw [hi]
  have hT0 : j = 0 → tmL p r j = 0 := by intro h; rw [h]; rfl
  generalize evL p q r j = ev at *
  generalize tmL p r j = T at *
  have uT : U (T + k) := by unfold U; omega
  have um5 : U m := by unfold U; omega
  have A1 := Lib.hid (fun (w : World) (h : Hist w (.slice a n cap) es) => asks_any _ es now most x w h hU (by omega) h1 h2 h3)
  have A2 := Lib.hid (fun (w : World) (v : Value) (h : Hist w v ev) => asks_any v ev (T + k) m (x / P) w h hev (by omega) uT um5 ux)
  have A3 := Lib.hid (fun (w : World) (v : Value) (h : Hist w v ev) => asks_any v ev now most x w h hev (by omega) h1 h2 h3)
  have A4 := Lib.hid (fun (w : World) (h : Hist w (.slice a n cap) es) => asks_any _ es now (most / P) (x / P) w h hU (by omega) h1 um ux)
  have e1 : IntKind.u64.wrap (T + k) = T + k := IntWalk.u64_in _ (by unfold U at uT; omega)
  have HL := Lib.hid hlast
  have HT := Lib.hid hT0
  have HST := Lib.hid hst
  have hj40 : j ≤ 40 := by omega
  clear hev um ux uT um5 hU hni hlast hT0 hst hj
  unfold U at h1 h2 h3
  go_enter Try.func3, Try.ntmps3
  go_wp2_with (first
    | (go_at_call 10; ((with_reducible refine (known_any _).mono ?_); rintro e w1 ⟨rfl, b1⟩; have hv1 := hv.below b1; have hs1 := HST.out.below b1))
    | (go_at_call 11; ((with_reducible refine (E1.out _ hs1).mono ?_); rintro e w2 ⟨v2, rfl, own2, b2⟩; have hv2 := hv1.below b2; have hd2 := own_hist hel own2; refine stopHere ?_)))
  unfold Stop
  have hd2' := hd2
  obtain ⟨a2, cap2, rfl, c21, c22, c23⟩ := hd2
  rw [hel] at hd2' ⊢
  have D2 := Lib.hid hd2'
  by_cases hj0 : j = 0
  · have hT := HT.out hj0
    subst hj0
    subst hT
    simp only [Int.zero_add] at A2
    have hj00 : ((0 : Nat) : Int) = 0 := rfl
    clear hd2' own2 c23
    go_wp2_with (first
      | (go_at_call 12; ((with_reducible refine (A1.out _ hv2).mono ?_); rintro e w3 ⟨rfl, b3⟩; have hv3 := hv2.below b3; have hd3 := D2.out.below b3))
      | (go_at_call 12; ((with_reducible refine (A2.out _ _ hd3).mono ?_); rintro e w4 ⟨rfl, b4⟩; have hv4 := hv3.below b4; have hd4 := hd3.below b4))
      | (go_at_call 12; ((with_reducible refine (A3.out _ _ hd4).mono ?_); rintro e w5 ⟨rfl, b5⟩; have hv5 := hv4.below b5))
      | (go_at_call 12; ((with_reducible refine (A4.out _ hv5).mono ?_); rintro e w6 ⟨rfl, b6⟩)))
    go_ret
    exact ⟨rfl, kbq (kbq (kbq (kbq (kbq b1 b2) b3) b4) b5) b6⟩
  · have hjj : j - 1 < ev.length := by omega
    have he : ev[j - 1]? = some (ev[j - 1]?.getD (0, 0)) := by simp [hjj]
    have hT := HL.out _ _ he (by omega)
    obtain ⟨b, off, rfl, hb, d0, d1⟩ := c23 _ _ he
    rw [hT] at d0
    have hw : IntKind.i64.wrap ((j : Int) - 1) = ((j - 1 : Nat) : Int) := by rw [IntKind.wrap_i64]; omega
    have hjp : (0 : Int) < (j : Int) := by omega
    have hj1 : j - 1 < j := by omega
    generalize ev[j - 1]?.getD (0, 0) = z at *
    clear hd2' own2 c23 he hT d1
    generalize hjm : j - 1 = jm at *
    clear hjm
    go_wp2_with (first
      | (go_at_call 12; ((with_reducible refine (A1.out _ hv2).mono ?_); rintro e w3 ⟨rfl, b3⟩; have hv3 := hv2.below b3; have hd3 := D2.out.below b3))
      | (go_at_call 12; ((with_reducible refine (A2.out _ _ hd3).mono ?_); rintro e w4 ⟨rfl, b4⟩; have hv4 := hv3.below b4; have hd4 := hd3.below b4))
      | (go_at_call 12; ((with_reducible refine (A3.out _ _ hd4).mono ?_); rintro e w5 ⟨rfl, b5⟩; have hv5 := hv4.below b5))
      | (go_at_call 12; ((with_reducible refine (A4.out _ hv5).mono ?_); rintro e w6 ⟨rfl, b6⟩)))
    go_ret
    exact ⟨rfl, kbq (kbq (kbq (kbq (kbq b1 b2) b3) b4) b5) b6⟩

theorem pastAsks_walk (a : Option Addr) (n cap : Nat) (es : List (Int × Int)) (hes : es.length = n) (now most x k m : Int) (a' : Option Addr) (n' cap' : Nat) (p q r s : Nat → Int) (w : World)
    (hv : Hist w (.slice a n cap) es) (hU : EU es) (hm : n ≤ 9223372036854775807) (hst : Steps w a' n' p q r s) (hm' : n' ≤ 9223372036854775807) (h1 : U now) (h2 : U most) (h3 : U x) (h4 : 0 ≤ k ∧ k ≤ 255) (h5 : 0 ≤ m ∧ m ≤ 4294967295) :
    Calls Try.prog 3 #[.slice a n cap, .int .u64 now, .int .u64 most, .int .u64 x, .slice a' n' cap', .int .u8 k, .int .u32 m] w fun e w' => e = .returned (.bool true) ∧ Below w.heap.size w w' := by
  by_cases hn : 40 < n
  · exact pastAsks_long a n cap now most x k m _ w hn hm
  · exact pastAsks_short a n cap es hes now most x k m a' n' cap' p q r s w hv hU hst hm' (by omega) h1 h2 h3 h4 h5
theorem pastAsks_law (a : Option Addr) (n cap : Nat) (es : List (Int × Int)) (hes : es.length = n) (now most x : Int) (a' : Option Addr) (n' cap' : Nat) (p q r s : Nat → Int) (k m : Int) (w : World)
    (hv : Hist w (.slice a n cap) es) (hU : EU es) (hm : n ≤ 9223372036854775807) (h1 : U now) (h2 : U most) (h3 : U x) (hst : Steps w a' n' p q r s) (hm' : n' ≤ 9223372036854775807) (h4 : 0 ≤ k ∧ k ≤ 255) (h5 : 0 ≤ m ∧ m ≤ 4294967295) :
    Calls Try.prog 3 #[.slice a n cap, .int .u64 now, .int .u64 most, .int .u64 x, .slice a' n' cap', .int .u8 k, .int .u32 m] w fun e w' => e = .returned (.bool true) ∧ Below w.heap.size w w' :=
  pastAsks_walk a n cap es hes now most x k m a' n' cap' p q r s w hv hU hm hst hm' h1 h2 h3 h4 h5
end Go.Proofs.Ytinlppadebdjgaa.Wd
