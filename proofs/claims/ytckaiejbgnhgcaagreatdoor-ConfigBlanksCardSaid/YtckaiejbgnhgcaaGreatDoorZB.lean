/- What num's calls answer, for any numbers of 64 bits; no conditions. What the document's own answers of chapter 2 are: the same numbers as the program's; for any numbers of 64 bits. What key.Less, Common and Has answer, for any texts; no conditions but those that each names. What key.Right answers, for any text, and key.Sorted, for any row of texts; no conditions but those that each names. A row of texts in memory, and what key.Sorted answers of it; no conditions but those that each names. The document's answers of chapter 9 (tollerref09), for any texts and rows of texts; no conditions but those that each names. What kernel's calls answer, for any states and numbers of 64 bits; no conditions. The chapter's example stands (tollerlaw09.known), and what a key of choices is (tollerlaw09.Key); no conditions but those that each names. What digit.Print and digit.Width answer, for any number of 64 bits; no conditions. What digit.plain answers, for any text; no conditions. What digit.read and digit.Parse answer, for any text; no conditions. The document's answers of chapter 3 (tollerref03.Parse, Print), for any text and number; no conditions. The document's answer of chapter 3 on printing (tollerref03.Print), and 'asks': both Parses answer the same, for any text; no conditions. -/
import Derived.Test.YtckaiejbgnhgcaaGreatDoorZA
import Derived.Deep.QuietTactic
import Derived.BigQuiet
import Derived.WalkKit
import Derived.ProofKit
import Derived.Handy
import Derived.Lib.Hide
import Derived.LoopTactic
import Derived.Deep.RegionHeld3
import Derived.OwnWalk
import Derived.Laws.OwnMore
namespace Go.Proofs.YtckaiejbgnhgcaaGreatDoor.Wd
open Go.RowKit

theorem stop_any (h l : Int) (w : World) :
    Calls Tryz.prog 128 #[.int .u64 h, .int .u64 l] w fun e w' => e = .returned (.int .u64 (stopV h l)) ∧ w = w' := by
  by_cases c : h = 0
  · subst c
    have e : stopV 0 l = l := by simp [stopV]
    rw [e]; clear e
    go_enter Tryz.func128, Tryz.ntmps128
    go_wp2
    go_ret
    exact ⟨rfl, rfl⟩
  · have e : stopV h l = 18446744073709551615 := by simp [stopV, c]
    rw [e]; clear e
    have c1 : (h == 0) = false := by simpa using c
    have c2 : (h != 0) = true := by simpa using c
    go_enter Tryz.func128, Tryz.ntmps128
    go_wp2
    go_ret
    exact ⟨rfl, rfl⟩

theorem num_mul (a b : Int) (w : World) (ha : U a) (hb : U b) :
    Calls Tryz.prog 121 #[.int .u64 a, .int .u64 b] w fun e w' => e = .returned (.int .u64 (sat (a * b))) ∧ Kept w w' := by
  rw [← stop_mul a b ha hb]
  go_enter Tryz.func121, Tryz.ntmps121
  go_wp2_with (first
    | (go_at_call 129; ((with_reducible refine (mul_any _ _ _ ha hb).mono ?_); rintro e w' ⟨rfl, gw⟩))
    | (go_at_call 128; ((with_reducible refine (stop_any _ _ _).mono ?_); rintro e w'' ⟨rfl, rfl⟩)))
  go_ret
  exact ⟨rfl, gw⟩

end Go.Proofs.YtckaiejbgnhgcaaGreatDoor.Wd
namespace Go.Proofs.YtckaiejbgnhgcaaGreatDoor.Wd
open Go.RowKit

theorem rmul_any (a b : Int) (w : World) (ha : U a) (hb : U b) :
    Calls Tryz.prog 92 #[.int .u64 a, .int .u64 b] w fun e w' => e = .returned (.tuple #[.int .u64 (muH a b), .int .u64 (muL a b)]) ∧ w = w' := by
  have hz := mulAt_zero a b hb
  go_enter Tryz.func92, Tryz.ntmps92
  go_wp2
  go_loop [6, 7, 8] (fun x y i => ∃ (k : Nat) (x' y' : Int), k ≤ 64 ∧ i = .int .i64 ((k : Int) - 1) ∧ x = .int .u64 x' ∧ y = .int .u64 y' ∧ MulAt a b k x' y') (fun _ _ i => (intOf i + 1).toNat)
  case atStart => exact ⟨64, 0, 0, by omega, rfl, rfl, rfl, hz⟩
  case round =>
    obtain ⟨k, x', y', hk, rfl, rfl, rfl, hr⟩ := hrel
    clear hz
    obtain _ | k := k
    · obtain ⟨e1, e2⟩ := mulAt_end a b x' y' hr
      subst e1 e2
      clear hr
      have z : (((0 : Nat) : Int) - 1) = -1 := rfl
      rw [z]
      clear z
      go_wp2
      go_ret2
      exact ⟨rfl, rfl⟩
    · obtain ⟨x0, uy, ux, y0, y1⟩ := mulAt_step a b k x' y' ha hb hr
      clear hr
      have Y0 := Lib.hid y0
      have Y1 := Lib.hid y1
      clear y0 y1
      have e : (((k + 1 : Nat) : Int) - 1) = (k : Int) := by omega
      rw [e]
      clear e
      have hb0 := (div_pow_nonneg b k hb.1).1
      unfold U at ha uy ux
      go_wp2
      · rename_i g1 g2
        have g1' : b / 2 ^ k % 2 = 1 := by simpa using g1
        obtain ⟨m1, m2⟩ := Y1.out g1'
        unfold U at m2
        simp only [IntKind.wrap_u64] at g2 ⊢
        refine ⟨⟨k, _, _, by omega, rfl, ?_, ?_, m1⟩, by simp [intOf]⟩
        · exact congrArg (Value.int IntKind.u64) (by omega)
        · exact congrArg (Value.int IntKind.u64) (by omega)
      · rename_i g1 g2
        have g1' : b / 2 ^ k % 2 = 1 := by simpa using g1
        obtain ⟨m1, m2⟩ := Y1.out g1'
        unfold U at m2
        simp only [IntKind.wrap_u64] at g2 ⊢
        refine ⟨⟨k, _, _, by omega, rfl, ?_, ?_, m1⟩, by simp [intOf]⟩
        · exact congrArg (Value.int IntKind.u64) (by omega)
        · exact congrArg (Value.int IntKind.u64) (by omega)
      · rename_i g1
        have g1' : b / 2 ^ k % 2 = 0 := by have := beq_eq_false_iff_ne.mp g1; omega
        have m1 := Y0.out g1'
        simp only [IntKind.wrap_u64]
        refine ⟨⟨k, _, _, by omega, rfl, ?_, ?_, m1⟩, by simp [intOf]⟩
        · exact congrArg (Value.int IntKind.u64) (by omega)
        · exact congrArg (Value.int IntKind.u64) (by omega)


theorem ref_mul (a b : Int) (w : World) (ha : U a) (hb : U b) :
    Calls Tryz.prog 62 #[.int .u64 a, .int .u64 b] w fun e w' => e = .returned (.int .u64 (sat (a * b))) ∧ w = w' := by
  rw [← stop_mul a b ha hb]
  have hh := muH_U a b ha hb
  have m := rmul_any a b w ha hb
  by_cases c : muH a b = 0
  · have e : stopV (muH a b) (muL a b) = muL a b := by simp [stopV, c]
    rw [e]; clear e
    rw [c] at m
    generalize muL a b = l at *
    clear c hh
    go_enter Tryz.func62, Tryz.ntmps62
    go_wp2_with (go_at_call 92; ((with_reducible refine m.mono ?_); rintro e w' ⟨rfl, rfl⟩))
    go_ret
    exact ⟨rfl, rfl⟩
  · have e : stopV (muH a b) (muL a b) = 18446744073709551615 := by simp [stopV, c]
    rw [e]; clear e
    have h : 0 < muH a b := by unfold U at hh; omega
    generalize muL a b = l at *
    generalize muH a b = x at *
    clear c hh
    go_enter Tryz.func62, Tryz.ntmps62
    go_wp2_with (go_at_call 92; ((with_reducible refine m.mono ?_); rintro e w' ⟨rfl, rfl⟩))
    go_ret
    exact ⟨rfl, rfl⟩

end Go.Proofs.YtckaiejbgnhgcaaGreatDoor.Wd
namespace Go.Proofs.YtckaiejbgnhgcaaGreatDoor.Wd
open Go Go.RowKit Go.Shelf
set_option linter.unusedVariables false
attribute [local go_sem] Oper.semAt_some

theorem kbq {w a b : World} (h : Below w.heap.size w a) (g : Below a.heap.size a b) : Below w.heap.size w b := h.trans (g.mono h.size)

set_option maxRecDepth 100000 in
set_option maxHeartbeats 2000000 in
theorem less_in (n : Nat) (hn : 3 ≤ n) (a b : ByteArray) (ha : a.size ≤ 9223372036854775807) (hb : b.size ≤ 9223372036854775807) (w : World) :
    CallsIn Fence.wide n Tryz.prog 37 #[.string a, .string b] w fun e w' => e = .returned (.bool (ls (lb a) (lb b))) ∧ Below w.heap.size w w' := by
  have h1 : 1 ≤ n := by omega
  refine callsIn_of_wp_marks Tryz.func37 rfl trivial ?_ rfl
  simp only [Tryz.ntmps37, List.size_toArray, List.length_cons, List.length_nil, Nat.reduceAdd, Nat.reduceSub, Array.replicate_succ, Array.replicate_zero, List.push_toArray, List.append_toArray, List.nil_append, List.cons_append]
  gi_wp2_with (refine ⟨trivial, ?_⟩; gi_at_call 60; refine (pairs_in Fence.wide (n - 1) trivial rfl _ _ _).mono ?_; rintro e w' ⟨rfl, rfl⟩)
  have bR := ((Boxed.new w 4 (.bool false)).alloc (.cells #[.string a] 9)).alloc (.cells #[.string b] 9)
  have bA := (Boxed.new (w.alloc (.cells #[.bool false] 4)) 9 (.string a)).alloc (.cells #[.string b] 9)
  have bB := Boxed.new ((w.alloc (.cells #[.bool false] 4)).alloc (.cells #[.string a] 9)) 9 (.string b)
  simp only [World.size_alloc] at bA bB
  have hB0 : Below w.heap.size w (((w.alloc (.cells #[.bool false] 4)).alloc (.cells #[.string a] 9)).alloc (.cells #[.string b] 9)) := (((Below.refl _ w).alloc (Nat.le_refl _) _).alloc (by simp) _).alloc (by simp; omega) _
  have hsz : (((w.alloc (.cells #[.bool false] 4)).alloc (.cells #[.string a] 9)).alloc (.cells #[.string b] 9)).heap.size = w.heap.size + 3 := by simp
  obtain ⟨W0, hW0⟩ : ∃ W0, ((w.alloc (.cells #[.bool false] 4)).alloc (.cells #[.string a] 9)).alloc (.cells #[.string b] 9) = W0 := ⟨_, rfl⟩
  rw [hW0] at bR bA bB hB0 hsz ⊢
  clear hW0
  refine wpIn_rangeFunc_ownF rfl h1 (gf := 91) (lb := #[.pointer (some ⟨w.heap.size + 1, 0, none⟩), .pointer (some ⟨w.heap.size + 1 + 1, 0, none⟩)]) rfl trivial (enters_of Tryz.func91 (by kernel_rfl) rfl)
    (pairs1_stops (n - 1) (by omega) (w.heap.size + 1) a b ha hb W0 bA bB) two_t (two_b (by omega)) (Below.refl _ _) (fun _ => rfl)
    (fun pre W => ((∀ q ∈ pre, q.1 = q.2) ∧ W.cell? ⟨w.heap.size, 0, none⟩ = some (.bool false) ∧ W.frozen? ⟨w.heap.size, 0, none⟩ = false) ∧ Below w.heap.size w W)
    (fun c pre W => (c = .ret ∧ ∃ pre' x, pre = pre' ++ [x] ∧ (∀ q ∈ pre', q.1 = q.2) ∧ x.1 ≠ x.2 ∧ W.cell? ⟨w.heap.size, 0, none⟩ = some (.bool (decide (x.1 < x.2)))) ∧ Below w.heap.size w W)
    (OwnFrom.and (Own.from (fun s A B row hs hg hr => ⟨hs.1, cell_kept hs.2.1 hg hr, (frozen_kept hs.2.1 hg hr).trans hs.2.2⟩) _) (ownFrom_below (Nat.le_refl _) (by omega)))
    (fun c => OwnFrom.and (Own.from (fun s A B row hs hg hr => by obtain ⟨hc, p, x, h1, h2, h3, h4⟩ := hs; exact ⟨hc, p, x, h1, h2, h3, cell_kept h4 hg hr⟩) _) (ownFrom_below (Nat.le_refl _) (by omega)))
    ⟨⟨by simp, bR.cell, bR.frozen⟩, hB0⟩
    (fun x => { tmps := #[.string a, .string b, undef, undef, .pointer (some ⟨w.heap.size, 0, none⟩), .int .u8 (x.1.toNat : Int), .int .u8 (x.2.toNat : Int), .string a, .string b, .func (.func 91) #[] #[.pointer (some ⟨w.heap.size + 1, 0, none⟩), .pointer (some ⟨w.heap.size + 1 + 1, 0, none⟩)], .int .u8 (x.1.toNat : Int), .int .u8 (x.2.toNat : Int), undef, undef, undef, undef, undef, undef, undef, undef, undef, undef, undef], defers := [] }) ?assign ?body ?done ?stop
  case assign =>
    intro l x W K hK
    gi_wp2
    exact hK
  case body =>
    rintro l pre x W ⟨⟨hp, hcr, hfr⟩, hB⟩ _
    by_cases hx : x.1 = x.2
    · have hx' : ((x.1.toNat : Int) == (x.2.toNat : Int)) = true := by rw [hx]; simp
      have HX := Lib.hid hx
      clear hx
      gi_wp2
      exact ⟨KeepsOthers.refl _, Two.refl _ _, ⟨fun y hy => (List.mem_append.1 hy).elim (hp y) (fun e => by simp at e; subst e; exact HX.out), hcr, hfr⟩, hB⟩
    · have hx' := u8_ne hx
      have HX := Lib.hid hx
      have hd := u8_lt x.1 x.2
      have HD := Lib.hid hd
      clear hx hd
      gi_wp2
      refine ⟨KeepsOthers.setCell _ _ _, ⟨rfl, pre, x, rfl, hp, HX.out, ?_⟩, hB.setCell (p := ⟨w.heap.size, 0, none⟩) (by simp) _⟩
      rw [HD.out]
      exact World.cell?_setCell_same' _ _ _ (by rw [hcr]; rfl)
  case done =>
    rintro D ys W hD rfl ⟨⟨hne, hcr, hfr⟩, hB⟩ hK
    have E := ls_all hne
    rw [list_size, list_size] at E
    have HE := Lib.hid E
    clear E hne
    gi_wp2
    have hK' := (KeepsOthers.setCell W ⟨w.heap.size, 0, none⟩ (.bool (decide (a.size < b.size)))).same D _ hK rfl
    refine ⟨by simp, .inl ⟨_, _, rfl, run_takeDeferred hK', ?_⟩⟩
    have hc5 := cell_kept (World.cell?_setCell_same' W ⟨w.heap.size, 0, none⟩ (.bool (decide (a.size < b.size))) (by rw [hcr]; rfl)) (grownBy_putObj' _ D (.deferred none)) (fun r e => by cases e; exact ⟨_, hK', rfl⟩)
    refine ⟨.bool (decide (a.size < b.size)), ?_, by rw [HE.out], (hB.setCell (p := ⟨w.heap.size, 0, none⟩) (by simp) _).trans (belowK_b (w := w) (Nat.le_refl _) _ D _ _ (by omega) hK' rfl rfl)⟩
    simp [results, Tryz.f37, go_sem, hc5]
  case stop =>
    rintro D c pre W hD hpre ⟨⟨rfl, pre', x, rfl, hall, hne, hcr⟩, hB⟩ hK
    have HE := Lib.hid (ls_parts hpre hall hne)
    clear hpre hall hne
    gi_wp2
    refine ⟨by simp, .inl ⟨_, _, rfl, run_takeDeferred hK, ?_⟩⟩
    have hc5 := cell_kept hcr (grownBy_putObj' _ D (.deferred none)) (fun r e => by cases e; exact ⟨_, hK, rfl⟩)
    refine ⟨.bool (decide (x.1 < x.2)), ?_, by rw [HE.out], hB.trans (belowK_b (w := w) (Nat.le_refl _) W D _ _ (by omega) hK rfl rfl)⟩
    simp [results, Tryz.f37, go_sem, hc5]

theorem kless_any (a b : ByteArray) (w : World) (ha : a.size ≤ 9223372036854775807) (hb : b.size ≤ 9223372036854775807) :
    Calls Tryz.prog 37 #[.string a, .string b] w fun e w' => e = .returned (.bool (ls (lb a) (lb b))) ∧ Below w.heap.size w w' := callsIn_wide.1 (less_in 3 (Nat.le_refl _) a b ha hb w)

/-- Is a byte visible? -/
def visB (c : Int) : Bool := decide (33 ≤ c ∧ c ≤ 126)
theorem visible_any (c : Int) (w : World) (h : 0 ≤ c ∧ c ≤ 255) :
    Calls Tryz.prog 120 #[.int .u8 c] w fun e w' => e = .returned (.bool (visB c)) ∧ w = w' := by
  by_cases h1 : 33 ≤ c
  · by_cases h2 : c ≤ 126
    · rw [show visB c = true from decide_eq_true ⟨h1, h2⟩]
      go_enter Tryz.func120, Tryz.ntmps120
      go_wp2
      go_ret
      exact ⟨rfl, rfl⟩
    · rw [show visB c = false from decide_eq_false (fun g => h2 g.2)]
      go_enter Tryz.func120, Tryz.ntmps120
      go_wp2
      go_ret
      exact ⟨rfl, rfl⟩
  · rw [show visB c = false from decide_eq_false (fun g => h1 g.1)]
    go_enter Tryz.func120, Tryz.ntmps120
    go_wp2
    go_ret
    exact ⟨rfl, rfl⟩
end Go.Proofs.YtckaiejbgnhgcaaGreatDoor.Wd
namespace Go.Proofs.YtckaiejbgnhgcaaGreatDoor.Wd
open Go Go.RowKit
set_option linter.unusedVariables false

/-! ### Right -/
/-- May a key be? -/
def rtB (l : List UInt8) : Bool := decide (1 ≤ l.length ∧ l.length ≤ 128) && l.all (fun c => visB (c.toNat : Int))
theorem rt_none (s : ByteArray) (h : s.size < 1 ∨ 128 < s.size) : rtB (lb s) = false := by
  unfold rtB; rw [list_size, decide_eq_false (by omega)]; rfl
theorem rt_no (s : ByteArray) (j : Nat) (hj : j < s.size) (h : visB (s[j].toNat : Int) = false) : rtB (lb s) = false := by
  unfold rtB
  rw [show (lb s).all (fun c => visB (c.toNat : Int)) = false from ?_, Bool.and_false]
  rw [← Bool.not_eq_true, List.all_eq_true]
  intro g
  have := g s[j] (by rw [← list_at s j hj (by rw [list_size]; exact hj)]; exact List.getElem_mem _)
  rw [h] at this; cases this
theorem rt_yes (s : ByteArray) (h1 : 1 ≤ s.size) (h2 : s.size ≤ 128) (h : ∀ j (hj : j < s.size), visB (s[j].toNat : Int) = true) : rtB (lb s) = true := by
  unfold rtB
  rw [list_size, decide_eq_true ⟨h1, h2⟩, Bool.true_and, List.all_eq_true]
  intro b hb
  obtain ⟨i, hi, rfl⟩ := List.getElem_of_mem hb
  rw [list_at s i (by rw [← list_size]; exact hi)]
  exact h i _
theorem u8_bd (c : UInt8) : 0 ≤ (c.toNat : Int) ∧ (c.toNat : Int) ≤ 255 := ⟨by omega, by have := c.toNat_lt; omega⟩

theorem kright_any (s : ByteArray) (w : World) (hs : s.size ≤ 9223372036854775807) :
    Calls Tryz.prog 107 #[.string s] w fun e w' => e = .returned (.bool (rtB (lb s))) ∧ w = w' := by
  by_cases h0 : s.size < 1
  · rw [rt_none s (.inl h0)]
    go_enter Tryz.func107, Tryz.ntmps107
    go_wp2
    go_ret
    exact ⟨rfl, rfl⟩
  · by_cases h1 : 128 < s.size
    · rw [rt_none s (.inr h1)]
      go_enter Tryz.func107, Tryz.ntmps107
      go_wp2
      go_ret
      exact ⟨rfl, rfl⟩
    · have Y := Lib.hid (rt_yes s (by omega) (by omega))
      have N := Lib.hid (rt_no s)
      generalize rtB (lb s) = r at *
      go_enter Tryz.func107, Tryz.ntmps107
      go_wp2
      go_loop [14] (fun i => ∃ k : Nat, i = .int .i64 k ∧ k ≤ s.size ∧ Hid (∀ j (hj : j < s.size), j < k → visB (s[j].toNat : Int) = true)) (fun i => s.size - (intOf i).toNat)
      case atStart => exact ⟨0, rfl, by omega, Lib.hid (fun j _ hj => absurd hj (by omega))⟩
      case round =>
        obtain ⟨k, rfl, hk, D⟩ := hrel
        by_cases hlt : k < s.size
        · have v1 := fun W => visible_any (s[k].toNat : Int) W (u8_bd _)
          by_cases hb : visB (s[k].toNat : Int) = true
          · rw [hb] at v1
            go_wp2_with (go_at_call 120; refine (v1 _).mono ?_; rintro e w1 ⟨rfl, rfl⟩)
            go_round
            case rel =>
              refine ⟨k + 1, by go_num, by omega, Lib.hid (fun j hj hjk => ?_)⟩
              by_cases e : j = k
              · subst e; exact hb
              · exact D.out j hj (by omega)
            case measure => simp [intOf]; omega
          · have hf : visB (s[k].toNat : Int) = false := by simpa using hb
            rw [hf] at v1
            have e := N.out k hlt hf
            subst e
            clear hb
            go_wp2_with (go_at_call 120; refine (v1 _).mono ?_; rintro e w1 ⟨rfl, rfl⟩)
            go_ret
            exact ⟨rfl, rfl⟩
        · obtain rfl : k = s.size := by omega
          have e := Y.out (fun j hj => D.out j hj hj)
          subst e
          go_wp2
          go_ret
          exact ⟨rfl, rfl⟩
end Go.Proofs.YtckaiejbgnhgcaaGreatDoor.Wd
namespace Go.Proofs.YtckaiejbgnhgcaaGreatDoor.Wd
open Go Go.RowKit
set_option linter.unusedVariables false

/-- No byte. -/
abbrev nob : ByteArray := ⟨#[]⟩
/-- A row of texts that lies in memory. -/
def Sts (w : World) (A : Option Addr) (n : Nat) (xs : List ByteArray) : Prop :=
  xs.length = n ∧ (∀ x ∈ xs, x.size ≤ 9223372036854775807) ∧ (0 < n → ∃ b off, A = some ⟨b, off, none⟩ ∧ b < w.heap.size ∧ ∀ k, k < n → w.cell? ⟨b, off + k, none⟩ = some (.string (xs.getD k nob)))
theorem Sts.below {w w' : World} {A : Option Addr} {n : Nat} {xs : List ByteArray} (h : Sts w A n xs) (k : Below w.heap.size w w') : Sts w' A n xs :=
  ⟨h.1, h.2.1, fun hn => by
    obtain ⟨b, off, e, hb, hc⟩ := h.2.2 hn
    exact ⟨b, off, e, Nat.lt_of_lt_of_le hb k.size, fun j hj => (k.cell (p := ⟨b, off + j, none⟩) hb).trans (hc j hj)⟩⟩
theorem Sts.front {w : World} {A : Option Addr} {n k : Nat} {xs : List ByteArray} (h : Sts w A n xs) (hk : k ≤ n) : Sts w A k (xs.take k) :=
  ⟨by rw [List.length_take, h.1]; omega, fun x hx => h.2.1 x (List.mem_of_mem_take hx), fun hn => by
    obtain ⟨b, off, e, hb, hc⟩ := h.2.2 (by omega)
    refine ⟨b, off, e, hb, fun j hj => (hc j (by omega)).trans ?_⟩
    simp only [List.getD_eq_getElem?_getD, List.getElem?_take, if_pos hj]⟩
theorem Sts.cut {w : World} {b off n k : Nat} {xs : List ByteArray} (h : Sts w (some ⟨b, off, none⟩) n xs) (hk : k ≤ n) :
    Sts w (some ⟨b, off + k, none⟩) (n - k) (xs.drop k) :=
  ⟨by rw [List.length_drop, h.1], fun x hx => h.2.1 x (List.mem_of_mem_drop hx), fun hn => by
    obtain ⟨b', off', e, hb, hcell⟩ := h.2.2 (by omega)
    simp only [Option.some.injEq, Addr.mk.injEq] at e
    obtain ⟨rfl, rfl, _⟩ := e
    refine ⟨b, off + k, rfl, hb, fun j hj => ?_⟩
    have := hcell (k + j) (by omega)
    rw [Nat.add_assoc, this]
    simp only [List.getD_eq_getElem?_getD, List.getElem?_drop]⟩
theorem Sts.at {w : World} {A : Option Addr} {n : Nat} {xs : List ByteArray} (h : Sts w A n xs) (k : Nat) : (xs.getD k nob).size ≤ 9223372036854775807 := by
  by_cases hk : k < xs.length
  · rw [List.getD_eq_getElem?_getD, List.getElem?_eq_getElem hk]; exact h.2.1 _ (List.getElem_mem hk)
  · rw [List.getD_eq_getElem?_getD, List.getElem?_eq_none (by omega)]; exact Nat.zero_le _
theorem Sts.nil (w : World) (A : Option Addr) : Sts w A 0 [] := ⟨rfl, (fun _ h => nomatch h), fun h => absurd h (Nat.lt_irrefl _)⟩

/-! ### Keys that rise -/
def soB : List ByteArray → Bool
  | a :: b :: r => ls (lb a) (lb b) && soB (b :: r)
  | _ => true
theorem soB_iff : ∀ xs : List ByteArray, soB xs = true ↔ ∀ i, i + 1 < xs.length → ls (lb (xs.getD i nob)) (lb (xs.getD (i + 1) nob)) = true
  | [] => ⟨fun _ i h => by simp at h, fun _ => rfl⟩
  | [a] => ⟨fun _ i h => by simp at h, fun _ => rfl⟩
  | a :: b :: r => by
    rw [soB, Bool.and_eq_true, soB_iff (b :: r)]
    constructor
    · rintro ⟨h, g⟩ i hi
      cases i with
      | zero => simpa using h
      | succ i => have := g i (by simpa using hi); simpa using this
    · intro h
      refine ⟨by simpa using h 0 (by simp), fun i hi => ?_⟩
      have := h (i + 1) (by simpa using hi)
      simpa using this
theorem soB_no {xs : List ByteArray} (i : Nat) (hi : i + 1 < xs.length) (h : ls (lb (xs.getD i nob)) (lb (xs.getD (i + 1) nob)) = false) : soB xs = false := by
  rw [← Bool.not_eq_true, soB_iff]
  intro g
  rw [g i hi] at h; cases h
/-- What rises rises over whatever is between. -/
theorem so_far {xs : List ByteArray} (h : soB xs = true) : ∀ d i, i + d + 1 < xs.length → ls (lb (xs.getD i nob)) (lb (xs.getD (i + d + 1) nob)) = true := by
  rw [soB_iff] at h
  intro d
  induction d with
  | zero => intro i hi; exact h i (by omega)
  | succ d ih =>
    intro i hi
    exact ls_trans _ _ _ (ih i (by omega)) (h (i + d + 1) (by omega))
theorem so_less {xs : List ByteArray} (h : soB xs = true) {i j : Nat} (hij : i < j) (hj : j < xs.length) : ls (lb (xs.getD i nob)) (lb (xs.getD j nob)) = true := by
  have := so_far h (j - i - 1) i (by omega)
  rwa [show i + (j - i - 1) + 1 = j by omega] at this
theorem so_take {xs : List ByteArray} (h : soB xs = true) (k : Nat) : soB (xs.take k) = true := by
  rw [soB_iff] at h ⊢
  intro i hi
  rw [List.length_take] at hi
  have := h i (by omega)
  simp only [List.getD_eq_getElem?_getD, List.getElem?_take] at this ⊢
  rw [if_pos (by omega), if_pos (by omega)]; exact this
theorem so_drop {xs : List ByteArray} (h : soB xs = true) (k : Nat) : soB (xs.drop k) = true := by
  rw [soB_iff] at h ⊢
  intro i hi
  rw [List.length_drop] at hi
  have := h (k + i) (by omega)
  simp only [List.getD_eq_getElem?_getD, List.getElem?_drop] at this ⊢
  rw [show k + (i + 1) = k + i + 1 by omega]; exact this
theorem so_twice (xs : List ByteArray) (k : Nat) (hk : k < xs.length) : soB (xs.take (k + 1) ++ xs.drop k) = false := by
  refine soB_no k (by simp; omega) ?_
  have e1 : (xs.take (k + 1) ++ xs.drop k).getD k nob = xs.getD k nob := by
    simp only [List.getD_eq_getElem?_getD]
    rw [List.getElem?_append_left (by simp; omega), List.getElem?_take, if_pos (by omega)]
  have e2 : (xs.take (k + 1) ++ xs.drop k).getD (k + 1) nob = xs.getD k nob := by
    simp only [List.getD_eq_getElem?_getD]
    rw [List.getElem?_append_right (by simp; omega), List.getElem?_drop]
    rw [show k + (k + 1 - (xs.take (k + 1)).length) = k by simp; omega]
  rw [e1, e2]
  exact ls_irrefl _

theorem celln {w w' : World} (h : Below w.heap.size w w') {b o : Nat} {v : Value} (c : w.cell? ⟨b, o, none⟩ = some v) : w'.cell? ⟨b, o, none⟩ = some v := by
  have hb : b < w.heap.size := by
    by_cases hb : b < w.heap.size
    · exact hb
    · simp [World.cell?, hb] at c
  exact (h.cell (p := ⟨b, o, none⟩) hb).trans c
theorem dcell {w : World} {p : Addr} {v : Value} (c : w.cell? p = some v) : w.drew.cell? p = some v := c

set_option maxHeartbeats 1000000 in
theorem sorted_any (A : Option Addr) (n cap : Nat) (xs : List ByteArray) (w : World) (h : Sts w A n xs) (hn : n ≤ 9223372036854775807) :
    Calls Tryz.prog 43 #[.slice A n cap] w fun e w' => e = .returned (.bool (soB xs)) ∧ Below w.heap.size w w' := by
  have Y := Lib.hid ((soB_iff xs).2)
  have N := Lib.hid (@soB_no xs)
  generalize soB xs = r at *
  have H := Lib.hid h
  have HL := Lib.hid h.1
  clear h
  go_enter Tryz.func43, Tryz.ntmps43
  go_wp2
  go_loopw [3] (fun i wr => ∃ k : Nat, i = .int .i64 ((k : Int) + 1) ∧ Hid (k < n ∨ k = 0) ∧ Hid (∀ j, j < k → ls (lb (xs.getD j nob)) (lb (xs.getD (j + 1) nob)) = true) ∧ Below w.heap.size w wr) (fun i _ => n - (intOf i).toNat)
  case atStart => exact ⟨0, rfl, Lib.hid (.inr rfl), Lib.hid (fun j hj => absurd hj (by omega)), Below.refl _ _⟩
  case round =>
    obtain ⟨p, rfl, Q, D, hB⟩ := hrel
    by_cases hlt : p + 1 < n
    · have hS := H.out.below hB
      have l1 := fun W => kless_any (xs.getD p nob) (xs.getD (p + 1) nob) W (hS.at p) (hS.at (p + 1))
      obtain ⟨b, off, rfl, hb, hc⟩ := hS.2.2 (by omega)
      have c0 := hc p (by omega)
      have c1 := hc (p + 1) hlt
      have hw1 : IntKind.i64.wrap (p : Int) = (p : Int) := by rw [IntKind.wrap_i64]; omega
      have hp0 : (0 : Int) ≤ (p : Int) := by omega
      have hpn : p < n := by omega
      have hpn' : (p : Int) < (n : Int) := by omega
      have hqn' : (p : Int) + 1 < (n : Int) := by omega
      have hq0 : (0 : Int) ≤ (p : Int) + 1 := by omega
      have kW := Below.refl wr.heap.size wr
      obtain ⟨o, hx⟩ : ∃ o, o = ls (lb (xs.getD p nob)) (lb (xs.getD (p + 1) nob)) := ⟨_, rfl⟩
      rw [← hx] at l1
      have HX := Lib.hid hx
      have L1 := Lib.hid l1
      clear hc hS hx l1
      generalize hxa : xs.getD p nob = xa at *
      generalize hxb : xs.getD (p + 1) nob = xb at *
      go_wp2_with fail
      go_region_held3 (fun w' => Below wr.heap.size wr w' ∧ w'.cell? ⟨b, off + p, none⟩ = some (.string xa) ∧ w'.cell? ⟨b, off + (p + 1), none⟩ = some (.string xb))
        (first | with_reducible exact ⟨kW, c0, c1⟩ | with_reducible exact ⟨kW.drew, dcell c0, dcell c1⟩)
        ((go_at_call 37; ((with_reducible refine (L1.out _).mono ?_); rintro e w' ⟨rfl, g⟩; replace c0 := celln g (by first | exact c0 | exact dcell c0); replace c1 := celln g (by first | exact c1 | exact dcell c1); (first | with_reducible (replace kW := kbq kW g) | with_reducible (replace kW := kbq kW.drew g)); clear g)))
      rename_i hH
      have gF := hH.1
      clear hH
      subst hxa hxb
      rcases o with _ | _
      · have e := N.out p (by rw [HL.out]; omega) HX.out.symm
        subst e
        go_wp2
        go_ret
        exact ⟨rfl, kbq hB gF⟩
      · go_wp2
        go_roundw
        case rel =>
          refine ⟨p + 1, by go_num, Lib.hid (.inl hlt), Lib.hid (fun j hj => ?_), kbq hB gF⟩
          by_cases e : j = p
          · subst e; exact HX.out.symm
          · exact D.out j (by omega)
        case measure => simp [intOf]; omega
    · have e := Y.out (fun i hi => D.out i (by rw [HL.out] at hi; omega))
      subst e
      go_wp2
      go_ret
      exact ⟨rfl, hB⟩
end Go.Proofs.YtckaiejbgnhgcaaGreatDoor.Wd
namespace Go.Proofs.YtckaiejbgnhgcaaGreatDoor.Wd
open Go Go.RowKit
set_option linter.unusedVariables false

theorem rright_any (s : ByteArray) (w : World) (hs : s.size ≤ 9223372036854775807) :
    Calls Tryz.prog 61 #[.string s] w fun e w' => e = .returned (.bool (rtB (lb s))) ∧ w = w' := by
  by_cases h0 : s.size < 1
  · rw [rt_none s (.inl h0)]
    go_enter Tryz.func61, Tryz.ntmps61
    go_wp2
    go_ret
    exact ⟨rfl, rfl⟩
  · by_cases h1 : 128 < s.size
    · rw [rt_none s (.inr h1)]
      go_enter Tryz.func61, Tryz.ntmps61
      go_wp2
      go_ret
      exact ⟨rfl, rfl⟩
    · have Y := Lib.hid (rt_yes s (by omega) (by omega))
      have N := Lib.hid (rt_no s)
      generalize rtB (lb s) = r at *
      go_enter Tryz.func61, Tryz.ntmps61
      go_wp2
      go_loop [3] (fun i => ∃ k : Nat, i = .int .i64 k ∧ k ≤ s.size ∧ Hid (∀ j (hj : j < s.size), j < k → visB (s[j].toNat : Int) = true)) (fun i => s.size - (intOf i).toNat)
      case atStart => exact ⟨0, rfl, by omega, Lib.hid (fun j _ hj => absurd hj (by omega))⟩
      case round =>
        obtain ⟨k, rfl, hk, D⟩ := hrel
        by_cases hlt : k < s.size
        · by_cases c1 : (s[k].toNat : Int) < 33
          · have e := N.out k hlt (decide_eq_false (fun g => by omega))
            subst e
            go_wp2
            go_ret
            exact ⟨rfl, rfl⟩
          · by_cases c2 : (126 : Int) < (s[k].toNat : Int)
            · have e := N.out k hlt (decide_eq_false (fun g => by omega))
              subst e
              go_wp2
              go_ret
              exact ⟨rfl, rfl⟩
            · have hb : visB (s[k].toNat : Int) = true := decide_eq_true ⟨by omega, by omega⟩
              have HB := Lib.hid hb
              clear hb
              go_wp2
              go_round
              case rel =>
                refine ⟨k + 1, by go_num, by omega, Lib.hid (fun j hj hjk => ?_)⟩
                by_cases e : j = k
                · subst e; exact HB.out
                · exact D.out j hj (by omega)
              case measure => simp [intOf]; omega
        · obtain rfl : k = s.size := by omega
          have e := Y.out (fun j hj => D.out j hj hj)
          subst e
          go_wp2
          go_ret
          exact ⟨rfl, rfl⟩

theorem cm_at (a b : ByteArray) (k : Nat) (h1 : k ≤ a.size) (h2 : k ≤ b.size) (h : ∀ j (ha : j < a.size) (hb : j < b.size), j < k → a[j] = b[j]) (hn : ∀ (ha : k < a.size) (hb : k < b.size), a[k] ≠ b[k]) : cm (lb a) (lb b) = k := by
  refine cm_is k _ _ (by rw [list_size]; exact h1) (by rw [list_size]; exact h2) ?_ (fun g1 g2 => ?_)
  · refine List.ext_getElem (by simp; omega) (fun i i1 i2 => ?_)
    simp at i1 i2
    rw [List.getElem_take, List.getElem_take, list_at a i (by omega), list_at b i (by omega)]
    exact h i _ _ (by omega)
  · rw [list_size] at g1 g2
    rw [list_at a k g1, list_at b k g2]
    exact hn g1 g2

set_option maxHeartbeats 1000000 in
theorem rcommon_any (a b : ByteArray) (w : World) (ha : a.size ≤ 9223372036854775807) (hb : b.size ≤ 9223372036854775807) :
    Calls Tryz.prog 71 #[.string a, .string b] w fun e w' => e = .returned (.int .i64 (cm (lb a) (lb b) : Int)) ∧ Drew w w' := by
  have E := Lib.hid (cm_at a b)
  generalize cm (lb a) (lb b) = m at *
  go_enter Tryz.func71, Tryz.ntmps71
  go_wp2
  go_loopw [5] (fun i wr => ∃ k : Nat, i = .int .i64 (k : Int) ∧ k ≤ a.size ∧ k ≤ b.size ∧ Hid (∀ j (ha : j < a.size) (hb : j < b.size), j < k → a[j] = b[j]) ∧ Drew w wr) (fun i _ => a.size - (intOf i).toNat)
  case atStart => exact ⟨0, rfl, Nat.zero_le _, Nat.zero_le _, Lib.hid (fun j _ _ hj => absurd hj (by omega)), Drew.refl _⟩
  case round =>
    obtain ⟨k, rfl, h1, h2, D, hd⟩ := hrel
    by_cases c1 : k < a.size
    · have d1 : decide ((k : Int) < (a.size : Int)) = true := decide_eq_true (by omega)
      by_cases c2 : k < b.size
      · have d2 : decide ((k : Int) < (b.size : Int)) = true := decide_eq_true (by omega)
        by_cases c3 : a[k] = b[k]
        · have d3 : ((a[k].toNat : Int) == (b[k].toNat : Int)) = true := by rw [c3]; simp
          have C3 := Lib.hid c3
          clear c3
          go_wp2
          go_quiet (fail)
          go_wp2
          go_roundw
          case rel =>
            refine ⟨k + 1, by go_num, by omega, by omega, Lib.hid (fun j g1 g2 hj => ?_), hd.trans ⟨_, rfl⟩⟩
            by_cases e : j = k
            · subst e; exact C3.out
            · exact D.out j g1 g2 (by omega)
          case measure => simp [intOf]; omega
        · have d3 := u8_ne c3
          have e := E.out k h1 h2 D.out (fun _ _ => c3)
          subst e
          clear c3
          go_wp2
          go_quiet (fail)
          go_wp2
          go_ret
          exact ⟨rfl, hd.trans ⟨_, rfl⟩⟩
      · have d2 : decide ((k : Int) < (b.size : Int)) = false := decide_eq_false (by omega)
        have e := E.out k h1 h2 D.out (fun _ g => absurd g c2)
        subst e
        go_wp2
        go_quiet (fail)
        go_wp2
        go_ret
        exact ⟨rfl, hd.trans ⟨_, rfl⟩⟩
    · have d1 : decide ((k : Int) < (a.size : Int)) = false := decide_eq_false (by omega)
      have e := E.out k h1 h2 D.out (fun g _ => absurd g c1)
      subst e
      go_wp2
      go_quiet (fail)
      go_wp2
      go_ret
      exact ⟨rfl, hd.trans ⟨_, rfl⟩⟩

theorem ls_at (a b : ByteArray) (k : Nat) (hk : cm (lb a) (lb b) = k) (h1 : k < a.size) (h2 : k < b.size) : ls (lb a) (lb b) = decide (a[k].toNat < b[k].toNat) := by
  subst hk
  rw [ls_cm, dif_pos ⟨by rw [list_size]; exact h1, by rw [list_size]; exact h2⟩, list_at a _ h1, list_at b _ h2, u8_lt]
theorem ls_end (a b : ByteArray) (k : Nat) (hk : cm (lb a) (lb b) = k) (h : k = a.size ∨ k = b.size) : ls (lb a) (lb b) = decide (a.size < b.size) := by
  rw [ls_cm, dif_neg (by rw [list_size, list_size]; omega), list_size, list_size]

theorem rless_any (a b : ByteArray) (w : World) (ha : a.size ≤ 9223372036854775807) (hb : b.size ≤ 9223372036854775807) :
    Calls Tryz.prog 49 #[.string a, .string b] w fun e w' => e = .returned (.bool (ls (lb a) (lb b))) ∧ Drew w w' := by
  have c := fun W => rcommon_any a b W ha hb
  have le1 := cm_le_left (lb a) (lb b)
  have le2 := cm_le_right (lb a) (lb b)
  rw [list_size] at le1 le2
  obtain ⟨k, hk⟩ : ∃ k, cm (lb a) (lb b) = k := ⟨_, rfl⟩
  have E1 := ls_at a b k hk
  have E2 := ls_end a b k hk
  rw [hk] at c le1 le2
  generalize ls (lb a) (lb b) = r at *
  clear hk
  by_cases h1 : k = a.size
  · have d1 : ((k : Int) == (a.size : Int)) = true := by rw [h1]; simp
    have e := E2 (.inl h1)
    subst e
    clear E1 E2 h1
    go_enter Tryz.func49, Tryz.ntmps49
    go_wp2_with (go_at_call 71; refine (c _).mono ?_; rintro e w1 ⟨rfl, g⟩)
    go_ret
    exact ⟨rfl, g⟩
  · have d1 : ((k : Int) == (a.size : Int)) = false := beq_eq_false_iff_ne.2 (by omega)
    by_cases h2 : k = b.size
    · have d2 : ((k : Int) == (b.size : Int)) = true := by rw [h2]; simp
      have e := E2 (.inr h2)
      subst e
      clear E1 E2 h1 h2
      go_enter Tryz.func49, Tryz.ntmps49
      go_wp2_with (go_at_call 71; refine (c _).mono ?_; rintro e w1 ⟨rfl, g⟩)
      go_ret
      exact ⟨rfl, g⟩
    · have d2 : ((k : Int) == (b.size : Int)) = false := beq_eq_false_iff_ne.2 (by omega)
      have k1 : k < a.size := by omega
      have k2 : k < b.size := by omega
      have e := E1 k1 k2
      subst e
      clear E1 E2 h1 h2
      go_enter Tryz.func49, Tryz.ntmps49
      go_wp2_with (go_at_call 71; refine (c _).mono ?_; rintro e w1 ⟨rfl, g⟩)
      go_quiet (fail)
      go_wp2
      go_ret
      exact ⟨rfl, g.trans ⟨_, rfl⟩⟩

theorem Sts.drew {w w' : World} {A : Option Addr} {n : Nat} {xs : List ByteArray} (h : Sts w A n xs) (d : Drew w w') : Sts w' A n xs := h.below d.kept.2

end Go.Proofs.YtckaiejbgnhgcaaGreatDoor.Wd
namespace Go.Proofs.YtckaiejbgnhgcaaGreatDoor.Wd
open Go.RowKit
set_option linter.unusedVariables false

/-- Is it a kernel? -/
def isK (k : Int) : Bool := decide (1 ≤ k ∧ k ≤ 3)
def kerV (k : Int) : Value := if k = 1 then kern1 else if k = 2 then kern2 else if k = 3 then kern3 else .agg #[.nilFunc, .nilFunc, .nilFunc]
theorem run_look_any (w : World) (b : Nat) (k : Int) (hb : w.heap[b]? = some kerMap) :
    (Instr.lookup 183 (.map (some b)) (.int .u8 k) true).run Tryz.prog w = .ok (.tuple #[kerV k, .bool (isK k)]) w := by
  refine run_look w b k _ _ hb ?_
  unfold kerV isK
  by_cases h1 : k = 1
  · subst h1; left; simp
  by_cases h2 : k = 2
  · subst h2; right; left; simp
  by_cases h3 : k = 3
  · subst h3; right; right; left; simp
  right; right; right
  simp [h1, h2, h3]; omega
theorem kernels_new (w : World) :
    Calls Tryz.prog 122 #[] w fun e w' => ∃ p : Nat, e = .returned (.map (some p)) ∧ Kept w w' ∧ ∀ k w2, Kept w' w2 → (Instr.lookup 183 (.map (some p)) (.int .u8 k) true).run Tryz.prog w2 = .ok (.tuple #[kerV k, .bool (isK k)]) w2 := by
  refine (kernels_any w).mono ?_
  rintro e w' ⟨rfl, rfl⟩
  exact ⟨_, rfl, (Kept.refl w).allocMap _ _, fun k w2 h => run_look_any _ _ _ ((h.2.block _ (by simp)).trans (MapKept.heap_alloc w _).1)⟩
theorem kerV_no (k : Int) (h : isK k = false) : kerV k = .agg #[.nilFunc, .nilFunc, .nilFunc] := by
  unfold isK at h; simp at h
  unfold kerV; rw [if_neg (by omega), if_neg (by omega), if_neg (by omega)]
theorem isK_yes (k : Int) (h : isK k = true) : k = 1 ∨ k = 2 ∨ k = 3 := by
  unfold isK at h; simp at h; omega

theorem right_core (k : Int) (f g h : Value) (is : Bool) (w : World) (e0 : kerV k = .agg #[f, g, h]) (e1 : isK k = is)
    (hf : f = .nilFunc ∧ g = .nilFunc ∧ h = .nilFunc ∨ ∃ a b c : FuncId, f = .func (Fn.func a) #[] #[] ∧ g = .func (Fn.func b) #[] #[] ∧ h = .func (Fn.func c) #[] #[]) :
    Calls Tryz.prog 113 #[.int .u8 k] w fun e w' => e = .returned (.bool is) ∧ Kept w w' := by
  rcases hf with ⟨rfl, rfl, rfl⟩ | ⟨a, b, c, rfl, rfl, rfl⟩
  all_goals
    go_enter Tryz.func113, Tryz.ntmps113
    go_wp2_with (go_at_call 122; ((with_reducible refine (kernels_new _).mono ?_); rintro e w1 ⟨p, rfl, g1, hl⟩; replace hl := hl k _ (Kept.refl _); rw [e0, e1] at hl))
    go_ret
    exact ⟨rfl, g1.alloc _ _⟩
theorem knright_any (k : Int) (w : World) :
    Calls Tryz.prog 113 #[.int .u8 k] w fun e w' => e = .returned (.bool (isK k)) ∧ Kept w w' := by
  cases h : isK k
  · exact right_core k _ _ _ _ w (kerV_no k h) h (.inl ⟨rfl, rfl, rfl⟩)
  · rcases isK_yes k h with rfl | rfl | rfl
    · exact right_core 1 _ _ _ _ w rfl h (.inr ⟨_, _, _, rfl, rfl, rfl⟩)
    · exact right_core 2 _ _ _ _ w rfl h (.inr ⟨_, _, _, rfl, rfl, rfl⟩)
    · exact right_core 3 _ _ _ _ w rfl h (.inr ⟨_, _, _, rfl, rfl, rfl⟩)

end Go.Proofs.YtckaiejbgnhgcaaGreatDoor.Wd
namespace Go.Proofs.YtckaiejbgnhgcaaGreatDoor.Wd
open Go Go.RowKit
set_option linter.unusedVariables false

theorem lb_append (a b : ByteArray) : lb (a ++ b) = lb a ++ lb b := by simp [lb]

theorem lt_of_cell {w : World} {b o : Nat} {v : Value} (h : w.cell? ⟨b, o, none⟩ = some v) : b < w.heap.size := by
  by_cases hb : b < w.heap.size
  · exact hb
  · simp [World.cell?, hb] at h
/-- A row of bytes that lies in memory. -/
def Byts (w : World) (A : Option Addr) (n : Nat) : Prop :=
  ∀ i, i < n → ∃ b off v, A = some ⟨b, off, none⟩ ∧ w.cell? ⟨b, off + i, none⟩ = some (.int .u8 v) ∧ 0 ≤ v ∧ v ≤ 255
theorem Byts.below {w w' : World} {A : Option Addr} {n : Nat} (h : Byts w A n) (k : Below w.heap.size w w') : Byts w' A n := fun i hi => by
  obtain ⟨b, off, v, e, hc, hv⟩ := h i hi
  exact ⟨b, off, v, e, celln k hc, hv⟩
/-- What a key of choices is: short, of visible bytes. -/
def Short (s : ByteArray) : Prop := (1 ≤ s.size ∧ s.size ≤ 12) ∧ (lb s).all (fun c => visB (c.toNat : Int)) = true

theorem toList_ne (t : ByteArray) (h : 0 < t.size) : t.toList.isEmpty = false := by
  rw [ByteArray.toList_eq, List.isEmpty_eq_false_iff]
  intro e
  have := congrArg List.length e
  rw [list_size] at this
  have : t.size = 0 := this
  omega
theorem toList_none (t : ByteArray) (h : t.size = 0) : t.toList.isEmpty = true := by
  rw [ByteArray.toList_eq, List.isEmpty_iff]
  exact List.eq_nil_of_length_eq_zero (by rw [list_size]; exact h)

set_option maxHeartbeats 1000000 in
theorem key_any (A : Option Addr) (n cap : Nat) (w : World) (h : Byts w A n) (hn : n ≤ 9223372036854775807) :
    Calls Tryz.prog 24 #[.slice A n cap] w fun e w' => ∃ s, e = .returned (.string s) ∧ Hid (Short s) ∧ s.size ≤ 12 ∧ Below w.heap.size w w' := by
  have H := Lib.hid h
  clear h
  go_enter Tryz.func24, Tryz.ntmps24
  go_wp2
  go_loopw [3, 4] (fun s i wr => ∃ (k : Nat) (t : ByteArray), i = .int .i64 (k : Int) ∧ s = .string t ∧ k ≤ 6 ∧ k ≤ t.size ∧ t.size ≤ 2 * k ∧ Hid ((lb t).all (fun c => visB (c.toNat : Int)) = true) ∧ Below w.heap.size w wr) (fun _ i _ => 6 - (intOf i).toNat)
  case atStart => exact ⟨0, ⟨#[]⟩, rfl, rfl, by omega, by decide, by decide, Lib.hid (by decide), Below.refl _ _⟩
  case round =>
    obtain ⟨k, t, rfl, rfl, hk, k1, k2, V, hB⟩ := hrel
    by_cases c1 : k < n
    · by_cases c2 : k < 6
      · obtain ⟨b, off, v, rfl, hc, hv⟩ := (H.out.below hB) k c1
        have hb := lt_of_cell hc
        have c3 : (k : Int) < 6 := by omega
        have hvm : v % 8 = 0 ∨ v % 8 = 1 ∨ v % 8 = 2 ∨ v % 8 = 3 ∨ v % 8 = 4 ∨ v % 8 = 5 ∨ v % 8 = 6 ∨ v % 8 = 7 := by omega
        have VA : Hid (∀ p : ByteArray, (lb p).all (fun c => visB (c.toNat : Int)) = true → (lb (t ++ p)).all (fun c => visB (c.toNat : Int)) = true) := Lib.hid (fun p hp => by rw [lb_append, List.all_append, V.out, hp]; rfl)
        have hs0 : t.size ≤ 12 := by omega
        have SZ : Hid (∀ p : ByteArray, 1 ≤ p.size → p.size ≤ 2 → k + 1 ≤ (t ++ p).size ∧ (t ++ p).size ≤ 2 * (k + 1)) := Lib.hid (fun p h1 h2 => by rw [ByteArray.size_append']; omega)
        rcases hvm with hm | hm | hm | hm | hm | hm | hm | hm
        all_goals
          go_wp2
          go_roundw
          case rel => exact ⟨k + 1, _, by go_num, rfl, by omega, (SZ.out _ (by decide) (by decide)).1, (SZ.out _ (by decide) (by decide)).2, Lib.hid (VA.out _ (by decide)), hB.alloc hB.size _⟩
          case measure => simp [intOf]; omega
      · have c3 : decide ((k : Int) < 6) = false := decide_eq_false (by omega)
        have hz : t.toList.isEmpty = false := toList_ne t (by omega)
        have F : Hid (Short t ∧ t.size ≤ 12) := Lib.hid ⟨⟨⟨by omega, by omega⟩, V.out⟩, by omega⟩
        clear c2 k1 k2 hk
        go_wp2
        go_ret
        exact ⟨t, rfl, Lib.hid F.out.1, F.out.2, hB⟩
    · by_cases c4 : t.size = 0
      · have hz : t.toList.isEmpty = true := toList_none t c4
        clear c4
        go_wp2
        go_ret
        exact ⟨⟨#[107]⟩, rfl, Lib.hid ⟨⟨by decide, by decide⟩, by decide⟩, by decide, hB⟩
      · have hz : t.toList.isEmpty = false := toList_ne t (by omega)
        have F : Hid (Short t ∧ t.size ≤ 12) := Lib.hid ⟨⟨⟨by omega, by omega⟩, V.out⟩, by omega⟩
        clear c4 k1 k2 hk
        go_wp2
        go_ret
        exact ⟨t, rfl, Lib.hid F.out.1, F.out.2, hB⟩
end Go.Proofs.YtckaiejbgnhgcaaGreatDoor.Wd
namespace Go.Proofs.YtckaiejbgnhgcaaGreatDoor.Wd
open Go.RowKit Go.Lib

theorem wpList_store_new {P : Program} {ops : Array Oper} {rest : List Oper} {o : Oper} {a : Act} {w : World} {Q : Exit → Act → World → Prop} (hgd : o.guard = none) (ty : TypeId) (x y : Operand) (ho : o.op = .store ty x y)
    (cells old : Array Value) (t : TypeId) (hx : a.eval x = .pointer (some ⟨w.heap.size, 0, none⟩)) (hy : a.eval y = .agg cells)
    (hi : (P.info? ty).map (·.size) = some cells.size) (hold : old.size = cells.size) (h1 : cells.all (·.oneCell') = true)
    (h : wpList P ops Q rest (a.put o.dst undef) (w.alloc (.cells cells t))) : wpList P ops Q (o :: rest) a (w.alloc (.cells old t)) :=
  wpList_store_row hgd ty x y ho w.heap.size cells hx hy t old (heap_alloc_new _ _) hi hold h1 (by rw [World.setRow_alloc_new]; exact h)

/-- A byte array as a text. -/
def str (l : List UInt8) : ByteArray := ⟨l.toArray⟩

set_option maxRecDepth 100000 in
theorem print_any (n : Nat) (w : World) (hn : n < 18446744073709551616) :
    Calls Tryz.prog 29 #[.int .u64 n] w fun e w' => e = .returned (.string (str (decDigits n))) ∧ Kept w w' := by
  have hL := dec_len20 n hn
  have hL1 := dec_len1 n
  have hal : Tryz.prog.arrayLen 93 = 20 := by kernel_rfl
  have hsl : ∀ (b : Nat) (W : World), (Instr.sliceAt 93 (.pointer (some ⟨b, 0, none⟩)) (some (.int .i64 ((20 - (decDigits n).length : Nat) : Int))) none none).run Tryz.prog W = .ok (.slice (some ⟨b, 20 - (decDigits n).length, none⟩) (decDigits n).length (decDigits n).length) W := fun b W => by
    rw [run_sliceAt_array_l W 93 ⟨b, 0, none⟩ (by kernel_rfl) .i64 _ (by omega) (by rw [hal]; omega)]
    rw [hal]
    go_simp
    omega
  have hcv : ∀ W : World, (convert 22 9 (.slice (some ⟨W.heap.size, 20 - (decDigits n).length, none⟩) (decDigits n).length (decDigits n).length)).run Tryz.prog (W.alloc (.cells (rowOf (decDigits n)) 93)) = .ok (.string (str (decDigits n))) (W.alloc (.cells (rowOf (decDigits n)) 93)) := fun W =>
    run_convert_bytes_back _ 22 9 5 _ _ (decDigits n) Tryz.underlying22 Tryz.underlying5 Tryz.underlying9 (fun j hj => by
      have e : (⟨W.heap.size, 20 - (decDigits n).length, none⟩ : Addr).add j = ⟨W.heap.size, 20 - (decDigits n).length + j, none⟩ := by unfold Addr.add; split <;> simp_all
      rw [e, cell_of_row _ _ _ _ _ _ (heap_alloc_new _ _)]
      exact rowOf_at _ j hL hj)
  clear hal
  go_enter Tryz.func29, Tryz.ntmps29
  go_wp2_with (first
    | (go_at_call 50; refine (lay_any n _ hn).mono ?_; rintro e w' ⟨rfl, gw⟩)
    | (refine wpList_store_new rfl 93 _ _ rfl (rowOf (decDigits n)) _ _ rfl rfl (rowOf_info _ hL) (by rw [rowOf_size _ hL]; rfl) (rowOf_one _) ?_))
  go_ret
  exact ⟨rfl, gw.alloc _ _⟩
end Go.Proofs.YtckaiejbgnhgcaaGreatDoor.Wd
namespace Go.Proofs.YtckaiejbgnhgcaaGreatDoor.Wd
open Go.RowKit Go.Lib

theorem list_head (s : ByteArray) (h : 0 < s.size) : s.data.toList.head? = some s[0] := by
  rw [List.head?_eq_getElem?, List.getElem?_eq_getElem (by rw [list_size]; exact h), list_at s 0 h]

theorem plain_any (s : ByteArray) (w : World) (hs : s.size ≤ 9223372036854775807) :
    Calls Tryz.prog 115 #[.string s] w fun e w' => e = .returned (.bool (plainB s.data.toList)) ∧ w = w' := by
  have hz := list_size s
  by_cases h0 : s.size = 0
  · have hemp : s.toList.isEmpty = true := by rw [ByteArray.toList_eq, List.isEmpty_iff, ← List.length_eq_zero_iff, hz]; exact h0
    have e : plainB s.data.toList = false := by
      rw [List.length_eq_zero_iff.1 (show s.data.toList.length = 0 by rw [hz]; exact h0)]; rfl
    rw [e]
    clear e hz
    go_enter Tryz.func115, Tryz.ntmps115
    go_wp2
    go_step3
    go_wp2
    rw [Exit.noGoto_ret]
    go_ret
    exact ⟨rfl, rfl⟩
  · have hpos : 0 < s.size := by omega
    have hemp : s.toList.isEmpty = false := by
      rw [ByteArray.toList_eq, ← Bool.not_eq_true, List.isEmpty_iff, ← List.length_eq_zero_iff, hz]; exact h0
    have hhead := list_head s hpos
    by_cases h1 : 1 < s.size ∧ s[0] = 48
    · have e : plainB s.data.toList = false := by
        rw [← Bool.not_eq_true, plainB_iff]
        rintro ⟨_, g, _⟩
        exact g ⟨by rw [hz]; exact h1.1, by rw [hhead, h1.2]⟩
      rw [e]
      obtain ⟨h1, h2⟩ := h1
      have hb : (s[0].toNat : Int) = 48 := by rw [h2]; rfl
      clear e hz h2 hhead
      go_enter Tryz.func115, Tryz.ntmps115
      go_wp2
      go_step3
      go_wp2
      rw [Exit.noGoto_ret]
      go_ret
      exact ⟨rfl, rfl⟩
    · have hp : plainB s.data.toList = s.data.toList.all digB := by
        rw [Bool.eq_iff_iff, plainB_iff]
        constructor
        · exact fun g => g.2.2
        · refine fun g => ⟨?_, ?_, g⟩
          · intro g'; rw [g'] at hz; simp at hz; omega
          · rintro ⟨g1, g2⟩
            rw [hhead] at g2
            exact h1 ⟨by rw [hz] at g1; exact g1, by simpa using g2⟩
      rw [hp]
      have hyes : (∀ j (hj : j < s.size), digB s[j] = true) → s.data.toList.all digB = true := fun g => by
        rw [List.all_eq_true]
        intro b hb
        obtain ⟨i, hi, rfl⟩ := List.getElem_of_mem hb
        rw [list_at s i (by rw [← hz]; exact hi)]
        exact g i _
      have hno : ∀ j (hj : j < s.size), digB s[j] = false → s.data.toList.all digB = false := fun j hj g => by
        rw [← Bool.not_eq_true, List.all_eq_true]
        intro g'
        have := g' s[j] (by rw [← list_at s j hj (by rw [hz]; exact hj)]; exact List.getElem_mem _)
        rw [g] at this; exact absurd this (by decide)
      generalize s.data.toList.all digB = R at *
      have Y := Lib.hid hyes
      have N := Lib.hid hno
      have H1 := Lib.hid h1
      clear hyes hno hp hz h1 hhead
      go_enter Tryz.func115, Tryz.ntmps115
      go_wp2
      refine wp_scope_once 0 (fun a' w' => w = w' ∧ ∃ (k : Nat) (u0 u1 u2 u3 u4 u5 u6 u7 u8 u9 u10 u11 u12 u13 u14 u15 u16 u17 u18 u19 u20 u21 u22 u23 u24 u25 u26 u27 : Value), k < s.size ∧ (∀ j (hj : j < s.size), j < k → digB s[j] = true) ∧
        a' = { tmps := #[.string s, undef, .bool false, .int .i64 (k : Int), u0, u1, u2, u3, u4, u5, u6, u7, u8, u9, u10, u11, u12, u13, u14, u15, u16, u17, u18, u19, u20, u21, u22, u23, u24, u25, u26, u27], defers := [] })
        (fun a' _ => s.size - (intOf (a'.tmps.getD 3 undef)).toNat) rfl ?_ ?_
      · rintro a' w' ⟨rfl, k, u0, u1, u2, u3, u4, u5, u6, u7, u8, u9, u10, u11, u12, u13, u14, u15, u16, u17, u18, u19, u20, u21, u22, u23, u24, u25, u26, u27, hk, hd, rfl⟩
        have D := Lib.hid hd
        clear hd
        by_cases hb : digB s[k] = true
        · have hb' := (digB_iff _).1 hb
          have c1 : ¬ ((s[k].toNat : Int) < 48) := by omega
          have c2 : ¬ ((57 : Int) < (s[k].toNat : Int)) := by omega
          by_cases hl : k + 1 < s.size
          · go_wp2
            go_step3
            have e0 : (k : Int) + 1 = ((k + 1 : Nat) : Int) := by omega
            rw [e0]
            refine ⟨rfl, ⟨rfl, k + 1, _, _, _, _, _, _, _, _, _, _, _, _, _, _, _, _, _, _, _, _, _, _, _, _, _, _, _, _, hl, ?_, rfl⟩, ?_⟩
            · intro j hj hjk
              by_cases e : j = k
              · subst e; exact hb
              · exact D.out j hj (by omega)
            · simp [intOf]; omega
          · go_wp2
            simp only [Exit.jump]
            have e : R = true := Y.out (fun j hj => by
              by_cases e : j = k
              · subst e; exact hb
              · exact D.out j hj (by omega))
            subst e
            go_ret
            exact ⟨rfl, rfl⟩
        · have hf := N.out k hk (by simpa using hb)
          have hb' : ¬ (48 ≤ s[k].toNat ∧ s[k].toNat ≤ 57) := fun g => hb ((digB_iff _).2 g)
          subst hf
          clear N Y D hb
          by_cases c1 : (s[k].toNat : Int) < 48
          · clear hb'
            go_wp2
            simp only [Exit.jump]
            go_ret
            exact ⟨rfl, rfl⟩
          · have c2 : (57 : Int) < (s[k].toNat : Int) := by omega
            clear hb'
            go_wp2
            simp only [Exit.jump]
            go_ret
            exact ⟨rfl, rfl⟩
      · intro H
        have HH := Lib.hid H
        clear H Y N
        by_cases c : s[0] = 48
        · have hb : (s[0].toNat : Int) = 48 := by rw [c]; rfl
          have h1 : s.size = 1 := by
            by_cases h : s.size = 1
            · exact h
            · exact absurd ⟨by omega, c⟩ H1.out
          clear c H1
          go_wp2
          rename_i hK
          go_step3
          exact hK _ _ (HH.out _ _ ⟨rfl, 0, _, _, _, _, _, _, _, _, _, _, _, _, _, _, _, _, _, _, _, _, _, _, _, _, _, _, _, _, hpos, fun j _ hj => absurd hj (by omega), rfl⟩)
        · have hb : ¬ (s[0].toNat : Int) = 48 := fun e => c (UInt8.toNat_inj.1 (by show s[0].toNat = 48; omega))
          clear c H1
          go_wp2
          rename_i hK
          go_step3
          exact hK _ _ (HH.out _ _ ⟨rfl, 0, _, _, _, _, _, _, _, _, _, _, _, _, _, _, _, _, _, _, _, _, _, _, _, _, _, _, _, _, hpos, fun j _ hj => absurd hj (by omega), rfl⟩)
end Go.Proofs.YtckaiejbgnhgcaaGreatDoor.Wd
namespace Go.Proofs.YtckaiejbgnhgcaaGreatDoor.Wd
open Go.RowKit Go.Lib

theorem val_take_succ (l : List UInt8) (k : Nat) (h : k < l.length) : val (l.take (k + 1)) = val (l.take k) * 10 + (l[k].toNat - 48) := by
  rw [List.take_add_one, List.getElem?_eq_getElem h]; exact val_snoc _ _
theorem val_take_le (l : List UInt8) (k : Nat) : val (l.take k) ≤ val l := by
  have := val_front (l.take k) (l.drop k)
  rwa [List.take_append_drop] at this

theorem read_any (l : List UInt8) (w : World) (h1 : 1 ≤ l.length) (hL : l.length ≤ 20) (hd : l.all digB = true) (ok : Bool) (n : Int) (hok : ok = decide (val l < 18446744073709551616)) (hn : n = if val l < 18446744073709551616 then (val l : Int) else 0) :
    Calls Tryz.prog 116 #[.agg (rowOf l), .int .i64 ((20 - l.length : Nat) : Int)] w fun e w' => e = .returned (.tuple #[.int .u64 n, .bool ok]) ∧ Kept w w' := by
  rw [List.all_eq_true] at hd
  go_enter Tryz.func116, Tryz.ntmps116
  go_wp2
  refine wp_scope_once 0 (fun a' w' => w' = w.alloc (.cells (rowOf l) 93) ∧ ∃ (k m : Nat) (u0 u1 u2 u3 u4 u5 u6 u7 u8 u9 u10 u11 u12 u13 u14 u15 u16 u17 u18 u19 : Value), k < l.length ∧ m = val (l.take k) ∧ m < 18446744073709551616 ∧
    a' = { tmps := #[.agg (rowOf l), .int .i64 ((20 - l.length + k : Nat) : Int), .pointer (some { block := w.heap.size, off := 0 }), undef, .int .u64 0, .bool false, .int .u64 (m : Int), u0, u1, u2, u3, u4, u5, u6, u7, u8, u9, u10, u11, u12, u13, u14, u15, u16, u17, u18, u19], defers := [] })
    (fun a' _ => 20 - (intOf (a'.tmps.getD 1 undef)).toNat) rfl ?_ ?_
  · rintro a' w' ⟨rfl, k, m, u0, u1, u2, u3, u4, u5, u6, u7, u8, u9, u10, u11, u12, u13, u14, u15, u16, u17, u18, u19, hk, hm, hm64, rfl⟩
    obtain ⟨p, hp⟩ : ∃ p, p = 20 - l.length + k := ⟨_, rfl⟩
    have hcell := rowOf_at l k hL hk
    have hdk := (digB_iff _).1 (hd l[k] (List.getElem_mem hk))
    have hv := val_take_succ l k hk
    have hle := val_take_le l (k + 1)
    have hend : k + 1 = l.length → val (l.take (k + 1)) = val l := fun e => by rw [e, List.take_length]
    rw [← hm] at hv
    rw [← hp] at hcell ⊢
    generalize hx : l[k].toNat = x at *
    have hp20 : p < 20 := by omega
    have hpe : p + 1 < 20 ↔ k + 1 < l.length := by omega
    have hpp : p + 1 = 20 - l.length + (k + 1) := by omega
    have P1 := Lib.hid hpe
    have P2 := Lib.hid hpp
    have E := Lib.hid hend
    have V := Lib.hid hv
    have LE := Lib.hid hle
    have OK := Lib.hid hok
    have N := Lib.hid hn
    clear hpe hpp hend hv hle hok hn hd hp hx hm
    have ex : IntKind.u8.wrap ((x : Int) - 48) = ((x - 48 : Nat) : Int) := by rw [IntKind.wrap_u8]; omega
    have ex0 : (x : Int) - 48 = ((x - 48 : Nat) : Int) := by omega
    by_cases hbig : (18446744073709551615 - ((x - 48 : Nat) : Int)) / 10 < (m : Int)
    · have hge : ¬ val l < 18446744073709551616 := by have := LE.out; have := V.out; omega
      have e1 := OK.out
      have e2 := N.out
      rw [if_neg hge] at e2
      rw [decide_eq_false hge] at e1
      subst e1 e2
      go_wp2
      simp only [Exit.jump]
      go_ret2
      exact ⟨rfl, (Kept.refl w).alloc _ _⟩
    · have hm' : m * 10 + (x - 48) < 18446744073709551616 := by omega
      by_cases hlast : p + 1 < 20
      · go_wp2
        go_step3
        have e0 : (m : Int) * 10 + ((x - 48 : Nat) : Int) = ((m * 10 + (x - 48) : Nat) : Int) := by omega
        have e1 : (p : Int) + 1 = ((p + 1 : Nat) : Int) := by omega
        rw [e0, e1, P2.out]
        refine ⟨rfl, ⟨rfl, k + 1, _, _, _, _, _, _, _, _, _, _, _, _, _, _, _, _, _, _, _, _, _, P1.out.1 hlast, V.out.symm, hm', rfl⟩, ?_⟩
        have := P2.out
        simp [intOf]; omega
      · go_wp2
        simp only [Exit.jump]
        have e0 : (m : Int) * 10 + ((x - 48 : Nat) : Int) = ((m * 10 + (x - 48) : Nat) : Int) := by omega
        have e1 : (p : Int) + 1 = ((p + 1 : Nat) : Int) := by omega
        rw [e0, e1]
        have hk1 : k + 1 = l.length := by have := P1.out; omega
        have e2 := E.out hk1
        rw [V.out] at e2
        have hlt : val l < 18446744073709551616 := by rw [← e2]; exact hm'
        have e3 := OK.out
        have e4 := N.out
        rw [if_pos hlt, ← e2] at e4
        rw [decide_eq_true hlt] at e3
        subst e3 e4
        go_ret2
        exact ⟨rfl, (Kept.refl w).alloc _ _⟩
  · intro H
    have HH := Lib.hid H
    clear H
    go_wp2
    rename_i hK
    go_step3
    exact hK _ _ (HH.out _ _ ⟨rfl, 0, 0, _, _, _, _, _, _, _, _, _, _, _, _, _, _, _, _, _, _, _, _, by omega, rfl, by omega, rfl⟩)

set_option maxRecDepth 100000 in
theorem parse_any (s : ByteArray) (w : World) (hs : s.size ≤ 9223372036854775807) :
    Calls Tryz.prog 101 #[.string s] w fun e w' => e = .returned (.tuple #[.int .u64 (paN s.data.toList), .int .u16 (paE s.data.toList)]) ∧ Kept w w' := by
  have hz := list_size s
  have hpl := plain_any s w hs
  by_cases hp : plainB s.data.toList = true
  · rw [hp] at hpl
    by_cases h20 : s.size ≤ 20
    · have hL : s.data.toList.length ≤ 20 := by omega
      have hn0 : s.data.toList ≠ [] := ((plainB_iff _).1 hp).1
      have h1 : 1 ≤ s.size := by rw [← hz]; exact List.length_pos_iff.2 hn0
      have hall : s.data.toList.all digB = true := ((plainB_iff _).1 hp).2.2
      have hal : Tryz.prog.arrayLen 93 = 20 := by kernel_rfl
      have hsl : ∀ (b : Nat) (W : World), (Instr.sliceAt 93 (.pointer (some ⟨b, 0, none⟩)) (some (.int .i64 (20 - (s.size : Int)))) none none).run Tryz.prog W = .ok (.slice (some ⟨b, 20 - s.size, none⟩) s.size s.size) W := fun b W => by
        rw [run_sliceAt_array_l W 93 ⟨b, 0, none⟩ (by kernel_rfl) .i64 _ (by omega) (by rw [hal]; omega)]
        rw [hal]
        go_simp
        omega
      clear hal
      have hcp : (Builtin.copy_ #[22, 9] 3 #[.slice (some ⟨w.heap.size, 20 - s.size, none⟩) s.size s.size, .string s]).run Tryz.prog (w.alloc (.cells (rowOf []) 93)) = .ok (goInt s.size) (w.alloc (.cells (rowOf s.data.toList) 93)) := by
        rw [run_copy_row_string (w.alloc (.cells (rowOf []) 93)) 22 9 3 5 w.heap.size (20 - s.size) s.size s.size s (rowOf []) 93 Tryz.underlying22 (by kernel_rfl) (heap_alloc_new _ _) (Nat.le_refl _) (by rw [rowOf_size _ (by simp)]; omega), World.setRow_alloc_new]
        congr 4
        unfold rowOf byteCells
        rw [hz, List.length_nil, List.map_nil, List.append_nil, List.toList_toArray, List.take_replicate, List.drop_replicate, show min (20 - s.size) (20 - 0) = 20 - s.size by omega, show 20 - 0 - (20 - s.size + s.size) = 0 by omega, List.replicate_zero, List.append_nil]
      rw [rowOf_nil] at hcp
      obtain ⟨ok, hok⟩ : ∃ ok, ok = decide (val s.data.toList < 18446744073709551616) := ⟨_, rfl⟩
      obtain ⟨n, hn⟩ : ∃ n, n = if val s.data.toList < 18446744073709551616 then (val s.data.toList : Int) else 0 := ⟨_, rfl⟩
      have hread := fun W => read_any s.data.toList W (by omega) hL hall ok n hok hn
      rw [hz, show ((20 - s.size : Nat) : Int) = 20 - (s.size : Int) by omega] at hread
      have hinf := rowOf_info _ hL
      by_cases hv : val s.data.toList < 18446744073709551616
      · obtain ⟨e1, e2⟩ := pa_yes hp hv
        rw [if_pos hv] at hn
        rw [decide_eq_true hv] at hok
        rw [e1, e2, ← hn]
        subst hok
        generalize hR : rowOf s.data.toList = R at *
        clear e1 e2 hn hv hp hz hall hn0 hL hR
        go_enter Tryz.func101, Tryz.ntmps101
        go_wp2_with (first
          | (go_at_call 115; refine hpl.mono ?_; rintro e w' ⟨rfl, rfl⟩)
          | (refine wpList_load_row rfl 93 _ rfl w.heap.size rfl 93 R (0, 0) _ (heap_alloc_new _ _) Tryz.underlying93 rfl hinf ?_)
          | (go_at_call 116; refine (hread _).mono ?_; rintro e w' ⟨rfl, gw⟩))
        go_ret2
        exact ⟨rfl, ((Kept.refl w).alloc _ _).trans gw⟩
      · obtain ⟨e1, e2⟩ := pa_big hp (by omega)
        rw [if_neg hv] at hn
        rw [decide_eq_false hv] at hok
        rw [e1, e2]
        subst hok hn
        generalize hR : rowOf s.data.toList = R at *
        clear e1 e2 hv hp hz hall hn0 hL hR
        go_enter Tryz.func101, Tryz.ntmps101
        go_wp2_with (first
          | (go_at_call 115; refine hpl.mono ?_; rintro e w' ⟨rfl, rfl⟩)
          | (refine wpList_load_row rfl 93 _ rfl w.heap.size rfl 93 R (0, 0) _ (heap_alloc_new _ _) Tryz.underlying93 rfl hinf ?_)
          | (go_at_call 116; refine (hread _).mono ?_; rintro e w' ⟨rfl, gw⟩))
        go_ret2
        exact ⟨rfl, ((Kept.refl w).alloc _ _).trans gw⟩
    · have hv := plain_long _ hp (by omega)
      obtain ⟨e1, e2⟩ := pa_big hp hv
      rw [e1, e2]
      clear e1 e2 hv hp hz
      go_enter Tryz.func101, Tryz.ntmps101
      go_wp2_with (go_at_call 115; refine hpl.mono ?_; rintro e w' ⟨rfl, rfl⟩)
      go_ret2
      exact ⟨rfl, Kept.refl _⟩
  · have hp' : plainB s.data.toList = false := by simpa using hp
    rw [hp'] at hpl
    obtain ⟨e1, e2⟩ := pa_not hp'
    rw [e1, e2]
    clear e1 e2 hp hp' hz
    go_enter Tryz.func101, Tryz.ntmps101
    go_wp2_with (go_at_call 115; refine hpl.mono ?_; rintro e w' ⟨rfl, rfl⟩)
    go_ret2
    exact ⟨rfl, Kept.refl _⟩
end Go.Proofs.YtckaiejbgnhgcaaGreatDoor.Wd
namespace Go.Proofs.YtckaiejbgnhgcaaGreatDoor.Wd
open Go.RowKit Go.Lib

theorem refParse_any (s : ByteArray) (w : World) (hs : s.size ≤ 9223372036854775807) :
    Calls Tryz.prog 96 #[.string s] w fun e w' => e = .returned (.tuple #[.int .u64 (paN s.data.toList), .int .i64 (paE s.data.toList)]) ∧ w = w' := by
  have hz := list_size s
  by_cases h0 : s.size = 0
  · have e : plainB s.data.toList = false := by
      rw [List.length_eq_zero_iff.1 (show s.data.toList.length = 0 by rw [hz]; exact h0)]; rfl
    obtain ⟨e1, e2⟩ := pa_not e
    rw [e1, e2]
    clear e e1 e2 hz
    go_enter Tryz.func96, Tryz.ntmps96
    go_wp2
    go_ret2
    exact ⟨rfl, rfl⟩
  · have hpos : 0 < s.size := by omega
    have hhead := list_head s hpos
    by_cases h1 : 1 < s.size ∧ s[0] = 48
    · have e : plainB s.data.toList = false := by
        rw [← Bool.not_eq_true, plainB_iff]
        rintro ⟨_, g, _⟩
        exact g ⟨by rw [hz]; exact h1.1, by rw [hhead, h1.2]⟩
      obtain ⟨e1, e2⟩ := pa_not e
      rw [e1, e2]
      obtain ⟨h1, h2⟩ := h1
      have hb : (s[0].toNat : Int) = 48 := by rw [h2]; rfl
      clear e e1 e2 hz h2 hhead
      go_enter Tryz.func96, Tryz.ntmps96
      go_wp2
      go_ret2
      exact ⟨rfl, rfl⟩
    · have hp : plainB s.data.toList = s.data.toList.all digB := by
        rw [Bool.eq_iff_iff, plainB_iff]
        constructor
        · exact fun g => g.2.2
        · refine fun g => ⟨?_, ?_, g⟩
          · intro g'; rw [g'] at hz; simp at hz; omega
          · rintro ⟨g1, g2⟩
            rw [hhead] at g2
            exact h1 ⟨by rw [hz] at g1; exact g1, by simpa using g2⟩
      have hyes : (∀ j (hj : j < s.size), digB s[j] = true) → s.data.toList.all digB = true := fun g => by
        rw [List.all_eq_true]
        intro b hb
        obtain ⟨i, hi, rfl⟩ := List.getElem_of_mem hb
        rw [list_at s i (by rw [← hz]; exact hi)]
        exact g i _
      have hno : ∀ j (hj : j < s.size), digB s[j] = false → s.data.toList.all digB = false := fun j hj g => by
        rw [← Bool.not_eq_true, List.all_eq_true]
        intro g'
        have := g' s[j] (by rw [← list_at s j hj (by rw [hz]; exact hj)]; exact List.getElem_mem _)
        rw [g] at this; exact absurd this (by decide)
      rw [← hp] at hyes hno
      have Y := Lib.hid hyes
      have N := Lib.hid hno
      have HZ := Lib.hid hz
      have hfirst : ¬ ((1 : Int) < (s.size : Int)) ∨ ((1 : Int) < (s.size : Int) ∧ ((s[0].toNat : Int) == 48) = false) := by
        by_cases c : (1 : Int) < (s.size : Int)
        · refine Or.inr ⟨c, beq_eq_false_iff_ne.2 (fun e => h1 ⟨by omega, UInt8.toNat_inj.1 (by show s[0].toNat = 48; omega)⟩)⟩
        · exact Or.inl c
      clear hyes hno hp hz hhead h1
      generalize hl : s.data.toList = l at *
      have AT : Hid (∀ k (hk : k < s.size), val (l.take (k + 1)) = val (l.take k) * 10 + (s[k].toNat - 48)) := Lib.hid (fun k hk => by
        have hk' : k < l.length := by rw [HZ.out]; exact hk
        have e : s[k] = l[k] := by subst hl; exact (list_at s k hk hk').symm
        rw [val_take_succ l k hk', e])
      clear hl
      have hz0 : ((s.size : Int) == 0) = false := beq_eq_false_iff_ne.2 (by omega)
      rcases hfirst with c | ⟨c, c'⟩
      all_goals
        go_enter Tryz.func96, Tryz.ntmps96
        go_wp2
        go_loop [4] (fun i => ∃ k : Nat, i = .int .i64 k ∧ k ≤ s.size ∧ Hid (∀ j (hj : j < s.size), j < k → digB s[j] = true)) (fun i => s.size - (intOf i).toNat)
        case atStart => exact ⟨0, rfl, by omega, Lib.hid (fun j _ hj => absurd hj (by omega))⟩
        case round =>
          obtain ⟨k, rfl, hk, D⟩ := hrel
          by_cases hlt : k < s.size
          · by_cases hb : digB s[k] = true
            · have hb' := (digB_iff _).1 hb
              have c1 : ¬ ((s[k].toNat : Int) < 48) := by omega
              have c2 : ¬ ((57 : Int) < (s[k].toNat : Int)) := by omega
              go_wp2
              refine ⟨⟨k + 1, by go_num, by omega, Lib.hid (fun j hj hjk => ?_)⟩, by simp [intOf]; omega⟩
              by_cases e : j = k
              · subst e; exact hb
              · exact D.out j hj (by omega)
            · have hf := N.out k hlt (by simpa using hb)
              have hb' : ¬ (48 ≤ s[k].toNat ∧ s[k].toNat ≤ 57) := fun g => hb ((digB_iff _).2 g)
              obtain ⟨e1, e2⟩ := pa_not hf
              have E1 := Lib.hid e1
              have E2 := Lib.hid e2
              clear N Y D hb e1 e2 hf AT
              by_cases c1 : (s[k].toNat : Int) < 48
              · clear hb'
                go_wp2
                go_ret2
                exact ⟨by rw [E1.out, E2.out]; rfl, rfl⟩
              · have c2 : (57 : Int) < (s[k].toNat : Int) := by omega
                clear hb'
                go_wp2
                go_ret2
                exact ⟨by rw [E1.out, E2.out]; rfl, rfl⟩
          · obtain rfl : k = s.size := by omega
            have DD : Hid (∀ j (hj : j < s.size), digB s[j] = true) := Lib.hid (fun j hj => D.out j hj hj)
            have hp : plainB l = true := Y.out DD.out
            have HP := Lib.hid hp
            clear N Y D hp hk hlt
            go_wp2
            go_loop [5, 6] (fun n i => ∃ k m : Nat, i = .int .i64 k ∧ n = .int .u64 m ∧ k ≤ s.size ∧ Hid (m = val (l.take k)) ∧ m < 18446744073709551616) (fun _ i => s.size - (intOf i).toNat)
            case atStart => exact ⟨0, 0, rfl, rfl, by omega, Lib.hid rfl, by omega⟩
            case round =>
              obtain ⟨k, m, rfl, rfl, hk, M, hm⟩ := hrel
              by_cases hlt : k < s.size
              · have hdk := (digB_iff _).1 (DD.out k hlt)
                have hv := Lib.hid (AT.out k hlt)
                have hle := Lib.hid (val_take_le l (k + 1))
                obtain ⟨x, hx⟩ : ∃ x : Nat, s[k].toNat = x + 48 := ⟨s[k].toNat - 48, by omega⟩
                have hx9 : (x : Int) ≤ 9 := by omega
                have hv' := hv.out
                rw [hx, Nat.add_sub_cancel] at hv'
                have hxi : (s[k].toNat : Int) = (x : Int) + 48 := by omega
                have HV := Lib.hid hv'
                clear hv hv' hx hdk
                by_cases hbig : (18446744073709551615 - (x : Int)) / 10 < (m : Int)
                · have hge : 18446744073709551616 ≤ val l := by have := hle.out; have := HV.out; have := M.out; omega
                  obtain ⟨e1, e2⟩ := pa_big HP.out hge
                  have E1 := Lib.hid e1
                  have E2 := Lib.hid e2
                  clear e1 e2 hge
                  go_wp2
                  go_ret2
                  exact ⟨by rw [E1.out, E2.out]; rfl, rfl⟩
                · have hm' : 10 * m + x < 18446744073709551616 := by omega
                  go_wp2
                  have e0 : (10 : Int) * (m : Int) + (x : Int) = ((10 * m + x : Nat) : Int) := by omega
                  refine ⟨⟨k + 1, 10 * m + x, by go_num, by rw [e0], by omega, Lib.hid ?_, hm'⟩, by simp [intOf]; omega⟩
                  rw [HV.out, M.out, Nat.mul_comm]
              · obtain rfl : k = s.size := by omega
                have e : m = val l := by rw [M.out, ← HZ.out, List.take_length]
                obtain ⟨e1, e2⟩ := pa_yes HP.out (by rw [← e]; exact hm)
                rw [← e] at e1
                have E1 := Lib.hid e1
                have E2 := Lib.hid e2
                clear e1 e2 e
                go_wp2
                go_ret2
                exact ⟨by rw [E1.out, E2.out]; rfl, rfl⟩
end Go.Proofs.YtckaiejbgnhgcaaGreatDoor.Wd
namespace Go.Proofs.YtckaiejbgnhgcaaGreatDoor.Wd
open Go.RowKit Go.Lib

theorem str_size (l : List UInt8) : (str l).size = l.length := by simp [str, ByteArray.size]
theorem str_data (l : List UInt8) : (str l).data.toList = l := by simp [str]
theorem str_toList (l : List UInt8) : (str l).toList = l := by rw [ByteArray.toList_eq, str_data]
theorem str_append (x y : List UInt8) : str x ++ str y = str (x ++ y) := ByteArray.mk_append_mk x y
theorem str_of (s : ByteArray) : str s.data.toList = s := by cases s; simp [str]
theorem tenth (d : Nat) (h : d < 10) : (ByteArray.mk #[48, 49, 50, 51, 52, 53, 54, 55, 56, 57]).extract d (d + 1) = str [UInt8.ofNat (48 + d)] := by
  rw [show (#[48, 49, 50, 51, 52, 53, 54, 55, 56, 57] : Array UInt8) = [48, 49, 50, 51, 52, 53, 54, 55, 56, 57].toArray from rfl, ByteArray.extract_mk]
  unfold str
  congr 2
  have : ∀ p : Fin 10, (([48, 49, 50, 51, 52, 53, 54, 55, 56, 57] : List UInt8).drop p.val).take (p.val + 1 - p.val) = [UInt8.ofNat (48 + p.val)] := by decide
  exact this ⟨d, h⟩

/-- A digit's byte. -/
def dch (d : Nat) : UInt8 := UInt8.ofNat (48 + d)

theorem refPrint_any (n : Nat) (w : World) (hn : n < 18446744073709551616) :
    Calls Tryz.prog 21 #[.int .u64 n] w fun e w' => e = .returned (.string (str (decDigits n))) ∧ w = w' := by
  have hL := dec_len20 n hn
  have hsl : ∀ (m : Nat) (W : World), (Instr.slice 9 (.string ⟨#[48, 49, 50, 51, 52, 53, 54, 55, 56, 57]⟩) (some (.int .u64 ((m : Int) % 10))) (some (.int .u64 ((m : Int) % 10 + 1))) none).run Tryz.prog W = .ok (.string (str [dch (m % 10)])) W := fun m W => by
    rw [run_slice_string W 9 _ .u64 .u64 _ _ Tryz.underlying9 (by omega) (by omega) (by show _ ≤ (10 : Int); omega)]
    rw [show ((m : Int) % 10).toNat = m % 10 by omega, show ((m : Int) % 10 + 1).toNat = m % 10 + 1 by omega, tenth _ (by omega)]; rfl
  have hadd : ∀ (b : UInt8) (l : List UInt8) (W : World), l.length ≤ 20 → (Op.stringOp .add (str [b]) (str l)).run Tryz.prog W = .ok (.string (str (b :: l))) W := fun b l W h => by
    rw [run_string_add_sum W _ _ (by rw [str_size, str_size]; simp; omega), str_append]; rfl
  go_enter Tryz.func21, Tryz.ntmps21
  go_wp2
  go_loop [0, 3] (fun n' s => ∃ (m : Nat) (l : List UInt8), n' = .int .u64 m ∧ s = .string (str l) ∧ m < 18446744073709551616 ∧ l.length ≤ 20 ∧ Hid (decDigits n = if m = 0 then l else decDigits m ++ l)) (fun n' _ => (intOf n').toNat)
  case atStart =>
    refine ⟨n / 10, [dch (n % 10)], by simp, rfl, by omega, by simp, Lib.hid ?_⟩
    by_cases h : n < 10
    · rw [dec_small h, if_pos (by omega), Nat.mod_eq_of_lt h]; rfl
    · rw [dec_big h, if_neg (by omega)]; rfl
  case round =>
    obtain ⟨m, l, rfl, rfl, hm, hl, D⟩ := hrel
    by_cases h0 : m = 0
    · subst h0
      go_wp2
      go_ret
      have e : decDigits n = l := by have e := D.out; simpa using e
      exact ⟨by rw [e]; rfl, rfl⟩
    · have hpos : (0 : Int) < (m : Int) := by omega
      have ha := fun W => hadd (dch (m % 10)) l W hl
      clear hadd
      go_wp2
      have e := D.out
      rw [if_neg h0] at e
      have hlen := congrArg List.length e
      rw [List.length_append] at hlen
      have h1 := dec_len1 m
      refine ⟨⟨m / 10, dch (m % 10) :: l, by simp, rfl, by omega, by simp; omega, Lib.hid ?_⟩, by simp [intOf]; omega⟩
      rw [e]
      by_cases h : m < 10
      · rw [dec_small h, if_pos (by omega), Nat.mod_eq_of_lt h]; rfl
      · rw [dec_big h, if_neg (by omega), List.append_assoc]; rfl

end Go.Proofs.YtckaiejbgnhgcaaGreatDoor.Wd
