/- Events of choices: what the law's own Events tells, for any steps; no conditions but those that each names. -/
import Derived.Test.YtinlppadebdjgaaPasJ
import Derived.Deep.AppendLies
import Derived.Deep.Slices
import Derived.Deep.LoopGhost
namespace Go.Proofs.Ytinlppadebdjgaa.Wd
open Go Go.RowKit Go.Deep
set_option linter.unusedVariables false

/-- The steps that came in. -/
def Steps (w : World) (a : Option Addr) (n : Nat) (p q r s : Nat → Int) : Prop :=
  ∀ i, i < n → ∃ b off, a = some ⟨b, off, none⟩ ∧ b < w.heap.size ∧ w.cell? ⟨b, off + i * 4, none⟩ = some (.int .u32 (p i)) ∧ w.cell? ⟨b, off + i * 4 + 1, none⟩ = some (.int .u16 (q i)) ∧ w.cell? ⟨b, off + i * 4 + 2, none⟩ = some (.int .u8 (r i)) ∧ w.cell? ⟨b, off + i * 4 + 3, none⟩ = some (.int .u8 (s i)) ∧
    (0 ≤ p i ∧ p i ≤ 4294967295) ∧ (0 ≤ q i ∧ q i ≤ 65535) ∧ (0 ≤ r i ∧ r i ≤ 255) ∧ (0 ≤ s i ∧ s i ≤ 255)
theorem Steps.below {w w' : World} {a : Option Addr} {n : Nat} {p q r s : Nat → Int} (h : Steps w a n p q r s) (g : Below w.heap.size w w') : Steps w' a n p q r s := fun i hi => by
  obtain ⟨b, off, h1, h2, c0, c1, c2, c3, rest⟩ := h i hi
  exact ⟨b, off, h1, Nat.lt_of_lt_of_le h2 g.size, (g.cell (p := ⟨b, _, none⟩) h2).trans c0, (g.cell (p := ⟨b, _, none⟩) h2).trans c1, (g.cell (p := ⟨b, _, none⟩) h2).trans c2, (g.cell (p := ⟨b, _, none⟩) h2).trans c3, rest⟩

def tmL (p r : Nat → Int) : Nat → Int
  | 0 => 0
  | k + 1 => tmL p r k + p k / 2 ^ (r k % 32).toNat
def wtL (q r : Nat → Int) (k : Nat) : Int := q k * 2 ^ (r k % 20).toNat
/-- The events of k steps. -/
def evL (p q r : Nat → Int) : Nat → List (Int × Int)
  | 0 => []
  | k + 1 => evL p q r k ++ [(tmL p r (k + 1), wtL q r k)]
theorem evL_length (p q r : Nat → Int) (k : Nat) : (evL p q r k).length = k := by
  induction k with
  | zero => rfl
  | succ k ih => simp [evL, ih]
theorem evL_get (p q r : Nat → Int) (k : Nat) : ∀ i e, (evL p q r k)[i]? = some e → i < k ∧ e = (tmL p r (i + 1), wtL q r i) := by
  induction k with
  | zero => intro i e h; simp [evL] at h
  | succ k ih =>
    intro i e h
    by_cases hi : i < k
    · rw [evL, List.getElem?_append_left (by rw [evL_length]; exact hi)] at h
      obtain ⟨h1, h2⟩ := ih i e h
      exact ⟨by omega, h2⟩
    · have hl := (List.getElem?_eq_some_iff.1 h).1
      rw [evL_length] at hl
      obtain rfl : i = k := by omega
      rw [evL, List.getElem?_append_right (by rw [evL_length]; exact Nat.le_refl _), evL_length] at h
      simp at h
      exact ⟨by omega, h.symm⟩
/-- What steps may be. -/
def Nice (n : Nat) (p q r : Nat → Int) : Prop := ∀ i, i < n → (0 ≤ p i ∧ p i ≤ 4294967295) ∧ (0 ≤ q i ∧ q i ≤ 65535) ∧ (0 ≤ r i ∧ r i ≤ 255)
theorem Steps.nice {w : World} {a : Option Addr} {n : Nat} {p q r s : Nat → Int} (h : Steps w a n p q r s) : Nice n p q r := fun i hi => by
  obtain ⟨b, off, h1, h2, c0, c1, c2, c3, b0, b1, b2, b3⟩ := h i hi
  exact ⟨b0, b1, b2⟩
theorem div_pow_nonneg (P : Int) (k : Nat) (h : 0 ≤ P) : 0 ≤ P / 2 ^ k ∧ P / 2 ^ k ≤ P :=
  ⟨Int.ediv_nonneg h (Int.le_of_lt (pow_pos k)), Int.ediv_le_self _ h⟩
theorem pow_le2 (j m : Nat) (h : j ≤ m) : (2 : Int) ^ j ≤ 2 ^ m := by
  have h1 : (2 : Nat) ^ j ≤ 2 ^ m := Nat.pow_le_pow_right (by omega) h
  have e (k : Nat) : ((2 : Int) ^ k) = ((2 ^ k : Nat) : Int) := by rw [Int.natCast_pow]; rfl
  rw [e, e]; omega
theorem wtL_le {n : Nat} {p q r : Nat → Int} (h : Nice n p q r) (i : Nat) (hi : i < n) : 0 ≤ wtL q r i ∧ wtL q r i ≤ 34359214080 := by
  obtain ⟨h0, h1, h2⟩ := h i hi
  have hp := pow_pos (r i % 20).toNat
  have hq := pow_le2 (r i % 20).toNat 19 (by omega)
  unfold wtL
  refine ⟨Int.mul_nonneg h1.1 (by omega), ?_⟩
  have : q i * 2 ^ (r i % 20).toNat ≤ 65535 * 2 ^ 19 := Int.mul_le_mul h1.2 hq (by omega) (by omega)
  omega
theorem tmL_le {n : Nat} {p q r : Nat → Int} (h : Nice n p q r) (k : Nat) (hk : k ≤ n) : 0 ≤ tmL p r k ∧ tmL p r k ≤ (k : Int) * 4294967295 := by
  induction k with
  | zero => simp [tmL]
  | succ k ih =>
    obtain ⟨h0, h1, h2⟩ := h k (by omega)
    have h3 := ih (by omega)
    have h4 := div_pow_nonneg (p k) (r k % 32).toNat h0.1
    simp only [tmL]
    omega
theorem tmL_step {n : Nat} {p q r : Nat → Int} (h : Nice n p q r) (k : Nat) (hk : k < n) : tmL p r k ≤ tmL p r (k + 1) := by
  have h4 := div_pow_nonneg (p k) (r k % 32).toNat (h k hk).1.1
  simp only [tmL]
  omega

theorem evL_eu {n : Nat} {p q r : Nat → Int} (h : Nice n p q r) (hn : n ≤ 100) (k : Nat) (hk : k ≤ n) : EU (evL p q r k) := by
  intro e he
  obtain ⟨i, hi⟩ := List.getElem?_of_mem he
  obtain ⟨h1, rfl⟩ := evL_get p q r k i e hi
  have a := tmL_le h (i + 1) (by omega)
  have b := wtL_le h i (by omega)
  unfold U
  refine ⟨⟨a.1, ?_⟩, ⟨b.1, ?_⟩⟩ <;> dsimp only <;> omega

theorem grow_cell {X w1 : World} {row : Option Nat} (hg : X.grownBy w1 row) {b o : Nat} {v : Value} (c : X.cell? ⟨b, o, none⟩ = some v) (hr : row ≠ some b) : w1.cell? ⟨b, o, none⟩ = some v :=
  (World.cell?_of_block (w := X) (hg.block b (block_of_cell c) (fun e => hr e.symm))).trans c

theorem own_of2 {w : World} {base : Nat} {e : TypeId} {size : Nat} {v : Value} {n : Nat} {xs : List Value} (h : w.ownsRow base e size v n xs) {o : Obj} : (w.alloc o).ownsRow base e size v n xs := h.alloc o
theorem two_of (w : World) (x y : Int) (t : TypeId) : ∀ j u, [Value.int .u64 x, Value.int .u64 y][j]? = some u → (w.alloc (.cells #[.int .u64 x, .int .u64 y] t)).cell? ((⟨w.heap.size, 0, none⟩ : Addr).add j) = some u := two_cells w x y t

set_option maxRecDepth 100000 in
set_option maxHeartbeats 2000000 in
theorem events_any (a : Option Addr) (n cap : Nat) (p q r s : Nat → Int) (w : World) (hst : Steps w a n p q r s) (hm : n ≤ 9223372036854775807) :
    Calls Try.prog 11 #[.slice a n cap] w fun e w' => ∃ v', e = .returned v' ∧ w'.ownsRow w.heap.size 29 2 v' (min n 40) (flat (evL p q r (min n 40))) ∧ Below w.heap.size w w' := by
  obtain ⟨i0, hi, hz0, hz1, hz2⟩ := info_parts infoEvent
  obtain ⟨m, hmm⟩ : ∃ m, min n 40 = m := ⟨_, rfl⟩
  rw [hmm]
  have hmn : m ≤ n := by omega
  have hm40 : m ≤ 40 := by omega
  have HM := Lib.hid hmm
  have HS := Lib.hid hst
  clear hmm hst
  go_enter Try.func11, Try.ntmps11
  go_wp2
  go_loopg [3, 4, 5] m (fun g v t i wr => ∃ k : Nat, k ≤ m ∧ g = m - k ∧ i = .int .i64 k ∧ t = .int .u64 (tmL p r k) ∧ wr.ownsRow w.heap.size 29 2 v k (flat (evL p q r k)) ∧ Below w.heap.size w wr)
  case atStart => exact ⟨0, Nat.zero_le _, rfl, rfl, rfl, World.ownsRow_nil _ _ _ _, Below.refl _ _⟩
  case round =>
    obtain ⟨k, hk, rfl, rfl, rfl, hown, hbel⟩ := hrel
    by_cases hlt : k < m
    · obtain ⟨b, off, rfl, hb, c0, c1, c2, c3, bp, bq, br, bs⟩ := HS.out k (by omega)
      have bT := tmL_le HS.out.nice k (by omega)
      have HT1 : tmL p r (k + 1) = tmL p r k + p k / 2 ^ (r k % 32).toNat := rfl
      have HF : flat (evL p q r (k + 1)) = flat (evL p q r k) ++ [.int .u64 (tmL p r (k + 1)), .int .u64 (wtL q r k)] := by rw [evL, flat_append]; rfl
      have bw := wtL_le HS.out.nice k (by omega)
      have HWd : wtL q r k = q k * 2 ^ (r k % 20).toNat := rfl
      generalize hT2e : tmL p r (k + 1) = T2 at *
      have HTE := Lib.hid hT2e
      clear hT2e
      generalize tmL p r k = T at *
      generalize wtL q r k = Wt at *
      generalize p k = P at *
      generalize q k = Q at *
      generalize r k = R at *
      generalize s k = Z at *
      have mkS (w' : World) (hB : Below w.heap.size w w') : Below w.heap.size w w' ∧ w'.cell? ⟨b, off + k * 4 + 1, none⟩ = some (.int .u16 Q) ∧ w'.cell? ⟨b, off + k * 4 + 2, none⟩ = some (.int .u8 R) := ⟨hB, (hB.cell hb).trans c1, (hB.cell hb).trans c2⟩
      have MK := Lib.hid mkS
      replace c0 := (hbel.cell hb).trans c0
      replace c1 := (hbel.cell hb).trans c1
      replace c2 := (hbel.cell hb).trans c2
      replace c3 := (hbel.cell hb).trans c3
      have H1 := Lib.hid HT1
      have H2 := Lib.hid HF
      have H3 := Lib.hid HWd
      have HO := Lib.hid hown
      clear HT1 HF HWd hown mkS
      have hkn : k < n := by omega
      have hk40 : (k : Int) < 40 := by omega
      go_wp2
      go_region
      have hT2 : IntKind.u64.wrap (T + IntKind.u64.wrap (P / 2 ^ (R % 32).toNat)) = T2 := by
        have h4 := div_pow_nonneg P (R % 32).toNat bp.1
        rw [H1.out, IntKind.wrap_u64, IntKind.wrap_u64]; omega
      rw [hT2]
      clear hT2
      have hbW : Below w.heap.size w wr.drew := hbel.drew
      have HW : wr.drew.ownsRow w.heap.size 29 2 u3 k (flat (evL p q r k)) := HO.out.drew
      generalize wr.drew = W at hbW HW ⊢
      have HOW := Lib.hid HW
      clear HW HO hbel c0 c1 c2 c3 wr
      obtain ⟨-, c1, c2⟩ := MK.out W hbW
      have e1 : R.tmod 20 = R % 20 := Int.tmod_eq_emod_of_nonneg br.1
      have e2 : IntKind.u8.wrap (R % 20) = R % 20 := IntWalk.u8_in _ (by omega)
      have e3 : IntKind.u64.wrap (R % 20) = R % 20 := IntWalk.u64_in _ (by omega)
      have e4 : IntKind.u64.wrap Q = Q := IntWalk.u64_in _ (by omega)
      have e5 : IntKind.u64.wrap (Q * 2 ^ (R % 20).toNat) = Wt := by rw [← H3.out]; exact IntWalk.u64_in _ (by omega)
      have hw2 : IntKind.i64.wrap ((k : Int) + 1) = ((k + 1 : Nat) : Int) := by rw [IntKind.wrap_i64]; omega
      go_wp2
      go_region_held3 (fun w' => Below w.heap.size w w' ∧ w'.cell? ⟨b, off + k * 4 + 1, none⟩ = some (.int .u16 Q) ∧ w'.cell? ⟨b, off + k * 4 + 2, none⟩ = some (.int .u8 R))
        (exact MK.out _ (by first | with_reducible exact hbW | with_reducible exact hbW.drew | with_reducible exact hbW.alloc hbW.size _ | with_reducible exact (hbW.alloc hbW.size _).drew | with_reducible exact hbW.drew.alloc hbW.size _ | with_reducible exact hb3))
        ((refine step_append_lies _ (by rfl) _ _ 22 (by rfl) w.heap.size 29 i0 (evt (0, 0)) 2 16 Try.underlying22 hi hz0 hz1 hz2 rfl (by decide) u3 k (flat (evL p q r k)) (by rfl) (own_of2 HOW.out) ⟨W.heap.size, 0, none⟩ 1 1 [.int .u64 T2, .int .u64 Wt] (by rfl) (by rfl) (two_of _ _ _ _) (by simp [Value.oneCell']) (by decide) (by unfold maxLen; omega) (by omega) (by have := hbW.size; simp; omega) (W.heap.size + 1) (by simp) ?_; intro g cp w3 own3 grow3 at3 lt3; have hb3 : Below w.heap.size w w3 := by (first | with_reducible exact (hbW.alloc hbW.size _).grown grow3 (by have := hbW.size; simp; omega) (own_block HOW.out) | with_reducible exact (hbW.alloc hbW.size _).drew.grown grow3 (by have := hbW.size; simp; omega) (own_block HOW.out) | with_reducible exact (hbW.drew.alloc hbW.size _).grown grow3 (by have := hbW.size; simp; omega) (own_block HOW.out))))
      rw [← H2.out] at own3
      clear at3 lt3 grow3
      go_wp2
      go_roundg (m - (k + 1))
      case measure => omega
      case rel => exact ⟨k + 1, by omega, rfl, by simp, by rw [HTE.out], own3, hb3⟩
    · obtain rfl : k = m := by omega
      have hor : ¬ ((k : Int) < (n : Int)) ∨ ¬ ((k : Int) < 40) := by have := HM.out; omega
      rcases hor with h | h
      · go_wp2
        go_ret
        exact ⟨_, rfl, hown, hbel⟩
      · by_cases h2 : (k : Int) < (n : Int)
        · go_wp2
          go_ret
          exact ⟨_, rfl, hown, hbel⟩
        · go_wp2
          go_ret
          exact ⟨_, rfl, hown, hbel⟩
end Go.Proofs.Ytinlppadebdjgaa.Wd
