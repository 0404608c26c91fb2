/- Words for memory, and what the small calls of package words answer (kindOf, met, on, down, place); no conditions but those that each names. -/
import Derived.Test.YtdjeehnjodbmaaaWrdM
import Derived.Test.YtdjeehnjodbmaaaWrdF
import Derived.WalkKit
import Derived.WalkMore
import Derived.WalkSpells
import Derived.WalkLawsBesides
import Derived.WalkSmall
import Derived.Laws.Entries
import Derived.Laws.AppendOwn
import Derived.Deep.AppendLies
import Derived.Deep.RegionHeld3
import Derived.Deep.LoopGhost
import Derived.BigQuiet
import Derived.Lib.QuietBelow
import Derived.Lib.Hide
import Derived.OwnWalk
import Derived.ScopeJumps
import Derived.PlainAid
import Derived.Handy
namespace Go.Proofs.Ytdjeehnjodbmaaa.Wd
open Go Go.RowKit
set_option linter.unusedVariables false

/-- A place of two parts is put where it is told. -/
theorem put_cpx {P : Program} (w : World) (a : Addr) (m : Mode) (x y : Nat) : (store a (.complex .f64 x y) m).run P w = stored P w a (.complex .f64 x y) m := run_store P w a _ m rfl
attribute [local go_sem] put_cpx

theorem kbq {w a b : World} (h : Below w.heap.size w a) (g : Below a.heap.size a b) : Below w.heap.size w b := h.trans (g.mono h.size)
theorem lt_of_cell {w : World} {b o : Nat} {v : Value} (h : w.cell? ⟨b, o, none⟩ = some v) : b < w.heap.size := by
  by_cases hb : b < w.heap.size
  · exact hb
  · simp [World.cell?, hb] at h
theorem celln {w w' : World} (h : Below w.heap.size w w') {b o : Nat} {v : Value} (c : w.cell? ⟨b, o, none⟩ = some v) : w'.cell? ⟨b, o, none⟩ = some v :=
  (h.cell (p := ⟨b, o, none⟩) (lt_of_cell c)).trans c
theorem dcell {w : World} {p : Addr} {v : Value} (c : w.cell? p = some v) : w.drew.cell? p = some v := c

/-! ### A row of bytes that is known -/
def Txt (w : World) (A : Option Addr) (n : Nat) (bs : List UInt8) : Prop :=
  bs.length = n ∧ (0 < n → ∃ b off, A = some ⟨b, off, none⟩ ∧ b < w.heap.size ∧ ∀ k, k < n → w.cell? ⟨b, off + k, none⟩ = some (.int .u8 ((bs.getD k 0).toNat : Int)))
theorem Txt.below {w w' : World} {A : Option Addr} {n : Nat} {bs : List UInt8} (h : Txt w A n bs) (k : Below w.heap.size w w') : Txt w' A n bs :=
  ⟨h.1, fun hn => by
    obtain ⟨b, off, e, hb, hc⟩ := h.2 hn
    exact ⟨b, off, e, Nat.lt_of_lt_of_le hb k.size, fun j hj => (k.cell (p := ⟨b, off + j, none⟩) hb).trans (hc j hj)⟩⟩
theorem Txt.belowN {w w' : World} {B : Nat} {A : Option Addr} {n : Nat} {bs : List UInt8} (h : Txt w A n bs) (k : Below B w w') (hA : ∀ b off, A = some ⟨b, off, none⟩ → b < B) : Txt w' A n bs :=
  ⟨h.1, fun hn => by
    obtain ⟨b, off, e, hb, hc⟩ := h.2 hn
    exact ⟨b, off, e, Nat.lt_of_lt_of_le hb k.size, fun j hj => (k.cell (p := ⟨b, off + j, none⟩) (hA b off e)).trans (hc j hj)⟩⟩

/-! ### Three cells of a block that may be written -/
def R3 (w : World) (B o : Nat) (x y z : Value) : Prop := (w.cell? ⟨B, o, none⟩ = some x ∧ w.cell? ⟨B, o + 1, none⟩ = some y ∧ w.cell? ⟨B, o + 2, none⟩ = some z) ∧ w.frozen? ⟨B, o, none⟩ = false ∧ w.frozen? ⟨B, o + 1, none⟩ = false ∧ w.frozen? ⟨B, o + 2, none⟩ = false
theorem R3.lt {w : World} {B o : Nat} {x y z : Value} (h : R3 w B o x y z) : B < w.heap.size := lt_of_cell h.1.1
theorem R3.below {w w' : World} {N B o : Nat} {x y z : Value} (h : R3 w B o x y z) (g : Below N w w') (hB : B < N) : R3 w' B o x y z :=
  ⟨⟨(g.cell (p := ⟨B, o, none⟩) hB).trans h.1.1, (g.cell (p := ⟨B, o + 1, none⟩) hB).trans h.1.2.1, (g.cell (p := ⟨B, o + 2, none⟩) hB).trans h.1.2.2⟩,
   (g.frozen (p := ⟨B, o, none⟩) hB).trans h.2.1, (g.frozen (p := ⟨B, o + 1, none⟩) hB).trans h.2.2.1, (g.frozen (p := ⟨B, o + 2, none⟩) hB).trans h.2.2.2⟩
theorem cell_set (w : World) (B o C p : Nat) (v : Value) (h : B ≠ C ∨ o ≠ p) : (w.setCell ⟨B, o, none⟩ v).cell? ⟨C, p, none⟩ = w.cell? ⟨C, p, none⟩ :=
  World.cell?_setCell_other _ _ _ _ (fun e => by injection e with e1 e2; omega)

/-- The place of a walk as a number of two parts. -/
abbrev cpx (n c : Nat) : Value := .complex .f64 (fb n) (fb c)
/-- How far a walk is gone. -/
abbrev gonT (w : World) (B i n c : Nat) : World := (w.setCell ⟨B, 1, none⟩ (.int .i64 (i : Int))).setCell ⟨B, 2, none⟩ (cpx n c)
/-- A walk: its text, how far it is gone, its place. -/
abbrev Wlk (w : World) (B : Nat) (T : Value) (i n c : Nat) : Prop := R3 w B 0 T (.int .i64 (i : Int)) (cpx n c)
theorem Wlk.go {w : World} {B : Nat} {T : Value} {i n c : Nat} (h : Wlk w B T i n c) (i' n' c' : Nat) : Wlk (gonT w B i' n' c') B T i' n' c' := by
  have h1 : (w.setCell ⟨B, 1, none⟩ (.int .i64 (i' : Int))).cell? ⟨B, 1, none⟩ = some (.int .i64 (i' : Int)) := World.cell?_setCell_same _ _ _ h.1.2.1
  have h2 : (w.setCell ⟨B, 1, none⟩ (.int .i64 (i' : Int))).cell? ⟨B, 2, none⟩ = some (cpx n c) := by rw [cell_set _ _ _ _ _ _ (by omega)]; exact h.1.2.2
  refine ⟨⟨?_, ?_, ?_⟩, ?_, ?_, ?_⟩
  · rw [cell_set _ _ _ _ _ _ (by omega), cell_set _ _ _ _ _ _ (by omega)]; exact h.1.1
  · rw [cell_set _ _ _ _ _ _ (by omega)]; exact h1
  · exact World.cell?_setCell_same _ _ _ h2
  · simp only [World.frozen?_setCell]; exact h.2.1
  · simp only [World.frozen?_setCell]; exact h.2.2.1
  · simp only [World.frozen?_setCell]; exact h.2.2.2
theorem below_gon {N : Nat} {w w' : World} (h : Below N w w') {B : Nat} (hB : N ≤ B) (i n c : Nat) : Below N w (gonT w' B i n c) :=
  (h.setCell (p := ⟨B, 1, none⟩) hB _).setCell (p := ⟨B, 2, none⟩) hB _

/-! ### kindOf -/
theorem kind_any (c : UInt8) (w : World) : Calls Try.prog 27 #[.int .u8 (c.toNat : Int)] w fun e w' => e = .returned (.int .u8 ((kd c : Nat) : Int)) ∧ w = w' := by
  have hc : c.toNat < 256 := c.toNat_lt
  have e0 : ∀ k : UInt8, c = k ↔ c.toNat = k.toNat := fun k => ⟨fun h => by rw [h], fun h => UInt8.toNat_inj.1 h⟩
  have hk : kd c = if c.toNat = 32 ∨ c.toNat = 9 then 2 else if c.toNat = 10 then 3 else if c.toNat = 35 then 4 else if 33 ≤ c.toNat ∧ c.toNat ≤ 126 then 5 else 1 := by
    unfold kd
    simp only [e0, UInt8.le_iff_toNat_le]
    rfl
  rw [hk]
  clear hk e0
  generalize c.toNat = v at *
  by_cases h1 : v = 32
  · rw [if_pos (.inl h1)]; subst h1
    go_enter Try.func27, Try.ntmps27
    go_wp2
    go_ret
    exact ⟨rfl, rfl⟩
  · have d1 : ((v : Int) == 32) = false := beq_eq_false_iff_ne.2 (by omega)
    by_cases h2 : v = 9
    · rw [if_pos (.inr h2)]; subst h2
      go_enter Try.func27, Try.ntmps27
      go_wp2
      go_ret
      exact ⟨rfl, rfl⟩
    · have d2 : ((v : Int) == 9) = false := beq_eq_false_iff_ne.2 (by omega)
      rw [if_neg (by omega)]
      by_cases h3 : v = 10
      · rw [if_pos h3]; subst h3
        go_enter Try.func27, Try.ntmps27
        go_wp2
        go_ret
        exact ⟨rfl, rfl⟩
      · have d3 : ((v : Int) == 10) = false := beq_eq_false_iff_ne.2 (by omega)
        rw [if_neg h3]
        by_cases h4 : v = 35
        · rw [if_pos h4]; subst h4
          go_enter Try.func27, Try.ntmps27
          go_wp2
          go_ret
          exact ⟨rfl, rfl⟩
        · have d4 : ((v : Int) == 35) = false := beq_eq_false_iff_ne.2 (by omega)
          rw [if_neg h4]
          by_cases h5 : 33 ≤ v
          · have d5 : decide ((33 : Int) ≤ (v : Int)) = true := decide_eq_true (by omega)
            by_cases h6 : v ≤ 126
            · have d6 : decide ((v : Int) ≤ (126 : Int)) = true := decide_eq_true (by omega)
              rw [if_pos ⟨h5, h6⟩]
              go_enter Try.func27, Try.ntmps27
              go_wp2
              go_ret
              exact ⟨rfl, rfl⟩
            · have d6 : decide ((v : Int) ≤ (126 : Int)) = false := decide_eq_false (by omega)
              rw [if_neg (by omega)]
              go_enter Try.func27, Try.ntmps27
              go_wp2
              go_ret
              exact ⟨rfl, rfl⟩
          · have d5 : decide ((33 : Int) ≤ (v : Int)) = false := decide_eq_false (by omega)
            rw [if_neg (by omega)]
            go_enter Try.func27, Try.ntmps27
            go_wp2
            go_ret
            exact ⟨rfl, rfl⟩

theorem met_end (B : Nat) (A : Option Addr) (N cap n c : Nat) (w : World) (h : Wlk w B (.slice A N cap) N n c) :
    Calls Try.prog 20 #[.pointer (some ⟨B, 0, none⟩)] w fun e w' => e = .returned (.int .u8 0) ∧ Drew w w' := by
  have hB := h.lt
  obtain ⟨⟨c0, c1, c2⟩, f0, f1, f2⟩ := h
  go_enter Try.func20, Try.ntmps20
  go_wp2
  go_quiet (fail)
  go_wp2
  go_ret
  exact ⟨rfl, _, rfl⟩

theorem met_at (B : Nat) (b off N cap i n c : Nat) (x : UInt8) (w : World) (h : Wlk w B (.slice (some ⟨b, off, none⟩) N cap) i n c) (hi : i < N) (hx : w.cell? ⟨b, off + i, none⟩ = some (.int .u8 (x.toNat : Int))) :
    Calls Try.prog 20 #[.pointer (some ⟨B, 0, none⟩)] w fun e w' => e = .returned (.int .u8 ((kd x : Nat) : Int)) ∧ Drew w w' := by
  have hB := h.lt
  have hb := lt_of_cell hx
  have K := Lib.hid (fun w => kind_any x w)
  obtain ⟨⟨c0, c1, c2⟩, f0, f1, f2⟩ := h
  have hne : ((i : Int) == (N : Int)) = false := beq_eq_false_iff_ne.2 (by omega)
  generalize (x.toNat : Int) = v at *
  generalize ((kd x : Nat) : Int) = r at *
  go_enter Try.func20, Try.ntmps20
  go_wp2
  go_quiet (fail)
  go_wp2
  go_quiet ((go_at_call 27; exact (K.out _).mono fun _ _ k => ⟨k.1, _, k.2.symm⟩))
  go_wp2
  go_ret
  exact ⟨rfl, _, by first | rfl | exact World.drewN_drewN _ _ _⟩

theorem on_any (B : Nat) (T : Value) (i n c : Nat) (w : World) (h : Wlk w B T i n c) (hi : i < 9007199254740992) (hn : 0 < n) (hn2 : n < 9007199254740991) (hc : 0 < c) (hc2 : c < 9007199254740991) :
    Calls Try.prog 21 #[.pointer (some ⟨B, 0, none⟩)] w fun e w' => e = .returned (.tuple #[]) ∧ w' = gonT w B (i + 1) n (c + 1) := by
  have hB := h.lt
  have hz := fun W => run_complex_sum (P := Try.prog) W .add (.inl rfl) 48 .f64 (fb n) (fb c) 0 4607182418800017408 (fb n) (fb (c + 1)) (by unfold cSumBits; rw [fb_add0 n hn (by omega), fb_add c hc hc2]; rfl)
  have h' : R3 w B 0 T (.int .i64 (i : Int)) (.complex .f64 (fb n) (fb c)) := h
  clear h
  unfold gonT cpx
  generalize fb n = fn at *
  generalize fb c = fc at *
  generalize fb (c + 1) = fd at *
  obtain ⟨⟨c0, c1, c2⟩, f0, f1, f2⟩ := h'
  have c2' : (w.setCell ⟨B, 1, none⟩ (.int .i64 ((i : Int) + 1))).cell? ⟨B, 2, none⟩ = some (.complex .f64 fn fc) := by rw [cell_set _ _ _ _ _ _ (by omega)]; exact c2
  go_enter Try.func21, Try.ntmps21
  go_wp2
  go_returns
  exact ⟨rfl, rfl⟩

theorem down_any (B : Nat) (T : Value) (i n c : Nat) (w : World) (h : Wlk w B T i n c) (hi : i < 9007199254740992) (hn : 0 < n) (hn2 : n < 9007199254740991) :
    Calls Try.prog 23 #[.pointer (some ⟨B, 0, none⟩)] w fun e w' => e = .returned (.tuple #[]) ∧ w' = gonT w B (i + 1) (n + 1) 1 := by
  have hB := h.lt
  have hz := fun W => run_float_arith (P := Try.prog) W .add 59 .f64 (fb n) 4607182418800017408 (fb (n + 1)) (fb_add n hn hn2)
  have h' : R3 w B 0 T (.int .i64 (i : Int)) (.complex .f64 (fb n) (fb c)) := h
  clear h
  unfold gonT cpx
  rw [fb_one]
  generalize fb n = fn at *
  generalize fb c = fc at *
  generalize fb (n + 1) = fd at *
  obtain ⟨⟨c0, c1, c2⟩, f0, f1, f2⟩ := h'
  have c2' : (w.setCell ⟨B, 1, none⟩ (.int .i64 ((i : Int) + 1))).cell? ⟨B, 2, none⟩ = some (.complex .f64 fn fc) := by rw [cell_set _ _ _ _ _ _ (by omega)]; exact c2
  go_enter Try.func23, Try.ntmps23
  go_wp2
  go_returns
  exact ⟨rfl, rfl⟩

theorem place_any (B : Nat) (T : Value) (i n c : Nat) (w : World) (h : Wlk w B T i n c) (hn : 0 < n) (hn2 : n < 9007199254740991) (hc : 0 < c) (hc2 : c < 9007199254740991) :
    Calls Try.prog 24 #[.pointer (some ⟨B, 0, none⟩)] w fun e w' => e = .returned (.agg #[.int .i64 (n : Int), .int .i64 (c : Int)]) ∧ Below w.heap.size w w' := by
  have hB := h.lt
  have h1 := fun W => run_convert_float_int (P := Try.prog) W 59 3 .f64 .i64 (fb n) n (by kernel_rfl) Try.underlying3 (fb_int n hn (by omega))
  have h2 := fun W => run_convert_float_int (P := Try.prog) W 59 3 .f64 .i64 (fb c) c (by kernel_rfl) Try.underlying3 (fb_int c hc (by omega))
  have h' : R3 w B 0 T (.int .i64 (i : Int)) (.complex .f64 (fb n) (fb c)) := h
  clear h
  generalize fb n = fn at *
  generalize fb c = fc at *
  obtain ⟨⟨c0, c1, c2⟩, f0, f1, f2⟩ := h'
  have hne : B ≠ w.heap.size := by omega
  go_enter Try.func24, Try.ntmps24
  go_wp2
  go_region
  go_wp2
  go_returns
  refine ⟨rfl, ?_⟩
  exact Below.drew (((Below.refl _ w).alloc (Nat.le_refl _) _))
end Go.Proofs.Ytdjeehnjodbmaaa.Wd
