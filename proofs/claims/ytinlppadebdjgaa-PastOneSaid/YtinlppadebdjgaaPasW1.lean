/- The law PastOne answers true, for any numbers; no conditions. -/
import Derived.Test.YtinlppadebdjgaaPasK
import Derived.Test.YtinlppadebdjgaaPasM3
import Derived.Deep.CutRange
namespace Go.Proofs.Ytinlppadebdjgaa.Wd
open Go Go.RowKit
set_option linter.unusedVariables false

theorem kb {w a b : World} (h : Below w.heap.size w a) (g : Below a.heap.size a b) : Below w.heap.size w b := h.trans (g.mono h.size)
theorem hist_one {w : World} {X : Nat} (x y : Int) (hX : w.heap.size = X) : Hist (w.alloc (.cells #[.int .u64 x, .int .u64 y] 29)) (.slice (some ⟨X, 0, none⟩) 1 1) [(x, y)] := by subst hX; exact one_hist w x y
theorem hist_two {w : World} {X : Nat} (x y z u : Int) (hX : w.heap.size = X) : Hist (w.alloc (.cells #[.int .u64 x, .int .u64 y, .int .u64 z, .int .u64 u] 29)) (.slice (some ⟨X, 0, none⟩) 2 2) [(x, y), (z, u)] := by
  subst hX
  refine ⟨_, _, rfl, by simp, fun h => (by cases h), fun i e he => ?_⟩
  have hi := (List.getElem?_eq_some_iff.1 he).1
  have : i = 0 ∨ i = 1 := by simp at hi; omega
  rcases this with rfl | rfl
  · simp at he; subst he; exact ⟨_, _, rfl, by simp, by simp, by simp⟩
  · simp at he; subst he; exact ⟨_, _, rfl, by simp, by simp, by simp⟩
theorem Hist.alloc {w : World} {v : Value} {es : List (Int × Int)} (h : Hist w v es) (o : Obj) : Hist (w.alloc o) v es := h.below ((Below.refl _ w).alloc (Nat.le_refl _) _)
theorem Hist.drew {w : World} {v : Value} {es : List (Int × Int)} (h : Hist w v es) : Hist w.drew v es := h

/-- Three blocks of two. -/
def Tri (W : World) (X : Nat) (a b c d e f : Int) : Prop := (W.cell? ⟨X, 0, none⟩ = some (.int .u64 a) ∧ W.cell? ⟨X, 1, none⟩ = some (.int .u64 b)) ∧ (W.cell? ⟨X + 1, 0, none⟩ = some (.int .u64 c) ∧ W.cell? ⟨X + 1, 1, none⟩ = some (.int .u64 d)) ∧ (W.cell? ⟨X + 1 + 1, 0, none⟩ = some (.int .u64 e) ∧ W.cell? ⟨X + 1 + 1, 1, none⟩ = some (.int .u64 f))
theorem below_cell {w w' : World} (g : Below w.heap.size w w') {b o : Nat} {v : Value} (c : w.cell? ⟨b, o, none⟩ = some v) : w'.cell? ⟨b, o, none⟩ = some v := (g.cell (p := ⟨b, o, none⟩) (block_of_cell c)).trans c
theorem Tri.below {W W' : World} {X : Nat} {a b c d e f : Int} (h : Tri W X a b c d e f) (g : Below W.heap.size W W') : Tri W' X a b c d e f :=
  ⟨⟨below_cell g h.1.1, below_cell g h.1.2⟩, ⟨below_cell g h.2.1.1, below_cell g h.2.1.2⟩, below_cell g h.2.2.1, below_cell g h.2.2.2⟩
theorem Tri.alloc {W : World} {X : Nat} {a b c d e f : Int} (h : Tri W X a b c d e f) (o : Obj) : Tri (W.alloc o) X a b c d e f := h.below ((Below.refl _ W).alloc (Nat.le_refl _) _)
theorem Tri.drew {W : World} {X : Nat} {a b c d e f : Int} (h : Tri W X a b c d e f) : Tri W.drew X a b c d e f := h

theorem tri {W : World} {X : Nat} {a b c d e f : Int} (h : Tri W X a b c d e f) : (W.cell? ⟨X, 0, none⟩ = some (.int .u64 a) ∧ W.cell? ⟨X, 1, none⟩ = some (.int .u64 b)) ∧ (W.cell? ⟨X + 1, 0, none⟩ = some (.int .u64 c) ∧ W.cell? ⟨X + 1, 1, none⟩ = some (.int .u64 d)) ∧ (W.cell? ⟨X + 1 + 1, 0, none⟩ = some (.int .u64 e) ∧ W.cell? ⟨X + 1 + 1, 1, none⟩ = some (.int .u64 f)) := h
theorem kbx {w Y W w' : World} (k : Below w.heap.size w Y) (h : Below Y.heap.size Y W) (g : Below W.heap.size W w') : Below Y.heap.size Y w' := kb h g
theorem hist_one2 {w : World} {o : Obj} (x y : Int) : Hist ((w.alloc o).alloc (.cells #[.int .u64 x, .int .u64 y] 29)) (.slice (some ⟨w.heap.size + 1, 0, none⟩) 1 1) [(x, y)] := hist_one x y (by simp)
theorem hist_two2 {w : World} {o : Obj} (x y z u : Int) : Hist ((w.alloc o).alloc (.cells #[.int .u64 x, .int .u64 y, .int .u64 z, .int .u64 u] 29)) (.slice (some ⟨w.heap.size + 1, 0, none⟩) 2 2) [(x, y), (z, u)] := hist_two x y z u (by simp)
theorem old_cell {w : World} {o : Obj} {b k : Nat} {v : Value} (h : w.cell? ⟨b, k, none⟩ = some v) : (w.alloc o).cell? ⟨b, k, none⟩ = some v := below_cell ((Below.refl _ w).alloc (Nat.le_refl _) o) h
theorem new_cell0 {w : World} {t : TypeId} {u v : Value} {X : Nat} (h : w.heap.size = X) : (w.alloc (.cells #[u, v] t)).cell? ⟨X, 0, none⟩ = some u := by subst h; simp
theorem new_cell1 {w : World} {t : TypeId} {u v : Value} {X : Nat} (h : w.heap.size = X) : (w.alloc (.cells #[u, v] t)).cell? ⟨X, 1, none⟩ = some v := by subst h; simp

theorem eu_one {t x : Int} (h : U t) (h' : U x) : EU [(t, x)] := by intro e he; simp at he; subst he; exact ⟨h, h'⟩
theorem eu_two {t x s y : Int} (h : U t) (h' : U x) (g : U s) (g' : U y) : EU [(t, x), (s, y)] := by intro e he; simp at he; rcases he with rfl | rfl; exact ⟨h, h'⟩; exact ⟨g, g'⟩

set_option maxRecDepth 100000 in
set_option maxHeartbeats 4000000 in
theorem pastOne_walk (t x v d most : Int) (w : World) (h0 : 0 ≤ t ∧ t ≤ 4294967295) (h1 : 0 ≤ x ∧ x ≤ 4294967295) (h2 : 0 ≤ v ∧ v ≤ 4294967295) (h3 : 0 ≤ d ∧ d ≤ 4294967295) (h4 : U most) :
    Calls Try.prog 8 #[.int .u32 t, .int .u32 x, .int .u32 v, .int .u32 d, .int .u64 most] w fun e w' => e = .returned (.bool true) ∧ Below w.heap.size w w' := by
  have ut : U t := by unfold U; omega
  have ux : U x := by unfold U; omega
  have uv : U v := by unfold U; omega
  have ub : U (x + v) := by unfold U; omega
  have un : U (t + d) := by unfold U; omega
  have F1 := Lib.hid (fun (w : World) (v' : Value) (h : Hist w v' [(t, x)]) => h.fill (eu_one ut ux) (by simp) un)
  have F2 := Lib.hid (fun (w : World) (v' : Value) (h : Hist w v' [(t, x), (t, v)]) => h.fill (eu_two ut ux ut uv) (by simp) un)
  have F3 := Lib.hid (fun (w : World) (v' : Value) (h : Hist w v' [(t, x + v)]) => h.fill (eu_one ut ub) (by simp) un)
  have C1 := Lib.hid (fun (w : World) (v' : Value) (h : Hist w v' [(t, x)]) => h.conf (eu_one ut ux) (by simp) h4)
  have C2 := Lib.hid (fun (w : World) (v' : Value) (h : Hist w v' [(t, x), (t, v)]) => h.conf (eu_two ut ux ut uv) (by simp) h4)
  have C3 := Lib.hid (fun (w : World) (v' : Value) (h : Hist w v' [(t, x + v)]) => h.conf (eu_one ut ub) (by simp) h4)
  rw [fl_one t x d ux h3.1] at F1
  rw [fl_two t x v (t + d) h1.1 h2.1] at F2
  rw [cf_two t x v most h1.1 h2.1] at C2
  rw [cf_one t x most ux h4.1] at C1
  generalize flL [(t, x + v)] (t + d) = fl at *
  generalize cfB [(t, x + v)] most = cf at *
  have e1 : IntKind.u64.wrap (t + d) = t + d := IntWalk.u64_in _ (by omega)
  have e2 : IntKind.u64.wrap (x + v) = x + v := IntWalk.u64_in _ (by omega)
  have ef : (fl == fl) = true := by simp
  have eg : (cf == cf) = true := by simp
  have eh : (decide (x ≤ most) == decide (x ≤ most)) = true := by simp
  have wx : IntKind.u64.wrap x = x := IntWalk.u64_in _ (by omega)
  have wd : IntKind.u64.wrap d = d := IntWalk.u64_in _ (by omega)
  clear ut ux uv ub un h4
  obtain ⟨z, hz⟩ : ∃ z, sbI x d = z := ⟨_, rfl⟩
  rw [hz] at F1
  have ez : (z == z) = true := by simp
  have HZ := Lib.hid hz
  clear hz
  go_enter Try.func8, Try.ntmps8
  go_upto_if 44 with fail
  have kY : Below w.heap.size w ((((w.alloc (.cells #[.int .u64 t, .int .u64 x] 29)).alloc (.cells #[.int .u64 t, .int .u64 v] 29)).alloc (.cells #[.int .u64 t, .int .u64 (x + v)] 29)).alloc (.cells #[.int .u64 t, .int .u64 x] 29)) := ((((Below.refl _ w).alloc (Nat.le_refl _) _).alloc (by simp) _).alloc (by simp; omega) _).alloc (by simp; omega) _
  have tY : Tri ((((w.alloc (.cells #[.int .u64 t, .int .u64 x] 29)).alloc (.cells #[.int .u64 t, .int .u64 v] 29)).alloc (.cells #[.int .u64 t, .int .u64 (x + v)] 29)).alloc (.cells #[.int .u64 t, .int .u64 x] 29)) w.heap.size t x t v t (x + v) := by
    refine Tri.alloc ⟨⟨?_, ?_⟩, ⟨?_, ?_⟩, ?_, ?_⟩ _
    · exact old_cell (old_cell (by simp))
    · exact old_cell (old_cell (by simp))
    · exact old_cell (new_cell0 (by simp))
    · exact old_cell (new_cell1 (by simp))
    · exact new_cell0 (by simp)
    · exact new_cell1 (by simp)
  have hO := hist_one (w := ((w.alloc (.cells #[.int .u64 t, .int .u64 x] 29)).alloc (.cells #[.int .u64 t, .int .u64 v] 29)).alloc (.cells #[.int .u64 t, .int .u64 (x + v)] 29)) (X := w.heap.size + 1 + 1 + 1) t x (by simp)
  generalize (((w.alloc (.cells #[.int .u64 t, .int .u64 x] 29)).alloc (.cells #[.int .u64 t, .int .u64 v] 29)).alloc (.cells #[.int .u64 t, .int .u64 (x + v)] 29)).alloc (.cells #[.int .u64 t, .int .u64 x] 29) = Y at *
  go_cut [16] from 45 to 49 (fun s wc => s = .int .u64 z ∧ wc = Y)
  case first =>
    by_cases hxd : d < x
    · have es : z = x - d := by rw [← HZ.out]; unfold sbI; rw [if_neg (by omega)]
      have e3 : IntKind.u64.wrap (x - d) = x - d := IntWalk.u64_in _ (by omega)
      go_wp2
      go_meet
      case rel => exact ⟨by rw [es], rfl⟩
    · have es : z = 0 := by rw [← HZ.out]; unfold sbI; split <;> omega
      go_wp2
      go_meet
      case rel => exact ⟨by rw [es], rfl⟩
  case rest =>

    obtain ⟨rfl, rfl⟩ := hcut
    go_wp2
    go_region_held3 (fun w' => (w'.cell? ⟨w.heap.size, 0, none⟩ = some (.int .u64 t) ∧ w'.cell? ⟨w.heap.size, 1, none⟩ = some (.int .u64 x)) ∧ (w'.cell? ⟨w.heap.size + 1, 0, none⟩ = some (.int .u64 t) ∧ w'.cell? ⟨w.heap.size + 1, 1, none⟩ = some (.int .u64 v)) ∧ (w'.cell? ⟨w.heap.size + 1 + 1, 0, none⟩ = some (.int .u64 t) ∧ w'.cell? ⟨w.heap.size + 1 + 1, 1, none⟩ = some (.int .u64 (x + v))))
      (first | with_reducible exact tri tY | with_reducible exact tri tY.drew | with_reducible exact tri (tY.alloc _) | with_reducible exact tri ((tY.alloc _).alloc _))
      (first
        | (go_at_call 10; ((with_reducible refine (known_any _).mono ?_); rintro e w' ⟨rfl, g⟩; (first | with_reducible (have gg := kbx kY (Below.refl _ _) g) | with_reducible (have gg := kbx kY (Below.refl _ _).drew g)); clear g; replace kY := kb kY gg; replace tY := tY.below gg; replace hO := hO.below gg))
        | (go_at_call 15; ((with_reducible refine (F1.out _ _ hO).mono ?_); rintro e w' ⟨rfl, g⟩; (have gg := kbx kY (Below.refl _ _) g); clear g; replace kY := kb kY gg; replace tY := tY.below gg; replace hO := hO.below gg))
        | (go_at_call 15; ((with_reducible refine (F2.out _ _ (hist_two t x t v rfl)).mono ?_); rintro e w' ⟨rfl, g⟩; (have gg := kbx kY ((Below.refl _ _).alloc (Nat.le_refl _) _) g); clear g; replace kY := kb kY gg; replace tY := tY.below gg; replace hO := hO.below gg))
        | (go_at_call 15; ((with_reducible refine (F2.out _ _ ((hist_two t x t v rfl).alloc _)).mono ?_); rintro e w' ⟨rfl, g⟩; have hN := (hist_one2 t (x + v)).below g; (have gg := kbx kY (((Below.refl _ _).alloc (Nat.le_refl _) _).alloc (by simp) _) g); clear g; replace kY := kb kY gg; replace tY := tY.below gg; replace hO := hO.below gg))
        | (go_at_call 15; ((with_reducible refine (F2.out _ _ (hist_two2 t x t v)).mono ?_); rintro e w' ⟨rfl, g⟩; have hN := ((hist_one t (x + v) rfl).alloc _).below g; (have gg := kbx kY (((Below.refl _ _).alloc (Nat.le_refl _) _).alloc (by simp) _) g); clear g; replace kY := kb kY gg; replace tY := tY.below gg; replace hO := hO.below gg))
        | (go_at_call 15; ((with_reducible refine (F3.out _ _ hN).mono ?_); rintro e w' ⟨rfl, g⟩; (have gg := kbx kY (Below.refl _ _) g); clear g; replace kY := kb kY gg; replace tY := tY.below gg; replace hO := hO.below gg))
        | (go_at_call 15; ((with_reducible refine (F3.out _ _ (hist_one t (x + v) rfl)).mono ?_); rintro e w' ⟨rfl, g⟩; (have gg := kbx kY ((Below.refl _ _).alloc (Nat.le_refl _) _) g); clear g; replace kY := kb kY gg; replace tY := tY.below gg; replace hO := hO.below gg))
        | (go_at_call 17; ((with_reducible refine (C1.out _ _ hO).mono ?_); rintro e w' ⟨rfl, g⟩; (have gg := kbx kY (Below.refl _ _) g); clear g; replace kY := kb kY gg; replace tY := tY.below gg; replace hO := hO.below gg))
        | (go_at_call 17; ((with_reducible refine (C2.out _ _ (hist_two t x t v rfl)).mono ?_); rintro e w' ⟨rfl, g⟩; (have gg := kbx kY ((Below.refl _ _).alloc (Nat.le_refl _) _) g); clear g; replace kY := kb kY gg; replace tY := tY.below gg; replace hO := hO.below gg))
        | (go_at_call 17; ((with_reducible refine (C2.out _ _ ((hist_two t x t v rfl).alloc _)).mono ?_); rintro e w' ⟨rfl, g⟩; have hN := (hist_one2 t (x + v)).below g; (have gg := kbx kY (((Below.refl _ _).alloc (Nat.le_refl _) _).alloc (by simp) _) g); clear g; replace kY := kb kY gg; replace tY := tY.below gg; replace hO := hO.below gg))
        | (go_at_call 17; ((with_reducible refine (C2.out _ _ (hist_two2 t x t v)).mono ?_); rintro e w' ⟨rfl, g⟩; have hN := ((hist_one t (x + v) rfl).alloc _).below g; (have gg := kbx kY (((Below.refl _ _).alloc (Nat.le_refl _) _).alloc (by simp) _) g); clear g; replace kY := kb kY gg; replace tY := tY.below gg; replace hO := hO.below gg))
        | (go_at_call 17; ((with_reducible refine (C3.out _ _ hN).mono ?_); rintro e w' ⟨rfl, g⟩; (have gg := kbx kY (Below.refl _ _) g); clear g; replace kY := kb kY gg; replace tY := tY.below gg; replace hO := hO.below gg))
        | (go_at_call 17; ((with_reducible refine (C3.out _ _ (hist_one t (x + v) rfl)).mono ?_); rintro e w' ⟨rfl, g⟩; (have gg := kbx kY ((Below.refl _ _).alloc (Nat.le_refl _) _) g); clear g; replace kY := kb kY gg; replace tY := tY.below gg; replace hO := hO.below gg)))
    all_goals go_wp2
    all_goals go_ret
    all_goals exact ⟨rfl, kY⟩
end Go.Proofs.Ytinlppadebdjgaa.Wd
