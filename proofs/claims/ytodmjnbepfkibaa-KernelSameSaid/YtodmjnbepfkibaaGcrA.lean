/- What gcra's calls answer, for any numbers of 64 bits; no conditions. -/
import Derived.Test.YtodmjnbepfkibaaNumD
import Derived.ScopeJumps
import Derived.WalkMore
namespace Go.Proofs.Ytodmjnbepfkibaa.Wd
open Go.RowKit
set_option linter.unusedVariables false

/-- The time from which on it counts. -/
def thI (a now : Int) : Int := if a < now then now else a
theorem thI_U (a now : Int) (ha : U a) (hn : U now) : U (thI a now) := by unfold thI; split <;> assumption
theorem thI_sub (a now : Int) : thI a now - now = sbI a now := by unfold thI sbI; split <;> omega
theorem thI_eq (a now : Int) : thI a now = now + sbI a now := by unfold thI sbI; split <;> omega

theorem garr_any (k a b now : Int) (w : World) :
    Calls Try.prog 62 #[sta k a b, .int .u64 now] w fun e w' => e = .returned (.int .u64 (thI a now)) ∧ Kept w w' := by
  by_cases h : a < now
  · have e : thI a now = now := by simp [thI, h]
    rw [e]; clear e
    go_enter Try.func62, Try.ntmps62
    go_wp2
    go_ret
    exact ⟨rfl, (Kept.refl w).alloc _ _⟩
  · have e : thI a now = a := by simp [thI, h]
    rw [e]; clear e
    go_enter Try.func62, Try.ntmps62
    go_wp2
    go_ret
    exact ⟨rfl, (Kept.refl w).alloc _ _⟩

theorem gof_any (now cap fill : Int) (w : World) (hn : U now) (hf : U fill) :
    Calls Try.prog 48 #[.int .u64 now, .int .u64 cap, .int .u64 fill] w fun e w' => e = .returned (sta 1 (sat (now + fill)) 0) ∧ Kept w w' := by
  have C1 := Lib.hid (fun (g c : Nat) (w : World) => num_add_two g c now fill w hn hf)
  generalize sat (now + fill) = x at *
  go_enter Try.func48, Try.ntmps48
  go_wp2_with (go_at_call 30; ((with_reducible refine (C1.out _ _ _ (by simp) (by simp)).mono ?_); rintro e w1 ⟨rfl, rfl⟩))
  exact bodyPost_ret (v := sta 1 x 0) (by simp [results, Try.results48, go_sem]) rfl ⟨rfl, ((Kept.refl w).alloc _ _).alloc _ _⟩

theorem gfill_any (k a b now cap : Int) (w : World) (ha : U a) (hn : U now) :
    Calls Try.prog 49 #[sta k a b, .int .u64 now, .int .u64 cap] w fun e w' => e = .returned (.int .u64 (sbI a now)) ∧ Kept w w' := by
  have C1 := Lib.hid (fun w => num_sub a now w ha hn)
  generalize sbI a now = x at *
  go_enter Try.func49, Try.ntmps49
  go_wp2_with (go_at_call 34; ((with_reducible refine (C1.out _).mono ?_); rintro e w1 ⟨rfl, rfl⟩))
  go_ret
  exact ⟨rfl, (Kept.refl w).alloc _ _⟩

/-- What is decided: whether it comes in, and what is kept. -/
def gdB (a now cap v : Int) : Bool := ftB (sbI a now) v cap

/-- A scope whose label stands ahead of the return alone: a goto is a return. -/
theorem wp_scope_out {P : Program} {a : Act} {w : World} {Q : Exit → Act → World → Prop} {c : Code} (l : Nat) (hf : findLabel c l = some (Code.skip.seq Code.ret))
    (first : c.wp P (Exit.jump l (fun a w => Q .ret a w) Q) a w) : (Code.scope c).wp P Q a w :=
  wp_scope_jumps l (fun a w => Q .ret a w) (fun _ _ => 0) hf first (fun _ _ h => wp_seq (wp_skip (wp_ret h)))

theorem gdecide_no (k a b now cap v : Int) (w : World) (ha : U a) (hb : U b) (hn : U now) (hc : U cap) (hv : U v) (h : gdB a now cap v = false) :
    Calls Try.prog 50 #[sta k a b, .int .u64 now, .int .u64 cap, .int .u64 v] w fun e w' => e = .returned (.tuple #[sta k a b, .bool false]) ∧ Kept w w' := by
  have ut := thI_U a now ha hn
  have us := sbI_U a now ha hn
  have es := thI_sub a now
  have c1 (w : World) := garr_any k a b now w
  have c2 (w : World) := num_fits (sbI a now) v cap w us hv hc
  have c3 (w : World) := gof_any (thI a now) cap v w ut hv
  rw [show ftB (sbI a now) v cap = false from h, ← es] at c2
  have C1 := Lib.hid c1
  have C2 := Lib.hid c2
  have C3 := Lib.hid c3
  rw [← es] at us
  clear c1 c2 c3 h es
  generalize thI a now = t at *
  unfold U at hn ut us
  go_enter Try.func50, Try.ntmps50
  go_wp2
  refine wp_scope_out 0 rfl ?_
  go_wp2_with (first
    | (go_at_call 62; ((with_reducible refine (C1.out _).mono ?_); rintro e w1 ⟨rfl, g1⟩; obtain ⟨hc1, hf1⟩ := g1.reads; have hz1 : w.heap.size < w1.heap.size ∧ w.heap.size + 1 < w1.heap.size := by (have := g1.size; simp at this; omega)))
    | (go_at_call 31; ((with_reducible refine (C2.out _).mono ?_); rintro e w2 ⟨rfl, rfl⟩))
    | (go_at_call 48; ((with_reducible refine (C3.out _).mono ?_); rintro e w3 ⟨rfl, g3⟩; obtain ⟨hc3, hf3⟩ := g3.reads; have hz3 : w.heap.size + 1 < w3.heap.size := by (have := g3.size; omega))))
  go_step3
  refine ⟨rfl, ?_⟩
  exact bodyPost_ret (v := .tuple #[sta k a b, .bool false]) (by simp [results, Try.results50, go_sem, hc1]) rfl
    ⟨rfl, ((((((Kept.refl w).alloc _ _).alloc _ _).trans g1).setCell (by simp) _).setCell (by simp) _).setCell (by simp) _⟩

theorem gdecide_yes (k a b now cap v : Int) (w : World) (ha : U a) (hb : U b) (hn : U now) (hc : U cap) (hv : U v) (h : gdB a now cap v = true) :
    Calls Try.prog 50 #[sta k a b, .int .u64 now, .int .u64 cap, .int .u64 v] w fun e w' => e = .returned (.tuple #[sta 1 (sat (thI a now + v)) 0, .bool true]) ∧ Kept w w' := by
  have ut := thI_U a now ha hn
  have us := sbI_U a now ha hn
  have es := thI_sub a now
  have c1 (w : World) := garr_any k a b now w
  have c2 (w : World) := num_fits (sbI a now) v cap w us hv hc
  have c3 (w : World) := gof_any (thI a now) cap v w ut hv
  rw [show ftB (sbI a now) v cap = true from h, ← es] at c2
  have C1 := Lib.hid c1
  have C2 := Lib.hid c2
  have C3 := Lib.hid c3
  rw [← es] at us
  clear c1 c2 c3 h es
  generalize thI a now = t at *
  generalize sat (t + v) = x at *
  unfold U at hn ut us
  go_enter Try.func50, Try.ntmps50
  go_wp2
  refine wp_scope_out 0 rfl ?_
  go_wp2_with (first
    | (go_at_call 62; ((with_reducible refine (C1.out _).mono ?_); rintro e w1 ⟨rfl, g1⟩; obtain ⟨hc1, hf1⟩ := g1.reads; have hz1 : w.heap.size < w1.heap.size ∧ w.heap.size + 1 < w1.heap.size := by (have := g1.size; simp at this; omega)))
    | (go_at_call 31; ((with_reducible refine (C2.out _).mono ?_); rintro e w2 ⟨rfl, rfl⟩))
    | (go_at_call 48; ((with_reducible refine (C3.out _).mono ?_); rintro e w3 ⟨rfl, g3⟩; obtain ⟨hc3, hf3⟩ := g3.reads; have hz3 : w.heap.size + 1 < w3.heap.size := by (have := g3.size; omega))))
  go_step3
  go_wp2
  simp only [Exit.jump]
  exact bodyPost_ret (v := .tuple #[sta 1 x 0, .bool true]) (by simp [results, Try.results50, go_sem, hc1, hc3, hz1]) rfl
    ⟨rfl, (((((((Kept.refl w).alloc _ _).alloc _ _).trans g1).trans g3).setCell (by simp) _).setCell (by simp) _).setCell (by simp) _⟩

def gdK (k a now cap v : Int) : Int := if gdB a now cap v = true then 1 else k
def gdA (a now cap v : Int) : Int := if gdB a now cap v = true then sat (thI a now + v) else a
def gdT (a b now cap v : Int) : Int := if gdB a now cap v = true then 0 else b
theorem gdecide_any (k a b now cap v : Int) (w : World) (ha : U a) (hb : U b) (hn : U now) (hc : U cap) (hv : U v) :
    Calls Try.prog 50 #[sta k a b, .int .u64 now, .int .u64 cap, .int .u64 v] w fun e w' => e = .returned (.tuple #[sta (gdK k a now cap v) (gdA a now cap v) (gdT a b now cap v), .bool (gdB a now cap v)]) ∧ Kept w w' := by
  unfold gdK gdA gdT
  cases h : gdB a now cap v
  · exact gdecide_no k a b now cap v w ha hb hn hc hv h
  · exact gdecide_yes k a b now cap v w ha hb hn hc hv h
end Go.Proofs.Ytodmjnbepfkibaa.Wd
