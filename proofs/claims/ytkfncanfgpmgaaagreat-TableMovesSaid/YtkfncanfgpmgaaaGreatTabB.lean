/- Elder words: states of the three kernels; no conditions but those that each names. -/
import Derived.Test.YtkfncanfgpmgaaaGreatTabA
import Derived.WalkKit
import Derived.Laws.Bits64b
import Derived.Below
import Derived.Deep.Draws
import Derived.Test.YtkfncanfgpmgaaaGreatRows
import Derived.ProofKit
import Derived.OpenShut
import Derived.Handy
import Derived.Lib.Hide
import Derived.Deep.RegionHeld3
import Derived.Deep.QuietTactic
import Derived.BigQuiet
import Derived.RangeFuncNested
import Derived.RangeFuncBound
import Derived.RangeFuncCalls
import Derived.RangeFuncLeaves
import Derived.Shelf.Abstract
import Derived.Shelf.RegionOpen
import Derived.OwnWalkIn
import Derived.TacticsInMore
import Derived.LoopNIn
import Derived.LoopIn
import Derived.LoopTactic
import Derived.OwnWalk
import Derived.Laws.OwnMore
import Derived.Maps.OwnSet
import Derived.Laws.EntriesVeiled
import Derived.Shelf.LaysM
import Derived.Shelf.Strconv.Clone
import Derived.ScopeJumps
import Derived.WalkMore
import Derived.Lib.ReflectliteSwap
import Derived.Deep.CutRange
import Derived.Deep.DeepCutAuto
import Derived.Lib.ItoaNum
import Derived.Lib.ItoaLen
import Derived.Laws.Strings
import GoSem.Op.String
import Derived.Lib.BufferWrite
import Derived.Laws.IdiomStrings
import Derived.Laws.ResultCell
import Derived.Laws.Rows
import Derived.WalkLawsBesides
import Derived.WalkSpells
import Derived.Deep.WholeRow
import Derived.StillTailTactics
import Derived.Deep.AppendLies
import Derived.Laws.ComplexArith
import Derived.WalkSmall
import Derived.Laws.Entries
import Derived.Laws.AppendOwn
import Derived.Deep.LoopGhost
import Derived.Lib.QuietBelow
import Derived.PlainAid
import Derived.Lib.SlBytesConst
import Derived.Lib.SmallJoins
import Derived.Laws.AppendOwnNone
import Derived.Laws.MakeOwn
import Derived.Lib.AppendStr
import Derived.Deep.RegionLaw
import Derived.Defers
import Derived.Recover
import Derived.Deep.Slices
import Derived.OneCell
import Derived.Laws.Cover3
namespace Go.Proofs.YtkfncanfgpmgaaaGreat.Wd
open Go Go.RowKit Go.Shelf Go.Deep
set_option linter.unusedVariables false
set_option maxRecDepth 100000
theorem Drew.kept {a b : World} (h : Drew a b) : Kept a b := by obtain ⟨n, rfl⟩ := h; exact (Kept.refl a).drewN n
def ltB (ah al bh bl : Int) : Bool := decide (ah < bh ∨ (ah = bh ∧ al < bl))
def adL (al bl : Int) : Int := (al + bl) % 18446744073709551616
def adH (ah al bh bl : Int) : Int := (ah + bh + (al + bl) / 18446744073709551616) % 18446744073709551616
def adC (ah al bh bl : Int) : Bool := decide (18446744073709551616 ≤ ah + bh + (al + bl) / 18446744073709551616)
theorem less_any (ah al bh bl : Int) (w : World) :
    Calls Tryz.prog 150 #[.int .u64 ah, .int .u64 al, .int .u64 bh, .int .u64 bl] w fun e w' => e = .returned (.bool (ltB ah al bh bl)) ∧ w = w' := by
  by_cases h : ah = bh
  · subst h
    have e : ltB ah al ah bl = decide (al < bl) := by simp [ltB]
    rw [e]
    clear e
    go_enter Tryz.func150, Tryz.ntmps150
    go_wp2
    all_goals (go_ret; exact ⟨rfl, rfl⟩)
  · have e : ltB ah al bh bl = decide (ah < bh) := by simp [ltB, h]
    rw [e]
    clear e
    go_enter Tryz.func150, Tryz.ntmps150
    go_wp2
    all_goals (go_ret; exact ⟨rfl, rfl⟩)
theorem addCarry_any (a b c : Int) (w : World) (ha : 0 ≤ a ∧ a ≤ 18446744073709551615) (hb : 0 ≤ b ∧ b ≤ 18446744073709551615) (hc : 0 ≤ c ∧ c ≤ 1) :
    Calls Tryz.prog 175 #[.int .u64 a, .int .u64 b, .int .u64 c] w fun e w' => e = .returned (.tuple #[.int .u64 ((a + b + c) % 18446744073709551616), .int .u64 ((a + b + c) / 18446744073709551616)]) ∧ w = w' := by
  go_enter Tryz.func175, Tryz.ntmps175
  go_wp2
  all_goals (go_ret2; refine ⟨ret2 ?_ ?_, rfl⟩ <;> (simp only [IntKind.wrap_u64] at *; omega))
theorem ret3 {k m : IntKind} {a b c d : Int} {p q : Bool} (h : a = b) (h' : c = d) (h'' : p = q) : Ending.returned (.tuple #[.int k a, .int m c, .bool p]) = .returned (.tuple #[.int k b, .int m d, .bool q]) := by rw [h, h', h'']
theorem add_any (ah al bh bl : Int) (w : World) (h1 : U ah) (h2 : U al) (h3 : U bh) (h4 : U bl) :
    Calls Tryz.prog 132 #[.int .u64 ah, .int .u64 al, .int .u64 bh, .int .u64 bl] w fun e w' => e = .returned (.tuple #[.int .u64 (adH ah al bh bl), .int .u64 (adL al bl), .bool (adC ah al bh bl)]) ∧ w = w' := by
  unfold U at *
  go_enter Tryz.func132, Tryz.ntmps132
  go_wp2_with (go_at_call 175; refine (addCarry_any _ _ _ _ (by omega) (by omega) (by omega)).mono ?_; rintro e w' ⟨rfl, rfl⟩)
  go_ret3
  refine ⟨ret3 rfl rfl ?_, rfl⟩
  rw [Bool.eq_iff_iff]
  unfold adC
  simp only [beq_iff_eq, decide_eq_true_eq]
  omega
def addAll (xs : List Int) : Int := xs.foldl (fun s x => sat (s + x)) 0
def ftB (a b c : Int) : Bool := decide (a + b ≤ c)
theorem stop_add (s x : Int) (hs : U s) (hx : U x) : stopV (adH 0 s 0 x) (adL s x) = sat (s + x) := by
  unfold U at *; unfold stopV adH adL sat; split <;> split <;> omega
theorem fits_less (a b c : Int) (ha : U a) (hb : U b) (hc : U c) : (!ltB 0 c (adH 0 a 0 b) (adL a b)) = ftB a b c := by
  unfold U at *
  unfold ltB adH adL ftB
  rw [Bool.eq_iff_iff]
  simp only [Bool.not_eq_true', decide_eq_false_iff_not, decide_eq_true_eq]
  omega
theorem addAll_snoc (xs : List Int) (x : Int) : addAll (xs ++ [x]) = sat (addAll xs + x) := by unfold addAll; rw [List.foldl_append]; rfl
theorem addAll_take (xs : List Int) (k : Nat) (hk : k < xs.length) : addAll (xs.take (k + 1)) = sat (addAll (xs.take k) + xs.getD k 0) := by
  rw [List.take_succ_eq_append_getElem hk, addAll_snoc]
  congr 2
  simp [List.getD, List.getElem?_eq_getElem hk]
theorem addAll_from (xs : List Int) (s : Int) (hs : U s) (hx : ∀ x ∈ xs, U x) : xs.foldl (fun s x => sat (s + x)) s = sat (s + xs.sum) := by
  induction xs generalizing s with
  | nil => simp; unfold sat U at *; split <;> omega
  | cons x xs ih =>
    have h1 := hx x (by simp)
    rw [List.foldl_cons, ih _ (sat_U _ (by unfold U at *; omega)) (fun y hy => hx y (by simp [hy]))]
    have h2 : 0 ≤ xs.sum := by
      clear ih
      induction xs with
      | nil => simp
      | cons y ys ih2 =>
        have := ih2 (fun z hz => hx z (by simp at hz ⊢; rcases hz with h | h; exact .inl h; exact .inr (.inr h)))
        have := hx y (by simp)
        unfold U at *
        simp; omega
    unfold U at *
    rw [List.sum_cons]
    unfold sat; split <;> split <;> split <;> omega
theorem addAll_sum (xs : List Int) (hx : ∀ x ∈ xs, U x) : addAll xs = sat xs.sum := by
  unfold addAll
  rw [addAll_from xs 0 (by unfold U; omega) hx]
  simp
theorem sum_nonneg (xs : List Int) (hx : ∀ x ∈ xs, U x) : 0 ≤ xs.sum := by
  induction xs with
  | nil => simp
  | cons y ys ih =>
    have := ih (fun z hz => hx z (by simp [hz]))
    have := hx y (by simp)
    unfold U at *
    simp; omega
theorem addAll_U (xs : List Int) (hx : ∀ x ∈ xs, U x) : U (addAll xs) := by
  rw [addAll_sum xs hx]; exact sat_U _ (sum_nonneg xs hx)
theorem addAll_two (a b : Int) (ha : U a) : addAll [a, b] = sat (a + b) := by
  unfold addAll
  simp
  unfold U at *
  unfold sat; split <;> split <;> (try split) <;> omega
theorem Kept.allocMap {a b : World} (h : Kept a b) (es : Array MapEntry) (c : Nat) : Kept a (b.alloc (.map es c)) := ⟨h.1.allocMap es c, h.2.alloc h.2.size _⟩
/-- The three fields of a kernel. -/
abbrev kern (f g h : FuncId) : Value := .agg #[.func (Fn.func f) #[] #[], .func (Fn.func g) #[] #[], .func (Fn.func h) #[] #[]]
abbrev kern1 : Value := kern 115 116 117
abbrev kern2 : Value := kern 118 119 120
abbrev kern3 : Value := kern 121 122 123
theorem setBlock_new (w : World) (o o' : Obj) : ({ (w.alloc o) with heap := (w.alloc o).heap.setIfInBounds w.heap.size o' } : World) = w.alloc o' := by
  have e : (w.heap.push o).setIfInBounds w.heap.size o' = w.heap.push o' := by simp [Array.setIfInBounds, Array.set_push]
  show ({ w with heap := (w.heap.push o).setIfInBounds w.heap.size o' } : World) = { w with heap := w.heap.push o' }
  rw [e]
theorem run_put_new (w : World) (es : Array MapEntry) (c : Nat) (a : Int) (v : Value) (hn : Instr.findNow (.int .u8) (.int .u8 a) es.toList 0 = some none) :
    (Instr.mapUpdate 134 (.map (some w.heap.size)) (.int .u8 a) v).run Tryz.prog (w.alloc (.map es c)) = .ok () (w.alloc (.map (es.push ⟨.int .u8 a, v, c⟩) (c + 1))) := by
  have hb : (w.alloc (.map es c)).heap[w.heap.size]? = some (.map es c) := (MapKept.heap_alloc w _).1
  simp [Instr.mapUpdate, run_underlying Tryz.underlying134, MapKept.run_getObj_map hb, MapKept.run_checkKey Tryz.underlying5 (d := .int .u8) (k := .int .u8 a) rfl, MapKept.run_findKey Tryz.underlying5 hn, MapKept.run_setObj_map _ hb, Result.andThen]
  exact setBlock_new w _ _
def kerMap : Obj := .map #[⟨.int .u8 1, kern1, 0⟩, ⟨.int .u8 2, kern2, 1⟩, ⟨.int .u8 3, kern3, 2⟩] 3
theorem kernels_any (w : World) :
    Calls Tryz.prog 79 #[] w fun e w' => e = .returned (.map (some w.heap.size)) ∧ w' = w.alloc kerMap := by
  have hmm := @run_makeMap Tryz.prog
  have h1 := run_put_new w #[] 0 1 kern1 rfl
  have h2 := run_put_new w #[⟨.int .u8 1, kern1, 0⟩] 1 2 kern2 rfl
  have h3 := run_put_new w #[⟨.int .u8 1, kern1, 0⟩, ⟨.int .u8 2, kern2, 1⟩] 2 3 kern3 rfl
  simp only [List.push_toArray, List.cons_append, List.nil_append] at h1 h2 h3
  go_enter Tryz.func79, Tryz.ntmps79
  go_wp2
  go_ret
  exact ⟨rfl, rfl⟩
theorem run_look (w : World) (b : Nat) (k : Int) (v : Value) (is : Bool) (hb : w.heap[b]? = some kerMap) (h : (k = 1 ∧ v = kern1 ∧ is = true) ∨ (k = 2 ∧ v = kern2 ∧ is = true) ∨ (k = 3 ∧ v = kern3 ∧ is = true) ∨ (¬ (1 ≤ k ∧ k ≤ 3) ∧ v = .agg #[.nilFunc, .nilFunc, .nilFunc] ∧ is = false)) :
    (Instr.lookup 134 (.map (some b)) (.int .u8 k) true).run Tryz.prog w = .ok (.tuple #[v, .bool is]) w := by
  unfold kerMap at hb
  rcases h with ⟨rfl, rfl, rfl⟩ | ⟨rfl, rfl, rfl⟩ | ⟨rfl, rfl, rfl⟩ | ⟨hk, rfl, rfl⟩
  · have hn : Instr.findNow (.int .u8) (.int .u8 1) [⟨.int .u8 1, kern1, 0⟩, ⟨.int .u8 2, kern2, 1⟩, ⟨.int .u8 3, kern3, 2⟩] 0 = some (some (0, kern1)) := rfl
    simp [Instr.lookup, run_underlying Tryz.underlying134, MapKept.run_getObj_map hb, MapKept.run_checkKey Tryz.underlying5 (d := .int .u8) (k := .int .u8 1) rfl, MapKept.run_findKey Tryz.underlying5 hn, Result.andThen]
  · have hn : Instr.findNow (.int .u8) (.int .u8 2) [⟨.int .u8 1, kern1, 0⟩, ⟨.int .u8 2, kern2, 1⟩, ⟨.int .u8 3, kern3, 2⟩] 0 = some (some (1, kern2)) := rfl
    simp [Instr.lookup, run_underlying Tryz.underlying134, MapKept.run_getObj_map hb, MapKept.run_checkKey Tryz.underlying5 (d := .int .u8) (k := .int .u8 2) rfl, MapKept.run_findKey Tryz.underlying5 hn, Result.andThen]
  · have hn : Instr.findNow (.int .u8) (.int .u8 3) [⟨.int .u8 1, kern1, 0⟩, ⟨.int .u8 2, kern2, 1⟩, ⟨.int .u8 3, kern3, 2⟩] 0 = some (some (2, kern3)) := rfl
    simp [Instr.lookup, run_underlying Tryz.underlying134, MapKept.run_getObj_map hb, MapKept.run_checkKey Tryz.underlying5 (d := .int .u8) (k := .int .u8 3) rfl, MapKept.run_findKey Tryz.underlying5 hn, Result.andThen]
  · have hn : Instr.findNow (.int .u8) (.int .u8 k) [⟨.int .u8 1, kern1, 0⟩, ⟨.int .u8 2, kern2, 1⟩, ⟨.int .u8 3, kern3, 2⟩] 0 = some none := by
      have h1 : (k == 1) = false := by simp; omega
      have h2 : (k == 2) = false := by simp; omega
      have h3 : (k == 3) = false := by simp; omega
      simp [Instr.findNow, Instr.sameNow, h1, h2, h3]
    simp [Instr.lookup, run_underlying Tryz.underlying134, MapKept.run_getObj_map hb, MapKept.run_checkKey Tryz.underlying5 (d := .int .u8) (k := .int .u8 k) rfl, MapKept.run_findKey Tryz.underlying5 hn, Result.andThen]
/-- Is it a kernel? -/
def isK (k : Int) : Bool := decide (1 ≤ k ∧ k ≤ 3)
def kerV (k : Int) : Value := if k = 1 then kern1 else if k = 2 then kern2 else if k = 3 then kern3 else .agg #[.nilFunc, .nilFunc, .nilFunc]
theorem run_look_any (w : World) (b : Nat) (k : Int) (hb : w.heap[b]? = some kerMap) :
    (Instr.lookup 134 (.map (some b)) (.int .u8 k) true).run Tryz.prog w = .ok (.tuple #[kerV k, .bool (isK k)]) w := by
  refine run_look w b k _ _ hb ?_
  unfold kerV isK
  by_cases h1 : k = 1
  · subst h1; left; simp
  by_cases h2 : k = 2
  · subst h2; right; left; simp
  by_cases h3 : k = 3
  · subst h3; right; right; left; simp
  right; right; right
  simp [h1, h2, h3]; omega
theorem kernels_new (w : World) :
    Calls Tryz.prog 79 #[] w fun e w' => ∃ p : Nat, e = .returned (.map (some p)) ∧ Kept w w' ∧ ∀ k w2, Kept w' w2 → (Instr.lookup 134 (.map (some p)) (.int .u8 k) true).run Tryz.prog w2 = .ok (.tuple #[kerV k, .bool (isK k)]) w2 := by
  refine (kernels_any w).mono ?_
  rintro e w' ⟨rfl, rfl⟩
  exact ⟨_, rfl, (Kept.refl w).allocMap _ _, fun k w2 h => run_look_any _ _ _ ((h.2.block _ (by simp)).trans (MapKept.heap_alloc w _).1)⟩
theorem kerV_no (k : Int) (h : isK k = false) : kerV k = .agg #[.nilFunc, .nilFunc, .nilFunc] := by
  unfold isK at h; simp at h
  unfold kerV; rw [if_neg (by omega), if_neg (by omega), if_neg (by omega)]
theorem isK_yes (k : Int) (h : isK k = true) : k = 1 ∨ k = 2 ∨ k = 3 := by
  unfold isK at h; simp at h; omega
theorem right_core (k : Int) (f g h : Value) (is : Bool) (w : World) (e0 : kerV k = .agg #[f, g, h]) (e1 : isK k = is)
    (hf : f = .nilFunc ∧ g = .nilFunc ∧ h = .nilFunc ∨ ∃ a b c : FuncId, f = .func (Fn.func a) #[] #[] ∧ g = .func (Fn.func b) #[] #[] ∧ h = .func (Fn.func c) #[] #[]) :
    Calls Tryz.prog 45 #[.int .u8 k] w fun e w' => e = .returned (.bool is) ∧ Kept w w' := by
  rcases hf with ⟨rfl, rfl, rfl⟩ | ⟨a, b, c, rfl, rfl, rfl⟩
  all_goals
    go_enter Tryz.func45, Tryz.ntmps45
    go_wp2_with (go_at_call 79; ((with_reducible refine (kernels_new _).mono ?_); rintro e w1 ⟨p, rfl, g1, hl⟩; replace hl := hl k _ (Kept.refl _); rw [e0, e1] at hl))
    go_ret
    exact ⟨rfl, g1.alloc _ _⟩
theorem knright_any (k : Int) (w : World) :
    Calls Tryz.prog 45 #[.int .u8 k] w fun e w' => e = .returned (.bool (isK k)) ∧ Kept w w' := by
  cases h : isK k
  · exact right_core k _ _ _ _ w (kerV_no k h) h (.inl ⟨rfl, rfl, rfl⟩)
  · rcases isK_yes k h with rfl | rfl | rfl
    · exact right_core 1 _ _ _ _ w rfl h (.inr ⟨_, _, _, rfl, rfl, rfl⟩)
    · exact right_core 2 _ _ _ _ w rfl h (.inr ⟨_, _, _, rfl, rfl, rfl⟩)
    · exact right_core 3 _ _ _ _ w rfl h (.inr ⟨_, _, _, rfl, rfl, rfl⟩)
theorem num_sub (a b : Int) (w : World) (ha : U a) (hb : U b) :
    Calls Tryz.prog 113 #[.int .u64 a, .int .u64 b] w fun e w' => e = .returned (.int .u64 (sbI a b)) ∧ w = w' := by
  unfold U at *
  by_cases c : a < b
  · have e : sbI a b = 0 := by simp [sbI, c]
    rw [e]; clear e
    go_enter Tryz.func113, Tryz.ntmps113
    go_wp2
    go_ret
    exact ⟨rfl, rfl⟩
  · have e : sbI a b = a - b := by simp [sbI, c]
    rw [e]; clear e
    go_enter Tryz.func113, Tryz.ntmps113
    go_wp2
    go_ret
    exact ⟨rfl, rfl⟩
theorem num_fits (a b c : Int) (w : World) (ha : U a) (hb : U b) (hc : U c) :
    Calls Tryz.prog 111 #[.int .u64 a, .int .u64 b, .int .u64 c] w fun e w' => e = .returned (.bool (ftB a b c)) ∧ w = w' := by
  rw [← fits_less a b c ha hb hc]
  go_enter Tryz.func111, Tryz.ntmps111
  go_wp2_with (first
    | (go_at_call 132; ((with_reducible refine (add_any _ _ _ _ _ U_zero ha U_zero hb).mono ?_); rintro e w' ⟨rfl, rfl⟩))
    | (go_at_call 150; ((with_reducible refine (less_any _ _ _ _ _).mono ?_); rintro e w' ⟨rfl, rfl⟩)))
  go_ret
  exact ⟨rfl, rfl⟩
theorem of_any (now cap fill : Int) (w : World) :
    Calls Tryz.prog 121 #[.int .u64 now, .int .u64 cap, .int .u64 fill] w fun e w' => e = .returned (sta 3 fill now) ∧ Kept w w' := by
  go_enter Tryz.func121, Tryz.ntmps121
  go_wp2
  exact bodyPost_ret (v := sta 3 fill now) (by simp [results, Tryz.results121, go_sem]) rfl ⟨rfl, (Kept.refl w).alloc _ _⟩
theorem at_any (k a b now : Int) (w : World) (ha : U a) (hb : U b) (hn : U now) :
    Calls Tryz.prog 185 #[.agg #[.int .u8 k, .int .u64 a, .int .u64 b], .int .u64 now] w fun e w' => e = .returned (.int .u64 (sbI a (sbI now b))) ∧ Kept w w' := by
  have h1 := sbI_U now b hn hb
  go_enter Tryz.func185, Tryz.ntmps185
  go_wp2
  go_quiet ((go_at_call 113; first | exact still_call (num_sub _ _ _ hn hb) | exact still_call (num_sub _ _ _ ha h1)))
  go_wp2
  go_ret
  exact ⟨rfl, ((Kept.refl w).alloc _ _).drewN _⟩
theorem reading_any (k a b : Int) (w : World) :
    Calls Tryz.prog 154 #[sta k a b] w fun e w' => e = .returned (.func (Fn.func 185) #[sta k a b] #[]) ∧ Kept w w' := by
  go_enter Tryz.func154, Tryz.ntmps154
  go_wp2
  go_ret
  exact ⟨rfl, (Kept.refl w).alloc _ _⟩
/-- How full a meter is. -/
def fiI (a b now : Int) : Int := sbI a (sbI now b)
theorem fiI_U (a b now : Int) (ha : U a) (hb : U b) (hn : U now) : U (fiI a b now) := sbI_U _ _ ha (sbI_U _ _ hn hb)
theorem fill_any (k a b now cap : Int) (w : World) (ha : U a) (hb : U b) (hn : U now) :
    Calls Tryz.prog 122 #[sta k a b, .int .u64 now, .int .u64 cap] w fun e w' => e = .returned (.int .u64 (fiI a b now)) ∧ Kept w w' := by
  go_enter Tryz.func122, Tryz.ntmps122
  go_wp2_with (first
    | (go_at_call 154; ((with_reducible refine (reading_any _ _ _ _).mono ?_); rintro e w1 ⟨rfl, g1⟩))
    | (go_at_call 185; ((with_reducible refine (at_any _ _ _ _ _ ha hb hn).mono ?_); rintro e w2 ⟨rfl, g2⟩)))
  go_ret
  exact ⟨rfl, (((Kept.refl w).alloc _ _).trans g1).trans g2⟩
/-- What is decided: whether it comes in, and what is kept. -/
def deB (a b now cap v : Int) : Bool := ftB (fiI a b now) v cap
theorem decide_no (k a b now cap v : Int) (w : World) (ha : U a) (hb : U b) (hn : U now) (hc : U cap) (hv : U v) (h : deB a b now cap v = false) :
    Calls Tryz.prog 123 #[sta k a b, .int .u64 now, .int .u64 cap, .int .u64 v] w fun e w' => e = .returned (.tuple #[sta k a b, .bool false]) ∧ Kept w w' := by
  have hf := fiI_U a b now ha hb hn
  have c1 (w : World) := fill_any k a b now cap w ha hb hn
  have c2 (w : World) := num_fits (fiI a b now) v cap w hf hv hc
  unfold deB at h
  rw [h] at c2
  have C1 := Lib.hid c1
  have C2 := Lib.hid c2
  clear c1 c2 h
  generalize fiI a b now = f at *
  go_enter Tryz.func123, Tryz.ntmps123
  go_wp2_with (first
    | (go_at_call 122; ((with_reducible refine (C1.out _).mono ?_); rintro e w1 ⟨rfl, g1⟩; obtain ⟨hc1, hf1⟩ := g1.reads))
    | (go_at_call 111; ((with_reducible refine (C2.out _).mono ?_); rintro e w2 ⟨rfl, rfl⟩)))
  exact bodyPost_ret (v := .tuple #[sta k a b, .bool false]) (by simp [results, Tryz.results123, go_sem, hc1]) rfl
    ⟨rfl, ((((((Kept.refl w).alloc _ _).alloc _ _).trans g1).setCell (by simp) _).setCell (by simp) _).setCell (by simp) _⟩
theorem decide_yes (k a b now cap v : Int) (w : World) (ha : U a) (hb : U b) (hn : U now) (hc : U cap) (hv : U v) (h : deB a b now cap v = true) :
    Calls Tryz.prog 123 #[sta k a b, .int .u64 now, .int .u64 cap, .int .u64 v] w fun e w' => e = .returned (.tuple #[sta 3 (fiI a b now + v) now, .bool true]) ∧ Kept w w' := by
  have hf := fiI_U a b now ha hb hn
  have c1 (w : World) := fill_any k a b now cap w ha hb hn
  have c2 (w : World) := num_fits (fiI a b now) v cap w hf hv hc
  unfold deB at h
  rw [h] at c2
  have hs : U (fiI a b now + v) := by unfold ftB at h; simp at h; unfold U at *; omega
  have C1 := Lib.hid c1
  have C2 := Lib.hid c2
  clear c1 c2 h
  generalize fiI a b now = f at *
  unfold U at hf hv hs
  go_enter Tryz.func123, Tryz.ntmps123
  go_wp2_with (first
    | (go_at_call 122; ((with_reducible refine (C1.out _).mono ?_); rintro e w1 ⟨rfl, g1⟩; obtain ⟨hc1, hf1⟩ := g1.reads; have hz1 : w.heap.size + 1 < w1.heap.size := by (have := g1.size; simp at this; omega)))
    | (go_at_call 111; ((with_reducible refine (C2.out _).mono ?_); rintro e w2 ⟨rfl, rfl⟩))
    | (go_at_call 121; ((with_reducible refine (of_any _ _ _ _).mono ?_); rintro e w2 ⟨rfl, g2⟩; obtain ⟨hc2, hf2⟩ := g2.reads)))
  exact bodyPost_ret (v := .tuple #[sta 3 (f + v) now, .bool true]) (by simp [results, Tryz.results123, go_sem, hc1, hc2, hz1]) rfl
    ⟨rfl, (((((((Kept.refl w).alloc _ _).alloc _ _).trans g1).trans g2).setCell (by simp) _).setCell (by simp) _).setCell (by simp) _⟩
/-- How many tokens a bucket has. -/
def tkI (a b now cap : Int) : Int := if a + sbI now b ≤ cap then a + sbI now b else cap
theorem tkI_U (a b now cap : Int) (ha : U a) (hb : U b) (hn : U now) (hc : U cap) : U (tkI a b now cap) := by
  have := sbI_U now b hn hb
  unfold tkI U at *; split <;> omega
theorem tkI_le (a b now cap : Int) : tkI a b now cap ≤ cap := by
  unfold tkI; split <;> omega
/-- How full a bucket is. -/
def biI (a b now cap : Int) : Int := cap - tkI a b now cap
theorem biI_U (a b now cap : Int) (ha : U a) (hb : U b) (hn : U now) (hc : U cap) : U (biI a b now cap) := by
  have h1 := tkI_U a b now cap ha hb hn hc
  have h2 := tkI_le a b now cap
  unfold biI U at *; omega
/-- The closure keeps the cap in a cell of its own. -/
theorem btokens_any (cap : Int) (w : World) :
    Calls Tryz.prog 153 #[.int .u64 cap] w fun e w' => ∃ p : Nat, e = .returned (.func (Fn.func 184) #[] #[.pointer (some ⟨p, 0, none⟩)]) ∧ w'.cell? ⟨p, 0, none⟩ = some (.int .u64 cap) ∧ Kept w w' := by
  go_enter Tryz.func153, Tryz.ntmps153
  go_wp2
  go_ret
  exact ⟨w.heap.size, rfl, by simp, (Kept.refl w).alloc _ _⟩
theorem btok_any (k a b now cap : Int) (p : Nat) (w : World) (ha : U a) (hb : U b) (hn : U now) (hc : U cap) (hp : w.cell? ⟨p, 0, none⟩ = some (.int .u64 cap)) :
    Calls Tryz.prog 184 #[sta k a b, .int .u64 now, .pointer (some ⟨p, 0, none⟩)] w fun e w' => e = .returned (.int .u64 (tkI a b now cap)) ∧ Kept w w' := by
  have h1 := sbI_U now b hn hb
  have c1 (w : World) := num_sub now b w hn hb
  have c2 (w : World) := num_fits a (sbI now b) cap w ha h1 hc
  have hp1 (c : Array Value) (t : TypeId) : (w.alloc (.cells c t)).cell? ⟨p, 0, none⟩ = some (.int .u64 cap) := ((Kept.refl w).alloc c t).cell hp
  cases h : ftB a (sbI now b) cap
  · have e : tkI a b now cap = cap := by unfold ftB at h; unfold tkI; simp at h; split <;> omega
    rw [e]
    rw [h] at c2
    have C1 := Lib.hid c1
    have C2 := Lib.hid c2
    clear c1 c2 h e
    generalize sbI now b = x at *
    go_enter Tryz.func184, Tryz.ntmps184
    go_wp2_with (first
      | (go_at_call 113; ((with_reducible refine (C1.out _).mono ?_); rintro e w1 ⟨rfl, rfl⟩))
      | (go_at_call 111; ((with_reducible refine (C2.out _).mono ?_); rintro e w2 ⟨rfl, rfl⟩)))
    go_ret
    exact ⟨rfl, (Kept.refl w).alloc _ _⟩
  · have e : tkI a b now cap = a + sbI now b := by unfold ftB at h; unfold tkI; simp at h; split <;> omega
    rw [e]
    have us : U (a + sbI now b) := by unfold ftB at h; simp at h; unfold U at *; omega
    rw [h] at c2
    have C1 := Lib.hid c1
    have C2 := Lib.hid c2
    clear c1 c2 h e
    generalize sbI now b = x at *
    unfold U at us ha h1
    go_enter Tryz.func184, Tryz.ntmps184
    go_wp2_with (first
      | (go_at_call 113; ((with_reducible refine (C1.out _).mono ?_); rintro e w1 ⟨rfl, rfl⟩))
      | (go_at_call 111; ((with_reducible refine (C2.out _).mono ?_); rintro e w2 ⟨rfl, rfl⟩)))
    go_ret
    exact ⟨rfl, (Kept.refl w).alloc _ _⟩
theorem bof_any (now cap fill : Int) (w : World) (hc : U cap) (hf : U fill) :
    Calls Tryz.prog 118 #[.int .u64 now, .int .u64 cap, .int .u64 fill] w fun e w' => e = .returned (sta 2 (sbI cap fill) now) ∧ Kept w w' := by
  have C1 := Lib.hid (fun w => num_sub cap fill w hc hf)
  generalize sbI cap fill = x at *
  go_enter Tryz.func118, Tryz.ntmps118
  go_wp2_with (go_at_call 113; ((with_reducible refine (C1.out _).mono ?_); rintro e w1 ⟨rfl, rfl⟩))
  exact bodyPost_ret (v := sta 2 x now) (by simp [results, Tryz.results118, go_sem]) rfl ⟨rfl, (Kept.refl w).alloc _ _⟩
theorem bfill_any (k a b now cap : Int) (w : World) (ha : U a) (hb : U b) (hn : U now) (hc : U cap) :
    Calls Tryz.prog 119 #[sta k a b, .int .u64 now, .int .u64 cap] w fun e w' => e = .returned (.int .u64 (biI a b now cap)) ∧ Kept w w' := by
  have h1 := tkI_U a b now cap ha hb hn hc
  have h2 := tkI_le a b now cap
  have C1 := Lib.hid (fun p w => btok_any k a b now cap p w ha hb hn hc)
  unfold biI
  generalize tkI a b now cap = n at *
  unfold U at h1 hc
  go_enter Tryz.func119, Tryz.ntmps119
  go_wp2_with (first
    | (go_at_call 153; ((with_reducible refine (btokens_any _ _).mono ?_); rintro e w1 ⟨p, rfl, hp, g1⟩; obtain ⟨hc1, hf1⟩ := g1.reads))
    | (go_at_call 184; ((with_reducible refine (C1.out _ _ hp).mono ?_); rintro e w2 ⟨rfl, g2⟩)))
  go_ret
  exact ⟨rfl, (((Kept.refl w).alloc _ _).trans g1).trans g2⟩
/-- What is decided: whether it comes in, and what is kept. -/
def bdB (a b now cap v : Int) : Bool := decide (v ≤ tkI a b now cap)
theorem bdecide_no (k a b now cap v : Int) (w : World) (ha : U a) (hb : U b) (hn : U now) (hc : U cap) (hv : U v) (h : bdB a b now cap v = false) :
    Calls Tryz.prog 120 #[sta k a b, .int .u64 now, .int .u64 cap, .int .u64 v] w fun e w' => e = .returned (.tuple #[sta k a b, .bool false]) ∧ Kept w w' := by
  have C1 := Lib.hid (fun p w => btok_any k a b now cap p w ha hb hn hc)
  have hlt : tkI a b now cap < v := by unfold bdB at h; simp at h; omega
  clear h
  generalize tkI a b now cap = n at *
  go_enter Tryz.func120, Tryz.ntmps120
  go_wp2_with (first
    | (go_at_call 153; ((with_reducible refine (btokens_any _ _).mono ?_); rintro e w1 ⟨p, rfl, hp, g1⟩; obtain ⟨hc1, hf1⟩ := g1.reads; have hz1 : w.heap.size < w1.heap.size ∧ w.heap.size + 1 < w1.heap.size := by (have := g1.size; simp at this; omega)))
    | (go_at_call 184; ((with_reducible refine (C1.out _ _ hp).mono ?_); rintro e w2 ⟨rfl, g2⟩; obtain ⟨hc2, hf2⟩ := g2.reads)))
  exact bodyPost_ret (v := .tuple #[sta k a b, .bool false]) (by simp [results, Tryz.results120, go_sem, hc1, hc2, hz1]) rfl
    ⟨rfl, (((((((Kept.refl w).alloc _ _).alloc _ _).trans g1).trans g2).setCell (by simp) _).setCell (by simp) _).setCell (by simp) _⟩
theorem bdecide_yes (k a b now cap v : Int) (w : World) (ha : U a) (hb : U b) (hn : U now) (hc : U cap) (hv : U v) (h : bdB a b now cap v = true) :
    Calls Tryz.prog 120 #[sta k a b, .int .u64 now, .int .u64 cap, .int .u64 v] w fun e w' => e = .returned (.tuple #[sta 2 (tkI a b now cap - v) now, .bool true]) ∧ Kept w w' := by
  have C1 := Lib.hid (fun p w => btok_any k a b now cap p w ha hb hn hc)
  have hle : v ≤ tkI a b now cap := by unfold bdB at h; simp at h; omega
  have h1 := tkI_U a b now cap ha hb hn hc
  clear h
  generalize tkI a b now cap = n at *
  unfold U at hv h1
  go_enter Tryz.func120, Tryz.ntmps120
  go_wp2_with (first
    | (go_at_call 153; ((with_reducible refine (btokens_any _ _).mono ?_); rintro e w1 ⟨p, rfl, hp, g1⟩; obtain ⟨hc1, hf1⟩ := g1.reads; have hz1 : w.heap.size < w1.heap.size ∧ w.heap.size + 1 < w1.heap.size := by (have := g1.size; simp at this; omega)))
    | (go_at_call 184; ((with_reducible refine (C1.out _ _ hp).mono ?_); rintro e w2 ⟨rfl, g2⟩; obtain ⟨hc2, hf2⟩ := g2.reads)))
  exact bodyPost_ret (v := .tuple #[sta 2 (n - v) now, .bool true]) (by simp [results, Tryz.results120, go_sem, hc1, hc2, hz1]) rfl
    ⟨rfl, (((((((Kept.refl w).alloc _ _).alloc _ _).trans g1).trans g2).setCell (by simp) _).setCell (by simp) _).setCell (by simp) _⟩
def bdK (k a b now cap v : Int) : Int := if bdB a b now cap v = true then 2 else k
def bdA (a b now cap v : Int) : Int := if bdB a b now cap v = true then tkI a b now cap - v else a
def bdT (a b now cap v : Int) : Int := if bdB a b now cap v = true then now else b
theorem bdecide_any (k a b now cap v : Int) (w : World) (ha : U a) (hb : U b) (hn : U now) (hc : U cap) (hv : U v) :
    Calls Tryz.prog 120 #[sta k a b, .int .u64 now, .int .u64 cap, .int .u64 v] w fun e w' => e = .returned (.tuple #[sta (bdK k a b now cap v) (bdA a b now cap v) (bdT a b now cap v), .bool (bdB a b now cap v)]) ∧ Kept w w' := by
  unfold bdK bdA bdT
  cases h : bdB a b now cap v
  · exact bdecide_no k a b now cap v w ha hb hn hc hv h
  · exact bdecide_yes k a b now cap v w ha hb hn hc hv h
theorem num_add_some (b off n c : Nat) (xs : List Int) (w : World) (hl : xs.length = n) (hx : ∀ x ∈ xs, U x) (hn : n ≤ 9223372036854775807)
    (hc : ∀ k, k < n → w.cell? ⟨b, off + k, none⟩ = some (.int .u64 (xs.getD k 0))) :
    Calls Tryz.prog 87 #[.slice (some ⟨b, off, none⟩) n c] w fun e w' => e = .returned (.int .u64 (addAll xs)) ∧ w = w' := by
  have HL := Lib.hid hl
  have HC := Lib.hid hc
  clear hl hc
  go_enter Tryz.func87, Tryz.ntmps87
  go_wp2
  go_loop [3, 11] (fun s i => ∃ k : Nat, k ≤ n ∧ i = .int .i64 k ∧ s = .int .u64 (addAll (xs.take k))) (fun _ i => n - (intOf i).toNat)
  case atStart => exact ⟨0, Nat.zero_le _, rfl, rfl⟩
  case round =>
    obtain ⟨k, hk, rfl, rfl⟩ := hrel
    by_cases hlt : k < n
    · have hcell := HC.out k hlt
      have us : U (addAll (xs.take k)) := addAll_U _ (fun x h => hx x (List.mem_of_mem_take h))
      have ux : U (xs.getD k 0) := by
        have hh : k < xs.length := by rw [HL.out]; exact hlt
        simp only [List.getD, List.getElem?_eq_getElem hh, Option.getD_some]
        exact hx _ (List.getElem_mem hh)
      have e := addAll_take xs k (by rw [HL.out]; exact hlt)
      rw [← stop_add _ _ us ux] at e
      have E := Lib.hid e
      clear e
      generalize xs.getD k 0 = x at *
      generalize addAll (xs.take k) = s at *
      go_wp2_with (first
        | (go_at_call 132; ((with_reducible refine (add_any _ _ _ _ _ U_zero us U_zero ux).mono ?_); rintro e w' ⟨rfl, rfl⟩))
        | (go_at_call 108; ((with_reducible refine (stop_any _ _ _).mono ?_); rintro e w' ⟨rfl, rfl⟩)))
      go_round
      case rel => exact ⟨k + 1, by omega, by go_num, by rw [E.out]⟩
      case measure => simp [intOf]; omega
    · obtain rfl : n = k := by omega
      have e : xs.take n = xs := List.take_of_length_le (by rw [HL.out]; exact Nat.le_refl _)
      rw [e]
      clear e
      go_wp2
      go_ret
      exact ⟨rfl, rfl⟩
/-- Two, handed over as a row that was just made. -/
theorem num_add_two (g c : Nat) (a b : Int) (w : World) (ha : U a) (hb : U b) (c0 : w.cell? ⟨g, 0, none⟩ = some (.int .u64 a)) (c1 : w.cell? ⟨g, 1, none⟩ = some (.int .u64 b)) :
    Calls Tryz.prog 87 #[.slice (some ⟨g, 0, none⟩) 2 c] w fun e w' => e = .returned (.int .u64 (sat (a + b))) ∧ w = w' := by
  have h := num_add_some g 0 2 c [a, b] w rfl (by intro x h; simp at h; rcases h with rfl | rfl; exact ha; exact hb) (by omega) (by
    intro k hk
    match k, hk with
    | 0, _ => simpa using c0
    | 1, _ => simpa using c1)
  rw [addAll_two a b ha] at h
  exact h
/-- The time from which on it counts. -/
def thI (a now : Int) : Int := if a < now then now else a
theorem thI_U (a now : Int) (ha : U a) (hn : U now) : U (thI a now) := by unfold thI; split <;> assumption
theorem thI_sub (a now : Int) : thI a now - now = sbI a now := by unfold thI sbI; split <;> omega
theorem thI_eq (a now : Int) : thI a now = now + sbI a now := by unfold thI sbI; split <;> omega
theorem garr_any (k a b now : Int) (w : World) :
    Calls Tryz.prog 152 #[sta k a b, .int .u64 now] w fun e w' => e = .returned (.int .u64 (thI a now)) ∧ Kept w w' := by
  by_cases h : a < now
  · have e : thI a now = now := by simp [thI, h]
    rw [e]; clear e
    go_enter Tryz.func152, Tryz.ntmps152
    go_wp2
    go_ret
    exact ⟨rfl, (Kept.refl w).alloc _ _⟩
  · have e : thI a now = a := by simp [thI, h]
    rw [e]; clear e
    go_enter Tryz.func152, Tryz.ntmps152
    go_wp2
    go_ret
    exact ⟨rfl, (Kept.refl w).alloc _ _⟩
theorem gof_any (now cap fill : Int) (w : World) (hn : U now) (hf : U fill) :
    Calls Tryz.prog 115 #[.int .u64 now, .int .u64 cap, .int .u64 fill] w fun e w' => e = .returned (sta 1 (sat (now + fill)) 0) ∧ Kept w w' := by
  have C1 := Lib.hid (fun (g c : Nat) (w : World) => num_add_two g c now fill w hn hf)
  generalize sat (now + fill) = x at *
  go_enter Tryz.func115, Tryz.ntmps115
  go_wp2_with (go_at_call 87; ((with_reducible refine (C1.out _ _ _ (by simp) (by simp)).mono ?_); rintro e w1 ⟨rfl, rfl⟩))
  exact bodyPost_ret (v := sta 1 x 0) (by simp [results, Tryz.results115, go_sem]) rfl ⟨rfl, ((Kept.refl w).alloc _ _).alloc _ _⟩
theorem gfill_any (k a b now cap : Int) (w : World) (ha : U a) (hn : U now) :
    Calls Tryz.prog 116 #[sta k a b, .int .u64 now, .int .u64 cap] w fun e w' => e = .returned (.int .u64 (sbI a now)) ∧ Kept w w' := by
  have C1 := Lib.hid (fun w => num_sub a now w ha hn)
  generalize sbI a now = x at *
  go_enter Tryz.func116, Tryz.ntmps116
  go_wp2_with (go_at_call 113; ((with_reducible refine (C1.out _).mono ?_); rintro e w1 ⟨rfl, rfl⟩))
  go_ret
  exact ⟨rfl, (Kept.refl w).alloc _ _⟩
/-- What is decided: whether it comes in, and what is kept. -/
def gdB (a now cap v : Int) : Bool := ftB (sbI a now) v cap
/-- A scope whose label stands ahead of the return alone: a goto is a return. -/
theorem wp_scope_out {P : Program} {a : Act} {w : World} {Q : Exit → Act → World → Prop} {c : Code} (l : Nat) (hf : findLabel c l = some (Code.skip.seq Code.ret))
    (first : c.wp P (Exit.jump l (fun a w => Q .ret a w) Q) a w) : (Code.scope c).wp P Q a w :=
  wp_scope_jumps l (fun a w => Q .ret a w) (fun _ _ => 0) hf first (fun _ _ h => wp_seq (wp_skip (wp_ret h)))
theorem gdecide_no (k a b now cap v : Int) (w : World) (ha : U a) (hb : U b) (hn : U now) (hc : U cap) (hv : U v) (h : gdB a now cap v = false) :
    Calls Tryz.prog 117 #[sta k a b, .int .u64 now, .int .u64 cap, .int .u64 v] w fun e w' => e = .returned (.tuple #[sta k a b, .bool false]) ∧ Kept w w' := by
  have ut := thI_U a now ha hn
  have us := sbI_U a now ha hn
  have es := thI_sub a now
  have c1 (w : World) := garr_any k a b now w
  have c2 (w : World) := num_fits (sbI a now) v cap w us hv hc
  have c3 (w : World) := gof_any (thI a now) cap v w ut hv
  rw [show ftB (sbI a now) v cap = false from h, ← es] at c2
  have C1 := Lib.hid c1
  have C2 := Lib.hid c2
  have C3 := Lib.hid c3
  rw [← es] at us
  clear c1 c2 c3 h es
  generalize thI a now = t at *
  unfold U at hn ut us
  go_enter Tryz.func117, Tryz.ntmps117
  go_wp2
  refine wp_scope_out 0 rfl ?_
  go_wp2_with (first
    | (go_at_call 152; ((with_reducible refine (C1.out _).mono ?_); rintro e w1 ⟨rfl, g1⟩; obtain ⟨hc1, hf1⟩ := g1.reads; have hz1 : w.heap.size < w1.heap.size ∧ w.heap.size + 1 < w1.heap.size := by (have := g1.size; simp at this; omega)))
    | (go_at_call 111; ((with_reducible refine (C2.out _).mono ?_); rintro e w2 ⟨rfl, rfl⟩))
    | (go_at_call 115; ((with_reducible refine (C3.out _).mono ?_); rintro e w3 ⟨rfl, g3⟩; obtain ⟨hc3, hf3⟩ := g3.reads; have hz3 : w.heap.size + 1 < w3.heap.size := by (have := g3.size; omega))))
  go_step3
  refine ⟨rfl, ?_⟩
  exact bodyPost_ret (v := .tuple #[sta k a b, .bool false]) (by simp [results, Tryz.results117, go_sem, hc1]) rfl
    ⟨rfl, ((((((Kept.refl w).alloc _ _).alloc _ _).trans g1).setCell (by simp) _).setCell (by simp) _).setCell (by simp) _⟩
theorem gdecide_yes (k a b now cap v : Int) (w : World) (ha : U a) (hb : U b) (hn : U now) (hc : U cap) (hv : U v) (h : gdB a now cap v = true) :
    Calls Tryz.prog 117 #[sta k a b, .int .u64 now, .int .u64 cap, .int .u64 v] w fun e w' => e = .returned (.tuple #[sta 1 (sat (thI a now + v)) 0, .bool true]) ∧ Kept w w' := by
  have ut := thI_U a now ha hn
  have us := sbI_U a now ha hn
  have es := thI_sub a now
  have c1 (w : World) := garr_any k a b now w
  have c2 (w : World) := num_fits (sbI a now) v cap w us hv hc
  have c3 (w : World) := gof_any (thI a now) cap v w ut hv
  rw [show ftB (sbI a now) v cap = true from h, ← es] at c2
  have C1 := Lib.hid c1
  have C2 := Lib.hid c2
  have C3 := Lib.hid c3
  rw [← es] at us
  clear c1 c2 c3 h es
  generalize thI a now = t at *
  generalize sat (t + v) = x at *
  unfold U at hn ut us
  go_enter Tryz.func117, Tryz.ntmps117
  go_wp2
  refine wp_scope_out 0 rfl ?_
  go_wp2_with (first
    | (go_at_call 152; ((with_reducible refine (C1.out _).mono ?_); rintro e w1 ⟨rfl, g1⟩; obtain ⟨hc1, hf1⟩ := g1.reads; have hz1 : w.heap.size < w1.heap.size ∧ w.heap.size + 1 < w1.heap.size := by (have := g1.size; simp at this; omega)))
    | (go_at_call 111; ((with_reducible refine (C2.out _).mono ?_); rintro e w2 ⟨rfl, rfl⟩))
    | (go_at_call 115; ((with_reducible refine (C3.out _).mono ?_); rintro e w3 ⟨rfl, g3⟩; obtain ⟨hc3, hf3⟩ := g3.reads; have hz3 : w.heap.size + 1 < w3.heap.size := by (have := g3.size; omega))))
  go_step3
  go_wp2
  simp only [Exit.jump]
  exact bodyPost_ret (v := .tuple #[sta 1 x 0, .bool true]) (by simp [results, Tryz.results117, go_sem, hc1, hc3, hz1]) rfl
    ⟨rfl, (((((((Kept.refl w).alloc _ _).alloc _ _).trans g1).trans g3).setCell (by simp) _).setCell (by simp) _).setCell (by simp) _⟩
def gdK (k a now cap v : Int) : Int := if gdB a now cap v = true then 1 else k
def gdA (a now cap v : Int) : Int := if gdB a now cap v = true then sat (thI a now + v) else a
def gdT (a b now cap v : Int) : Int := if gdB a now cap v = true then 0 else b
theorem gdecide_any (k a b now cap v : Int) (w : World) (ha : U a) (hb : U b) (hn : U now) (hc : U cap) (hv : U v) :
    Calls Tryz.prog 117 #[sta k a b, .int .u64 now, .int .u64 cap, .int .u64 v] w fun e w' => e = .returned (.tuple #[sta (gdK k a now cap v) (gdA a now cap v) (gdT a b now cap v), .bool (gdB a now cap v)]) ∧ Kept w w' := by
  unfold gdK gdA gdT
  cases h : gdB a now cap v
  · exact gdecide_no k a b now cap v w ha hb hn hc hv h
  · exact gdecide_yes k a b now cap v w ha hb hn hc hv h
theorem Kept.set3 {w w' : World} (h : Kept w w') {B : Nat} (hB : w.heap.size ≤ B) (x y z : Value) : Kept w (((w'.setCell ⟨B, 0, none⟩ x).setCell ⟨B, 1, none⟩ y).setCell ⟨B, 2, none⟩ z) :=
  ((h.setCell hB x).setCell hB y).setCell hB z
theorem cell_set3 {w' : World} {B b o : Nat} {v : Value} (hb : b ≠ B) (c : w'.cell? ⟨b, o, none⟩ = some v) (x y z : Value) : (((w'.setCell ⟨B, 0, none⟩ x).setCell ⟨B, 1, none⟩ y).setCell ⟨B, 2, none⟩ z).cell? ⟨b, o, none⟩ = some v := by
  have n (w : World) (i : Nat) (u : Value) : (w.setCell ⟨B, i, none⟩ u).cell? ⟨b, o, none⟩ = w.cell? ⟨b, o, none⟩ := World.cell?_of_block (Below.heap_setCell _ _ _ _ hb)
  rw [n, n, n]; exact c
theorem kfill_no (k a b now cap : Int) (w : World) (hk : isK k = false) :
    Calls Tryz.prog 78 #[sta k a b, .int .u64 now, .int .u64 cap] w fun e w' => e = .returned (.int .u64 0) ∧ Kept w w' := by
  have e0 := kerV_no k hk
  go_enter Tryz.func78, Tryz.ntmps78
  go_wp2
  have kW : Kept w (w.alloc (.cells #[.int .u8 k, .int .u64 a, .int .u64 b] 46)) := (Kept.refl w).alloc _ _
  have c0 : (w.alloc (.cells #[.int .u8 k, .int .u64 a, .int .u64 b] 46)).cell? ⟨w.heap.size, 0, none⟩ = some (.int .u8 k) := by simp
  have hzW : w.heap.size < (w.alloc (.cells #[.int .u8 k, .int .u64 a, .int .u64 b] 46)).heap.size := by simp
  generalize hW : World.alloc _ _ = W at *
  clear hW
  have hzW1 := Nat.le_of_lt hzW
  have hzW2 := Nat.ne_of_lt hzW
  go_region_held3 (fun w' => Kept w w' ∧ w'.cell? ⟨w.heap.size, 0, none⟩ = some (.int .u8 k))
    (first | with_reducible exact ⟨kW, c0⟩ | with_reducible exact ⟨kW.drew, (Kept.refl _).drew.cell c0⟩ | with_reducible exact ⟨kW.alloc _ _, ((Kept.refl _).alloc _ _).cell c0⟩ | with_reducible exact ⟨(kW.alloc _ _).drew, ((Kept.refl _).alloc _ _).drew.cell c0⟩ | with_reducible exact ⟨kW.set3 hzW1 _ _ _, cell_set3 hzW2 c0 _ _ _⟩)
    (first
    | (go_at_call 79; ((with_reducible refine (kernels_new _).mono ?_); rintro e w1 ⟨p, rfl, g, hl⟩; have hl1 (c : Array Value) (t : TypeId) := hl k _ ((Kept.refl _).alloc c t); replace hl := hl k _ (Kept.refl _); rw [e0, hk] at hl; simp only [e0, hk] at hl1; obtain ⟨hc1, hf1⟩ := g.reads; (first | (with_reducible (replace kW := kW.trans g); replace c0 := g.cell c0) | (with_reducible (replace kW := kW.drew.trans g); replace c0 := g.cell ((Kept.refl _).drew.cell c0)) | (have hz : W.heap.size < w1.heap.size := (by (have := g.size; simp at this; omega)); with_reducible (replace kW := (kW.alloc _ _).drew.trans g); replace c0 := g.cell (((Kept.refl _).alloc _ _).drew.cell c0))); clear g)))
  all_goals
    rename_i hH
    replace hH := hH.1
    go_wp2
    go_ret
    exact ⟨rfl, hH⟩
theorem kfill_core1 (a b now cap r : Int) (w : World)
    (C : Hid (∀ w, Calls Tryz.prog 116 #[sta 1 a b, .int .u64 now, .int .u64 cap] w fun e w' => e = .returned (.int .u64 r) ∧ Kept w w')) :
    Calls Tryz.prog 78 #[sta 1 a b, .int .u64 now, .int .u64 cap] w fun e w' => e = .returned (.int .u64 r) ∧ Kept w w' := by
  have hk : isK 1 = true := rfl
  have e0 : kerV 1 = kern1 := rfl
  go_enter Tryz.func78, Tryz.ntmps78
  go_wp2
  have kW : Kept w (w.alloc (.cells #[.int .u8 1, .int .u64 a, .int .u64 b] 46)) := (Kept.refl w).alloc _ _
  have c0 : (w.alloc (.cells #[.int .u8 1, .int .u64 a, .int .u64 b] 46)).cell? ⟨w.heap.size, 0, none⟩ = some (.int .u8 1) := by simp
  have c1 : (w.alloc (.cells #[.int .u8 1, .int .u64 a, .int .u64 b] 46)).cell? ⟨w.heap.size, 1, none⟩ = some (.int .u64 a) := by simp
  have c2 : (w.alloc (.cells #[.int .u8 1, .int .u64 a, .int .u64 b] 46)).cell? ⟨w.heap.size, 2, none⟩ = some (.int .u64 b) := by simp
  have hzW : w.heap.size < (w.alloc (.cells #[.int .u8 1, .int .u64 a, .int .u64 b] 46)).heap.size := by simp
  generalize hW : World.alloc _ _ = W at *
  clear hW
  have hzW1 := Nat.le_of_lt hzW
  have hzW2 := Nat.ne_of_lt hzW
  go_region_held3 (fun w' => Kept w w' ∧ w'.cell? ⟨w.heap.size, 0, none⟩ = some (.int .u8 1) ∧ w'.cell? ⟨w.heap.size, 1, none⟩ = some (.int .u64 a) ∧ w'.cell? ⟨w.heap.size, 2, none⟩ = some (.int .u64 b))
    (first | with_reducible exact ⟨kW, c0, c1, c2⟩ | with_reducible exact ⟨kW.drew, (Kept.refl _).drew.cell c0, (Kept.refl _).drew.cell c1, (Kept.refl _).drew.cell c2⟩ | with_reducible exact ⟨kW.alloc _ _, ((Kept.refl _).alloc _ _).cell c0, ((Kept.refl _).alloc _ _).cell c1, ((Kept.refl _).alloc _ _).cell c2⟩ | with_reducible exact ⟨(kW.alloc _ _).drew, ((Kept.refl _).alloc _ _).drew.cell c0, ((Kept.refl _).alloc _ _).drew.cell c1, ((Kept.refl _).alloc _ _).drew.cell c2⟩ | with_reducible exact ⟨kW.set3 hzW1 _ _ _, cell_set3 hzW2 c0 _ _ _, cell_set3 hzW2 c1 _ _ _, cell_set3 hzW2 c2 _ _ _⟩)
    (first
    | (go_at_call 79; ((with_reducible refine (kernels_new _).mono ?_); rintro e w1 ⟨p, rfl, g, hl⟩; have hl1 (c : Array Value) (t : TypeId) := hl 1 _ ((Kept.refl _).alloc c t); replace hl := hl 1 _ (Kept.refl _); rw [e0, hk] at hl; simp only [e0, hk] at hl1; obtain ⟨hc1, hf1⟩ := g.reads; (first | (with_reducible (replace kW := kW.trans g); replace c0 := g.cell c0; replace c1 := g.cell c1; replace c2 := g.cell c2) | (with_reducible (replace kW := kW.drew.trans g); replace c0 := g.cell ((Kept.refl _).drew.cell c0); replace c1 := g.cell ((Kept.refl _).drew.cell c1); replace c2 := g.cell ((Kept.refl _).drew.cell c2)) | (have hz : W.heap.size < w1.heap.size := (by (have := g.size; simp at this; omega)); with_reducible (replace kW := (kW.alloc _ _).drew.trans g); replace c0 := g.cell (((Kept.refl _).alloc _ _).drew.cell c0); replace c1 := g.cell (((Kept.refl _).alloc _ _).drew.cell c1); replace c2 := g.cell (((Kept.refl _).alloc _ _).drew.cell c2))); clear g)))
  all_goals
    rename_i hH
    obtain ⟨hH, d0, d1, d2⟩ := hH
    go_wp2_with (go_at_call 116; ((with_reducible refine (C.out _).mono ?_); rintro e w5 ⟨rfl, g5⟩))
    go_ret
    exact ⟨rfl, hH.trans g5⟩
theorem kfill_core2 (a b now cap r : Int) (w : World)
    (C : Hid (∀ w, Calls Tryz.prog 119 #[sta 2 a b, .int .u64 now, .int .u64 cap] w fun e w' => e = .returned (.int .u64 r) ∧ Kept w w')) :
    Calls Tryz.prog 78 #[sta 2 a b, .int .u64 now, .int .u64 cap] w fun e w' => e = .returned (.int .u64 r) ∧ Kept w w' := by
  have hk : isK 2 = true := rfl
  have e0 : kerV 2 = kern2 := rfl
  go_enter Tryz.func78, Tryz.ntmps78
  go_wp2
  have kW : Kept w (w.alloc (.cells #[.int .u8 2, .int .u64 a, .int .u64 b] 46)) := (Kept.refl w).alloc _ _
  have c0 : (w.alloc (.cells #[.int .u8 2, .int .u64 a, .int .u64 b] 46)).cell? ⟨w.heap.size, 0, none⟩ = some (.int .u8 2) := by simp
  have c1 : (w.alloc (.cells #[.int .u8 2, .int .u64 a, .int .u64 b] 46)).cell? ⟨w.heap.size, 1, none⟩ = some (.int .u64 a) := by simp
  have c2 : (w.alloc (.cells #[.int .u8 2, .int .u64 a, .int .u64 b] 46)).cell? ⟨w.heap.size, 2, none⟩ = some (.int .u64 b) := by simp
  have hzW : w.heap.size < (w.alloc (.cells #[.int .u8 2, .int .u64 a, .int .u64 b] 46)).heap.size := by simp
  generalize hW : World.alloc _ _ = W at *
  clear hW
  have hzW1 := Nat.le_of_lt hzW
  have hzW2 := Nat.ne_of_lt hzW
  go_region_held3 (fun w' => Kept w w' ∧ w'.cell? ⟨w.heap.size, 0, none⟩ = some (.int .u8 2) ∧ w'.cell? ⟨w.heap.size, 1, none⟩ = some (.int .u64 a) ∧ w'.cell? ⟨w.heap.size, 2, none⟩ = some (.int .u64 b))
    (first | with_reducible exact ⟨kW, c0, c1, c2⟩ | with_reducible exact ⟨kW.drew, (Kept.refl _).drew.cell c0, (Kept.refl _).drew.cell c1, (Kept.refl _).drew.cell c2⟩ | with_reducible exact ⟨kW.alloc _ _, ((Kept.refl _).alloc _ _).cell c0, ((Kept.refl _).alloc _ _).cell c1, ((Kept.refl _).alloc _ _).cell c2⟩ | with_reducible exact ⟨(kW.alloc _ _).drew, ((Kept.refl _).alloc _ _).drew.cell c0, ((Kept.refl _).alloc _ _).drew.cell c1, ((Kept.refl _).alloc _ _).drew.cell c2⟩ | with_reducible exact ⟨kW.set3 hzW1 _ _ _, cell_set3 hzW2 c0 _ _ _, cell_set3 hzW2 c1 _ _ _, cell_set3 hzW2 c2 _ _ _⟩)
    (first
    | (go_at_call 79; ((with_reducible refine (kernels_new _).mono ?_); rintro e w1 ⟨p, rfl, g, hl⟩; have hl1 (c : Array Value) (t : TypeId) := hl 2 _ ((Kept.refl _).alloc c t); replace hl := hl 2 _ (Kept.refl _); rw [e0, hk] at hl; simp only [e0, hk] at hl1; obtain ⟨hc1, hf1⟩ := g.reads; (first | (with_reducible (replace kW := kW.trans g); replace c0 := g.cell c0; replace c1 := g.cell c1; replace c2 := g.cell c2) | (with_reducible (replace kW := kW.drew.trans g); replace c0 := g.cell ((Kept.refl _).drew.cell c0); replace c1 := g.cell ((Kept.refl _).drew.cell c1); replace c2 := g.cell ((Kept.refl _).drew.cell c2)) | (have hz : W.heap.size < w1.heap.size := (by (have := g.size; simp at this; omega)); with_reducible (replace kW := (kW.alloc _ _).drew.trans g); replace c0 := g.cell (((Kept.refl _).alloc _ _).drew.cell c0); replace c1 := g.cell (((Kept.refl _).alloc _ _).drew.cell c1); replace c2 := g.cell (((Kept.refl _).alloc _ _).drew.cell c2))); clear g)))
  all_goals
    rename_i hH
    obtain ⟨hH, d0, d1, d2⟩ := hH
    go_wp2_with (go_at_call 119; ((with_reducible refine (C.out _).mono ?_); rintro e w5 ⟨rfl, g5⟩))
    go_ret
    exact ⟨rfl, hH.trans g5⟩
theorem kfill_core3 (a b now cap r : Int) (w : World)
    (C : Hid (∀ w, Calls Tryz.prog 122 #[sta 3 a b, .int .u64 now, .int .u64 cap] w fun e w' => e = .returned (.int .u64 r) ∧ Kept w w')) :
    Calls Tryz.prog 78 #[sta 3 a b, .int .u64 now, .int .u64 cap] w fun e w' => e = .returned (.int .u64 r) ∧ Kept w w' := by
  have hk : isK 3 = true := rfl
  have e0 : kerV 3 = kern3 := rfl
  go_enter Tryz.func78, Tryz.ntmps78
  go_wp2
  have kW : Kept w (w.alloc (.cells #[.int .u8 3, .int .u64 a, .int .u64 b] 46)) := (Kept.refl w).alloc _ _
  have c0 : (w.alloc (.cells #[.int .u8 3, .int .u64 a, .int .u64 b] 46)).cell? ⟨w.heap.size, 0, none⟩ = some (.int .u8 3) := by simp
  have c1 : (w.alloc (.cells #[.int .u8 3, .int .u64 a, .int .u64 b] 46)).cell? ⟨w.heap.size, 1, none⟩ = some (.int .u64 a) := by simp
  have c2 : (w.alloc (.cells #[.int .u8 3, .int .u64 a, .int .u64 b] 46)).cell? ⟨w.heap.size, 2, none⟩ = some (.int .u64 b) := by simp
  have hzW : w.heap.size < (w.alloc (.cells #[.int .u8 3, .int .u64 a, .int .u64 b] 46)).heap.size := by simp
  generalize hW : World.alloc _ _ = W at *
  clear hW
  have hzW1 := Nat.le_of_lt hzW
  have hzW2 := Nat.ne_of_lt hzW
  go_region_held3 (fun w' => Kept w w' ∧ w'.cell? ⟨w.heap.size, 0, none⟩ = some (.int .u8 3) ∧ w'.cell? ⟨w.heap.size, 1, none⟩ = some (.int .u64 a) ∧ w'.cell? ⟨w.heap.size, 2, none⟩ = some (.int .u64 b))
    (first | with_reducible exact ⟨kW, c0, c1, c2⟩ | with_reducible exact ⟨kW.drew, (Kept.refl _).drew.cell c0, (Kept.refl _).drew.cell c1, (Kept.refl _).drew.cell c2⟩ | with_reducible exact ⟨kW.alloc _ _, ((Kept.refl _).alloc _ _).cell c0, ((Kept.refl _).alloc _ _).cell c1, ((Kept.refl _).alloc _ _).cell c2⟩ | with_reducible exact ⟨(kW.alloc _ _).drew, ((Kept.refl _).alloc _ _).drew.cell c0, ((Kept.refl _).alloc _ _).drew.cell c1, ((Kept.refl _).alloc _ _).drew.cell c2⟩ | with_reducible exact ⟨kW.set3 hzW1 _ _ _, cell_set3 hzW2 c0 _ _ _, cell_set3 hzW2 c1 _ _ _, cell_set3 hzW2 c2 _ _ _⟩)
    (first
    | (go_at_call 79; ((with_reducible refine (kernels_new _).mono ?_); rintro e w1 ⟨p, rfl, g, hl⟩; have hl1 (c : Array Value) (t : TypeId) := hl 3 _ ((Kept.refl _).alloc c t); replace hl := hl 3 _ (Kept.refl _); rw [e0, hk] at hl; simp only [e0, hk] at hl1; obtain ⟨hc1, hf1⟩ := g.reads; (first | (with_reducible (replace kW := kW.trans g); replace c0 := g.cell c0; replace c1 := g.cell c1; replace c2 := g.cell c2) | (with_reducible (replace kW := kW.drew.trans g); replace c0 := g.cell ((Kept.refl _).drew.cell c0); replace c1 := g.cell ((Kept.refl _).drew.cell c1); replace c2 := g.cell ((Kept.refl _).drew.cell c2)) | (have hz : W.heap.size < w1.heap.size := (by (have := g.size; simp at this; omega)); with_reducible (replace kW := (kW.alloc _ _).drew.trans g); replace c0 := g.cell (((Kept.refl _).alloc _ _).drew.cell c0); replace c1 := g.cell (((Kept.refl _).alloc _ _).drew.cell c1); replace c2 := g.cell (((Kept.refl _).alloc _ _).drew.cell c2))); clear g)))
  all_goals
    rename_i hH
    obtain ⟨hH, d0, d1, d2⟩ := hH
    go_wp2_with (go_at_call 122; ((with_reducible refine (C.out _).mono ?_); rintro e w5 ⟨rfl, g5⟩))
    go_ret
    exact ⟨rfl, hH.trans g5⟩
/-- Three cells of one block, that may be written. -/
def Row3 (w : World) (B : Nat) (x y z : Value) : Prop := (w.cell? ⟨B, 0, none⟩ = some x ∧ w.cell? ⟨B, 1, none⟩ = some y ∧ w.cell? ⟨B, 2, none⟩ = some z) ∧ w.frozen? ⟨B, 0, none⟩ = false ∧ w.frozen? ⟨B, 1, none⟩ = false ∧ w.frozen? ⟨B, 2, none⟩ = false
theorem Row3.kept {w w' : World} {B : Nat} {x y z : Value} (h : Row3 w B x y z) (g : Kept w w') : Row3 w' B x y z :=
  ⟨⟨g.cell h.1.1, g.cell h.1.2.1, g.cell h.1.2.2⟩, (g.1.2.1 _).trans h.2.1, (g.1.2.1 _).trans h.2.2.1, (g.1.2.1 _).trans h.2.2.2⟩
theorem Row3.set3 {w : World} {B C : Nat} {x y z : Value} (h : Row3 w B x y z) (hb : B ≠ C) (a b c : Value) : Row3 (((w.setCell ⟨C, 0, none⟩ a).setCell ⟨C, 1, none⟩ b).setCell ⟨C, 2, none⟩ c) B x y z :=
  ⟨⟨cell_set3 hb h.1.1 _ _ _, cell_set3 hb h.1.2.1 _ _ _, cell_set3 hb h.1.2.2 _ _ _⟩, by simp only [World.frozen?_setCell]; exact h.2.1, by simp only [World.frozen?_setCell]; exact h.2.2.1, by simp only [World.frozen?_setCell]; exact h.2.2.2⟩
theorem kdecide_no (k a b now cap v : Int) (w : World) (hk : isK k = false) :
    Calls Tryz.prog 75 #[sta k a b, .int .u64 now, .int .u64 cap, .int .u64 v] w fun e w' => e = .returned (.tuple #[sta k a b, .bool false]) ∧ Kept w w' := by
  have e0 := kerV_no k hk
  go_enter Tryz.func75, Tryz.ntmps75
  go_wp2
  have kW : Kept w ((w.alloc (.cells #[.int .u8 k, .int .u64 a, .int .u64 b] 46)).alloc (.cells #[.int .u8 0, .int .u64 0, .int .u64 0] 46)) := ((Kept.refl w).alloc _ _).alloc _ _
  have c0 : ((w.alloc (.cells #[.int .u8 k, .int .u64 a, .int .u64 b] 46)).alloc (.cells #[.int .u8 0, .int .u64 0, .int .u64 0] 46)).cell? ⟨w.heap.size, 0, none⟩ = some (.int .u8 k) := by simp
  have s0 : Row3 ((w.alloc (.cells #[.int .u8 k, .int .u64 a, .int .u64 b] 46)).alloc (.cells #[.int .u8 0, .int .u64 0, .int .u64 0] 46)) w.heap.size (.int .u8 k) (.int .u64 a) (.int .u64 b) := ⟨⟨by simp, by simp, by simp⟩, by simp, by simp, by simp⟩
  have t0 : Row3 ((w.alloc (.cells #[.int .u8 k, .int .u64 a, .int .u64 b] 46)).alloc (.cells #[.int .u8 0, .int .u64 0, .int .u64 0] 46)) (w.heap.size + 1) (.int .u8 0) (.int .u64 0) (.int .u64 0) := ⟨⟨by simp, by simp, by simp⟩, by simp, by simp, by simp⟩
  have hzW : w.heap.size + 1 < ((w.alloc (.cells #[.int .u8 k, .int .u64 a, .int .u64 b] 46)).alloc (.cells #[.int .u8 0, .int .u64 0, .int .u64 0] 46)).heap.size := by simp
  generalize hW : World.alloc (World.alloc _ _) _ = W at *
  clear hW
  have hzW1 : w.heap.size ≤ W.heap.size := by omega
  have hzW2 : w.heap.size ≠ W.heap.size := by omega
  have hzW3 : w.heap.size + 1 ≠ W.heap.size := by omega
  go_region_held3 (fun w' => Kept w w' ∧ w'.cell? ⟨w.heap.size, 0, none⟩ = some (.int .u8 k) ∧ Row3 w' w.heap.size (.int .u8 k) (.int .u64 a) (.int .u64 b) ∧ Row3 w' (w.heap.size + 1) (.int .u8 0) (.int .u64 0) (.int .u64 0))
    (first | with_reducible exact ⟨kW, c0, s0, t0⟩ | with_reducible exact ⟨kW.drew, (Kept.refl _).drew.cell c0, s0.kept (Kept.refl _).drew, t0.kept (Kept.refl _).drew⟩ | with_reducible exact ⟨kW.alloc _ _, ((Kept.refl _).alloc _ _).cell c0, s0.kept ((Kept.refl _).alloc _ _), t0.kept ((Kept.refl _).alloc _ _)⟩ | with_reducible exact ⟨(kW.alloc _ _).drew, ((Kept.refl _).alloc _ _).drew.cell c0, s0.kept ((Kept.refl _).alloc _ _).drew, t0.kept ((Kept.refl _).alloc _ _).drew⟩ | with_reducible exact ⟨kW.set3 hzW1 _ _ _, cell_set3 hzW2 c0 _ _ _, s0.set3 hzW2 _ _ _, t0.set3 hzW3 _ _ _⟩)
    (first
    | (go_at_call 79; ((with_reducible refine (kernels_new _).mono ?_); rintro e w1 ⟨p, rfl, g, hl⟩; have hl1 (c : Array Value) (t : TypeId) := hl k _ ((Kept.refl _).alloc c t); replace hl := hl k _ (Kept.refl _); rw [e0, hk] at hl; simp only [e0, hk] at hl1; obtain ⟨hc1, hf1⟩ := g.reads; (first | (with_reducible (replace kW := kW.trans g); replace c0 := g.cell c0; replace s0 := s0.kept g; replace t0 := t0.kept g) | (with_reducible (replace kW := kW.drew.trans g); replace c0 := g.cell ((Kept.refl _).drew.cell c0); replace s0 := s0.kept ((Kept.refl _).drew.trans g); replace t0 := t0.kept ((Kept.refl _).drew.trans g)) | (have hz : W.heap.size < w1.heap.size := (by (have := g.size; simp at this; omega)); with_reducible (replace kW := (kW.alloc _ _).drew.trans g); replace c0 := g.cell (((Kept.refl _).alloc _ _).drew.cell c0); replace s0 := s0.kept (((Kept.refl _).alloc _ _).drew.trans g); replace t0 := t0.kept (((Kept.refl _).alloc _ _).drew.trans g))); clear g)))
  all_goals
    rename_i hH
    obtain ⟨hH, d0, s1, t1⟩ := hH
    obtain ⟨⟨a0, a1, a2⟩, b0, b1, b2⟩ := s1
    obtain ⟨⟨x0, x1, x2⟩, y0, y1, y2⟩ := t1
    go_wp2
    exact bodyPost_ret (v := .tuple #[sta k a b, .bool false]) (by simp [results, Tryz.results75, go_sem, *]) rfl
      ⟨rfl, hH.set3 (Nat.le_succ _) _ _ _⟩
theorem kdecide_core1 (a b now cap v dk da dt : Int) (pp : Bool) (w : World)
    (C : Hid (∀ w, Calls Tryz.prog 117 #[sta 1 a b, .int .u64 now, .int .u64 cap, .int .u64 v] w fun e w' => e = .returned (.tuple #[sta dk da dt, .bool pp]) ∧ Kept w w')) :
    Calls Tryz.prog 75 #[sta 1 a b, .int .u64 now, .int .u64 cap, .int .u64 v] w fun e w' => e = .returned (.tuple #[sta dk da dt, .bool pp]) ∧ Kept w w' := by
  have hk : isK 1 = true := rfl
  have e0 : kerV 1 = kern1 := rfl
  go_enter Tryz.func75, Tryz.ntmps75
  go_wp2
  have kW : Kept w ((w.alloc (.cells #[.int .u8 1, .int .u64 a, .int .u64 b] 46)).alloc (.cells #[.int .u8 0, .int .u64 0, .int .u64 0] 46)) := ((Kept.refl w).alloc _ _).alloc _ _
  have c0 : ((w.alloc (.cells #[.int .u8 1, .int .u64 a, .int .u64 b] 46)).alloc (.cells #[.int .u8 0, .int .u64 0, .int .u64 0] 46)).cell? ⟨w.heap.size, 0, none⟩ = some (.int .u8 1) := by simp
  have s0 : Row3 ((w.alloc (.cells #[.int .u8 1, .int .u64 a, .int .u64 b] 46)).alloc (.cells #[.int .u8 0, .int .u64 0, .int .u64 0] 46)) w.heap.size (.int .u8 1) (.int .u64 a) (.int .u64 b) := ⟨⟨by simp, by simp, by simp⟩, by simp, by simp, by simp⟩
  have t0 : Row3 ((w.alloc (.cells #[.int .u8 1, .int .u64 a, .int .u64 b] 46)).alloc (.cells #[.int .u8 0, .int .u64 0, .int .u64 0] 46)) (w.heap.size + 1) (.int .u8 0) (.int .u64 0) (.int .u64 0) := ⟨⟨by simp, by simp, by simp⟩, by simp, by simp, by simp⟩
  have hzW : w.heap.size + 1 < ((w.alloc (.cells #[.int .u8 1, .int .u64 a, .int .u64 b] 46)).alloc (.cells #[.int .u8 0, .int .u64 0, .int .u64 0] 46)).heap.size := by simp
  generalize hW : World.alloc (World.alloc _ _) _ = W at *
  clear hW
  have hzW1 : w.heap.size ≤ W.heap.size := by omega
  have hzW2 : w.heap.size ≠ W.heap.size := by omega
  have hzW3 : w.heap.size + 1 ≠ W.heap.size := by omega
  go_region_held3 (fun w' => Kept w w' ∧ w'.cell? ⟨w.heap.size, 0, none⟩ = some (.int .u8 1) ∧ Row3 w' w.heap.size (.int .u8 1) (.int .u64 a) (.int .u64 b) ∧ Row3 w' (w.heap.size + 1) (.int .u8 0) (.int .u64 0) (.int .u64 0))
    (first | with_reducible exact ⟨kW, c0, s0, t0⟩ | with_reducible exact ⟨kW.drew, (Kept.refl _).drew.cell c0, s0.kept (Kept.refl _).drew, t0.kept (Kept.refl _).drew⟩ | with_reducible exact ⟨kW.alloc _ _, ((Kept.refl _).alloc _ _).cell c0, s0.kept ((Kept.refl _).alloc _ _), t0.kept ((Kept.refl _).alloc _ _)⟩ | with_reducible exact ⟨(kW.alloc _ _).drew, ((Kept.refl _).alloc _ _).drew.cell c0, s0.kept ((Kept.refl _).alloc _ _).drew, t0.kept ((Kept.refl _).alloc _ _).drew⟩ | with_reducible exact ⟨kW.set3 hzW1 _ _ _, cell_set3 hzW2 c0 _ _ _, s0.set3 hzW2 _ _ _, t0.set3 hzW3 _ _ _⟩)
    (first
    | (go_at_call 79; ((with_reducible refine (kernels_new _).mono ?_); rintro e w1 ⟨p, rfl, g, hl⟩; have hl1 (c : Array Value) (t : TypeId) := hl 1 _ ((Kept.refl _).alloc c t); replace hl := hl 1 _ (Kept.refl _); rw [e0, hk] at hl; simp only [e0, hk] at hl1; obtain ⟨hc1, hf1⟩ := g.reads; (first | (with_reducible (replace kW := kW.trans g); replace c0 := g.cell c0; replace s0 := s0.kept g; replace t0 := t0.kept g) | (with_reducible (replace kW := kW.drew.trans g); replace c0 := g.cell ((Kept.refl _).drew.cell c0); replace s0 := s0.kept ((Kept.refl _).drew.trans g); replace t0 := t0.kept ((Kept.refl _).drew.trans g)) | (have hz : W.heap.size < w1.heap.size := (by (have := g.size; simp at this; omega)); with_reducible (replace kW := (kW.alloc _ _).drew.trans g); replace c0 := g.cell (((Kept.refl _).alloc _ _).drew.cell c0); replace s0 := s0.kept (((Kept.refl _).alloc _ _).drew.trans g); replace t0 := t0.kept (((Kept.refl _).alloc _ _).drew.trans g))); clear g)))
  all_goals
    rename_i hH
    obtain ⟨hH, d0, s1, t1⟩ := hH
    have a0 := s1.1
    obtain ⟨a0, a1, a2⟩ := a0
    go_wp2_with (go_at_call 117; ((with_reducible refine (C.out _).mono ?_); rintro e w5 ⟨rfl, g5⟩; replace t1 := t1.kept g5; obtain ⟨⟨x0, x1, x2⟩, y0, y1, y2⟩ := t1))
    exact bodyPost_ret (v := .tuple #[sta dk da dt, .bool pp]) (by simp [results, Tryz.results75, go_sem, *]) rfl
      ⟨rfl, (hH.trans g5).set3 (Nat.le_succ _) _ _ _⟩
theorem kdecide_core2 (a b now cap v dk da dt : Int) (pp : Bool) (w : World)
    (C : Hid (∀ w, Calls Tryz.prog 120 #[sta 2 a b, .int .u64 now, .int .u64 cap, .int .u64 v] w fun e w' => e = .returned (.tuple #[sta dk da dt, .bool pp]) ∧ Kept w w')) :
    Calls Tryz.prog 75 #[sta 2 a b, .int .u64 now, .int .u64 cap, .int .u64 v] w fun e w' => e = .returned (.tuple #[sta dk da dt, .bool pp]) ∧ Kept w w' := by
  have hk : isK 2 = true := rfl
  have e0 : kerV 2 = kern2 := rfl
  go_enter Tryz.func75, Tryz.ntmps75
  go_wp2
  have kW : Kept w ((w.alloc (.cells #[.int .u8 2, .int .u64 a, .int .u64 b] 46)).alloc (.cells #[.int .u8 0, .int .u64 0, .int .u64 0] 46)) := ((Kept.refl w).alloc _ _).alloc _ _
  have c0 : ((w.alloc (.cells #[.int .u8 2, .int .u64 a, .int .u64 b] 46)).alloc (.cells #[.int .u8 0, .int .u64 0, .int .u64 0] 46)).cell? ⟨w.heap.size, 0, none⟩ = some (.int .u8 2) := by simp
  have s0 : Row3 ((w.alloc (.cells #[.int .u8 2, .int .u64 a, .int .u64 b] 46)).alloc (.cells #[.int .u8 0, .int .u64 0, .int .u64 0] 46)) w.heap.size (.int .u8 2) (.int .u64 a) (.int .u64 b) := ⟨⟨by simp, by simp, by simp⟩, by simp, by simp, by simp⟩
  have t0 : Row3 ((w.alloc (.cells #[.int .u8 2, .int .u64 a, .int .u64 b] 46)).alloc (.cells #[.int .u8 0, .int .u64 0, .int .u64 0] 46)) (w.heap.size + 1) (.int .u8 0) (.int .u64 0) (.int .u64 0) := ⟨⟨by simp, by simp, by simp⟩, by simp, by simp, by simp⟩
  have hzW : w.heap.size + 1 < ((w.alloc (.cells #[.int .u8 2, .int .u64 a, .int .u64 b] 46)).alloc (.cells #[.int .u8 0, .int .u64 0, .int .u64 0] 46)).heap.size := by simp
  generalize hW : World.alloc (World.alloc _ _) _ = W at *
  clear hW
  have hzW1 : w.heap.size ≤ W.heap.size := by omega
  have hzW2 : w.heap.size ≠ W.heap.size := by omega
  have hzW3 : w.heap.size + 1 ≠ W.heap.size := by omega
  go_region_held3 (fun w' => Kept w w' ∧ w'.cell? ⟨w.heap.size, 0, none⟩ = some (.int .u8 2) ∧ Row3 w' w.heap.size (.int .u8 2) (.int .u64 a) (.int .u64 b) ∧ Row3 w' (w.heap.size + 1) (.int .u8 0) (.int .u64 0) (.int .u64 0))
    (first | with_reducible exact ⟨kW, c0, s0, t0⟩ | with_reducible exact ⟨kW.drew, (Kept.refl _).drew.cell c0, s0.kept (Kept.refl _).drew, t0.kept (Kept.refl _).drew⟩ | with_reducible exact ⟨kW.alloc _ _, ((Kept.refl _).alloc _ _).cell c0, s0.kept ((Kept.refl _).alloc _ _), t0.kept ((Kept.refl _).alloc _ _)⟩ | with_reducible exact ⟨(kW.alloc _ _).drew, ((Kept.refl _).alloc _ _).drew.cell c0, s0.kept ((Kept.refl _).alloc _ _).drew, t0.kept ((Kept.refl _).alloc _ _).drew⟩ | with_reducible exact ⟨kW.set3 hzW1 _ _ _, cell_set3 hzW2 c0 _ _ _, s0.set3 hzW2 _ _ _, t0.set3 hzW3 _ _ _⟩)
    (first
    | (go_at_call 79; ((with_reducible refine (kernels_new _).mono ?_); rintro e w1 ⟨p, rfl, g, hl⟩; have hl1 (c : Array Value) (t : TypeId) := hl 2 _ ((Kept.refl _).alloc c t); replace hl := hl 2 _ (Kept.refl _); rw [e0, hk] at hl; simp only [e0, hk] at hl1; obtain ⟨hc1, hf1⟩ := g.reads; (first | (with_reducible (replace kW := kW.trans g); replace c0 := g.cell c0; replace s0 := s0.kept g; replace t0 := t0.kept g) | (with_reducible (replace kW := kW.drew.trans g); replace c0 := g.cell ((Kept.refl _).drew.cell c0); replace s0 := s0.kept ((Kept.refl _).drew.trans g); replace t0 := t0.kept ((Kept.refl _).drew.trans g)) | (have hz : W.heap.size < w1.heap.size := (by (have := g.size; simp at this; omega)); with_reducible (replace kW := (kW.alloc _ _).drew.trans g); replace c0 := g.cell (((Kept.refl _).alloc _ _).drew.cell c0); replace s0 := s0.kept (((Kept.refl _).alloc _ _).drew.trans g); replace t0 := t0.kept (((Kept.refl _).alloc _ _).drew.trans g))); clear g)))
  all_goals
    rename_i hH
    obtain ⟨hH, d0, s1, t1⟩ := hH
    have a0 := s1.1
    obtain ⟨a0, a1, a2⟩ := a0
    go_wp2_with (go_at_call 120; ((with_reducible refine (C.out _).mono ?_); rintro e w5 ⟨rfl, g5⟩; replace t1 := t1.kept g5; obtain ⟨⟨x0, x1, x2⟩, y0, y1, y2⟩ := t1))
    exact bodyPost_ret (v := .tuple #[sta dk da dt, .bool pp]) (by simp [results, Tryz.results75, go_sem, *]) rfl
      ⟨rfl, (hH.trans g5).set3 (Nat.le_succ _) _ _ _⟩
theorem kdecide_core3 (a b now cap v dk da dt : Int) (pp : Bool) (w : World)
    (C : Hid (∀ w, Calls Tryz.prog 123 #[sta 3 a b, .int .u64 now, .int .u64 cap, .int .u64 v] w fun e w' => e = .returned (.tuple #[sta dk da dt, .bool pp]) ∧ Kept w w')) :
    Calls Tryz.prog 75 #[sta 3 a b, .int .u64 now, .int .u64 cap, .int .u64 v] w fun e w' => e = .returned (.tuple #[sta dk da dt, .bool pp]) ∧ Kept w w' := by
  have hk : isK 3 = true := rfl
  have e0 : kerV 3 = kern3 := rfl
  go_enter Tryz.func75, Tryz.ntmps75
  go_wp2
  have kW : Kept w ((w.alloc (.cells #[.int .u8 3, .int .u64 a, .int .u64 b] 46)).alloc (.cells #[.int .u8 0, .int .u64 0, .int .u64 0] 46)) := ((Kept.refl w).alloc _ _).alloc _ _
  have c0 : ((w.alloc (.cells #[.int .u8 3, .int .u64 a, .int .u64 b] 46)).alloc (.cells #[.int .u8 0, .int .u64 0, .int .u64 0] 46)).cell? ⟨w.heap.size, 0, none⟩ = some (.int .u8 3) := by simp
  have s0 : Row3 ((w.alloc (.cells #[.int .u8 3, .int .u64 a, .int .u64 b] 46)).alloc (.cells #[.int .u8 0, .int .u64 0, .int .u64 0] 46)) w.heap.size (.int .u8 3) (.int .u64 a) (.int .u64 b) := ⟨⟨by simp, by simp, by simp⟩, by simp, by simp, by simp⟩
  have t0 : Row3 ((w.alloc (.cells #[.int .u8 3, .int .u64 a, .int .u64 b] 46)).alloc (.cells #[.int .u8 0, .int .u64 0, .int .u64 0] 46)) (w.heap.size + 1) (.int .u8 0) (.int .u64 0) (.int .u64 0) := ⟨⟨by simp, by simp, by simp⟩, by simp, by simp, by simp⟩
  have hzW : w.heap.size + 1 < ((w.alloc (.cells #[.int .u8 3, .int .u64 a, .int .u64 b] 46)).alloc (.cells #[.int .u8 0, .int .u64 0, .int .u64 0] 46)).heap.size := by simp
  generalize hW : World.alloc (World.alloc _ _) _ = W at *
  clear hW
  have hzW1 : w.heap.size ≤ W.heap.size := by omega
  have hzW2 : w.heap.size ≠ W.heap.size := by omega
  have hzW3 : w.heap.size + 1 ≠ W.heap.size := by omega
  go_region_held3 (fun w' => Kept w w' ∧ w'.cell? ⟨w.heap.size, 0, none⟩ = some (.int .u8 3) ∧ Row3 w' w.heap.size (.int .u8 3) (.int .u64 a) (.int .u64 b) ∧ Row3 w' (w.heap.size + 1) (.int .u8 0) (.int .u64 0) (.int .u64 0))
    (first | with_reducible exact ⟨kW, c0, s0, t0⟩ | with_reducible exact ⟨kW.drew, (Kept.refl _).drew.cell c0, s0.kept (Kept.refl _).drew, t0.kept (Kept.refl _).drew⟩ | with_reducible exact ⟨kW.alloc _ _, ((Kept.refl _).alloc _ _).cell c0, s0.kept ((Kept.refl _).alloc _ _), t0.kept ((Kept.refl _).alloc _ _)⟩ | with_reducible exact ⟨(kW.alloc _ _).drew, ((Kept.refl _).alloc _ _).drew.cell c0, s0.kept ((Kept.refl _).alloc _ _).drew, t0.kept ((Kept.refl _).alloc _ _).drew⟩ | with_reducible exact ⟨kW.set3 hzW1 _ _ _, cell_set3 hzW2 c0 _ _ _, s0.set3 hzW2 _ _ _, t0.set3 hzW3 _ _ _⟩)
    (first
    | (go_at_call 79; ((with_reducible refine (kernels_new _).mono ?_); rintro e w1 ⟨p, rfl, g, hl⟩; have hl1 (c : Array Value) (t : TypeId) := hl 3 _ ((Kept.refl _).alloc c t); replace hl := hl 3 _ (Kept.refl _); rw [e0, hk] at hl; simp only [e0, hk] at hl1; obtain ⟨hc1, hf1⟩ := g.reads; (first | (with_reducible (replace kW := kW.trans g); replace c0 := g.cell c0; replace s0 := s0.kept g; replace t0 := t0.kept g) | (with_reducible (replace kW := kW.drew.trans g); replace c0 := g.cell ((Kept.refl _).drew.cell c0); replace s0 := s0.kept ((Kept.refl _).drew.trans g); replace t0 := t0.kept ((Kept.refl _).drew.trans g)) | (have hz : W.heap.size < w1.heap.size := (by (have := g.size; simp at this; omega)); with_reducible (replace kW := (kW.alloc _ _).drew.trans g); replace c0 := g.cell (((Kept.refl _).alloc _ _).drew.cell c0); replace s0 := s0.kept (((Kept.refl _).alloc _ _).drew.trans g); replace t0 := t0.kept (((Kept.refl _).alloc _ _).drew.trans g))); clear g)))
  all_goals
    rename_i hH
    obtain ⟨hH, d0, s1, t1⟩ := hH
    have a0 := s1.1
    obtain ⟨a0, a1, a2⟩ := a0
    go_wp2_with (go_at_call 123; ((with_reducible refine (C.out _).mono ?_); rintro e w5 ⟨rfl, g5⟩; replace t1 := t1.kept g5; obtain ⟨⟨x0, x1, x2⟩, y0, y1, y2⟩ := t1))
    exact bodyPost_ret (v := .tuple #[sta dk da dt, .bool pp]) (by simp [results, Tryz.results75, go_sem, *]) rfl
      ⟨rfl, (hH.trans g5).set3 (Nat.le_succ _) _ _ _⟩
/-- What is kept behind a decision. -/
def deK (k a b now cap v : Int) : Int := if deB a b now cap v = true then 3 else k
def deA (a b now cap v : Int) : Int := if deB a b now cap v = true then fiI a b now + v else a
def deT (a b now cap v : Int) : Int := if deB a b now cap v = true then now else b
theorem decide_any (k a b now cap v : Int) (w : World) (ha : U a) (hb : U b) (hn : U now) (hc : U cap) (hv : U v) :
    Calls Tryz.prog 123 #[sta k a b, .int .u64 now, .int .u64 cap, .int .u64 v] w fun e w' => e = .returned (.tuple #[sta (deK k a b now cap v) (deA a b now cap v) (deT a b now cap v), .bool (deB a b now cap v)]) ∧ Kept w w' := by
  unfold deK deA deT
  cases h : deB a b now cap v
  · exact decide_no k a b now cap v w ha hb hn hc hv h
  · exact decide_yes k a b now cap v w ha hb hn hc hv h
theorem num_div (a b : Int) (w : World) (ha : U a) (hb : U b) :
    Calls Tryz.prog 112 #[.int .u64 a, .int .u64 b] w fun e w' => e = .returned (.int .u64 (dvI a b)) ∧ Drew w w' := by
  go_enter Tryz.func112, Tryz.ntmps112
  go_wp2_with (go_at_call 151; ((with_reducible refine (num_quot _ _ _ ha hb).mono ?_); rintro e w' ⟨rfl, gw⟩))
  go_ret
  exact ⟨rfl, gw⟩
def kfI (k a b now cap : Int) : Int := if k = 1 then sbI a now else if k = 2 then biI a b now cap else if k = 3 then fiI a b now else 0
def kdB (k a b now cap v : Int) : Bool := if k = 1 then gdB a now cap v else if k = 2 then bdB a b now cap v else if k = 3 then deB a b now cap v else false
def kdK (k a b now cap v : Int) : Int := if k = 1 then gdK 1 a now cap v else if k = 2 then bdK 2 a b now cap v else if k = 3 then deK 3 a b now cap v else k
def kdA (k a b now cap v : Int) : Int := if k = 1 then gdA a now cap v else if k = 2 then bdA a b now cap v else if k = 3 then deA a b now cap v else a
def kdT (k a b now cap v : Int) : Int := if k = 1 then gdT a b now cap v else if k = 2 then bdT a b now cap v else if k = 3 then deT a b now cap v else b
def koK (k : Int) : Int := if isK k = true then k else 0
def koA (k now cap f : Int) : Int := if k = 1 then sat (now + f) else if k = 2 then sbI cap f else if k = 3 then f else 0
def koB (k now : Int) : Int := if k = 2 then now else if k = 3 then now else 0
def koE (k : Int) : Int := if isK k = true then 0 else 27
def kuI (now f : Int) : Int := if f = 0 then 0 else sat (now + f)
def kwB (f cap v : Int) : Bool := decide (v ≤ cap ∧ cap < f + v)
def kwI (f cap v : Int) : Int := if kwB f cap v = true then f + v - cap else 0
theorem isK_no (k : Int) (h : isK k = false) : k ≠ 1 ∧ k ≠ 2 ∧ k ≠ 3 := by unfold isK at h; simp at h; omega
theorem kfI_U (k a b now cap : Int) (ha : U a) (hb : U b) (hn : U now) (hc : U cap) : U (kfI k a b now cap) := by
  unfold kfI; split; exact sbI_U _ _ ha hn; split; exact biI_U _ _ _ _ ha hb hn hc; split; exact fiI_U _ _ _ ha hb hn; exact U_zero
theorem kfill_any (k a b now cap : Int) (w : World) (ha : U a) (hb : U b) (hn : U now) (hc : U cap) :
    Calls Tryz.prog 78 #[sta k a b, .int .u64 now, .int .u64 cap] w fun e w' => e = .returned (.int .u64 (kfI k a b now cap)) ∧ Kept w w' := by
  cases h : isK k
  · obtain ⟨h1, h2, h3⟩ := isK_no k h
    have e : kfI k a b now cap = 0 := by unfold kfI; rw [if_neg h1, if_neg h2, if_neg h3]
    rw [e]; exact kfill_no k a b now cap w h
  · rcases isK_yes k h with rfl | rfl | rfl
    · exact kfill_core1 a b now cap _ w (Lib.hid fun w => gfill_any 1 a b now cap w ha hn)
    · exact kfill_core2 a b now cap _ w (Lib.hid fun w => bfill_any 2 a b now cap w ha hb hn hc)
    · exact kfill_core3 a b now cap _ w (Lib.hid fun w => fill_any 3 a b now cap w ha hb hn)
theorem kdecide_any (k a b now cap v : Int) (w : World) (ha : U a) (hb : U b) (hn : U now) (hc : U cap) (hv : U v) :
    Calls Tryz.prog 75 #[sta k a b, .int .u64 now, .int .u64 cap, .int .u64 v] w fun e w' => e = .returned (.tuple #[sta (kdK k a b now cap v) (kdA k a b now cap v) (kdT k a b now cap v), .bool (kdB k a b now cap v)]) ∧ Kept w w' := by
  cases h : isK k
  · obtain ⟨h1, h2, h3⟩ := isK_no k h
    have e : kdK k a b now cap v = k ∧ kdA k a b now cap v = a ∧ kdT k a b now cap v = b ∧ kdB k a b now cap v = false := by unfold kdK kdA kdT kdB; simp [h1, h2, h3]
    rw [e.1, e.2.1, e.2.2.1, e.2.2.2]; exact kdecide_no k a b now cap v w h
  · rcases isK_yes k h with rfl | rfl | rfl
    · exact kdecide_core1 a b now cap v _ _ _ _ w (Lib.hid fun w => gdecide_any 1 a b now cap v w ha hb hn hc hv)
    · exact kdecide_core2 a b now cap v _ _ _ _ w (Lib.hid fun w => bdecide_any 2 a b now cap v w ha hb hn hc hv)
    · exact kdecide_core3 a b now cap v _ _ _ _ w (Lib.hid fun w => decide_any 3 a b now cap v w ha hb hn hc hv)
theorem kof_no (k now cap f : Int) (w : World) (hk : isK k = false) :
    Calls Tryz.prog 110 #[.int .u8 k, .int .u64 now, .int .u64 cap, .int .u64 f] w fun e w' => e = .returned (.tuple #[sta 0 0 0, .int .u16 27]) ∧ Kept w w' := by
  have e0 := kerV_no k hk
  have t0 : Row3 (w.alloc (.cells #[.int .u8 0, .int .u64 0, .int .u64 0] 46)) w.heap.size (.int .u8 0) (.int .u64 0) (.int .u64 0) := ⟨⟨by simp, by simp, by simp⟩, by simp, by simp, by simp⟩
  go_enter Tryz.func110, Tryz.ntmps110
  go_wp2_with (go_at_call 79; ((with_reducible refine (kernels_new _).mono ?_); rintro e w1 ⟨p, rfl, g1, hl⟩; replace hl := hl k _ (Kept.refl _); rw [e0, hk] at hl; replace t0 := t0.kept g1; obtain ⟨⟨x0, x1, x2⟩, y0, y1, y2⟩ := t0; have hz1 : w.heap.size < w1.heap.size := by (have := g1.size; simp at this; omega)))
  exact bodyPost_ret (v := .tuple #[sta 0 0 0, .int .u16 27]) (by simp [results, Tryz.results110, go_sem, *]) rfl
    ⟨rfl, ((((Kept.refl w).alloc _ _).trans g1).set3 (Nat.le_refl _) _ _ _).alloc _ _⟩
theorem kof_core1 (now cap f ok oa ob : Int) (w : World)
    (C : Hid (∀ w, Calls Tryz.prog 115 #[.int .u64 now, .int .u64 cap, .int .u64 f] w fun e w' => e = .returned (sta ok oa ob) ∧ Kept w w')) :
    Calls Tryz.prog 110 #[.int .u8 1, .int .u64 now, .int .u64 cap, .int .u64 f] w fun e w' => e = .returned (.tuple #[sta ok oa ob, .int .u16 0]) ∧ Kept w w' := by
  have hk : isK 1 = true := rfl
  have e0 : kerV 1 = kern1 := rfl
  have t0 : Row3 (w.alloc (.cells #[.int .u8 0, .int .u64 0, .int .u64 0] 46)) w.heap.size (.int .u8 0) (.int .u64 0) (.int .u64 0) := ⟨⟨by simp, by simp, by simp⟩, by simp, by simp, by simp⟩
  go_enter Tryz.func110, Tryz.ntmps110
  go_wp2_with (first
    | (go_at_call 79; ((with_reducible refine (kernels_new _).mono ?_); rintro e w1 ⟨p, rfl, g1, hl⟩; replace hl := hl 1 _ (Kept.refl _); rw [e0, hk] at hl; replace t0 := t0.kept g1))
    | (go_at_call 115; ((with_reducible refine (C.out _).mono ?_); rintro e w2 ⟨rfl, g2⟩; replace t0 := t0.kept (((Kept.refl _).alloc _ _).trans g2); obtain ⟨⟨x0, x1, x2⟩, y0, y1, y2⟩ := t0)))
  exact bodyPost_ret (v := .tuple #[sta ok oa ob, .int .u16 0]) (by simp [results, Tryz.results110, go_sem, *]) rfl
    ⟨rfl, (((((Kept.refl w).alloc _ _).trans g1).alloc _ _).trans g2).set3 (Nat.le_refl _) _ _ _⟩
theorem kof_core2 (now cap f ok oa ob : Int) (w : World)
    (C : Hid (∀ w, Calls Tryz.prog 118 #[.int .u64 now, .int .u64 cap, .int .u64 f] w fun e w' => e = .returned (sta ok oa ob) ∧ Kept w w')) :
    Calls Tryz.prog 110 #[.int .u8 2, .int .u64 now, .int .u64 cap, .int .u64 f] w fun e w' => e = .returned (.tuple #[sta ok oa ob, .int .u16 0]) ∧ Kept w w' := by
  have hk : isK 2 = true := rfl
  have e0 : kerV 2 = kern2 := rfl
  have t0 : Row3 (w.alloc (.cells #[.int .u8 0, .int .u64 0, .int .u64 0] 46)) w.heap.size (.int .u8 0) (.int .u64 0) (.int .u64 0) := ⟨⟨by simp, by simp, by simp⟩, by simp, by simp, by simp⟩
  go_enter Tryz.func110, Tryz.ntmps110
  go_wp2_with (first
    | (go_at_call 79; ((with_reducible refine (kernels_new _).mono ?_); rintro e w1 ⟨p, rfl, g1, hl⟩; replace hl := hl 2 _ (Kept.refl _); rw [e0, hk] at hl; replace t0 := t0.kept g1))
    | (go_at_call 118; ((with_reducible refine (C.out _).mono ?_); rintro e w2 ⟨rfl, g2⟩; replace t0 := t0.kept (((Kept.refl _).alloc _ _).trans g2); obtain ⟨⟨x0, x1, x2⟩, y0, y1, y2⟩ := t0)))
  exact bodyPost_ret (v := .tuple #[sta ok oa ob, .int .u16 0]) (by simp [results, Tryz.results110, go_sem, *]) rfl
    ⟨rfl, (((((Kept.refl w).alloc _ _).trans g1).alloc _ _).trans g2).set3 (Nat.le_refl _) _ _ _⟩
theorem kof_core3 (now cap f ok oa ob : Int) (w : World)
    (C : Hid (∀ w, Calls Tryz.prog 121 #[.int .u64 now, .int .u64 cap, .int .u64 f] w fun e w' => e = .returned (sta ok oa ob) ∧ Kept w w')) :
    Calls Tryz.prog 110 #[.int .u8 3, .int .u64 now, .int .u64 cap, .int .u64 f] w fun e w' => e = .returned (.tuple #[sta ok oa ob, .int .u16 0]) ∧ Kept w w' := by
  have hk : isK 3 = true := rfl
  have e0 : kerV 3 = kern3 := rfl
  have t0 : Row3 (w.alloc (.cells #[.int .u8 0, .int .u64 0, .int .u64 0] 46)) w.heap.size (.int .u8 0) (.int .u64 0) (.int .u64 0) := ⟨⟨by simp, by simp, by simp⟩, by simp, by simp, by simp⟩
  go_enter Tryz.func110, Tryz.ntmps110
  go_wp2_with (first
    | (go_at_call 79; ((with_reducible refine (kernels_new _).mono ?_); rintro e w1 ⟨p, rfl, g1, hl⟩; replace hl := hl 3 _ (Kept.refl _); rw [e0, hk] at hl; replace t0 := t0.kept g1))
    | (go_at_call 121; ((with_reducible refine (C.out _).mono ?_); rintro e w2 ⟨rfl, g2⟩; replace t0 := t0.kept (((Kept.refl _).alloc _ _).trans g2); obtain ⟨⟨x0, x1, x2⟩, y0, y1, y2⟩ := t0)))
  exact bodyPost_ret (v := .tuple #[sta ok oa ob, .int .u16 0]) (by simp [results, Tryz.results110, go_sem, *]) rfl
    ⟨rfl, (((((Kept.refl w).alloc _ _).trans g1).alloc _ _).trans g2).set3 (Nat.le_refl _) _ _ _⟩
theorem kof_any (k now cap f : Int) (w : World) (hn : U now) (hc : U cap) (hf : U f) :
    Calls Tryz.prog 110 #[.int .u8 k, .int .u64 now, .int .u64 cap, .int .u64 f] w fun e w' => e = .returned (.tuple #[sta (koK k) (koA k now cap f) (koB k now), .int .u16 (koE k)]) ∧ Kept w w' := by
  cases h : isK k
  · obtain ⟨h1, h2, h3⟩ := isK_no k h
    have e : koK k = 0 ∧ koA k now cap f = 0 ∧ koB k now = 0 ∧ koE k = 27 := by unfold koK koA koB koE; simp [h, h1, h2, h3]
    rw [e.1, e.2.1, e.2.2.1, e.2.2.2]; exact kof_no k now cap f w h
  · rcases isK_yes k h with rfl | rfl | rfl
    · exact kof_core1 now cap f _ _ _ w (Lib.hid fun w => gof_any now cap f w hn hf)
    · exact kof_core2 now cap f _ _ _ w (Lib.hid fun w => bof_any now cap f w hc hf)
    · exact kof_core3 now cap f _ _ _ w (Lib.hid fun w => of_any now cap f w)
theorem kuntil_core (k a b now cap f : Int) (w : World) (hn : U now) (hf : U f)
    (F : Hid (∀ w, Calls Tryz.prog 78 #[sta k a b, .int .u64 now, .int .u64 cap] w fun e w' => e = .returned (.int .u64 f) ∧ Kept w w')) :
    Calls Tryz.prog 50 #[sta k a b, .int .u64 now, .int .u64 cap] w fun e w' => e = .returned (.int .u64 (kuI now f)) ∧ Kept w w' := by
  by_cases c : f = 0
  · subst c
    have e : kuI now 0 = 0 := rfl
    rw [e]; clear e
    go_enter Tryz.func50, Tryz.ntmps50
    go_wp2_with (go_at_call 78; ((with_reducible refine (F.out _).mono ?_); rintro e w1 ⟨rfl, g1⟩))
    go_ret
    exact ⟨rfl, ((Kept.refl w).alloc _ _).trans g1⟩
  · have e : kuI now f = sat (now + f) := by unfold kuI; rw [if_neg c]
    rw [e]; clear e
    have c1 : (f == 0) = false := by simpa using c
    have A := Lib.hid (fun (g c : Nat) (w : World) => num_add_two g c now f w hn hf)
    generalize sat (now + f) = x at *
    go_enter Tryz.func50, Tryz.ntmps50
    go_wp2_with (first
      | (go_at_call 78; ((with_reducible refine (F.out _).mono ?_); rintro e w1 ⟨rfl, g1⟩))
      | (go_at_call 87; ((with_reducible refine (A.out _ _ _ (by simp) (by simp)).mono ?_); rintro e w2 ⟨rfl, rfl⟩)))
    go_ret
    exact ⟨rfl, (((Kept.refl w).alloc _ _).trans g1).alloc _ _⟩
theorem kuntil_any (k a b now cap : Int) (w : World) (ha : U a) (hb : U b) (hn : U now) (hc : U cap) :
    Calls Tryz.prog 50 #[sta k a b, .int .u64 now, .int .u64 cap] w fun e w' => e = .returned (.int .u64 (kuI now (kfI k a b now cap))) ∧ Kept w w' :=
  kuntil_core k a b now cap _ w hn (kfI_U k a b now cap ha hb hn hc) (Lib.hid fun w => kfill_any k a b now cap w ha hb hn hc)
theorem kleft_core (k a b now cap ev f s d : Int) (w : World)
    (F : Hid (∀ w, Calls Tryz.prog 78 #[sta k a b, .int .u64 now, .int .u64 cap] w fun e w' => e = .returned (.int .u64 f) ∧ Kept w w'))
    (S : Hid (∀ w, Calls Tryz.prog 113 #[.int .u64 cap, .int .u64 f] w fun e w' => e = .returned (.int .u64 s) ∧ w = w'))
    (D : Hid (∀ w, Calls Tryz.prog 112 #[.int .u64 s, .int .u64 ev] w fun e w' => e = .returned (.int .u64 d) ∧ Drew w w')) :
    Calls Tryz.prog 76 #[sta k a b, .int .u64 now, .int .u64 cap, .int .u64 ev] w fun e w' => e = .returned (.int .u64 d) ∧ Kept w w' := by
  go_enter Tryz.func76, Tryz.ntmps76
  go_wp2_with (first
    | (go_at_call 78; ((with_reducible refine (F.out _).mono ?_); rintro e w1 ⟨rfl, g1⟩))
    | (go_at_call 113; ((with_reducible refine (S.out _).mono ?_); rintro e w2 ⟨rfl, rfl⟩))
    | (go_at_call 112; ((with_reducible refine (D.out _).mono ?_); rintro e w3 ⟨rfl, g3⟩)))
  go_ret
  exact ⟨rfl, (((Kept.refl w).alloc _ _).trans g1).trans g3.kept⟩
theorem kleft_any (k a b now cap ev : Int) (w : World) (ha : U a) (hb : U b) (hn : U now) (hc : U cap) (he : U ev) :
    Calls Tryz.prog 76 #[sta k a b, .int .u64 now, .int .u64 cap, .int .u64 ev] w fun e w' => e = .returned (.int .u64 (dvI (sbI cap (kfI k a b now cap)) ev)) ∧ Kept w w' :=
  have hf := kfI_U k a b now cap ha hb hn hc
  kleft_core k a b now cap ev _ _ _ w (Lib.hid fun w => kfill_any k a b now cap w ha hb hn hc) (Lib.hid fun w => num_sub _ _ w hc hf) (Lib.hid fun w => num_div _ _ w (sbI_U _ _ hc hf) he)
theorem kwait_core (k a b now cap v f : Int) (w : World) (hc : U cap) (hv : U v) (hf : U f)
    (F : Hid (∀ w, Calls Tryz.prog 78 #[sta k a b, .int .u64 now, .int .u64 cap] w fun e w' => e = .returned (.int .u64 f) ∧ Kept w w')) :
    Calls Tryz.prog 74 #[sta k a b, .int .u64 now, .int .u64 cap, .int .u64 v] w fun e w' => e = .returned (.tuple #[.int .u64 (kwI f cap v), .bool (kwB f cap v)]) ∧ Kept w w' := by
  have c2 (w : World) := num_fits f v cap w hf hv hc
  by_cases h : cap < v
  · have e : kwB f cap v = false := by unfold kwB; simp; omega
    have e2 : kwI f cap v = 0 := by unfold kwI; rw [e]; rfl
    rw [e, e2]; clear e e2
    have C2 := Lib.hid c2
    clear c2
    go_enter Tryz.func74, Tryz.ntmps74
    go_wp2_with (first
      | (go_at_call 78; ((with_reducible refine (F.out _).mono ?_); rintro e w1 ⟨rfl, g1⟩))
      | (go_at_call 111; ((with_reducible refine (C2.out _).mono ?_); rintro e w2 ⟨rfl, rfl⟩)))
    go_ret2
    exact ⟨rfl, ((Kept.refl w).alloc _ _).trans g1⟩
  · by_cases h2 : f + v ≤ cap
    · have e : kwB f cap v = false := by unfold kwB; simp; omega
      have e2 : kwI f cap v = 0 := by unfold kwI; rw [e]; rfl
      have e3 : ftB f v cap = true := by unfold ftB; simpa using h2
      rw [e, e2]; clear e e2
      rw [e3] at c2
      have C2 := Lib.hid c2
      clear c2 e3
      go_enter Tryz.func74, Tryz.ntmps74
      go_wp2_with (first
        | (go_at_call 78; ((with_reducible refine (F.out _).mono ?_); rintro e w1 ⟨rfl, g1⟩))
        | (go_at_call 111; ((with_reducible refine (C2.out _).mono ?_); rintro e w2 ⟨rfl, rfl⟩)))
      go_ret2
      exact ⟨rfl, ((Kept.refl w).alloc _ _).trans g1⟩
    · have e : kwB f cap v = true := by unfold kwB; simp; omega
      have e2 : kwI f cap v = f - (cap - v) := by unfold kwI; rw [e]; simp; omega
      have e3 : ftB f v cap = false := by unfold ftB; simpa using h2
      rw [e, e2]; clear e e2
      rw [e3] at c2
      have C2 := Lib.hid c2
      clear c2 e3
      have b1 : 0 ≤ cap - v ∧ cap - v ≤ 18446744073709551615 := by unfold U at *; omega
      have b2 : 0 ≤ f - (cap - v) ∧ f - (cap - v) ≤ 18446744073709551615 := by unfold U at *; omega
      unfold U at hc hv hf
      go_enter Tryz.func74, Tryz.ntmps74
      go_wp2_with (first
        | (go_at_call 78; ((with_reducible refine (F.out _).mono ?_); rintro e w1 ⟨rfl, g1⟩))
        | (go_at_call 111; ((with_reducible refine (C2.out _).mono ?_); rintro e w2 ⟨rfl, rfl⟩)))
      go_ret2
      exact ⟨rfl, ((Kept.refl w).alloc _ _).trans g1⟩
theorem kwait_any (k a b now cap v : Int) (w : World) (ha : U a) (hb : U b) (hn : U now) (hc : U cap) (hv : U v) :
    Calls Tryz.prog 74 #[sta k a b, .int .u64 now, .int .u64 cap, .int .u64 v] w fun e w' => e = .returned (.tuple #[.int .u64 (kwI (kfI k a b now cap) cap v), .bool (kwB (kfI k a b now cap) cap v)]) ∧ Kept w w' :=
  kwait_core k a b now cap v _ w hc hv (kfI_U k a b now cap ha hb hn hc) (Lib.hid fun w => kfill_any k a b now cap w ha hb hn hc)
def kmK (k kto : Int) : Int := if isK k = true then koK kto else 0
def kmA (k a b kto now cap : Int) : Int := if isK k = true then koA kto now cap (kfI k a b now cap) else 0
def kmB (k kto now : Int) : Int := if isK k = true then koB kto now else 0
def kmE (k kto : Int) : Int := if isK k = true then koE kto else 27
theorem sat_id (x : Int) (h : x ≤ 18446744073709551615) : sat x = x := by unfold sat; split <;> omega
theorem sb_sb (a d e : Int) (hd : 0 ≤ d) (he : 0 ≤ e) : sbI (sbI a d) e = sbI a (d + e) := by
  unfold sbI; (repeat' split) <;> omega
theorem sb_here (a : Int) (ha : 0 ≤ a) : sbI a 0 = a := by unfold sbI; split <;> omega
/-- From t0 on the state tells a FILL of f at t0, less what has passed. -/
def Tells (k a b cap t0 f : Int) : Prop := ∀ t, t0 ≤ t → U t → kfI k a b t cap = sbI f (t - t0)
def Is3 (k : Int) : Prop := k = 1 ∨ k = 2 ∨ k = 3
theorem Is3.isK {k : Int} (h : Is3 k) : isK k = true := by rcases h with rfl | rfl | rfl <;> rfl
theorem is3_mod (k : Int) (h : 0 ≤ k) : Is3 (1 + k % 3) := by unfold Is3; omega
theorem koA_U (k now cap f : Int) (hn : U now) (hc : U cap) (hf : U f) : U (koA k now cap f) := by
  unfold koA; split; exact sat_U _ (by unfold U at *; omega); split; exact sbI_U _ _ hc hf; split; exact hf; exact U_zero
theorem koB_U (k now : Int) (hn : U now) : U (koB k now) := by
  unfold koB; split; exact hn; split; exact hn; exact U_zero
theorem koK_is {k : Int} (h : Is3 k) : koK k = k := by unfold koK; rw [if_pos h.isK]
theorem koE_is {k : Int} (h : Is3 k) : koE k = 0 := by unfold koE; rw [if_pos h.isK]
theorem kmK_is {k kto : Int} (h : Is3 k) (h' : Is3 kto) : kmK k kto = kto := by unfold kmK; rw [if_pos h.isK, koK_is h']
theorem kmA_is {k : Int} (h : Is3 k) (a b kto now cap : Int) : kmA k a b kto now cap = koA kto now cap (kfI k a b now cap) := by unfold kmA; rw [if_pos h.isK]
theorem kmB_is {k : Int} (h : Is3 k) (kto now : Int) : kmB k kto now = koB kto now := by unfold kmB; rw [if_pos h.isK]
theorem kmE_is {k kto : Int} (h : Is3 k) (h' : Is3 kto) : kmE k kto = 0 := by unfold kmE; rw [if_pos h.isK, koE_is h']
theorem tells_of {k : Int} (hk : Is3 k) (t0 cap f : Int) (h0 : 0 ≤ t0) (hf : 0 ≤ f) (hfc : f ≤ cap) (hs : t0 + f ≤ 18446744073709551615) : Tells k (koA k t0 cap f) (koB k t0) cap t0 f := by
  intro t ht hu
  unfold U at hu
  rcases hk with rfl | rfl | rfl
  · show sbI (sat (t0 + f)) t = _
    rw [sat_id _ hs]; unfold sbI; (repeat' split) <;> omega
  · show biI (sbI cap f) t0 t cap = _
    unfold biI tkI sbI; (repeat' split) <;> omega
  · show fiI f t0 t = _
    unfold fiI sbI; (repeat' split) <;> omega
theorem Tells.here {k a b cap t0 f : Int} (h : Tells k a b cap t0 f) (ht : U t0) (hf : 0 ≤ f) : kfI k a b t0 cap = f := by
  rw [h t0 (Int.le_refl _) ht]; unfold sbI; split <;> omega
theorem Tells.later {k a b cap t0 f : Int} (h : Tells k a b cap t0 f) {s : Int} (hs : t0 ≤ s) : Tells k a b cap s (sbI f (s - t0)) := by
  intro t ht hu
  rw [h t (by omega) hu, sb_sb _ _ _ (by omega) (by omega)]
  congr 1; omega
theorem kdB_is {k : Int} (hk : Is3 k) (a b now cap v : Int) : kdB k a b now cap v = ftB (kfI k a b now cap) v cap := by
  rcases hk with rfl | rfl | rfl
  · rfl
  · show bdB a b now cap v = ftB (biI a b now cap) v cap
    unfold bdB ftB biI; rw [Bool.eq_iff_iff]; simp only [decide_eq_true_eq]; omega
  · rfl
theorem kd_no {k : Int} (a b now cap v : Int) (h : kdB k a b now cap v = false) : kdK k a b now cap v = k ∧ kdA k a b now cap v = a ∧ kdT k a b now cap v = b := by
  unfold kdB at h; unfold kdK kdA kdT
  by_cases h1 : k = 1
  · subst h1; simp only [if_true] at h ⊢; unfold gdK gdA gdT; rw [h]; exact ⟨rfl, rfl, rfl⟩
  by_cases h2 : k = 2
  · subst h2; simp only [if_true, show ¬ (2 : Int) = 1 by omega, if_false] at h ⊢; unfold bdK bdA bdT; rw [h]; exact ⟨rfl, rfl, rfl⟩
  by_cases h3 : k = 3
  · subst h3; simp only [if_true, show ¬ (3 : Int) = 1 by omega, show ¬ (3 : Int) = 2 by omega, if_false] at h ⊢; unfold deK deA deT; rw [h]; exact ⟨rfl, rfl, rfl⟩
  simp [h1, h2, h3]
theorem kd_yes {k : Int} (hk : Is3 k) (a b now cap v : Int) (h : kdB k a b now cap v = true) : kdK k a b now cap v = k ∧ kdA k a b now cap v = (if k = 1 then sat (thI a now + v) else if k = 2 then tkI a b now cap - v else fiI a b now + v) ∧ kdT k a b now cap v = (if k = 1 then 0 else now) := by
  unfold kdB at h; unfold kdK kdA kdT
  rcases hk with rfl | rfl | rfl
  · simp only [if_true] at h ⊢; unfold gdK gdA gdT; rw [h]; exact ⟨rfl, rfl, rfl⟩
  · simp only [if_true, show ¬ (2 : Int) = 1 by omega, if_false] at h ⊢; unfold bdK bdA bdT; rw [h]; exact ⟨rfl, rfl, rfl⟩
  · simp only [if_true, show ¬ (3 : Int) = 1 by omega, show ¬ (3 : Int) = 2 by omega, if_false] at h ⊢; unfold deK deA deT; rw [h]; exact ⟨rfl, rfl, rfl⟩
/-- What is decided, and what is told then. -/
theorem Tells.decide {k a b cap t0 f : Int} (h : Tells k a b cap t0 f) (hk : Is3 k) (ha : U a) (hb : U b) (hc : U cap) (ht : U t0) (v : Int) (hv : U v) (hf : 0 ≤ f) (hs : t0 + cap ≤ 18446744073709551615) :
    kdB k a b t0 cap v = ftB f v cap ∧ kdK k a b t0 cap v = k ∧ U (kdA k a b t0 cap v) ∧ U (kdT k a b t0 cap v) ∧ Tells k (kdA k a b t0 cap v) (kdT k a b t0 cap v) cap t0 (if ftB f v cap = true then f + v else f) := by
  have e := h.here ht hf
  have e1 := kdB_is hk a b t0 cap v
  rw [e] at e1
  refine ⟨e1, ?_⟩
  cases c : ftB f v cap
  · rw [c] at e1
    obtain ⟨k1, k2, k3⟩ := kd_no a b t0 cap v e1
    rw [k1, k2, k3]
    exact ⟨rfl, ha, hb, h⟩
  · rw [c] at e1
    obtain ⟨k1, k2, k3⟩ := kd_yes hk a b t0 cap v e1
    rw [k1, k2, k3]
    have c' : f + v ≤ cap := by unfold ftB at c; simpa using c
    unfold U at *
    refine ⟨rfl, ?_⟩
    rcases hk with rfl | rfl | rfl
    · simp only [if_true]
      have e2 : sbI a t0 = f := e
      have e3 : thI a t0 = t0 + f := by rw [thI_eq, e2]
      rw [e3, sat_id _ (by omega)]
      refine ⟨by omega, by omega, ?_⟩
      intro t h1 h2
      unfold U at h2
      show sbI (t0 + f + v) t = _
      unfold sbI; (repeat' split) <;> omega
    · simp only [if_true, show ¬ (2 : Int) = 1 by omega, if_false]
      have e2 : cap - tkI a b t0 cap = f := e
      refine ⟨by omega, by omega, ?_⟩
      intro t h1 h2
      unfold U at h2
      show biI (tkI a b t0 cap - v) t0 t cap = _
      have e3 : tkI a b t0 cap = cap - f := by omega
      rw [e3]
      unfold biI tkI sbI; (repeat' split) <;> omega
    · simp only [if_true, show ¬ (3 : Int) = 1 by omega, show ¬ (3 : Int) = 2 by omega, if_false]
      have e2 : fiI a b t0 = f := e
      rw [e2]
      refine ⟨by omega, by omega, ?_⟩
      intro t h1 h2
      unfold U at h2
      show fiI (f + v) t0 t = _
      unfold fiI sbI; (repeat' split) <;> omega
end Go.Proofs.YtkfncanfgpmgaaaGreat.Wd
