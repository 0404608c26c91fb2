/- ConfigPrints: what stands in the document's order is printed, what does not is told. -/
import Derived.Test.YtckaiejbgnhgcaaGreatDoorRows
import Derived.Test.YtckaiejbgnhgcaaGreatDoorCards
import Derived.Test.YtckaiejbgnhgcaaGreatDoorTie
import Derived.Test.YtckaiejbgnhgcaaGreatDoorZP
import Derived.Test.YtckaiejbgnhgcaaGreatDoorZCfgOp3
import Derived.Test.YtckaiejbgnhgcaaGreatDoorZI
import Derived.Test.YtckaiejbgnhgcaaGreatDoorZCfgPx
import Derived.SizedLaws
import Derived.WalkKit
import Derived.ProofKit
import Derived.OpenShut
import Derived.ShutString
import Derived.ChangeOld
import Derived.Below
import Derived.LaidMore
import Derived.Stop.Joined
import Derived.SevenTiedAt
import Derived.Lib.SmallJoins
namespace Go.Proofs.YtckaiejbgnhgcaaGreatDoor.configPrints
open Go Go.ChangeShapes Go.WideShapes Go.ChangeAt Go.RowKit Go.Joins
open Go.ChangeMaps (open_string shut_string)
set_option linter.unusedVariables false

theorem own : ownKnob Tryz.prog.godebug = none := by kernel_rfl
theorem laidOut : laidOutB Tryz.prog = true := by kernel_rfl

set_option maxRecDepth 100000 in
theorem lifted (os : Os) (started : os.Started) (H : Type) (enc : TypeId × Value → H) :
    ReturnsInHanded {} Tryz.checked os 4 .any (fun w args => (Rows.configPrintsSpec.pre enc Tryz.prog Tryz.f4 [] false w args ∧ laidMetH Tryz.prog Wd.laidL w) ∧ sizedMet enc Tryz.prog Tryz.f4 (OpenSpec.ofChange Rows.configPrintsSpec) false w args)
      (Rows.configPrintsSpec.post enc Tryz.prog Tryz.f4 false true false false) := by
  refine returnsInHanded_of_change_and (C := Tryz.checked) (X := fun w _ => laidMetH Tryz.prog Wd.laidL w) (fun _ _ _ hh h => h.of_heap hh) own started (by kernel_rfl) Tryz.func4
    (ChangeSpec.witness_shaped (enc := enc) (C := Tryz.checked) (os := os) (X := fun w _ => laidMetH Tryz.prog Wd.laidL w) false (World.doorLaid Tryz.prog 14 os) #[.agg #[.int .i64 0, .slice none 0 0], .int .u16 0, .slice none 0 0, .agg #[.string ByteArray.empty, .int .u64 0, .int .u64 0, .int .u8 0], .int .u8 0, .int .i64 0] 8 rfl (World.shaped_of_RefB (by kernel_rfl) (by kernel_rfl)) (by kernel_rfl) (by kernel_rfl) (by kernel_rfl) (Wd.door_met os _)) ?_
  intro W base args ds gs before hval0 hW hcnd hsz0 hL _
  have hsz : (DataW.weightsEach Tryz.prog (Tryz.f4.params.toList ++ Rows.configPrintsSpec.plain.varTypes Tryz.prog) (ds ++ gs)).all (· ≤ reachBytes) = true := hsz0
  have hval : ∀ (j : Nat) t v, Tryz.f4.params[j]? = some t → args[j]? = some v → Value.okWide Tryz.prog W .any base t v := hval0
  have hN := Wd.nam_of_laid hL
  have hW' := hW
  obtain ⟨p, q, hA0, hV, rfl, hfz, hnd⟩ := hW
  have hA : DataW.TrodAll enc Tryz.prog W 0 (fun _ => true) true Tryz.f4.params.toList args.toList ds p := hA0
  rw [Tryz.params4] at hA hval
  obtain ⟨v0, vs0, d0, ds0, p0, q0, hargs, rfl, rfl, h0, r0⟩ := trodAll_cons hA
  obtain ⟨v1, vs1, d1, ds1, p1, q1, rfl, rfl, rfl, h1, r1⟩ := trodAll_cons r0
  obtain ⟨v2, vs2, d2, ds2, p2, q2, rfl, rfl, rfl, h2, r2⟩ := trodAll_cons r1
  obtain ⟨v3, vs3, d3, ds3, p3, q3, rfl, rfl, rfl, h3, r3⟩ := trodAll_cons r2
  obtain ⟨v4, vs4, d4, ds4, p4, q4, rfl, rfl, rfl, h4, r4⟩ := trodAll_cons r3
  obtain ⟨v5, vs5, d5, ds5, p5, q5, rfl, rfl, rfl, h5, r5⟩ := trodAll_cons r4
  obtain ⟨rfl, rfl, rfl⟩ := trodAll_nil r5
  obtain rfl : args = #[v0, v1, v2, v3, v4, v5] := by cases args; simp_all
  obtain ⟨rfl, rfl⟩ := trodVars_none hV
  have k0 := h0
  have lt0 : ∀ x ∈ p0, x.block < W.heap.size := by obtain ⟨m, hm⟩ := k0; exact DataW.trod_lt m _ _ _ hm
  obtain ⟨c00, c01, y00, y01, m0, rfl, rfl, rfl, hy00, hy01⟩ := open_agg2 Tryz.underlying28 (by kernel_rfl) Wd.cellsPolicy (hval 0 28 v0 rfl rfl) h0
  obtain ⟨a0m, e00, rfl, w0m⟩ := DataW.trod_int Tryz.underlying3 hy00
  simp at e00
  subst e00
  obtain ⟨A0, len0, cap0, rfl⟩ : ∃ A n c, c01 = .slice A n c := by
    rcases Go.Deep.open_slice Tryz.underlying26 hy01 with ⟨h0, _⟩ | ⟨ad, l, c, m, n, D, Pl, hcs, _⟩
    · simp at h0; exact ⟨_, _, _, h0⟩
    · simp at hcs; exact ⟨_, _, _, hcs⟩
  clear hy00
  obtain ⟨a1, rfl, rfl, rfl, w1⟩ := open_int Tryz.underlying23 (hval 1 23 v1 rfl rfl) h1
  obtain ⟨a2, len2, cap2, rfl⟩ := okWide_slice Tryz.underlying24 (hval 2 24 v2 rfl rfl)
  have k2 := h2
  have lt2 : ∀ x ∈ p2, x.block < W.heap.size := by obtain ⟨m, hm⟩ := k2; exact DataW.trod_lt m _ _ _ hm
  obtain ⟨hm2, hr2⟩ : len2 ≤ 9223372036854775807 ∧ Wd.Nmr W a2 len2 := by
    obtain ⟨fuel, hf⟩ := h2
    exact Wd.open_nmr (by simpa [Value.cells] using hf)
  obtain ⟨c30, c31, c32, c33, y30, y31, y32, y33, m3, rfl, rfl, rfl, hy30, hy31, hy32, hy33⟩ := open_agg4 Tryz.underlying37 (by kernel_rfl) Wd.cellsRule (hval 3 37 v3 rfl rfl) h3
  obtain ⟨a3p, e30, rfl, w3p⟩ := DataW.trod_string Tryz.underlying9 hy30
  obtain ⟨a3e, e31, rfl, w3e⟩ := DataW.trod_int Tryz.underlying35 hy31
  obtain ⟨a3b, e32, rfl, w3b⟩ := DataW.trod_int Tryz.underlying35 hy32
  obtain ⟨a3k, e33, rfl, w3k⟩ := DataW.trod_int Tryz.underlying5 hy33
  simp at e30 e31 e32 e33
  subst e30 e31 e32 e33
  clear hy30 hy31 hy32 hy33
  obtain ⟨a4, rfl, rfl, rfl, w4⟩ := open_int Tryz.underlying5 (hval 4 5 v4 rfl rfl) h4
  obtain ⟨a5, rfl, rfl, rfl, w5⟩ := open_int Tryz.underlying3 (hval 5 3 v5 rfl rfl) h5
  obtain ⟨hm0, rs0, hr0⟩ : len0 ≤ 9223372036854775807 ∧ ∃ rs, Wd.Rls W A0 len0 rs := Wd.sized_rls hy01 (Wd.sized_policy hsz (j := 0) rfl rfl)
  have z3 : a3p.size ≤ 140737488351232 := by
    have := Wd.sized_prefix hsz (j := 3) rfl rfl
    unfold reachBytes at this
    rw [Wd.list_size] at this
    exact this
  clear hA0 hval0 hsz hsz0 hL
  refine (Wd.prints_walk a0m a1 a4 a5 A0 a2 len0 cap0 len2 cap2 rs0 a3p a3e a3b a3k W hN hr0 hm0 (bounds_i64 w0m) (bounds_u16 w1) hr2 hm2 ⟨by show a3p.size ≤ _; omega, bounds_u64 w3e, bounds_u64 w3b, bounds_u8 w3k⟩ (bounds_u8 w4) (bounds_i64 w5)).mono fun e W' ⟨he, bel⟩ => ?_
  subst he
  exact ⟨_, rfl, _, _, _, [], _, [], hW', trodAll_mk1 (shut_bool Tryz.underlying4 _), (trodAll_cons_mk (Below.trod laidOut (by kernel_rfl) (of_decide_eq_true (by kernel_rfl)) k0 bel lt0) (trodAll_cons_mk (shut_int Tryz.underlying23 w1) (trodAll_cons_mk (Below.trod laidOut (by kernel_rfl) (of_decide_eq_true (by kernel_rfl)) k2 bel lt2) (trodAll_cons_mk (shut_agg4 (y0 := (.lit (.string a3p.data.toList), [])) (y1 := (.lit (.int .u64 a3e), [])) (y2 := (.lit (.int .u64 a3b), [])) (y3 := (.lit (.int .u8 a3k), [])) Tryz.underlying37 (by kernel_rfl) Wd.cellsRule (Deep.shut_string_cell Tryz.underlying9 w3p) ⟨_, trod_int_mk 0 Tryz.underlying35 w3e⟩ ⟨_, trod_int_mk 0 Tryz.underlying35 w3b⟩ ⟨_, trod_int_mk 0 Tryz.underlying5 w3k⟩) (trodAll_cons_mk (shut_int Tryz.underlying5 w4) (trodAll_cons_mk (shut_int Tryz.underlying3 w5) trodAll_mk0)))))), rfl, bel.frame _, fun h => by cases h⟩

theorem over : Rows.ConfigPrintsSaid :=
  OpenClaim.holds_of_wide 4 Tryz.f4 rfl rfl rfl rfl rfl rfl rfl ⟨rfl, rfl, rfl, rfl, rfl⟩ rfl rfl rfl rfl rfl (by kernel_rfl) Tryz.func4 (by kernel_rfl)
    (of_decide_eq_true (by kernel_rfl)) (by unfold Func.isWrapper; first | (rw [if_pos (by decide +kernel)]; kernel_rfl) | (rw [if_neg (by decide +kernel)]; exact ⟨rfl, rfl⟩))
    (fun os started H enc _ => lifted os started H enc)

theorem named : Tryz.prog.funcNamed Tryz.f4.name = some 4 := by kernel_rfl
/-- The card: the row, and what it lists tied to the program's text. -/
theorem proved : Rows.ConfigPrintsCardSaid :=
  Claim7.holds_tied_plain_at .later [] [.data] true (true, "2b242d187ce0b4694e566a77db33fc66e52affb2f010da2415a255db568f6d20") true
    over (fun _ h => by cases h) (by kernel_rfl) (fun _ h => by cases h) configPrints_row_tie rfl ⟨rfl, rfl⟩ (by kernel_rfl) rfl
    (fun f fn hf hfn => by
      obtain rfl : f = 4 := (Option.some.inj (named.symm.trans hf)).symm
      obtain rfl : fn = Tryz.f4 := (Option.some.inj (Tryz.func4.symm.trans hfn)).symm
      exact ⟨by kernel_rfl, fun j t ht => by
        rw [Tryz.params4] at ht
        have hm : t ∈ [28, 23, 24, 37, 5, 3] := by simpa using Array.mem_of_getElem? ht
        have hall : ([28, 23, 24, 37, 5, 3].all fun u => !Tryz.prog.wantsStandIn u) = true := by kernel_rfl
        exact (show Tryz.prog.wantsStandIn t = false by simpa using List.all_eq_true.1 hall t hm)⟩)
    (by kernel_rfl)
#print axioms proved
end Go.Proofs.YtckaiejbgnhgcaaGreatDoor.configPrints
