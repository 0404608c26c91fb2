/- Whatever the rule, the line and the choices (at the sizes that a machine can hold): RuleBack returns true, and changes nothing; the table of names is tied to the program's text. -/
import Derived.Test.YtpkpmbigljkneaaDoorRows
import Derived.Test.YtpkpmbigljkneaaDoorCards
import Derived.Test.YtpkpmbigljkneaaDoorTie
import Derived.Test.YtpkpmbigljkneaaDoorRulLaid
import Derived.Test.YtpkpmbigljkneaaDoorRulO
import Derived.Test.YtpkpmbigljkneaaDoorRulW5
import Derived.SizedLaws
import Derived.WalkKit
import Derived.ProofKit
import Derived.OpenShut
import Derived.ShutString
import Derived.ChangeOld
import Derived.Below
import Derived.LaidMore
import Derived.Stop.Joined
import Derived.SevenTiedAt
import Derived.Lib.SmallJoins
namespace Go.Proofs.YtpkpmbigljkneaaDoor.ruleBack
open Go Go.ChangeShapes Go.WideShapes Go.ChangeAt Go.RowKit Go.Joins
open Go.ChangeMaps (open_string shut_string)
set_option linter.unusedVariables false

theorem own : ownKnob Tryd.prog.godebug = none := by kernel_rfl
theorem laidOut : laidOutB Tryd.prog = true := by kernel_rfl

set_option maxRecDepth 100000 in
theorem lifted (os : Os) (started : os.Started) (H : Type) (enc : TypeId × Value → H) :
    ReturnsInHanded {} Tryd.checked os 4 .any (fun w args => (Rows.ruleBackSpec.pre enc Tryd.prog Tryd.f4 [] false w args ∧ laidMetH Tryd.prog Wd.laidL w) ∧ sizedMet enc Tryd.prog Tryd.f4 (OpenSpec.ofChange Rows.ruleBackSpec) false w args)
      (Rows.ruleBackSpec.post enc Tryd.prog Tryd.f4 false true false false) := by
  refine returnsInHanded_of_change_and (C := Tryd.checked) (X := fun w _ => laidMetH Tryd.prog Wd.laidL w) (fun _ _ _ hh h => h.of_heap hh) own started (by kernel_rfl) Tryd.func4
    (ChangeSpec.witness_shaped (enc := enc) (C := Tryd.checked) (os := os) (X := fun w _ => laidMetH Tryd.prog Wd.laidL w) false (World.doorLaid Tryd.prog 14 os) #[.agg #[.string ByteArray.empty, .int .u64 0, .int .u64 0, .int .u8 0], .slice none 0 0, .slice none 0 0, .int .u32 0, .int .u16 0, .int .u8 0] 8 rfl (World.shaped_of_RefB (by kernel_rfl) (by kernel_rfl)) (by kernel_rfl) (by kernel_rfl) (by kernel_rfl) (Wd.door_met os _)) ?_
  intro W base args ds gs before hval0 hW hcnd hsz0 hL _
  have hsz : (DataW.weightsEach Tryd.prog (Tryd.f4.params.toList ++ Rows.ruleBackSpec.plain.varTypes Tryd.prog) (ds ++ gs)).all (· ≤ reachBytes) = true := hsz0
  have hval : ∀ (j : Nat) t v, Tryd.f4.params[j]? = some t → args[j]? = some v → Value.okWide Tryd.prog W .any base t v := hval0
  have hN := Wd.nam_of_laid hL
  have hW' := hW
  obtain ⟨p, q, hA0, hV, rfl, hfz, hnd⟩ := hW
  have hA : DataW.TrodAll enc Tryd.prog W 0 (fun _ => true) true Tryd.f4.params.toList args.toList ds p := hA0
  rw [Tryd.params4] at hA hval
  obtain ⟨v0, vs0, d0, ds0, p0, q0, hargs, rfl, rfl, h0, r0⟩ := trodAll_cons hA
  obtain ⟨v1, vs1, d1, ds1, p1, q1, rfl, rfl, rfl, h1, r1⟩ := trodAll_cons r0
  obtain ⟨v2, vs2, d2, ds2, p2, q2, rfl, rfl, rfl, h2, r2⟩ := trodAll_cons r1
  obtain ⟨v3, vs3, d3, ds3, p3, q3, rfl, rfl, rfl, h3, r3⟩ := trodAll_cons r2
  obtain ⟨v4, vs4, d4, ds4, p4, q4, rfl, rfl, rfl, h4, r4⟩ := trodAll_cons r3
  obtain ⟨v5, vs5, d5, ds5, p5, q5, rfl, rfl, rfl, h5, r5⟩ := trodAll_cons r4
  obtain ⟨rfl, rfl, rfl⟩ := trodAll_nil r5
  obtain rfl : args = #[v0, v1, v2, v3, v4, v5] := by cases args; simp_all
  obtain ⟨rfl, rfl⟩ := trodVars_none hV
  obtain ⟨c00, c01, c02, c03, y00, y01, y02, y03, m0, rfl, rfl, rfl, hy00, hy01, hy02, hy03⟩ := open_agg4 Tryd.underlying24 (by kernel_rfl) Wd.cellsRule (hval 0 24 v0 rfl rfl) h0
  obtain ⟨a0p, e00, rfl, w0p⟩ := DataW.trod_string Tryd.underlying9 hy00
  obtain ⟨a0e, e01, rfl, w0e⟩ := DataW.trod_int Tryd.underlying22 hy01
  obtain ⟨a0b, e02, rfl, w0b⟩ := DataW.trod_int Tryd.underlying22 hy02
  obtain ⟨a0k, e03, rfl, w0k⟩ := DataW.trod_int Tryd.underlying5 hy03
  simp at e00 e01 e02 e03
  subst e00 e01 e02 e03
  clear hy00 hy01 hy02 hy03
  obtain ⟨a1, len1, cap1, rfl⟩ := okWide_slice Tryd.underlying25 (hval 1 25 v1 rfl rfl)
  have k1 := h1
  have lt1 : ∀ x ∈ p1, x.block < W.heap.size := by obtain ⟨m, hm⟩ := k1; exact DataW.trod_lt m _ _ _ hm
  obtain ⟨a2, len2, cap2, rfl⟩ := okWide_slice Tryd.underlying26 (hval 2 26 v2 rfl rfl)
  have k2 := h2
  have lt2 : ∀ x ∈ p2, x.block < W.heap.size := by obtain ⟨m, hm⟩ := k2; exact DataW.trod_lt m _ _ _ hm
  obtain ⟨hm2, hr2⟩ : len2 ≤ 9223372036854775807 ∧ Wd.Byts W a2 len2 := by
    obtain ⟨fuel, hf⟩ := h2
    exact Wd.open_byts (by simpa [Value.cells] using hf)
  obtain ⟨a3, rfl, rfl, rfl, w3⟩ := open_int Tryd.underlying27 (hval 3 27 v3 rfl rfl) h3
  obtain ⟨a4, rfl, rfl, rfl, w4⟩ := open_int Tryd.underlying28 (hval 4 28 v4 rfl rfl) h4
  obtain ⟨a5, rfl, rfl, rfl, w5⟩ := open_int Tryd.underlying5 (hval 5 5 v5 rfl rfl) h5
  have z0 : a0p.size ≤ 140737488351232 := by
    have := Wd.sized_prefix hsz (j := 0) rfl rfl
    unfold reachBytes at this
    rw [Wd.list_size] at this
    exact this
  obtain ⟨hl1, hm1, xs1, hs1, hf1⟩ : len1 ≤ cap1 ∧ cap1 ≤ 9223372036854775807 ∧ ∃ xs : List ByteArray, Wd.Sts W a1 len1 xs ∧ Wd.Lim xs := by
    obtain ⟨fuel, hf⟩ := h1
    exact Wd.sized_strs (by simpa [Value.cells] using hf) (fun n hn => by
      have := List.all_eq_true.1 hsz n (DataW.weights_mem_each (j := 1) (t := 25) rfl rfl n hn)
      simpa using this)
  clear hA0 hval0 hsz hsz0 hL
  refine (Wd.back_walk a0p a0e a0b a0k a1 len1 cap1 xs1 a2 len2 cap2 a3 a4 a5 W hN (by omega) (bounds_u64 w0e) (bounds_u64 w0b) (bounds_u8 w0k) hs1 hf1 hr2 hm2 (bounds_u32 w3) (bounds_u16 w4) (bounds_u8 w5) (by omega)).mono fun e W' ⟨he, bel⟩ => ?_
  subst he
  exact ⟨_, rfl, _, _, _, [], _, [], hW', trodAll_mk1 (shut_bool Tryd.underlying4 _), (trodAll_cons_mk (shut_agg4 (y0 := (.lit (.string a0p.data.toList), [])) (y1 := (.lit (.int .u64 a0e), [])) (y2 := (.lit (.int .u64 a0b), [])) (y3 := (.lit (.int .u8 a0k), [])) Tryd.underlying24 (by kernel_rfl) Wd.cellsRule (Deep.shut_string_cell Tryd.underlying9 w0p) ⟨_, trod_int_mk 0 Tryd.underlying22 w0e⟩ ⟨_, trod_int_mk 0 Tryd.underlying22 w0b⟩ ⟨_, trod_int_mk 0 Tryd.underlying5 w0k⟩) (trodAll_cons_mk (Below.trod laidOut (by kernel_rfl) (of_decide_eq_true (by kernel_rfl)) k1 bel lt1) (trodAll_cons_mk (Below.trod laidOut (by kernel_rfl) (of_decide_eq_true (by kernel_rfl)) k2 bel lt2) (trodAll_cons_mk (shut_int Tryd.underlying27 w3) (trodAll_cons_mk (shut_int Tryd.underlying28 w4) (trodAll_cons_mk (shut_int Tryd.underlying5 w5) trodAll_mk0)))))), rfl, bel.frame _, fun h => by cases h⟩

theorem over : Rows.RuleBackSaid :=
  OpenClaim.holds_of_wide 4 Tryd.f4 rfl rfl rfl rfl rfl rfl rfl ⟨rfl, rfl, rfl, rfl, rfl⟩ rfl rfl rfl rfl rfl (by kernel_rfl) Tryd.func4 (by kernel_rfl)
    (of_decide_eq_true (by kernel_rfl)) (by unfold Func.isWrapper; first | (rw [if_pos (by decide +kernel)]; kernel_rfl) | (rw [if_neg (by decide +kernel)]; exact ⟨rfl, rfl⟩))
    (fun os started H enc _ => lifted os started H enc)

theorem named : Tryd.prog.funcNamed Tryd.f4.name = some 4 := by kernel_rfl
/-- The card: the row, and what it lists tied to the program's text. -/
theorem proved : Rows.RuleBackCardSaid :=
  Claim7.holds_tied_plain_at .later [] [.data] true (true, "9c807abef4a646a0a60ed9f16b1bfea71ad9db302f36e0e055ca5fd589ddd952") false
    over (fun _ h => by cases h) (by kernel_rfl) (fun _ h => by cases h) ruleBack_row_tie rfl ⟨rfl, rfl⟩ (by kernel_rfl) rfl
    (fun f fn hf hfn => by
      obtain rfl : f = 4 := (Option.some.inj (named.symm.trans hf)).symm
      obtain rfl : fn = Tryd.f4 := (Option.some.inj (Tryd.func4.symm.trans hfn)).symm
      exact ⟨by kernel_rfl, fun j t ht => by
        rw [Tryd.params4] at ht
        have hm : t ∈ [24, 25, 26, 27, 28, 5] := by simpa using Array.mem_of_getElem? ht
        have hall : ([24, 25, 26, 27, 28, 5].all fun u => !Tryd.prog.wantsStandIn u) = true := by kernel_rfl
        exact (show Tryd.prog.wantsStandIn t = false by simpa using List.all_eq_true.1 hall t hm)⟩)
    (by kernel_rfl)
#print axioms proved
end Go.Proofs.YtpkpmbigljkneaaDoor.ruleBack
