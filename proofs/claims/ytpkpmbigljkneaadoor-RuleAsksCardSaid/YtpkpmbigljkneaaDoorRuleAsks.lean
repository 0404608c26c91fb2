/- Whatever the rule, the names, the words, the choices and the numbers (at the sizes that a machine can hold): RuleAsks returns true, and changes nothing; the table of names is tied to the program's text. -/
import Derived.Test.YtpkpmbigljkneaaDoorRows
import Derived.Test.YtpkpmbigljkneaaDoorCards
import Derived.Test.YtpkpmbigljkneaaDoorTie
import Derived.Test.YtpkpmbigljkneaaDoorRulLaid
import Derived.Test.YtpkpmbigljkneaaDoorRulO
import Derived.Test.YtpkpmbigljkneaaDoorRulW6
import Derived.SizedLaws
import Derived.WalkKit
import Derived.ProofKit
import Derived.OpenShut
import Derived.ShutString
import Derived.ChangeOld
import Derived.Below
import Derived.LaidMore
import Derived.Stop.Joined
import Derived.SevenTiedAt
import Derived.Lib.SmallJoins
namespace Go.Proofs.YtpkpmbigljkneaaDoor.ruleAsks
open Go Go.ChangeShapes Go.WideShapes Go.ChangeAt Go.RowKit Go.Joins
open Go.ChangeMaps (open_string shut_string)
set_option linter.unusedVariables false

theorem own : ownKnob Tryd.prog.godebug = none := by kernel_rfl
theorem laidOut : laidOutB Tryd.prog = true := by kernel_rfl

set_option maxRecDepth 100000 in
theorem lifted (os : Os) (started : os.Started) (H : Type) (enc : TypeId × Value → H) :
    ReturnsInHanded {} Tryd.checked os 3 .any (fun w args => (Rows.ruleAsksSpec.pre enc Tryd.prog Tryd.f3 [] false w args ∧ laidMetH Tryd.prog Wd.laidL w) ∧ sizedMet enc Tryd.prog Tryd.f3 (OpenSpec.ofChange Rows.ruleAsksSpec) false w args)
      (Rows.ruleAsksSpec.post enc Tryd.prog Tryd.f3 false true false false) := by
  refine returnsInHanded_of_change_and (C := Tryd.checked) (X := fun w _ => laidMetH Tryd.prog Wd.laidL w) (fun _ _ _ hh h => h.of_heap hh) own started (by kernel_rfl) Tryd.func3
    (ChangeSpec.witness_shaped (enc := enc) (C := Tryd.checked) (os := os) (X := fun w _ => laidMetH Tryd.prog Wd.laidL w) false (World.doorLaid Tryd.prog 14 os) #[.agg #[.string ByteArray.empty, .int .u64 0, .int .u64 0, .int .u8 0], .string ByteArray.empty, .slice none 0 0, .slice none 0 0, .int .u32 0, .int .u16 0, .int .u8 0, .int .u8 0, .int .u64 0, .string ByteArray.empty] 8 rfl (World.shaped_of_RefB (by kernel_rfl) (by kernel_rfl)) (by kernel_rfl) (by kernel_rfl) (by kernel_rfl) (Wd.door_met os _)) ?_
  intro W base args ds gs before hval0 hW hcnd hsz0 hL _
  have hsz : (DataW.weightsEach Tryd.prog (Tryd.f3.params.toList ++ Rows.ruleAsksSpec.plain.varTypes Tryd.prog) (ds ++ gs)).all (· ≤ reachBytes) = true := hsz0
  have hval : ∀ (j : Nat) t v, Tryd.f3.params[j]? = some t → args[j]? = some v → Value.okWide Tryd.prog W .any base t v := hval0
  have hN := Wd.nam_of_laid hL
  have hW' := hW
  obtain ⟨p, q, hA0, hV, rfl, hfz, hnd⟩ := hW
  have hA : DataW.TrodAll enc Tryd.prog W 0 (fun _ => true) true Tryd.f3.params.toList args.toList ds p := hA0
  rw [Tryd.params3] at hA hval
  obtain ⟨v0, vs0, d0, ds0, p0, q0, hargs, rfl, rfl, h0, r0⟩ := trodAll_cons hA
  obtain ⟨v1, vs1, d1, ds1, p1, q1, rfl, rfl, rfl, h1, r1⟩ := trodAll_cons r0
  obtain ⟨v2, vs2, d2, ds2, p2, q2, rfl, rfl, rfl, h2, r2⟩ := trodAll_cons r1
  obtain ⟨v3, vs3, d3, ds3, p3, q3, rfl, rfl, rfl, h3, r3⟩ := trodAll_cons r2
  obtain ⟨v4, vs4, d4, ds4, p4, q4, rfl, rfl, rfl, h4, r4⟩ := trodAll_cons r3
  obtain ⟨v5, vs5, d5, ds5, p5, q5, rfl, rfl, rfl, h5, r5⟩ := trodAll_cons r4
  obtain ⟨v6, vs6, d6, ds6, p6, q6, rfl, rfl, rfl, h6, r6⟩ := trodAll_cons r5
  obtain ⟨v7, vs7, d7, ds7, p7, q7, rfl, rfl, rfl, h7, r7⟩ := trodAll_cons r6
  obtain ⟨v8, vs8, d8, ds8, p8, q8, rfl, rfl, rfl, h8, r8⟩ := trodAll_cons r7
  obtain ⟨v9, vs9, d9, ds9, p9, q9, rfl, rfl, rfl, h9, r9⟩ := trodAll_cons r8
  obtain ⟨rfl, rfl, rfl⟩ := trodAll_nil r9
  obtain rfl : args = #[v0, v1, v2, v3, v4, v5, v6, v7, v8, v9] := by cases args; simp_all
  obtain ⟨rfl, rfl⟩ := trodVars_none hV
  obtain ⟨c00, c01, c02, c03, y00, y01, y02, y03, m0, rfl, rfl, rfl, hy00, hy01, hy02, hy03⟩ := open_agg4 Tryd.underlying24 (by kernel_rfl) Wd.cellsRule (hval 0 24 v0 rfl rfl) h0
  obtain ⟨a0p, e00, rfl, w0p⟩ := DataW.trod_string Tryd.underlying9 hy00
  obtain ⟨a0e, e01, rfl, w0e⟩ := DataW.trod_int Tryd.underlying22 hy01
  obtain ⟨a0b, e02, rfl, w0b⟩ := DataW.trod_int Tryd.underlying22 hy02
  obtain ⟨a0k, e03, rfl, w0k⟩ := DataW.trod_int Tryd.underlying5 hy03
  simp at e00 e01 e02 e03
  subst e00 e01 e02 e03
  clear hy00 hy01 hy02 hy03
  obtain ⟨a1, rfl, rfl, rfl, w1⟩ := open_string Tryd.underlying9 (hval 1 9 v1 rfl rfl) h1
  obtain ⟨a2, len2, cap2, rfl⟩ := okWide_slice Tryd.underlying25 (hval 2 25 v2 rfl rfl)
  have k2 := h2
  have lt2 : ∀ x ∈ p2, x.block < W.heap.size := by obtain ⟨m, hm⟩ := k2; exact DataW.trod_lt m _ _ _ hm
  obtain ⟨a3, len3, cap3, rfl⟩ := okWide_slice Tryd.underlying26 (hval 3 26 v3 rfl rfl)
  have k3 := h3
  have lt3 : ∀ x ∈ p3, x.block < W.heap.size := by obtain ⟨m, hm⟩ := k3; exact DataW.trod_lt m _ _ _ hm
  obtain ⟨hm3, hr3⟩ : len3 ≤ 9223372036854775807 ∧ Wd.Byts W a3 len3 := by
    obtain ⟨fuel, hf⟩ := h3
    exact Wd.open_byts (by simpa [Value.cells] using hf)
  obtain ⟨a4, rfl, rfl, rfl, w4⟩ := open_int Tryd.underlying27 (hval 4 27 v4 rfl rfl) h4
  obtain ⟨a5, rfl, rfl, rfl, w5⟩ := open_int Tryd.underlying28 (hval 5 28 v5 rfl rfl) h5
  obtain ⟨a6, rfl, rfl, rfl, w6⟩ := open_int Tryd.underlying5 (hval 6 5 v6 rfl rfl) h6
  obtain ⟨a7, rfl, rfl, rfl, w7⟩ := open_int Tryd.underlying5 (hval 7 5 v7 rfl rfl) h7
  obtain ⟨a8, rfl, rfl, rfl, w8⟩ := open_int Tryd.underlying22 (hval 8 22 v8 rfl rfl) h8
  obtain ⟨a9, rfl, rfl, rfl, w9⟩ := open_string Tryd.underlying9 (hval 9 9 v9 rfl rfl) h9
  have z0 : a0p.size ≤ 140737488351232 := by
    have := Wd.sized_prefix hsz (j := 0) rfl rfl
    unfold reachBytes at this
    rw [Wd.list_size] at this
    exact this
  have z1 : a1.size ≤ 140737488351232 := by
    have := sized_string hsz (j := 1) (t := 9) rfl rfl
    simpa [reachBytes] using this
  obtain ⟨hl2, hm2, xs2, hs2, hf2⟩ : len2 ≤ cap2 ∧ cap2 ≤ 9223372036854775807 ∧ ∃ xs : List ByteArray, Wd.Sts W a2 len2 xs ∧ Wd.Lim xs := by
    obtain ⟨fuel, hf⟩ := h2
    exact Wd.sized_strs (by simpa [Value.cells] using hf) (fun n hn => by
      have := List.all_eq_true.1 hsz n (DataW.weights_mem_each (j := 2) (t := 25) rfl rfl n hn)
      simpa using this)
  have z9 : a9.size ≤ 140737488351232 := by
    have := sized_string hsz (j := 9) (t := 9) rfl rfl
    simpa [reachBytes] using this
  clear hA0 hval0 hsz hsz0 hL
  refine (Wd.ruleAsks_walk a0p a0e a0b a0k a1 a2 len2 cap2 xs2 a3 len3 cap3 a4 a5 a6 a7 a8 a9 W hN z0 (bounds_u64 w0e) (bounds_u64 w0b) (bounds_u8 w0k) z1 z9 (bounds_u64 w8) (bounds_u8 w7) hs2 hf2 hr3 hm3 (bounds_u32 w4) (bounds_u16 w5) (bounds_u8 w6) (by omega)).mono fun e W' ⟨he, bel⟩ => ?_
  subst he
  exact ⟨_, rfl, _, _, _, [], _, [], hW', trodAll_mk1 (shut_bool Tryd.underlying4 _), (trodAll_cons_mk (shut_agg4 (y0 := (.lit (.string a0p.data.toList), [])) (y1 := (.lit (.int .u64 a0e), [])) (y2 := (.lit (.int .u64 a0b), [])) (y3 := (.lit (.int .u8 a0k), [])) Tryd.underlying24 (by kernel_rfl) Wd.cellsRule (Deep.shut_string_cell Tryd.underlying9 w0p) ⟨_, trod_int_mk 0 Tryd.underlying22 w0e⟩ ⟨_, trod_int_mk 0 Tryd.underlying22 w0b⟩ ⟨_, trod_int_mk 0 Tryd.underlying5 w0k⟩) (trodAll_cons_mk (shut_string Tryd.underlying9 w1) (trodAll_cons_mk (Below.trod laidOut (by kernel_rfl) (of_decide_eq_true (by kernel_rfl)) k2 bel lt2) (trodAll_cons_mk (Below.trod laidOut (by kernel_rfl) (of_decide_eq_true (by kernel_rfl)) k3 bel lt3) (trodAll_cons_mk (shut_int Tryd.underlying27 w4) (trodAll_cons_mk (shut_int Tryd.underlying28 w5) (trodAll_cons_mk (shut_int Tryd.underlying5 w6) (trodAll_cons_mk (shut_int Tryd.underlying5 w7) (trodAll_cons_mk (shut_int Tryd.underlying22 w8) (trodAll_cons_mk (shut_string Tryd.underlying9 w9) trodAll_mk0)))))))))), rfl, bel.frame _, fun h => by cases h⟩

theorem over : Rows.RuleAsksSaid :=
  OpenClaim.holds_of_wide 3 Tryd.f3 rfl rfl rfl rfl rfl rfl rfl ⟨rfl, rfl, rfl, rfl, rfl⟩ rfl rfl rfl rfl rfl (by kernel_rfl) Tryd.func3 (by kernel_rfl)
    (of_decide_eq_true (by kernel_rfl)) (by unfold Func.isWrapper; first | (rw [if_pos (by decide +kernel)]; kernel_rfl) | (rw [if_neg (by decide +kernel)]; exact ⟨rfl, rfl⟩))
    (fun os started H enc _ => lifted os started H enc)

theorem named : Tryd.prog.funcNamed Tryd.f3.name = some 3 := by kernel_rfl
/-- The card: the row, and what it lists tied to the program's text. -/
theorem proved : Rows.RuleAsksCardSaid :=
  Claim7.holds_tied_plain_at .later [] [.data] true (true, "9c807abef4a646a0a60ed9f16b1bfea71ad9db302f36e0e055ca5fd589ddd952") false
    over (fun _ h => by cases h) (by kernel_rfl) (fun _ h => by cases h) ruleAsks_row_tie rfl ⟨rfl, rfl⟩ (by kernel_rfl) rfl
    (fun f fn hf hfn => by
      obtain rfl : f = 3 := (Option.some.inj (named.symm.trans hf)).symm
      obtain rfl : fn = Tryd.f3 := (Option.some.inj (Tryd.func3.symm.trans hfn)).symm
      exact ⟨by kernel_rfl, fun j t ht => by
        rw [Tryd.params3] at ht
        have hm : t ∈ [24, 9, 25, 26, 27, 28, 5, 5, 22, 9] := by simpa using Array.mem_of_getElem? ht
        have hall : ([24, 9, 25, 26, 27, 28, 5, 5, 22, 9].all fun u => !Tryd.prog.wantsStandIn u) = true := by kernel_rfl
        exact (show Tryd.prog.wantsStandIn t = false by simpa using List.all_eq_true.1 hall t hm)⟩)
    (by kernel_rfl)
#print axioms proved
end Go.Proofs.YtpkpmbigljkneaaDoor.ruleAsks
