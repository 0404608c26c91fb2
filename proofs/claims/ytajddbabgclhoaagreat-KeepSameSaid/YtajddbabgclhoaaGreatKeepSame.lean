/- KeepSame answers true, for any rules and choice; the texts of rules are no longer than 2^47 - 4096 bytes. -/
import Derived.Test.YtajddbabgclhoaaGreatRows
import Derived.Test.YtajddbabgclhoaaGreatKepW1
import Derived.Test.YtajddbabgclhoaaGreatZAE
import Derived.SizedLaws
import Derived.Lib.SmallJoins
import Derived.WalkKit
import Derived.ProofKit
import Derived.OpenShut
import Derived.ShutString
import Derived.ChangeOld
import Derived.Below
namespace Go.Proofs.YtajddbabgclhoaaGreat.keepSame
open Go.ChangeShapes Go.WideShapes Go.ChangeAt Go.RowKit Go.Joins
open Go.ChangeMaps (open_string shut_string)
set_option linter.unusedVariables false

theorem own : ownKnob Tryz.prog.godebug = none := by kernel_rfl
theorem laidOut : laidOutB Tryz.prog = true := by kernel_rfl

set_option maxRecDepth 100000 in
theorem lifted (os : Os) (started : os.Started) (H : Type) (enc : TypeId × Value → H) :
    ReturnsInHanded {} Tryz.checked os 10 .any (Rows.keepSameSpec.pre6 enc Tryz.prog Tryz.f10 Rows.keepSameRow.domain false) (Rows.keepSameSpec.post enc Tryz.prog Tryz.f10 false true false false) := by
  refine returnsInHanded_of_change_sized (C := Tryz.checked) own started (by kernel_rfl) Tryz.func10
    (ChangeSpec.witness6 (enc := enc) (C := Tryz.checked) false ⟨#[], #[.agg #[.string ByteArray.empty, .int .u64 0, .int .u64 0, .int .u8 0], .agg #[.string ByteArray.empty, .int .u64 0, .int .u64 0, .int .u8 0], .int .u8 0], []⟩ 8 (by kernel_rfl) (by kernel_rfl) (by kernel_rfl) (by kernel_rfl)) ?_
  intro W base args ds gs before hval0 hW hcnd hsz0 _
  have hsz : (DataW.weightsEach Tryz.prog (Tryz.f10.params.toList ++ Rows.keepSameSpec.plain.varTypes Tryz.prog) (ds ++ gs)).all (· ≤ reachBytes) = true := hsz0
  have hval : ∀ (j : Nat) t v, Tryz.f10.params[j]? = some t → args[j]? = some v → Value.okWide Tryz.prog W .any base t v := hval0
  have hW' := hW
  obtain ⟨p, q, hA0, hV, rfl, hfz, hnd⟩ := hW
  have hA : DataW.TrodAll enc Tryz.prog W 0 (fun _ => true) true Tryz.f10.params.toList args.toList ds p := hA0
  rw [Tryz.params10] at hA hval
  obtain ⟨v0, vs0, d0, ds0, p0, q0, hargs, rfl, rfl, h0, r0⟩ := trodAll_cons hA
  obtain ⟨v1, vs1, d1, ds1, p1, q1, rfl, rfl, rfl, h1, r1⟩ := trodAll_cons r0
  obtain ⟨v2, vs2, d2, ds2, p2, q2, rfl, rfl, rfl, h2, r2⟩ := trodAll_cons r1
  obtain ⟨rfl, rfl, rfl⟩ := trodAll_nil r2
  obtain rfl : args = #[v0, v1, v2] := by cases args; simp_all
  obtain ⟨rfl, rfl⟩ := trodVars_none hV
  obtain ⟨c00, c01, c02, c03, y00, y01, y02, y03, m0, rfl, rfl, rfl, hy00, hy01, hy02, hy03⟩ := open_agg4 Tryz.underlying38 (by kernel_rfl) Wd.cellsRule (hval 0 38 v0 rfl rfl) h0
  obtain ⟨a0p, e00, rfl, w0p⟩ := DataW.trod_string Tryz.underlying9 hy00
  obtain ⟨a0e, e01, rfl, w0e⟩ := DataW.trod_int Tryz.underlying27 hy01
  obtain ⟨a0b, e02, rfl, w0b⟩ := DataW.trod_int Tryz.underlying27 hy02
  obtain ⟨a0k, e03, rfl, w0k⟩ := DataW.trod_int Tryz.underlying5 hy03
  simp at e00 e01 e02 e03
  subst e00 e01 e02 e03
  clear hy00 hy01 hy02 hy03
  obtain ⟨c10, c11, c12, c13, y10, y11, y12, y13, m1, rfl, rfl, rfl, hy10, hy11, hy12, hy13⟩ := open_agg4 Tryz.underlying38 (by kernel_rfl) Wd.cellsRule (hval 1 38 v1 rfl rfl) h1
  obtain ⟨a1p, e10, rfl, w1p⟩ := DataW.trod_string Tryz.underlying9 hy10
  obtain ⟨a1e, e11, rfl, w1e⟩ := DataW.trod_int Tryz.underlying27 hy11
  obtain ⟨a1b, e12, rfl, w1b⟩ := DataW.trod_int Tryz.underlying27 hy12
  obtain ⟨a1k, e13, rfl, w1k⟩ := DataW.trod_int Tryz.underlying5 hy13
  simp at e10 e11 e12 e13
  subst e10 e11 e12 e13
  clear hy10 hy11 hy12 hy13
  obtain ⟨a2, rfl, rfl, rfl, w2⟩ := open_int Tryz.underlying5 (hval 2 5 v2 rfl rfl) h2
  have z0 : a0p.size ≤ 140737488351232 := by
    have := Wd.sized_prefix hsz (j := 0) rfl rfl
    unfold reachBytes at this
    rw [Wd.list_size] at this
    exact this
  have z1 : a1p.size ≤ 140737488351232 := by
    have := Wd.sized_prefix hsz (j := 1) rfl rfl
    unfold reachBytes at this
    rw [Wd.list_size] at this
    exact this
  clear hA0 hval0 hsz hsz0
  refine (Wd.same_walk ⟨a0p, a0e, a0b, a0k⟩ ⟨a1p, a1e, a1b, a1k⟩ a2 W ⟨Nat.le_trans z0 (by decide), bounds_u64 w0e, bounds_u64 w0b, bounds_u8 w0k⟩ ⟨Nat.le_trans z1 (by decide), bounds_u64 w1e, bounds_u64 w1b, bounds_u8 w1k⟩ (bounds_u8 w2)).mono fun e W' ⟨he, bel⟩ => ?_
  subst he
  exact ⟨_, rfl, _, _, _, [], _, [], hW', trodAll_mk1 (shut_bool Tryz.underlying4 _), (trodAll_cons_mk (shut_agg4 (y0 := (.lit (.string a0p.data.toList), [])) (y1 := (.lit (.int .u64 a0e), [])) (y2 := (.lit (.int .u64 a0b), [])) (y3 := (.lit (.int .u8 a0k), [])) Tryz.underlying38 (by kernel_rfl) Wd.cellsRule (Deep.shut_string_cell Tryz.underlying9 w0p) ⟨_, trod_int_mk 0 Tryz.underlying27 w0e⟩ ⟨_, trod_int_mk 0 Tryz.underlying27 w0b⟩ ⟨_, trod_int_mk 0 Tryz.underlying5 w0k⟩) (trodAll_cons_mk (shut_agg4 (y0 := (.lit (.string a1p.data.toList), [])) (y1 := (.lit (.int .u64 a1e), [])) (y2 := (.lit (.int .u64 a1b), [])) (y3 := (.lit (.int .u8 a1k), [])) Tryz.underlying38 (by kernel_rfl) Wd.cellsRule (Deep.shut_string_cell Tryz.underlying9 w1p) ⟨_, trod_int_mk 0 Tryz.underlying27 w1e⟩ ⟨_, trod_int_mk 0 Tryz.underlying27 w1b⟩ ⟨_, trod_int_mk 0 Tryz.underlying5 w1k⟩) (trodAll_cons_mk (shut_int Tryz.underlying5 w2) trodAll_mk0))), rfl, bel.frame _, fun h => by cases h⟩

theorem over : Rows.keepSameRow.holds Tryz.pinned (OpenSpec.ofChange Rows.keepSameSpec) :=
  OpenClaim.holds_of_wide 10 Tryz.f10 rfl rfl rfl rfl rfl rfl rfl ⟨rfl, rfl, rfl, rfl, rfl⟩ rfl rfl rfl rfl rfl (by kernel_rfl) Tryz.func10 (by kernel_rfl)
    (of_decide_eq_true (by kernel_rfl)) (by unfold Func.isWrapper; first | (rw [if_pos (by decide +kernel)]; kernel_rfl) | (rw [if_neg (by decide +kernel)]; exact ⟨rfl, rfl⟩))
    (fun os started H enc _ => lifted os started H enc)

theorem proved : Rows.KeepSameSaid :=
  over
#print axioms proved
end Go.Proofs.YtajddbabgclhoaaGreat.keepSame
