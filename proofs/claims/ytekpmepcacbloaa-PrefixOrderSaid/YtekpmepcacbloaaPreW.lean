/- What a way goes through, and what (*Tree).Find answers; no conditions but those that each names. -/
import Derived.Test.YtekpmepcacbloaaPreH
namespace Go.Proofs.Ytekpmepcacbloaa.Wd
open Go Go.RowKit Go.Shelf
set_option linter.unusedVariables false
set_option maxRecDepth 100000
attribute [local go_sem] Oper.semAt_some

/-- A node that is there, and what is left behind it. -/
abbrev WN (F : Nat → Option Nd) := { x : Nat × ByteArray // ∃ nd, F x.1 = some nd }
abbrev enw {F : Nat → Option Nd} (x : WN F) : Array Value := #[ndp (some x.1.1), .string x.1.2]
abbrev rawW {F : Nat → Option Nd} (l : List (WN F)) : List (Nat × ByteArray) := l.map Subtype.val
theorem way_in (n : Nat) (o : Option Nat) (K : ByteArray) (w : World) :
    CallsIn Fence.wide n Try.prog 18 #[ndp o, .string K] w fun e w' => e = .returned (.func (.func 22) #[] #[.pointer (some ⟨w.heap.size, 0, none⟩), .pointer (some ⟨w.heap.size + 1, 0, none⟩)]) ∧ w' = (w.alloc (.cells #[ndp o] 51)).alloc (.cells #[.string K] 9) := by
  refine callsIn_of_wp Try.func18 rfl trivial ?_ rfl
  simp only [Try.ntmps18, List.size_toArray, List.length_cons, List.length_nil, Nat.reduceAdd, Nat.reduceSub, Array.replicate_succ, Array.replicate_zero, List.push_toArray, List.append_toArray, List.nil_append, List.cons_append]
  gi_wp2
  go_ret
  exact ⟨rfl, rfl⟩

theorem grown_of {w W : World} (h : Below w.heap.size w W) : w.grownBy W none := ⟨h.os, h.tape, h.output, h.size, fun k hk _ => h.block k hk⟩
def sizeV : Value → Nat | .string s => s.size | _ => 0
def atV (R : Nat) : Value → Nat | .pointer (some a) => if a.block = R then 1 else 0 | _ => 0
theorem atV_same (R : Nat) : atV R (ndp (some R)) = 1 := if_pos rfl
theorem atV_other {R b : Nat} (h : b ≠ R) : atV R (ndp (some b)) = 0 := if_neg h
theorem text_none (t : ByteArray) : (t.toList.isEmpty : Bool) = decide (t.size = 0) := by
  by_cases h : t.size = 0
  · rw [toList_none t h, decide_eq_true h]
  · rw [toList_ne t (by omega), decide_eq_false h]

theorem way_last {F : Nat → Option Nd} {b : Nat} {nd : Nd} {s s' : ByteArray} (hb : F b = some nd) (hp : lb nd.step <+: lb s) (e : cutB s nd.step.size = s') (h0 : s'.size = 0) : Way F (some b) s [(b, s')] := by
  subst e; exact .last hb hp h0
theorem way_on {F : Nat → Option Nd} {b : Nat} {nd : Nd} {s s' : ByteArray} {ys} (hb : F b = some nd) (hp : lb nd.step <+: lb s) (e : cutB s nd.step.size = s') (h0 : 0 < s'.size) (h : Way F (look nd.dn (hdB s')) s' ys) : Way F (some b) s ((b, s') :: ys) := by
  subst e; exact .on hb hp h0 h

theorem way_step {F : Nat → Option Nd} {R b : Nat} {nd : Nd} {c : UInt8} {m n : Nat} (WF : Wood F R) (hb : F b = some nd) (hs : b = R ∨ 0 < nd.step.size) (h : m + nd.step.size = n) : m + atV R (ndp (look nd.dn c)) < n + atV R (ndp (some b)) := by
  have h0 : atV R (ndp (look nd.dn c)) = 0 := by
    cases e : look nd.dn c with
    | none => rfl
    | some b' => exact atV_other (fun g => WF.notRoot hb (by rw [e, g]))
  rw [h0]
  rcases hs with rfl | hs
  · rw [atV_same]; omega
  · omega

set_option maxHeartbeats 2000000 in
theorem way1_stops (n : Nat) (hn : 4 ≤ n) (p N : Nat) (lo : Nat → Prop) (R : Nat) (K : ByteArray) (F : Nat → Option Nd) (WF : Wood F R) (hK : K.size ≤ 281474976710656) (w : World) (hL : Lies w F lo) (hu : Under F N) (hN : N ≤ w.heap.size)
    (hA : Boxed w p 51 (ndp (some R))) (hB : Boxed w (p + 1) 9 (.string K)) :
    SeqStopsK Fence.wide n Try.prog 22 #[.pointer (some ⟨p, 0, none⟩), .pointer (some ⟨p + 1, 0, none⟩)] (enw (F := F)) (Below N) (fun xs => Way F (some R) K (rawW xs)) (fun _ => True) (K.size + 2) w := by
  intro l J Jx W hW hJ hJx hY h0
  have h1 : 1 ≤ n := by omega
  have bA : Boxed W p 51 (ndp (some R)) := (hW.block p hA.lt).trans hA
  have bB : Boxed W (p + 1) 9 (.string K) := (hW.block (p + 1) hB.lt).trans hB
  have LW : Lies W F lo := hL.below hW
  have cA : W.cell? ⟨p, 0, none⟩ = some (.pointer (some ⟨R, 0, none⟩)) := bA.cell
  have cB := bB.cell
  have HY := Lib.hid hY
  have HJ := Lib.hid hJ
  have HL := Lib.hid LW
  have H0 := Lib.hid h0
  clear hA hB hW hL hY hJ hJx LW h0 bA bB
  refine callsIn_of_wp Try.func22 rfl trivial ?_ rfl
  simp only [Try.ntmps22, List.size_toArray, List.length_cons, List.length_nil, Nat.reduceAdd, Nat.reduceSub, Array.replicate_succ, Array.replicate_zero, List.push_toArray, List.append_toArray, List.nil_append, List.cons_append]
  gi_wp2
  gi_region
  gi_wp2
  gi_loopw [4, 5] (fun at_ left wr => ∃ (o : Option Nat) (s : ByteArray) (pre : List (WN F)), at_ = ndp o ∧ left = .string s ∧ Hid (∀ ys, Way F o s ys → Way F (some R) K (rawW pre ++ ys)) ∧ Hid (∀ b, o = some b → ∃ nd, F b = some nd ∧ (b = R ∨ 0 < nd.step.size)) ∧ s.size ≤ K.size ∧ Hid (pre.length + s.size + atV R (ndp o) ≤ K.size + 1) ∧ Hid (J pre wr) ∧ Hid (Lies wr F lo))
    (fun at_ left _ => sizeV left + atV R at_)
  case atStart => exact ⟨some R, K, [], rfl, rfl, Lib.hid (fun ys h => h), Lib.hid (fun b e => by cases e; obtain ⟨r, h1, _⟩ := WF.root; exact ⟨r, h1, .inl rfl⟩), Nat.le_refl _, Lib.hid (by rw [atV_same]; simp), Lib.hid (HJ.out _ _ _ none H0.out ⟨rfl, rfl, rfl, Nat.le_refl _, fun _ _ _ => rfl⟩ (fun _ e => by cases e)), Lib.hid (HL.out.below (Below.refl _ _).drew)⟩
  case round =>
    obtain ⟨o, s, pre, rfl, rfl, HW, HO, hs, hm, hJs, Lr⟩ := hrel
    cases o with
    | none =>
      dsimp only [ndp, Option.map_none]
      gi_wp2
      refine ⟨trivial, ?_⟩
      gi_wp2
      go_end0
      exact ⟨⟨_, rfl⟩, .inl ⟨pre, by have := HW.out [] .none; rwa [List.append_nil] at this, hJs.out⟩⟩
    | some b =>
      obtain ⟨nd, hb, hbs⟩ := HO.out b rfl
      have HB := Lib.hid hb
      have HS := Lib.hid hbs
      have c0 := (Lr.out.nc hb).c0
      have C := Lib.hid (fun W => has_any s nd.step W (by omega) (Nat.le_trans (Lr.out.small b nd hb).1 (by omega)))
      have hh : Hid (decide (cm (lb s) (lb nd.step) = nd.step.size) = true ↔ lb nd.step <+: lb s) := Lib.hid (hsK_iff s nd.step)
      generalize decide (cm (lb s) (lb nd.step) = nd.step.size) = has at C hh
      clear hb hbs cA cB
      dsimp only [ndp, Option.map_some]
      gi_wp2_with (refine ⟨trivial, ?_⟩; gi_at_call 23; refine (callsIn_wide.2 (C.out _)).mono ?_; rintro e w1 ⟨rfl, g1⟩; refine stopHere ?_)
      unfold Stop
      have hJ1 := Lib.hid (HJ.out pre _ _ none hJs.out (grown_of g1) (fun _ e => by cases e))
      have L1 := Lib.hid (Lr.out.below g1)
      have c1 := (L1.out.nc HB.out).c0
      clear c0 g1 hJs Lr C
      cases has
      · gi_wp2
        go_end0
        exact ⟨⟨_, rfl⟩, .inl ⟨pre, by have := HW.out [] (.off HB.out (fun h => by cases hh.out.2 h)); rwa [List.append_nil] at this, hJ1.out⟩⟩
      · have hp : lb nd.step <+: lb s := hh.out.1 rfl
        have hps := pre_size hp
        have HP := Lib.hid hp
        have hcs := cut_size s nd.step.size
        have hsl : ∀ V : World, (Instr.slice 9 (.string s) (some (.int .i64 (nd.step.size : Int))) none none).run Try.prog V = .ok (.string (cutB s nd.step.size)) V := fun V => by
          rw [run_slice_string_from_if V 9 s .i64 _ Try.underlying9, if_pos ⟨by omega, by omega⟩]; rfl
        generalize hs' : cutB s nd.step.size = s' at *
        have HS' := Lib.hid hs'
        clear hs' hp hh
        obtain ⟨fn, tmps, assign, body, hy, hR⟩ := HY.out pre ⟨(b, s'), nd, HB.out⟩ w1 hJ1.out (by have := hm.out; omega)
        dsimp only [enw, ndp, Option.map_some] at hy
        have HR := Lib.hid hR
        clear hR
        gi_wp2
        refine HR.out.mono ?_
        rintro e W3 (⟨rfl, hJ3, hk3⟩ | ⟨rfl, hJx3⟩)
        · by_cases hz : s'.size = 0
          · have ht := toList_none s' hz
            have HZ := Lib.hid hz
            clear hz
            gi_wp2
            refine bodyPost_ret (results_none rfl _ _ _) rfl ?_
            exact ⟨⟨_, rfl⟩, .inl ⟨pre ++ [⟨(b, s'), nd, HB.out⟩], by have := HW.out _ (way_last HB.out HP.out HS'.out HZ.out); simpa [rawW] using this, hJ3⟩⟩
          · have ht := toList_ne s' (by omega)
            have L3 := Lib.hid (L1.out.keep hu hk3)
            have d1 := (L3.out.nc HB.out).c1
            have h0 : 0 < s'.size := by omega
            have hi : s'[0] = hdB s' := hd_at h0
            have k0 : (Instr.lookup 52 (.map nd.mp) (.int .u8 ((hdB s').toNat : Int)) false).run Try.prog W3 = .ok (ndp (look nd.dn (hdB s'))) W3 := L3.out.down HB.out (hdB s') false
            have k1 : (Instr.lookup 52 (.map nd.mp) (.int .u8 ((hdB s').toNat : Int)) false).run Try.prog W3.drew = .ok (ndp (look nd.dn (hdB s'))) W3.drew := (L3.out.below (Below.refl _ _).drew).down HB.out (hdB s') false
            have HD := Lib.hid (fun b' (e : look nd.dn (hdB s') = some b') => WF.down b nd (hdB s') b' HB.out e)
            have HM := Lib.hid (way_step WF (c := hdB s') HB.out HS.out (show s'.size + nd.step.size = s.size by omega))
            have HG := Lib.hid (fun o (e : look nd.dn (hdB s') = o) ys (h : Way F o s' ys) => HW.out _ (way_on HB.out HP.out HS'.out h0 (e ▸ h)))
            generalize hc : hdB s' = c at *
            generalize look nd.dn c = o2 at *
            gi_wp2
            gi_region
            gi_wp2
            go_roundw
            case rel =>
              refine ⟨o2, s', pre ++ [⟨(b, s'), nd, HB.out⟩], rfl, rfl, Lib.hid (fun ys h => by have := HG.out o2 rfl ys h; simpa [rawW] using this), Lib.hid (fun b' e => ?_), by omega, Lib.hid ?_, Lib.hid (HJ.out _ W3 _ none hJ3 ⟨rfl, rfl, rfl, Nat.le_refl _, fun _ _ _ => rfl⟩ (fun _ e => by cases e)), Lib.hid (L3.out.below (Below.refl _ _).drew)⟩
              · obtain ⟨nd', e1, _, e3⟩ := HD.out b' e
                exact ⟨nd', e1, .inr (hd_of e3).2⟩
              · have h1 := HM.out
                have h2 := hm.out
                rw [List.length_append]
                show pre.length + 1 + s'.size + atV R (ndp o2) ≤ _
                omega
            case measure => exact HM.out
        · gi_wp2
          refine bodyPost_ret (results_none rfl _ _ _) rfl ?_
          exact ⟨⟨_, rfl⟩, .inr ⟨_, trivial, hJx3⟩⟩
end Go.Proofs.Ytekpmepcacbloaa.Wd
