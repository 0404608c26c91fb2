/- One key alone in a table, as data: what charges and time do; no conditions but those that each names. -/
import Derived.Test.YtkfncanfgpmgaaaGreatTabZ
namespace Go.Proofs.YtkfncanfgpmgaaaGreat.Wd
open Go Go.RowKit Go.Shelf Go.Deep
set_option linter.unusedVariables false
set_option maxRecDepth 100000

/-- A key and a rule that may be. -/
structure Good (k : ByteArray) (r : Rl) : Prop where
  key : rtB (lb k) = true
  rule : ruE r.p r.e r.b r.k = 0
  ok : Okr r
  size : k.size ≤ 128
theorem Good.wk {k : ByteArray} {r : Rl} (h : Good k r) : wkE k r = 0 := by unfold wkE; rw [if_pos h.key]; exact h.rule
theorem Good.cap {k : ByteArray} {r : Rl} (h : Good k r) : capR r = r.e * r.b ∧ 0 < r.e * r.b ∧ r.e * r.b ≤ 4611686018427387904 := by
  obtain ⟨h1, h2, h3⟩ := ru_fit r.p r.e r.b r.k h.ok.e h.ok.b h.rule
  refine ⟨?_, h2, h3⟩
  show caI r.p r.e r.b r.k = _
  unfold caI; rw [if_pos h.rule, h1]
theorem Good.pos {k : ByteArray} {r : Rl} (h : Good k r) : 1 ≤ r.e ∧ 1 ≤ r.b := by
  have := h.cap
  have he := h.ok.e
  have hb := h.ok.b
  unfold U at he hb
  constructor
  · by_cases z : r.e = 0
    · rw [z] at this; simp at this
    · omega
  · by_cases z : r.b = 0
    · rw [z] at this; simp at this
    · omega
/-- A state tells a FILL, now and later. -/
structure Say (c : Int) (r : Rl) (s : St) (f : Int) : Prop where
  st : OkSt s
  tells : Tells s.k s.a s.b (capR r) c f
  f0 : 0 ≤ f
  f1 : f ≤ capR r
theorem Say.fill {c : Int} {r : Rl} {s : St} {f : Int} (h : Say c r s f) (hc : U c) : flT c r s = f := h.tells.here hc h.f0
theorem Say.later {c c' : Int} {r : Rl} {s : St} {f : Int} (h : Say c r s f) (hl : c ≤ c') : Say c' r s (sbI f (c' - c)) :=
  ⟨h.st, h.tells.later hl, by unfold sbI; split <;> omega, by have := h.f0; have := h.f1; unfold sbI; split <;> omega⟩
theorem Say.none {c : Int} {r : Rl} (h3 : Is3 r.k) (hr : Okr r) (hc : U c) : Say c r (stOf c r none) 0 := by
  have hcap := capR_U hr
  have ek : koK r.k = r.k := koK_is h3
  refine ⟨⟨by show Is3 (koK r.k); rw [ek]; exact h3, koA_U _ _ _ _ hc hcap U_zero, koB_U _ _ hc⟩, ?_, by omega, hcap.1⟩
  show Tells (koK r.k) (koA r.k c (capR r) 0) (koB r.k c) (capR r) c 0
  rw [ek]
  exact tells_of h3 c (capR r) 0 hc.1 (Int.le_refl _) hcap.1 (by unfold U at hc; omega)
theorem Say.charge {c : Int} {r : Rl} {s : St} {f n : Int} (h : Say c r s f) (hr : Okr r) (hc : U c) (hs : c + capR r ≤ 18446744073709551615) (hn : U n) :
    stIn c r s n = ftB f (wI r n) (capR r) ∧ (stNx c r s n).k = s.k ∧ Say c r (stNx c r s n) (if ftB f (wI r n) (capR r) = true then f + wI r n else f) := by
  have hw := wI_U hr hn
  obtain ⟨a1, a2, a3, a4, a5⟩ := h.tells.decide h.st.k h.st.a h.st.b (capR_U hr) hc (wI r n) hw h.f0 hs
  refine ⟨a1, a2, ⟨⟨by show Is3 (kdK _ _ _ _ _ _); rw [a2]; exact h.st.k, a3, a4⟩, ?_, ?_, ?_⟩⟩
  · show Tells (kdK _ _ _ _ _ _) _ _ _ _ _
    rw [a2]; exact a5
  · have := h.f0; unfold U at hw; split <;> omega
  · split
    · rename_i z
      unfold ftB at z
      simpa using z
    · exact h.f1
/-- Who is there has this key and this rule, and its state tells a FILL. -/
def Solo (k : ByteArray) (r : Rl) (c : Int) (S : List Sl) : Prop := ∀ s ∈ S, s.key = k ∧ s.r = r ∧ ∃ f, Say c r ⟨s.k, s.a, s.b⟩ f
theorem Solo.nil (k : ByteArray) (r : Rl) (c : Int) : Solo k r c [] := fun s hs => nomatch hs
theorem Solo.len {k : ByteArray} {r : Rl} {c m c2 : Int} {S : List Sl} (h : Solo k r c S) (hw : Wf m c2 S) : S.length ≤ 1 := by
  match S, h, hw with
  | [], _, _ => simp
  | [_], _, _ => simp
  | x :: y :: l, h, hw =>
    have h1 := (h x (by simp)).1
    have h2 := (h y (by simp)).1
    have := (List.pairwise_cons.1 hw.ap).1 y (by simp)
    exact absurd (h1.trans h2.symm) this
theorem Solo.st {k : ByteArray} {r : Rl} {m c : Int} {S : List Sl} (h : Solo k r c S) (hw : Wf m c S) (hg : Good k r) : ∃ f, Say c r (stOf c r (getS S k)) f := by
  cases e : getS S k with
  | none => exact ⟨0, Say.none (rule_is3 hg.rule) hg.ok hw.cu⟩
  | some s => obtain ⟨_, _, f, hf⟩ := h s (getS_some e).1; exact ⟨f, hf⟩
theorem Solo.tick {k : ByteArray} {r : Rl} {c c' : Int} {S : List Sl} (h : Solo k r c S) (hl : c ≤ c') : Solo k r c' (S.filter (actB c')) := fun s hs => by
  obtain ⟨h1, h2, f, hf⟩ := h s (List.mem_filter.1 hs).1
  exact ⟨h1, h2, _, hf.later hl⟩
theorem Solo.drop {k : ByteArray} {r : Rl} {c : Int} {S : List Sl} (h : Solo k r c S) : dropS S k r = S := by
  unfold dropS
  cases e : getS S k with
  | none => rfl
  | some s =>
    have := (h s (getS_some e).1).2.1
    simp [this]
theorem Solo.full {k : ByteArray} {r : Rl} {m c : Int} {S : List Sl} (h : Solo k r c S) (hm : 1 ≤ m) : fullB m S k = false := by
  unfold fullB
  cases e : getS S k with
  | some s => rfl
  | none =>
    have : S = [] := by
      match S, h, e with
      | [], _, _ => rfl
      | x :: l, h, e => exact absurd (h x (by simp)).1 (getS_none.1 e x (by simp))
    subst this
    simp; omega
/-- A charge of it. -/
theorem Solo.charge {k : ByteArray} {r : Rl} {m c n : Int} {S : List Sl} (h : Solo k r c S) (hw : Wf m c S) (hg : Good k r) (hn : U n) (hs : c + capR r ≤ 18446744073709551615) :
    chA m c S k r n = decA c r (stOf c r (getS S k)) n ∧ chN m c S k r n = decS c S k r (stOf c r (getS S k)) n ∧ Solo k r c (chN m c S k r n) := by
  have e1 : chA m c S k r n = decA c r (stOf c r (getS S k)) n := by unfold chA; rw [if_pos hg.wk, h.drop, h.full hw.m1]; rfl
  have e2 : chN m c S k r n = decS c S k r (stOf c r (getS S k)) n := by unfold chN; rw [if_pos hg.wk, h.drop, h.full hw.m1]; rfl
  refine ⟨e1, e2, ?_⟩
  rw [e2]
  obtain ⟨f, hf⟩ := h.st hw hg
  obtain ⟨_, _, a3⟩ := hf.charge hg.ok hw.cu hs hn
  unfold decS putS
  split
  · split
    · exact fun s hs => h s (offS_mem.1 hs).1
    · intro s hs
      rcases List.mem_cons.1 hs with rfl | hs
      · exact ⟨rfl, rfl, _, a3⟩
      · exact h s (offS_mem.1 hs).1
  · exact h
theorem decA_code {c : Int} {r : Rl} {s : St} {n : Int} : (decA c r s n).code = if stIn c r s n = true then 1 else 2 := rfl
end Go.Proofs.YtkfncanfgpmgaaaGreat.Wd
