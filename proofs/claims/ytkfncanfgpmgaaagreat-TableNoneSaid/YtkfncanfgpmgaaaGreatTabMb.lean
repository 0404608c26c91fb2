/- TableMost: plain; no conditions but those that each names. -/
import Derived.Test.YtkfncanfgpmgaaaGreatTabMa
import Derived.Test.YtkfncanfgpmgaaaGreatTabOa
namespace Go.Proofs.YtkfncanfgpmgaaaGreat.Wd
open Go Go.RowKit Go.Deep Go.Shelf
set_option linter.unusedVariables false
set_option maxRecDepth 100000

theorem dropS_sub {S : List Sl} {k : ByteArray} {r : Rl} {s : Sl} (h : s ∈ dropS S k r) : s ∈ S := by
  unfold dropS at h
  split at h
  · split at h
    · exact h
    · exact (offS_mem.1 h).1
  · exact h
theorem hasK_get (S : List Sl) (k : ByteArray) : hasK S k = true ↔ getS S k ≠ none := by
  unfold hasK
  rw [List.any_eq_true]
  constructor
  · rintro ⟨x, hx, e⟩ hn
    exact getS_none.1 hn x hx (by simpa using e)
  · intro h
    cases e : getS S k with
    | none => exact absurd e h
    | some s => exact ⟨s, (getS_some e).1, by simpa using (getS_some e).2⟩
theorem hasK_told {S xs : List Sl} (h : Told S xs) (k : ByteArray) : hasK xs k = hasK S k := by
  rw [Bool.eq_iff_iff]
  unfold hasK
  rw [List.any_eq_true, List.any_eq_true]
  exact ⟨fun ⟨x, hx, e⟩ => ⟨x, (h.mem x).1 hx, e⟩, fun ⟨x, hx, e⟩ => ⟨x, (h.mem x).2 hx, e⟩⟩
/-- Who is turned away for want of a place. -/
theorem code3 {m c n : Int} {S : List Sl} {k : ByteArray} {r : Rl} (hw : Wf m c S) (h0 : wkE k r = 0) : (chA m c S k r n).code = 3 ↔ (hasK S k = false ∧ m ≤ (S.length : Int)) := by
  have hg := hasK_get S k
  unfold chA
  rw [if_pos h0]
  have hd : ∀ st, (decA c r st n).code ≠ 3 := by intro st; unfold decA; dsimp only; split <;> decide
  cases e : getS S k with
  | none =>
    have hk : hasK S k = false := by rw [← Bool.not_eq_true]; intro x; exact hg.1 x e
    have hdr : dropS S k r = S := by unfold dropS; rw [e]
    rw [hdr]
    unfold fullB
    rw [e, hk]
    by_cases hl : m ≤ (S.length : Int)
    · simp [hl]
    · simp only [Option.isNone_none, Bool.true_and, decide_eq_true_eq, hl, if_false, and_false, iff_false]
      exact hd _
  | some s =>
    have hk : hasK S k = true := hg.2 (by rw [e]; simp)
    have hf : ¬ fullB m (dropS S k r) k = true := by
      unfold fullB dropS
      rw [e]
      dsimp only
      split
      · rw [e]; simp
      · have := offS_lt (getS_some e).1 (getS_some e).2
        have := hw.len
        simp; omega
    rw [if_neg hf, hk]
    simp only [Bool.true_eq_false, false_and, iff_false]
    exact hd _
/-- What is kept of all: by the first kernel, and of no later time than so. -/
def Inm (c : Int) (S : List Sl) : Prop := ∀ s ∈ S, s.k = 1 ∧ s.a ≤ c + 2000
theorem sat_le (x : Int) : sat x ≤ x := by unfold sat; split <;> omega
theorem Inm.charge {m c n : Int} {S : List Sl} {k : ByteArray} {r : Rl} (h : Inm c S) (hr : r.k = 1) (hc : capR r ≤ 2000) : Inm c (chN m c S k r n) := by
  unfold chN
  split
  · split
    · exact fun s hs => h s (dropS_sub hs)
    · have hst : ∀ st, stOf c r (getS (dropS S k r) k) = st → st.k = 1 := by
        intro st e
        cases eg : getS (dropS S k r) k with
        | none => rw [eg] at e; subst e; show koK r.k = 1; rw [hr]; rfl
        | some s => rw [eg] at e; subst e; exact (h s (dropS_sub (getS_some eg).1)).1
      have hst := hst _ rfl
      generalize stOf c r (getS (dropS S k r) k) = st at *
      unfold decS
      split
      · rename_i hin
        unfold putS
        have hall : ∀ s ∈ offS (slOf k r (stNx c r st n)).key (dropS S k r), s.k = 1 ∧ s.a ≤ c + 2000 := fun s hs => h s (dropS_sub (offS_mem.1 hs).1)
        split
        · exact hall
        · intro s hs
          rcases List.mem_cons.1 hs with rfl | hs
          · have hin : kdB st.k st.a st.b c (capR r) (wI r n) = true := hin
            rw [hst] at hin
            have h3 : Is3 1 := .inl rfl
            have hy := kd_yes h3 st.a st.b c (capR r) (wI r n) hin
            have hf := kdB_is h3 st.a st.b c (capR r) (wI r n)
            rw [hin] at hf
            have hf : sbI st.a c + wI r n ≤ capR r := by
              have : ftB (sbI st.a c) (wI r n) (capR r) = true := hf.symm
              unfold ftB at this; simpa using this
            refine ⟨?_, ?_⟩
            · show kdK st.k st.a st.b c (capR r) (wI r n) = 1
              rw [hst]; exact hy.1
            · show kdA st.k st.a st.b c (capR r) (wI r n) ≤ c + 2000
              rw [hst, hy.2.1, if_pos rfl]
              have := sat_le (thI st.a c + wI r n)
              have := thI_sub st.a c
              omega
          · exact hall s hs
      · exact fun s hs => h s (dropS_sub hs)
  · exact h
theorem Inm.tick {c c' : Int} {S : List Sl} (h : Inm c S) (hc : c ≤ c') : Inm c' (S.filter (actB c')) := fun s hs => by
  have := h s (List.mem_filter.1 hs).1
  exact ⟨this.1, by omega⟩
theorem Inm.gone {c : Int} {S : List Sl} (h : Inm c S) : S.filter (actB (c + 1000000)) = [] := by
  rw [List.filter_eq_nil_iff]
  intro s hs
  have := h s hs
  unfold actB flS
  rw [this.1]
  have e : kfI 1 s.a s.b (c + 1000000) (capS s) = sbI s.a (c + 1000000) := rfl
  rw [e]
  unfold sbI
  simp only [decide_eq_true_eq]
  split <;> omega
theorem last_code (m c : Int) (h1 : 1 ≤ m) (hc : 0 ≤ c) (hc2 : c ≤ 4611686018427387904) : (chA m c [] ⟨#[110, 101, 119]⟩ (ruleK 0) 1).code = 1 := by
  have h0 : wkE ⟨#[110, 101, 119]⟩ (ruleK 0) = 0 := by kernel_rfl
  have hin : stIn c (ruleK 0) (stOf c (ruleK 0) none) 1 = true := by
    show kdB 1 (sat (c + 0)) 0 c 30 10 = true
    rw [kdB_is (.inl rfl)]
    show ftB (sbI (sat (c + 0)) c) 10 30 = true
    rw [sat_id _ (by omega)]
    unfold ftB sbI
    simp only [decide_eq_true_eq]
    split <;> omega
  unfold chA
  rw [if_pos h0]
  have hd : dropS [] ⟨#[110, 101, 119]⟩ (ruleK 0) = [] := rfl
  rw [hd]
  have hf : ¬ fullB m [] ⟨#[110, 101, 119]⟩ = true := by unfold fullB; simp; omega
  rw [if_neg hf]
  show (decA c (ruleK 0) (stOf c (ruleK 0) none) 1).code = 1
  unfold decA
  rw [hin]; rfl
theorem rule2 (k : Int) (h : 0 ≤ k ∧ k ≤ 1) : (ruleK k).k = 1 ∧ capR (ruleK k) ≤ 2000 := by
  have : k = 0 ∨ k = 1 := by omega
  rcases this with rfl | rfl
  · exact ⟨by kernel_rfl, by show (30 : Int) ≤ 2000; decide⟩
  · exact ⟨by kernel_rfl, by show (2000 : Int) ≤ 2000; decide⟩
end Go.Proofs.YtkfncanfgpmgaaaGreat.Wd
