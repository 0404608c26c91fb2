/- Plain facts on states of the three kernels: a state of any of them tells one FILL, now and later; what is decided hangs on the FILL alone; no conditions but those that each names. -/
import Derived.Test.YtodmjnbepfkibaaKerC
namespace Go.Proofs.Ytodmjnbepfkibaa.Wd
open Go.RowKit
set_option linter.unusedVariables false

theorem sat_id (x : Int) (h : x ≤ 18446744073709551615) : sat x = x := by unfold sat; split <;> omega
theorem sb_sb (a d e : Int) (hd : 0 ≤ d) (he : 0 ≤ e) : sbI (sbI a d) e = sbI a (d + e) := by
  unfold sbI; (repeat' split) <;> omega
theorem sb_here (a : Int) (ha : 0 ≤ a) : sbI a 0 = a := by unfold sbI; split <;> omega
/-- A number that is shifted down is a number. -/
theorem div_pow_U (a P : Int) (ha : U a) (hP : 1 ≤ P) : U (a / P) := by
  unfold U at *
  have h1 := Int.ediv_nonneg ha.1 (show 0 ≤ P by omega)
  have h2 := Int.ediv_le_self P ha.1
  omega

/-- From t0 on the state tells a FILL of f at t0, less what has passed. -/
def Tells (k a b cap t0 f : Int) : Prop := ∀ t, t0 ≤ t → U t → kfI k a b t cap = sbI f (t - t0)
def Is3 (k : Int) : Prop := k = 1 ∨ k = 2 ∨ k = 3
theorem Is3.isK {k : Int} (h : Is3 k) : isK k = true := by rcases h with rfl | rfl | rfl <;> rfl
theorem is3_mod (k : Int) (h : 0 ≤ k) : Is3 (1 + k % 3) := by unfold Is3; omega

theorem koA_U (k now cap f : Int) (hn : U now) (hc : U cap) (hf : U f) : U (koA k now cap f) := by
  unfold koA; split; exact sat_U _ (by unfold U at *; omega); split; exact sbI_U _ _ hc hf; split; exact hf; exact U_zero
theorem koB_U (k now : Int) (hn : U now) : U (koB k now) := by
  unfold koB; split; exact hn; split; exact hn; exact U_zero
theorem koK_is {k : Int} (h : Is3 k) : koK k = k := by unfold koK; rw [if_pos h.isK]
theorem koE_is {k : Int} (h : Is3 k) : koE k = 0 := by unfold koE; rw [if_pos h.isK]
theorem kmK_is {k to : Int} (h : Is3 k) (h' : Is3 to) : kmK k to = to := by unfold kmK; rw [if_pos h.isK, koK_is h']
theorem kmA_is {k : Int} (h : Is3 k) (a b to now cap : Int) : kmA k a b to now cap = koA to now cap (kfI k a b now cap) := by unfold kmA; rw [if_pos h.isK]
theorem kmB_is {k : Int} (h : Is3 k) (to now : Int) : kmB k to now = koB to now := by unfold kmB; rw [if_pos h.isK]
theorem kmE_is {k to : Int} (h : Is3 k) (h' : Is3 to) : kmE k to = 0 := by unfold kmE; rw [if_pos h.isK, koE_is h']

theorem tells_of {k : Int} (hk : Is3 k) (t0 cap f : Int) (h0 : 0 ≤ t0) (hf : 0 ≤ f) (hfc : f ≤ cap) (hs : t0 + f ≤ 18446744073709551615) : Tells k (koA k t0 cap f) (koB k t0) cap t0 f := by
  intro t ht hu
  unfold U at hu
  rcases hk with rfl | rfl | rfl
  · show sbI (sat (t0 + f)) t = _
    rw [sat_id _ hs]; unfold sbI; (repeat' split) <;> omega
  · show biI (sbI cap f) t0 t cap = _
    unfold biI tkI sbI; (repeat' split) <;> omega
  · show fiI f t0 t = _
    unfold fiI sbI; (repeat' split) <;> omega
theorem Tells.here {k a b cap t0 f : Int} (h : Tells k a b cap t0 f) (ht : U t0) (hf : 0 ≤ f) : kfI k a b t0 cap = f := by
  rw [h t0 (Int.le_refl _) ht]; unfold sbI; split <;> omega
theorem Tells.later {k a b cap t0 f : Int} (h : Tells k a b cap t0 f) {s : Int} (hs : t0 ≤ s) : Tells k a b cap s (sbI f (s - t0)) := by
  intro t ht hu
  rw [h t (by omega) hu, sb_sb _ _ _ (by omega) (by omega)]
  congr 1; omega

theorem kdB_is {k : Int} (hk : Is3 k) (a b now cap v : Int) : kdB k a b now cap v = ftB (kfI k a b now cap) v cap := by
  rcases hk with rfl | rfl | rfl
  · rfl
  · show bdB a b now cap v = ftB (biI a b now cap) v cap
    unfold bdB ftB biI; rw [Bool.eq_iff_iff]; simp only [decide_eq_true_eq]; omega
  · rfl
theorem kd_no {k : Int} (a b now cap v : Int) (h : kdB k a b now cap v = false) : kdK k a b now cap v = k ∧ kdA k a b now cap v = a ∧ kdT k a b now cap v = b := by
  unfold kdB at h; unfold kdK kdA kdT
  by_cases h1 : k = 1
  · subst h1; simp only [if_true] at h ⊢; unfold gdK gdA gdT; rw [h]; exact ⟨rfl, rfl, rfl⟩
  by_cases h2 : k = 2
  · subst h2; simp only [if_true, show ¬ (2 : Int) = 1 by omega, if_false] at h ⊢; unfold bdK bdA bdT; rw [h]; exact ⟨rfl, rfl, rfl⟩
  by_cases h3 : k = 3
  · subst h3; simp only [if_true, show ¬ (3 : Int) = 1 by omega, show ¬ (3 : Int) = 2 by omega, if_false] at h ⊢; unfold deK deA deT; rw [h]; exact ⟨rfl, rfl, rfl⟩
  simp [h1, h2, h3]
theorem kd_yes {k : Int} (hk : Is3 k) (a b now cap v : Int) (h : kdB k a b now cap v = true) : kdK k a b now cap v = k ∧ kdA k a b now cap v = (if k = 1 then sat (thI a now + v) else if k = 2 then tkI a b now cap - v else fiI a b now + v) ∧ kdT k a b now cap v = (if k = 1 then 0 else now) := by
  unfold kdB at h; unfold kdK kdA kdT
  rcases hk with rfl | rfl | rfl
  · simp only [if_true] at h ⊢; unfold gdK gdA gdT; rw [h]; exact ⟨rfl, rfl, rfl⟩
  · simp only [if_true, show ¬ (2 : Int) = 1 by omega, if_false] at h ⊢; unfold bdK bdA bdT; rw [h]; exact ⟨rfl, rfl, rfl⟩
  · simp only [if_true, show ¬ (3 : Int) = 1 by omega, show ¬ (3 : Int) = 2 by omega, if_false] at h ⊢; unfold deK deA deT; rw [h]; exact ⟨rfl, rfl, rfl⟩

/-- What is decided, and what is told then. -/
theorem Tells.decide {k a b cap t0 f : Int} (h : Tells k a b cap t0 f) (hk : Is3 k) (ha : U a) (hb : U b) (hc : U cap) (ht : U t0) (v : Int) (hv : U v) (hf : 0 ≤ f) (hs : t0 + cap ≤ 18446744073709551615) :
    kdB k a b t0 cap v = ftB f v cap ∧ kdK k a b t0 cap v = k ∧ U (kdA k a b t0 cap v) ∧ U (kdT k a b t0 cap v) ∧ Tells k (kdA k a b t0 cap v) (kdT k a b t0 cap v) cap t0 (if ftB f v cap = true then f + v else f) := by
  have e := h.here ht hf
  have e1 := kdB_is hk a b t0 cap v
  rw [e] at e1
  refine ⟨e1, ?_⟩
  cases c : ftB f v cap
  · rw [c] at e1
    obtain ⟨k1, k2, k3⟩ := kd_no a b t0 cap v e1
    rw [k1, k2, k3]
    exact ⟨rfl, ha, hb, h⟩
  · rw [c] at e1
    obtain ⟨k1, k2, k3⟩ := kd_yes hk a b t0 cap v e1
    rw [k1, k2, k3]
    have c' : f + v ≤ cap := by unfold ftB at c; simpa using c
    unfold U at *
    refine ⟨rfl, ?_⟩
    rcases hk with rfl | rfl | rfl
    · simp only [if_true]
      have e2 : sbI a t0 = f := e
      have e3 : thI a t0 = t0 + f := by rw [thI_eq, e2]
      rw [e3, sat_id _ (by omega)]
      refine ⟨by omega, by omega, ?_⟩
      intro t h1 h2
      unfold U at h2
      show sbI (t0 + f + v) t = _
      unfold sbI; (repeat' split) <;> omega
    · simp only [if_true, show ¬ (2 : Int) = 1 by omega, if_false]
      have e2 : cap - tkI a b t0 cap = f := e
      refine ⟨by omega, by omega, ?_⟩
      intro t h1 h2
      unfold U at h2
      show biI (tkI a b t0 cap - v) t0 t cap = _
      have e3 : tkI a b t0 cap = cap - f := by omega
      rw [e3]
      unfold biI tkI sbI; (repeat' split) <;> omega
    · simp only [if_true, show ¬ (3 : Int) = 1 by omega, show ¬ (3 : Int) = 2 by omega, if_false]
      have e2 : fiI a b t0 = f := e
      rw [e2]
      refine ⟨by omega, by omega, ?_⟩
      intro t h1 h2
      unfold U at h2
      show fiI (f + v) t0 t = _
      unfold fiI sbI; (repeat' split) <;> omega
end Go.Proofs.Ytodmjnbepfkibaa.Wd
