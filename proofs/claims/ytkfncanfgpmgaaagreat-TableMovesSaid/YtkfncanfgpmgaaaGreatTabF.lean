/- A table in memory, by who is active: one is put in; what is kept of a key is in bounds; no conditions but those that each names. -/
import Derived.Test.YtkfncanfgpmgaaaGreatTabD
namespace Go.Proofs.YtkfncanfgpmgaaaGreat.Wd
open Go Go.RowKit Go.Shelf Go.Deep
set_option linter.unusedVariables false
set_option maxRecDepth 100000

/-- Who is there behind it: one in the place of who has its key, if it is not empty. -/
def putS (c : Int) (s : Sl) (S : List Sl) : List Sl := if flS c s = 0 then offS s.key S else s :: offS s.key S
theorem offS_map (k : ByteArray) (L : List (Sl × Int)) : (offL k L).map Prod.fst = offS k (L.map Prod.fst) := by
  unfold offL offS
  rw [List.filter_map]; rfl
theorem offS_mem {k : ByteArray} {S : List Sl} {s : Sl} : s ∈ offS k S ↔ s ∈ S ∧ s.key ≠ k := by unfold offS; simp [List.mem_filter]
theorem offS_no {k : ByteArray} {S : List Sl} (h : ∀ s ∈ S, s.key ≠ k) : offS k S = S := List.filter_eq_self.2 (fun s hs => by simpa using h s hs)
theorem offS_le (k : ByteArray) (S : List Sl) : (offS k S).length ≤ S.length := List.length_filter_le _ _
theorem offS_lt {k : ByteArray} : ∀ {S : List Sl} {s : Sl}, s ∈ S → s.key = k → (offS k S).length < S.length
  | [], _, h, _ => nomatch h
  | x :: xs, s, h, e => by
    by_cases z : x.key = k
    · have : offS k (x :: xs) = offS k xs := by unfold offS; rw [List.filter_cons_of_neg (by simp [z])]
      rw [this]
      have := offS_le k xs
      simp; omega
    · have hs : s ∈ xs := by
        rcases List.mem_cons.1 h with rfl | h
        · exact absurd e z
        · exact h
      have : offS k (x :: xs) = x :: offS k xs := by unfold offS; rw [List.filter_cons_of_pos (by simp [z])]
      rw [this]
      have := offS_lt hs e
      simp; omega
theorem offS_pw {k : ByteArray} {S : List Sl} (h : S.Pairwise (fun x y => x.key ≠ y.key)) : (offS k S).Pairwise (fun x y => x.key ≠ y.key) := h.sublist List.filter_sublist
theorem Wf.off {m c : Int} {S : List Sl} (h : Wf m c S) (k : ByteArray) : Wf m c (offS k S) :=
  ⟨h.m1, h.m2, h.cu, by have := offS_le k S; have := h.len; omega, fun s hs => h.ok s (offS_mem.1 hs).1, offS_pw h.ap⟩
theorem Wf.put {m c : Int} {S : List Sl} (h : Wf m c S) {s : Sl} (hs : Oks s) (hk : rtB (lb s.key) = true) (hr : ruE s.r.p s.r.e s.r.b s.r.k = 0) (h3 : Is3 s.k) (hl : ((offS s.key S).length : Int) < m) : Wf m c (putS c s S) := by
  unfold putS
  by_cases z : flS c s = 0
  · rw [if_pos z]; exact h.off _
  · rw [if_neg z]
    have hU := flS_U hs h.cu
    have ho := h.off s.key
    refine ⟨h.m1, h.m2, h.cu, by simp; omega, fun t ht => ?_, List.pairwise_cons.2 ⟨fun t ht e => (offS_mem.1 ht).2 e.symm, ho.ap⟩⟩
    rcases List.mem_cons.1 ht with rfl | ht
    · exact ⟨hs, hk, hr, h3, by unfold U at hU; omega⟩
    · exact ho.ok t ht
/-- A key is lost. -/
theorem lose_tab (T : Nat) (B : Nat → Prop) (m c : Int) (S : List Sl) (k : ByteArray) (w : World) (h : Tbl w T B m c S) (hs : k.size ≤ 9223372036854775807) :
    Calls Tryz.prog 42 #[ptr T, .string k] w fun e w' => e = .returned (.tuple #[]) ∧ Tbl w' T B m c (offS k S) ∧ Tch B w w' := by
  obtain ⟨L, h1, h2, h3, h4⟩ := h
  refine (lose_L T B m c L k w h1 hs).mono ?_
  rintro e w' ⟨rfl, g1, g2⟩
  exact ⟨rfl, ⟨_, g1, by rw [offS_map]; exact h2.filter _, fun x hx => h3 x (offL_mem.1 hx).1, h4.off k⟩, g2⟩
/-- One is put in. -/
theorem put_tab (T : Nat) (B : Nat → Prop) (m c : Int) (S : List Sl) (s : Sl) (w : World) (h : Tbl w T B m c S) (hs : Oks s) (hk : rtB (lb s.key) = true) (hr : ruE s.r.p s.r.e s.r.b s.r.k = 0) (h3 : Is3 s.k) (hl : ((offS s.key S).length : Int) < m) :
    Calls Tryz.prog 61 #[ptr T, s.v] w fun e w' => e = .returned (.tuple #[]) ∧ Tch B w w' ∧ Tbl w' T (Nx B w) m c (putS c s S) := by
  have hw := h.wf
  obtain ⟨L, h1, h2, h4, h5⟩ := h
  have hp : (offL s.key L).map Prod.fst |>.Perm (offS s.key S) := by rw [offS_map]; exact h2.filter _
  have hle : (offL s.key L).length = (offS s.key S).length := by rw [← hp.length_eq, List.length_map]
  refine (put_L T B m c L s w h1 hs hw.cu (by have := hw.m2; omega)).mono ?_
  rintro e w' ⟨rfl, g1, g2⟩
  refine ⟨rfl, g2, putL c s L, g1, ?_, ?_, hw.put hs hk hr h3 hl⟩
  · unfold putL putS
    have hz := dueS_zero hs hw.cu
    by_cases z : dueS c s = 0
    · rw [if_pos z, if_pos (hz.1 z)]; exact hp
    · rw [if_neg z, if_neg (fun e => z (hz.2 e)), List.map_cons]; exact hp.cons s
  · intro x hx
    unfold putL at hx
    have hz := dueS_zero hs hw.cu
    have hU := flS_U hs hw.cu
    by_cases z : dueS c s = 0
    · rw [if_pos z] at hx; exact h4 x (offL_mem.1 hx).1
    · rw [if_neg z] at hx
      rcases List.mem_cons.1 hx with rfl | hx
      · have hne : flS c s ≠ 0 := fun e => z (hz.2 e)
        unfold U at hU
        exact dueS_ok hs h3 hw.cu (by omega)
      · exact h4 x (offL_mem.1 hx).1

/-- Whether it comes in, and what is kept then. -/
abbrev wI (r : Rl) (n : Int) : Int := sat (n * r.e)
def stIn (c : Int) (r : Rl) (s : St) (n : Int) : Bool := kdB s.k s.a s.b c (capR r) (wI r n)
def stNx (c : Int) (r : Rl) (s : St) (n : Int) : St := ⟨kdK s.k s.a s.b c (capR r) (wI r n), kdA s.k s.a s.b c (capR r) (wI r n), kdT s.k s.a s.b c (capR r) (wI r n)⟩
/-- A state that may be. -/
structure OkSt (s : St) : Prop where
  k : Is3 s.k
  a : U s.a
  b : U s.b
theorem kd_ok (k a b now cap v : Int) (hk : Is3 k) (ha : U a) (hb : U b) (hn : U now) (hc : U cap) (hv : U v) : kdK k a b now cap v = k ∧ U (kdA k a b now cap v) ∧ U (kdT k a b now cap v) := by
  cases h : kdB k a b now cap v with
  | false => obtain ⟨h1, h2, h3⟩ := kd_no a b now cap v h; rw [h1, h2, h3]; exact ⟨rfl, ha, hb⟩
  | true =>
    obtain ⟨h1, h2, h3⟩ := kd_yes hk a b now cap v h
    rw [h1, h2, h3]
    refine ⟨rfl, ?_, by split; exact U_zero; exact hn⟩
    rcases hk with rfl | rfl | rfl
    · simp only [if_true]
      refine sat_U _ ?_
      have := thI_U a now ha hn
      unfold U at *; omega
    · have h' : bdB a b now cap v = true := h
      unfold bdB at h'
      simp only [decide_eq_true_eq] at h'
      have := tkI_U a b now cap ha hb hn hc
      simp only [show ¬ (2 : Int) = 1 by omega, if_false, if_true]
      unfold U at *; omega
    · have h' : deB a b now cap v = true := h
      unfold deB ftB at h'
      simp only [decide_eq_true_eq] at h'
      have := fiI_U a b now ha hb hn
      simp only [show ¬ (3 : Int) = 1 by omega, show ¬ (3 : Int) = 2 by omega, if_false]
      unfold U at *; omega
theorem wI_U {r : Rl} {n : Int} (hr : Okr r) (hn : U n) : U (wI r n) := sat_U _ (Int.mul_nonneg hn.1 hr.e.1)
theorem OkSt.next {c n : Int} {r : Rl} {s : St} (h : OkSt s) (hc : U c) (hr : Okr r) (hn : U n) : OkSt (stNx c r s n) ∧ (stNx c r s n).k = s.k := by
  obtain ⟨h1, h2, h3⟩ := kd_ok s.k s.a s.b c (capR r) (wI r n) h.k h.a h.b hc (capR_U hr) (wI_U hr hn)
  exact ⟨⟨by show Is3 (kdK _ _ _ _ _ _); rw [h1]; exact h.k, h2, h3⟩, h1⟩
theorem rule_is3 {r : Rl} (h : ruE r.p r.e r.b r.k = 0) : Is3 r.k := by
  rw [ru_is] at h
  repeat' split at h
  all_goals first | cases h | skip
  rename_i hk
  have := isK_yes r.k (by simpa using hk)
  exact this
theorem stOf_ok {m c : Int} {S : List Sl} {k : ByteArray} {r : Rl} (h : Wf m c S) (hr : Okr r) (h0 : ruE r.p r.e r.b r.k = 0) : OkSt (stOf c r (getS S k)) := by
  cases e : getS S k with
  | none => exact ⟨by show Is3 (koK r.k); rw [koK_is (rule_is3 h0)]; exact rule_is3 h0, koA_U _ _ _ _ h.cu (capR_U hr) U_zero, koB_U _ _ h.cu⟩
  | some s =>
    have := h.ok s (getS_some e).1
    exact ⟨this.kind, this.oks.a, this.oks.b⟩
end Go.Proofs.YtkfncanfgpmgaaaGreat.Wd
