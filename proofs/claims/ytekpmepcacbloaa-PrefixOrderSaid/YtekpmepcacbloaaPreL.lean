/- Plain facts for the laws: what a policy of choices is found to have; no conditions but those that each names. -/
import Derived.Test.YtekpmepcacbloaaPreP
import Derived.Test.YtekpmepcacbloaaPreT
namespace Go.Proofs.Ytekpmepcacbloaa.Wd
open Go Go.RowKit
set_option linter.unusedVariables false

theorem polr_p {m : Int} {rs : List Rl} (h : Polr m rs) (i : Nat) : (fnOf rs i).p.size ≤ 12 := by
  by_cases c : i < rs.length
  · rcases (h.own _ (fn_mem c)).2 with g | g
    · omega
    · exact g.1.2
  · rw [fn_out (by omega)]; decide
theorem polr_ok {m : Int} {rs : List Rl} (h : Polr m rs) : ∀ r ∈ rs, Okr r := fun r hr => (h.own r hr).okr
theorem polr_len {m : Int} {rs : List Rl} (h : Polr m rs) : 0 < rs.length := by
  obtain ⟨k, rest, e⟩ := h.hd
  rw [e]; simp
theorem hs_none (K : ByteArray) : hsK K ⟨#[]⟩ = true := by rw [hsK_iff]; exact List.nil_prefix
theorem polr_find {m : Int} {rs : List Rl} (h : Polr m rs) (K : ByteArray) : ∃ j, findR rs K = some (fnOf rs j) ∧ Best rs K rs.length j := by
  rcases find_ways rs K with ⟨_, g⟩ | g
  · obtain ⟨k, rest, e⟩ := h.hd
    have := g ⟨nob, 1000, 5, k⟩ (by rw [e]; exact List.mem_cons_self)
    rw [hs_none] at this; cases this
  · exact g
theorem polr_same {m : Int} {rs : List Rl} (h : Polr m rs) {i j : Nat} (hi : i < rs.length) (hj : j < rs.length) (e : (fnOf rs i).p = (fnOf rs j).p) : i = j := by
  have nd := h.nd
  rw [List.Nodup, List.pairwise_iff_getElem] at nd
  rw [fn_at hi, fn_at hj] at e
  rcases Nat.lt_trichotomy i j with g | g | g
  · exact absurd (by rw [List.getElem_map, List.getElem_map]; exact e) (nd i j (by simpa using hi) (by simpa using hj) g)
  · exact g
  · exact absurd (by rw [List.getElem_map, List.getElem_map]; exact e.symm) (nd j i (by simpa using hj) (by simpa using hi) g)
theorem two_pre {a b K : ByteArray} (h : lb a <+: lb K) (g : lb b <+: lb K) (e : a.size = b.size) : a = b := by
  obtain ⟨s, hs⟩ := h
  obtain ⟨t, ht⟩ := g
  refine lb_inj ?_
  have h1 : lb a = (lb K).take a.size := by rw [← hs, ← lb_len, List.take_left]
  have h2 : lb b = (lb K).take b.size := by rw [← ht, ← lb_len, List.take_left]
  rw [h1, h2, e]
theorem lb_app (a b : ByteArray) : lb (a ++ b) = lb a ++ lb b := by simp [lb]
theorem hs_self (K : ByteArray) : hsK K K = true := by rw [hsK_iff]; exact List.prefix_rfl
/-- What is found of a prefix that is there is its rule. -/
theorem find_own {m : Int} {rs : List Rl} (h : Polr m rs) {i : Nat} (hi : i < rs.length) : findR rs (fnOf rs i).p = some (fnOf rs i) := by
  obtain ⟨j, e, B⟩ := polr_find h (fnOf rs i).p
  have h1 := B.most i hi (hs_self _)
  have h2 := (hsK_iff _ _).1 B.has
  have h3 := pre_size h2
  have := polr_same h B.lt hi (two_pre h2 ((hsK_iff _ _).1 (hs_self (fnOf rs i).p)) (by omega))
  rw [e, this]
/-- Whatever stands behind. -/
theorem find_behind {m : Int} {rs : List Rl} (h : Polr m rs) (K M : ByteArray) :
    ∃ a b, findR rs K = some a ∧ findR rs (K ++ M) = some b ∧ findR rs a.p = some a ∧ a.p.size ≤ b.p.size ∧ (K.size < b.p.size ∨ b = a) ∧ a.p.size ≤ 12 ∧ b.p.size ≤ 12 := by
  obtain ⟨i, e1, B1⟩ := polr_find h K
  obtain ⟨j, e2, B2⟩ := polr_find h (K ++ M)
  have h1 := (hsK_iff _ _).1 B1.has
  have h2 := (hsK_iff _ _).1 B2.has
  have h3 : lb (fnOf rs i).p <+: lb (K ++ M) := by rw [lb_app]; exact h1.trans (List.prefix_append _ _)
  have h4 := B2.most i B1.lt ((hsK_iff _ _).2 h3)
  refine ⟨_, _, e1, e2, find_own h B1.lt, h4, ?_, polr_p h i, polr_p h j⟩
  by_cases c : K.size < (fnOf rs j).p.size
  · exact .inl c
  · right
    have h5 : lb (fnOf rs j).p <+: lb K := by
      rw [lb_app] at h2
      refine List.prefix_of_prefix_length_le h2 (List.prefix_append _ _) ?_
      rw [lb_len, lb_len]; omega
    have h6 := B1.most j B2.lt ((hsK_iff _ _).2 h5)
    rw [polr_same h B2.lt B1.lt (two_pre h5 h1 (by omega))]

/-! ### How many prefixes -/
theorem fst_take_none {m : Int} {rs : List Rl} (h : Polr m rs) {k : Nat} (hk : k < rs.length) : fstR (rs.take k) (lb (fnOf rs k).p) = none := by
  cases e : fstR (rs.take k) (lb (fnOf rs k).p) with
  | none => rfl
  | some x =>
    obtain ⟨j, hj, e1, e2, _⟩ := fst_some e
    rw [List.length_take] at hj
    rw [fn_take (by omega)] at e1
    have := polr_same h (i := j) (j := k) (by omega) hk (lb_inj (by rw [e1]; exact e2))
    omega
theorem cnt_polr {m : Int} {rs : List Rl} (h : Polr m rs) : ∀ k, k ≤ rs.length → cntT rs k = k
  | 0, _ => rfl
  | k + 1, hk => by
    rw [cntT, cnt_polr h k (by omega), fst_take_none h (by omega)]; rfl
theorem cnt_app (a b : List Rl) : ∀ k, k ≤ a.length → cntT (a ++ b) k = cntT a k
  | 0, _ => rfl
  | k + 1, hk => by
    have e1 : fnOf (a ++ b) k = fnOf a k := by simp [fnOf, List.getD_eq_getElem?_getD, List.getElem?_append_left (show k < a.length by omega)]
    have e2 : (a ++ b).take k = a.take k := by rw [List.take_append_of_le_length (by omega)]
    rw [cntT, cntT, cnt_app a b k (by omega), e1, e2]
theorem fn_last (a : List Rl) (x : Rl) : fnOf (a ++ [x]) a.length = x := by simp [fnOf, List.getD_eq_getElem?_getD]
theorem fn_left (a b : List Rl) {k : Nat} (h : k < a.length) : fnOf (a ++ b) k = fnOf a k := by simp [fnOf, List.getD_eq_getElem?_getD, List.getElem?_append_left h]
theorem cnt_more {m : Int} {rs : List Rl} (h : Polr m rs) (x : Rl) : cntT (rs ++ [x]) (rs ++ [x]).length = rs.length + (if (fstR rs (lb x.p)).isNone then 1 else 0) := by
  rw [List.length_append]
  show cntT (rs ++ [x]) (rs.length + 1) = _
  rw [cntT, cnt_app rs [x] _ (Nat.le_refl _), cnt_polr h _ (Nat.le_refl _), fn_last, List.take_left]
theorem fst_of_mem {rs : List Rl} {p : List UInt8} {i : Nat} (hi : i < rs.length) (e : lb (fnOf rs i).p = p) : (fstR rs p).isNone = false := by
  cases h : fstR rs p with
  | some _ => rfl
  | none => exact absurd e (fst_none h _ (fn_mem hi))
/-! ### One more of a prefix that is there -/
theorem find_first {m : Int} {rs : List Rl} (h : Polr m rs) {i : Nat} (hi : i < rs.length) (x : Rl) (hx : x.p = (fnOf rs i).p) : findR (rs ++ [x]) (fnOf rs i).p = some (fnOf rs i) ∧ cntT (rs ++ [x]) (rs ++ [x]).length = rs.length := by
  have hl : (rs ++ [x]).length = rs.length + 1 := by simp
  constructor
  · rw [← fn_left rs [x] hi]
    refine find_best ⟨by rw [hl]; omega, hs_self _, fun j hj hk => ?_, fun j hj hk => ?_⟩
    · exact pre_size ((hsK_iff _ _).1 hk)
    · have h1 := pre_size ((hsK_iff _ _).1 hk)
      rw [fn_left rs [x] hi, fn_left rs [x] (by omega)] at h1 hk ⊢
      by_cases c : (fnOf rs j).p.size = (fnOf rs i).p.size
      · have := polr_same h (i := j) (j := i) (by omega) hi (two_pre ((hsK_iff _ _).1 hk) ((hsK_iff _ _).1 (hs_self _)) c)
        omega
      · omega
  · rw [cnt_more h x, fst_of_mem hi (by rw [hx])]; rfl
theorem find_nob {m : Int} {rs : List Rl} (h : Polr m rs) : findR (rs.drop 1) ⟨#[]⟩ = none := by
  refine find_none (fun r hr => ?_)
  rw [← Bool.not_eq_true, hsK_iff]
  intro g
  have hz : r.p.size = 0 := Nat.le_zero.1 (pre_size g)
  obtain ⟨i, hi, e⟩ := List.getElem_of_mem hr
  rw [List.length_drop] at hi
  rw [List.getElem_drop] at e
  obtain ⟨k, rest, e2⟩ := h.hd
  have h0 : (fnOf rs 0).p = nob := by rw [e2]; rfl
  have h1 : (fnOf rs (1 + i)).p = nob := by
    rw [fn_at (by omega), e]
    exact lb_inj (List.eq_nil_of_length_eq_zero (by rw [lb_len]; exact hz))
  have := polr_same h (i := 1 + i) (j := 0) (by omega) (by omega) (by rw [h0, h1])
  omega
theorem find_bare (K : ByteArray) : findR [] K = none := rfl
end Go.Proofs.Ytekpmepcacbloaa.Wd
