/- Plain: an entry in its place; parts of rows of entries; no conditions but those that each names. -/
import Derived.Test.YtbejkcdaefkibaaPacK
namespace Go.Proofs.Ytbejkcdaefkibaa.Wd
open Go Go.RowKit Go.Shelf Go.Deep Go.Lib
set_option linter.unusedVariables false
set_option maxRecDepth 100000

theorem short_rt {s : ByteArray} (h : Short s) : rtB (lb s) = true := by
  unfold rtB
  rw [list_size, h.2, decide_eq_true ⟨h.1.1, by have := h.1.2; omega⟩]; rfl
/-- What a snapshot of choices has. -/
structure Okx (k : Nat) (xs : List En) : Prop where
  up : up [] xs = true
  len : xs.length ≤ k
  sz : ∀ x ∈ xs, x.1.size ≤ 12 ∧ x.2 < 18446744073709551616
theorem wgt_12 : ∀ (xs : List En), (∀ x ∈ xs, x.1.size ≤ 12 ∧ x.2 < 18446744073709551616) → wgt xs ≤ 21 * xs.length
  | [], _ => Nat.le_refl _
  | x :: xs, h => by
    have h1 := (h x (List.mem_cons_self ..)).1
    have h2 := wgt_12 xs (fun y hy => h y (List.mem_cons_of_mem _ hy))
    rw [wgt, List.length_cons]; omega
theorem Okx.wgt {k : Nat} {xs : List En} (h : Okx k xs) (hk : k ≤ 10) : wgt xs ≤ 210 := by
  have := wgt_12 xs h.sz
  have := h.len; omega
theorem up_ins : ∀ (j : Nat) (xs : List En) (ah : List UInt8) (x : En), up ah xs = true → rtB (lb x.1) = true → ls ah (lb x.1) = true → j ≤ xs.length → (∀ i, i < j → ls (lb (atE xs i).1) (lb x.1) = true) → (j < xs.length → ls (lb x.1) (lb (atE xs j).1) = true) → up ah (xs.take j ++ x :: xs.drop j) = true
  | 0, xs, ah, x, h, hr, ha, _, _, hb => by
    cases xs with
    | nil => simp only [List.take_nil, List.drop_nil, List.nil_append, up, hr, ha, Bool.and_self]
    | cons y r =>
      have h' := h
      simp only [up, Bool.and_eq_true] at h'
      have := hb (by simp)
      simp only [atE, List.getD_cons_zero] at this
      simp only [List.take_zero, List.drop_zero, List.nil_append, up, hr, ha, h'.1, this, h'.2.2, Bool.and_self]
  | j + 1, xs, ah, x, h, hr, ha, hj, hl, hb => by
    cases xs with
    | nil => simp at hj
    | cons y r =>
      simp only [up, Bool.and_eq_true] at h
      have h0 := hl 0 (by omega)
      simp only [atE, List.getD_cons_zero] at h0
      have ih := up_ins j r (lb y.1) x h.2.2 hr h0 (by simpa using hj) (fun i hi => by have := hl (i + 1) (by omega); simpa [atE] using this) (fun hlt => by have := hb (by simpa using hlt); simpa [atE] using this)
      simp only [List.take_succ_cons, List.drop_succ_cons, List.cons_append, up, h.1, h.2.1, ih, Bool.and_self]
theorem Okx.ins {k j : Nat} {xs : List En} {x : En} (h : Okx k xs) (hx : Short x.1) (hu : x.2 < 18446744073709551616) (hj : j ≤ xs.length) (hl : ∀ i, i < j → ls (lb (atE xs i).1) (lb x.1) = true) (hb : j < xs.length → ls (lb (atE xs j).1) (lb x.1) = false ∧ (atE xs j).1 ≠ x.1) : Okx (k + 1) (xs.take j ++ [x] ++ xs.drop j) := by
  have hr := short_rt hx
  refine ⟨?_, ?_, ?_⟩
  · rw [List.append_assoc, List.singleton_append]
    refine up_ins j xs [] x h.up hr (ls_none (rt_ne hr).1) hj hl (fun hlt => ?_)
    obtain ⟨h1, h2⟩ := hb hlt
    have t := ls_total (lb (atE xs j).1) (lb x.1)
    rw [h1, Bool.false_or] at t
    rw [t]
    have hne : lb (atE xs j).1 ≠ lb x.1 := fun e => h2 (by rw [← str_lb (atE xs j).1, e, str_lb])
    rw [beq_eq_false_iff_ne.2 hne]; rfl
  · have := h.len
    simp; omega
  · intro y hy
    simp only [List.mem_append, List.mem_singleton] at hy
    rcases hy with (hy | rfl) | hy
    · exact h.sz y (List.mem_of_mem_take hy)
    · exact ⟨hx.1.2, hu⟩
    · exact h.sz y (List.mem_of_mem_drop hy)
theorem Okx.nil : Okx 0 [] := ⟨rfl, Nat.le_refl _, fun x hx => nomatch hx⟩
theorem Okx.next {k : Nat} {xs : List En} (h : Okx k xs) : Okx (k + 1) xs := ⟨h.up, by have := h.len; omega, h.sz⟩
theorem OwE.form2 {w : World} {base : Nat} {v : Value} {xs : List En} (h : OwE w base v xs) : ∃ A cap, v = .slice A xs.length cap ∧ xs.length ≤ cap ∧ cap ≤ 9223372036854775807 ∧ Ens w A xs.length xs ∧ (A = none → cap = 0) ∧ (∀ ad, A = some ad → ad.spot = none) := by
  rcases h.2 with ⟨rfl, h0⟩ | ⟨g, cap, cur, rfl, hb, hgg, h1, h2, h3, h4⟩
  · exact ⟨none, 0, by rw [h0], by omega, by omega, ⟨rfl, fun hp => by omega⟩, fun _ => rfl, fun ad e => by cases e⟩
  · obtain ⟨A, c, e, _, _, h5, _⟩ := h.form
    simp only [Value.slice.injEq] at e
    obtain ⟨rfl, _, rfl⟩ := e
    exact ⟨_, _, rfl, h1, h2, h5, (fun e => by cases e), fun ad e => by cases e; rfl⟩
theorem eslice_front (A : Option Addr) (n cap i : Nat) (hi : i ≤ cap) (hcap : cap ≤ 9223372036854775807) (W : World) : (Instr.slice Tens (.slice A n cap) none (some (.int .i64 (i : Int))) none).run Try.prog W = .ok (.slice A i cap) W := by
  obtain ⟨i0, hz, hz0, hz1, hz2⟩ := info_parts zeroAe
  simp [go_sem, Try.underlying23, sizeOf, typeInfo, hz, hz1, hi]
theorem eslice_rest (A : Option Addr) (n cap i : Nat) (hi : i ≤ n) (hn : n ≤ cap) (h0 : A = none → cap = 0) : ∃ A', (∀ W : World, (Instr.slice Tens (.slice A n cap) (some (.int .i64 (i : Int))) none none).run Try.prog W = .ok (.slice A' (n - i) (cap - i)) W) ∧
    (∀ (W : World) (l : List En), Ens W A n l → Ens W A' (n - i) (l.drop i)) ∧ (A' = none → cap - i = 0) ∧ ((∀ ad, A = some ad → ad.spot = none) → ∀ ad, A' = some ad → ad.spot = none) := by
  obtain ⟨i0, hz, hz0, hz1, hz2⟩ := info_parts zeroAe
  refine ⟨if cap = i then A else A.map (·.add (i * 2)), fun W => ?_, fun W l h => ?_, fun h => ?_, fun h ad e => ?_⟩
  · simp [go_sem, Try.underlying23, sizeOf, typeInfo, hz, hz1, hi, sliced]
  · refine ⟨by rw [List.length_drop, h.1], fun hp => ?_⟩
    obtain ⟨b, off, rfl, hb, hc⟩ := h.2 (by omega)
    rw [if_neg (by omega)]
    obtain ⟨b2, off2, e2, h2⟩ := (h.cut hi).2 hp
    simp only [Option.some.injEq, Addr.mk.injEq] at e2
    obtain ⟨rfl, rfl, _⟩ := e2
    exact ⟨b, off + i * 2, by simp [Go.WideShapes.add_plain], h2⟩
  · split at h
    · rw [h0 h]; simp
    · cases A with
      | none => rw [h0 rfl]; simp
      | some ad => simp at h
  · split at e
    · exact h ad e
    · cases A with
      | none => simp at e
      | some ad' =>
        have := h ad' rfl
        obtain ⟨b, off, sp⟩ := ad'
        simp at this
        subst this
        simp [Go.WideShapes.add_plain] at e
        rw [← e]
end Go.Proofs.Ytbejkcdaefkibaa.Wd
