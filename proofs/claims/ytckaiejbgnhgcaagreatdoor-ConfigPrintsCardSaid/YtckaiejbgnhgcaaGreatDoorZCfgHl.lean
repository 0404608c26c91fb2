/- A region whose last operation waits for all others: it may be walked with an idle operation in that place, the true one run behind all. -/
import Derived.Deep.RegionHeld3
import Derived.Handy
namespace Go.Proofs.YtckaiejbgnhgcaaGreatDoor.Wd
open Go Go.RowKit
set_option linter.unusedVariables false

/-- Every operation but number n is waited for by one behind it, and nobody waits for one behind himself. -/
def chained (ops : Array Oper) (n : Nat) : Bool :=
  (List.range ops.size).all (fun i => ((ops[i]?).map fun o => o.after.all fun e => !Region.binds .any e || decide (e.on < i)).getD false) &&
  (List.range n).all (fun i => (List.range (n + 1)).any fun j => decide (i < j) && ((ops[j]?).map fun o => o.after.any fun e => Region.binds .any e && (e.on == i)).getD false)

/-- What is asked behind the walk: the true last operation. -/
def Behind (P : Program) (ops : Array Oper) (n : Nat) (Q : Exit → Act → World → Prop) : Exit → Act → World → Prop
  | .normal, a, w => wpOp P ops Q n (Q .normal) a w
  | e, a, w => Q e a w

section
variable {P : Program} {ops : Array Oper} {n : Nat} {Q : Exit → Act → World → Prop} {o : Oper}

theorem behind_upon (x : Oper) (a : Act) (K : Act → World → Prop) (r : Result Next) : x.upon P a K (Behind P ops n Q) r = x.upon P a K Q r := by
  rcases r with ⟨v, w⟩ | ⟨v, w⟩
  · cases v <;> rfl
  · cases v <;> rfl

def idle (o : Oper) : Oper := { o with op := .move (.const (.bool true)) }

theorem idle_after (ops : Array Oper) (n : Nat) (o : Oper) (ho : ops[n]? = some o) (i : Nat) : ((ops.setIfInBounds n (idle o))[i]?).map (·.after) = (ops[i]?).map (·.after) := by
  by_cases h : n = i
  · subst h
    have hlt : n < ops.size := by
      rcases Nat.lt_or_ge n ops.size with h | h
      · exact h
      · rw [Array.getElem?_eq_none h] at ho; cases ho
    rw [Array.getElem?_setIfInBounds_self_of_lt hlt, ho]; rfl
  · rw [Array.getElem?_setIfInBounds_ne h]

theorem idle_dst (ops : Array Oper) (n : Nat) (o : Oper) (ho : ops[n]? = some o) (i : Nat) : ((ops.setIfInBounds n (idle o))[i]?).map (·.dst) = (ops[i]?).map (·.dst) := by
  by_cases h : n = i
  · subst h
    have hlt : n < ops.size := by
      rcases Nat.lt_or_ge n ops.size with h | h
      · exact h
      · rw [Array.getElem?_eq_none h] at ho; cases ho
    rw [Array.getElem?_setIfInBounds_self_of_lt hlt, ho]; rfl
  · rw [Array.getElem?_setIfInBounds_ne h]

theorem idle_ready (ho : ops[n]? = some o) (listed : Array Bool) : Region.ready .any (ops.setIfInBounds n (idle o)) listed = Region.ready .any ops listed := by
  unfold Region.ready
  rw [Array.size_setIfInBounds]
  refine List.filter_congr fun i _ => ?_
  have h := idle_after ops n o ho i
  congr 1
  have e : ∀ x : Option Oper, (x.map fun y => y.after.all fun e => !Region.binds .any e || listed.getD e.on false) = (x.map (·.after)).map fun s => s.all fun e => !Region.binds .any e || listed.getD e.on false := fun x => by cases x <;> rfl
  rw [e, e, h]

theorem idle_yielded (ho : ops[n]? = some o) (t : Array Value) : yielded (ops.setIfInBounds n (idle o)) t = yielded ops t := by
  funext j
  have h := idle_dst ops n o ho j
  have e : ∀ x : Option Oper, x.bind (·.dst) = (x.map (·.dst)).bind id := fun x => by cases x <;> rfl
  unfold yielded
  rw [e, e, h]

theorem behind_other (ho : ops[n]? = some o) {i : Nat} (hi : n ≠ i) {K : Act → World → Prop} {a : Act} {w : World} (h : wpOp P (ops.setIfInBounds n (idle o)) (Behind P ops n Q) i K a w) : wpOp P ops Q i K a w := by
  unfold wpOp at *
  rw [Array.getElem?_setIfInBounds_ne hi, idle_yielded ho] at h
  cases hx : ops[i]? with
  | none => rw [hx] at h; exact h
  | some x =>
    rw [hx] at h
    dsimp only at h ⊢
    unfold Oper.wp at *
    rw [behind_upon] at h
    exact h

theorem behind_last (ho : ops[n]? = some o) (hg : o.guard = none) (hd : o.dst = none) {K : Act → World → Prop} {a : Act} {w : World} (h : wpOp P (ops.setIfInBounds n (idle o)) (Behind P ops n Q) n K a w) : K a w := by
  have hlt : n < ops.size := by
    rcases Nat.lt_or_ge n ops.size with h | h
    · exact h
    · rw [Array.getElem?_eq_none h] at ho; cases ho
  obtain ⟨dst, op, type, pos, after, guard⟩ := o
  dsimp only at hg hd
  subst hg hd
  unfold wpOp at h
  rw [Array.getElem?_setIfInBounds_self_of_lt hlt] at h
  simp only [idle, Region.wanted, if_true] at h
  rcases h with h | ⟨h, _⟩
  · simpa [Oper.wp, execOp, Oper.upon, Act.put] using h
  · have h1 := h.1
    change noRoomEvent ∈ (#[] : Array Event) at h1
    simp at h1

/-- Whoever has come up, those that he waits for have come up. -/
def Duly (ops : Array Oper) (listed : Array Bool) : Prop := ∀ i x, ops[i]? = some x → listed.getD i true = true → ∀ e ∈ x.after, Region.binds .any e = true → listed.getD e.on false = true

theorem getD_either {listed : Array Bool} {i : Nat} (h : listed.getD i false = true) : listed.getD i true = true := by
  simp only [Array.getD_eq_getD_getElem?] at *
  cases hx : listed[i]? with
  | none => rfl
  | some b => rw [hx] at h; exact h

theorem shut_start (ops : Array Oper) : Duly ops (Array.replicate ops.size false) := fun i x hx hl => by
  have hlt : i < ops.size := by
    rcases Nat.lt_or_ge i ops.size with h | h
    · exact h
    · rw [Array.getElem?_eq_none h] at hx; cases hx
  simp [hlt] at hl

theorem Duly.step {listed : Array Bool} (h : Duly ops listed) {i : Nat} (hi : i ∈ Region.ready .any ops listed) : Duly ops (listed.setIfInBounds i true) := fun k x hx hl e he hb => by
  obtain ⟨_, y, hy, hall⟩ := mem_ready.1 hi
  by_cases hk : i = k
  · subst hk
    rw [hx] at hy; cases hy
    exact getD_set_true (hall e he hb)
  · rw [getD_set_ne true hk] at hl
    exact getD_set_true (h k x hx hl e he hb)

theorem chained_back (hc : chained ops n = true) {i : Nat} {x : Oper} (hx : ops[i]? = some x) {e : Edge} (he : e ∈ x.after) (hb : Region.binds .any e = true) : e.on < i := by
  unfold chained at hc
  rw [Bool.and_eq_true, List.all_eq_true] at hc
  have hlt : i < ops.size := by
    rcases Nat.lt_or_ge i ops.size with h | h
    · exact h
    · rw [Array.getElem?_eq_none h] at hx; cases hx
  have h := hc.1 i (List.mem_range.2 hlt)
  rw [hx] at h
  simp only [Option.map_some, Option.getD_some, Array.all_eq_true'] at h
  have := h e he
  rw [hb] at this
  simpa using this

theorem chained_next (hc : chained ops n = true) {i : Nat} (hi : i < n) : ∃ j x e, i < j ∧ j ≤ n ∧ ops[j]? = some x ∧ e ∈ x.after ∧ Region.binds .any e = true ∧ e.on = i := by
  unfold chained at hc
  rw [Bool.and_eq_true, List.all_eq_true, List.all_eq_true] at hc
  have h := hc.2 i (List.mem_range.2 hi)
  obtain ⟨j, hj, h⟩ := List.any_eq_true.1 h
  rw [Bool.and_eq_true] at h
  cases hx : ops[j]? with
  | none => rw [hx] at h; exact absurd h.2 (by simp)
  | some x =>
    have h2 := h.2
    rw [hx] at h2
    simp only [Option.map_some, Option.getD_some, Array.any_eq_true'] at h2
    obtain ⟨e, he, h2⟩ := h2
    rw [Bool.and_eq_true] at h2
    exact ⟨j, x, e, by simpa using h.1, by have := List.mem_range.1 hj; omega, hx, he, h2.1, by simpa using h2.2⟩

theorem all_before (hc : chained ops n = true) {listed : Array Bool} (hs : Duly ops listed) (hr : n ∈ Region.ready .any ops listed) : ∀ d i, i + d = n → 0 < d → listed.getD i false = true := by
  obtain ⟨_, y, hy, hall⟩ := mem_ready.1 hr
  intro d
  induction d using Nat.strongRecOn with
  | ind d ih =>
    intro i hi hd
    obtain ⟨j, x, e, hij, hjn, hx, he, hb, rfl⟩ := chained_next hc (show i < n by omega)
    by_cases hj : j = n
    · subst hj; rw [hx] at hy; cases hy; exact hall e he hb
    · exact hs j x hx (getD_either (ih (n - j) (by omega) j (by omega) (by omega))) e he hb

theorem none_left (hsz : n + 1 = ops.size) (hc : chained ops n = true) {listed : Array Bool} (hs : Duly ops listed) (hr : n ∈ Region.ready .any ops listed) : Region.ready .any ops (listed.setIfInBounds n true) = [] := by
  refine List.eq_nil_iff_forall_not_mem.2 fun j hj => ?_
  obtain ⟨h0, x, hx, _⟩ := mem_ready.1 hj
  have hlt : j < ops.size := by
    rcases Nat.lt_or_ge j ops.size with h | h
    · exact h
    · rw [Array.getElem?_eq_none h] at hx; cases hx
  by_cases hn : n = j
  · subst hn
    rcases Nat.lt_or_ge n listed.size with h | h <;> simp [h, Nat.not_lt.2] at h0
  · rw [getD_set_ne true hn] at h0
    have := getD_either (all_before hc hs hr (n - j) j (by omega) (by omega))
    rw [h0] at this; cases this

theorem some_left (hc : chained ops n = true) (hn : n < ops.size) {listed : Array Bool} (hz : listed.size = ops.size) (hl : listed.getD n true = false) (hr : Region.ready .any ops listed = []) : False := by
  have key : ∀ i, i < ops.size → listed.getD i false = true := by
    intro i
    induction i using Nat.strongRecOn with
    | ind i ih =>
      intro hi
      cases hb : listed.getD i true with
      | true => simpa [hz, hi] using hb
      | false =>
        refine absurd (show i ∈ Region.ready .any ops listed from mem_ready.2 ⟨hb, ops[i], Array.getElem?_eq_getElem hi, fun e he hbe => ?_⟩) (by rw [hr]; simp)
        have hlt := chained_back hc (Array.getElem?_eq_getElem hi) he hbe
        exact ih e.on hlt (by omega)
  rw [getD_either (key n hn)] at hl
  cases hl

theorem any_behind (ho : ops[n]? = some o) (hg : o.guard = none) (hd : o.dst = none) (hsz : n + 1 = ops.size) (hc : chained ops n = true) : ∀ (fuel : Nat) (listed : Array Bool) (a : Act) (w : World), Duly ops listed → listed.size = ops.size → listed.getD n true = false → wpAny P .any (ops.setIfInBounds n (idle o)) (Behind P ops n Q) fuel listed a w → wpAny P .any ops Q fuel listed a w := by
  intro fuel
  induction fuel with
  | zero =>
    intro listed a w _ hz hl h
    have h1 := h.1
    rw [idle_ready ho] at h1
    exact (some_left hc (by omega) hz hl h1).elim
  | succ fuel ih =>
    intro listed a w hs hz hl h
    refine ⟨fun h1 => (some_left hc (by omega) hz hl h1).elim, fun i hi => ?_⟩
    have hi' := hi
    rw [← idle_ready ho] at hi'
    by_cases hn : n = i
    · subst hn
      have h1 := behind_last ho hg hd (h.2 n hi')
      have hr := none_left hsz hc hs hi
      have hr' := hr
      rw [← idle_ready ho] at hr'
      have h2 : Behind P ops n Q .normal a w := by
        cases fuel with
        | zero => exact h1.2
        | succ k => exact h1.1 hr'
      exact wpOp_mono (fun a' w' hq => wpAny_done hr hq fuel) h2
    · exact wpOp_mono (fun a' w' hq => ih _ a' w' (hs.step hi) (by rw [Array.size_setIfInBounds]; exact hz) (by rw [getD_set_ne true (Ne.symm hn)]; exact hl) hq) (behind_other ho hn (h.2 i hi'))

/-- The beginning: the region with the idle operation in the last one's place, under a condition that the last one need not keep. -/
theorem region_behind {id : Nat} {a : Act} {w : World} (S : World → Prop) (n : Nat) (o : Oper) (hm : P.follows .mixedOrders = true) (ho : ops[n]? = some o) (hg : o.guard = none) (hd : o.dst = none) (hsz : n + 1 = ops.size) (hc : chained ops n = true) (hS : S w.drew)
    (h : S w.drew → wpAnyH P .any (ops.setIfInBounds n (idle o)) (Behind P ops n Q) S ops.size (Array.replicate ops.size false) a w.drew) : (Code.region id ops true).wp P Q a w :=
  wp_region_any hm (any_behind ho hg hd hsz hc _ _ _ _ (shut_start ops) (by simp) (by simp [show n < ops.size from by omega]) (wpAny_of_held _ _ _ _ (h hS)))
end
end Go.Proofs.YtckaiejbgnhgcaaGreatDoor.Wd
