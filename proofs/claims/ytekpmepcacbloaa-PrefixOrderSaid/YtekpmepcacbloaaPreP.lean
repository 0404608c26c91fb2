/- Elder words: keys of choices, a policy of choices; no conditions but those that each names. -/
import Derived.Test.YtekpmepcacbloaaPreO
import Derived.WalkKit
import Derived.Laws.Bits64b
import Derived.Below
import Derived.Deep.Draws
import Derived.Test.YtekpmepcacbloaaRows
import Derived.ProofKit
import Derived.OpenShut
import Derived.Handy
import Derived.Lib.Hide
import Derived.Deep.RegionHeld3
import Derived.Deep.QuietTactic
import Derived.BigQuiet
import Derived.RangeFuncNested
import Derived.RangeFuncBound
import Derived.RangeFuncCalls
import Derived.RangeFuncLeaves
import Derived.Shelf.Abstract
import Derived.Shelf.RegionOpen
import Derived.OwnWalkIn
import Derived.TacticsInMore
import Derived.LoopNIn
import Derived.LoopIn
import Derived.LoopTactic
import Derived.OwnWalk
import Derived.Laws.OwnMore
import Derived.Maps.OwnSet
import Derived.Laws.EntriesVeiled
import Derived.Lib.ReflectliteSwap
import Derived.Deep.CutRange
import Derived.Deep.DeepCutAuto
import Derived.Shelf.LaysM
import Derived.Shelf.Strconv.Clone
import Derived.Lib.ItoaNum
import Derived.Lib.ItoaLen
import Derived.Laws.Strings
import GoSem.Op.String
import Derived.Lib.BufferWrite
import Derived.Laws.IdiomStrings
import Derived.Laws.ResultCell
import Derived.Laws.Rows
import Derived.ScopeJumps
import Derived.WalkMore
import Derived.WalkLawsBesides
import Derived.WalkSpells
import Derived.Deep.WholeRow
import Derived.StillTailTactics
import Derived.Deep.AppendLies
import Derived.Laws.ComplexArith
import Derived.WalkSmall
import Derived.Laws.Entries
import Derived.Laws.AppendOwn
import Derived.Deep.LoopGhost
import Derived.Lib.QuietBelow
import Derived.PlainAid
import Derived.Lib.SlBytesConst
import Derived.Lib.SmallJoins
import Derived.Laws.AppendOwnNone
import Derived.Laws.MakeOwn
import Derived.Lib.AppendStr
import Derived.Deep.RegionLaw
import Derived.Defers
import Derived.Recover
import Derived.Deep.Slices
import Derived.OneCell
namespace Go.Proofs.Ytekpmepcacbloaa.Wd
open Go Go.RowKit Go.Shelf Go.Deep
set_option linter.unusedVariables false
set_option maxRecDepth 100000
theorem kbq {w a b : World} (h : Below w.heap.size w a) (g : Below a.heap.size a b) : Below w.heap.size w b := h.trans (g.mono h.size)
/-- No byte. -/
abbrev nob : ByteArray := ⟨#[]⟩
abbrev Rl.cs (r : Rl) : List Value := [.string r.p, .int .u64 r.e, .int .u64 r.b, .int .u8 r.k]
theorem lb_append (a b : ByteArray) : lb (a ++ b) = lb a ++ lb b := by simp [lb]
theorem lt_of_cell {w : World} {b o : Nat} {v : Value} (h : w.cell? ⟨b, o, none⟩ = some v) : b < w.heap.size := by
  by_cases hb : b < w.heap.size
  · exact hb
  · simp [World.cell?, hb] at h
/-- A row of bytes that lies in memory. -/
def Byts (w : World) (A : Option Addr) (n : Nat) : Prop :=
  ∀ i, i < n → ∃ b off v, A = some ⟨b, off, none⟩ ∧ w.cell? ⟨b, off + i, none⟩ = some (.int .u8 v) ∧ 0 ≤ v ∧ v ≤ 255
theorem Byts.below {w w' : World} {A : Option Addr} {n : Nat} (h : Byts w A n) (k : Below w.heap.size w w') : Byts w' A n := fun i hi => by
  obtain ⟨b, off, v, e, hc, hv⟩ := h i hi
  exact ⟨b, off, v, e, celln k hc, hv⟩
/-- What a key of choices is: short, of visible bytes. -/
def Short (s : ByteArray) : Prop := (1 ≤ s.size ∧ s.size ≤ 12) ∧ (lb s).all (fun c => visB (c.toNat : Int)) = true
set_option maxHeartbeats 1000000 in
theorem key_any (A : Option Addr) (n cap : Nat) (w : World) (h : Byts w A n) (hn : n ≤ 9223372036854775807) :
    Calls Try.prog 10 #[.slice A n cap] w fun e w' => ∃ s, e = .returned (.string s) ∧ Hid (Short s) ∧ s.size ≤ 12 ∧ Below w.heap.size w w' := by
  have H := Lib.hid h
  clear h
  go_enter Try.func10, Try.ntmps10
  go_wp2
  go_loopw [3, 4] (fun s i wr => ∃ (k : Nat) (t : ByteArray), i = .int .i64 (k : Int) ∧ s = .string t ∧ k ≤ 6 ∧ k ≤ t.size ∧ t.size ≤ 2 * k ∧ Hid ((lb t).all (fun c => visB (c.toNat : Int)) = true) ∧ Below w.heap.size w wr) (fun _ i _ => 6 - (intOf i).toNat)
  case atStart => exact ⟨0, ⟨#[]⟩, rfl, rfl, by omega, by decide, by decide, Lib.hid (by decide), Below.refl _ _⟩
  case round =>
    obtain ⟨k, t, rfl, rfl, hk, k1, k2, V, hB⟩ := hrel
    by_cases c1 : k < n
    · by_cases c2 : k < 6
      · obtain ⟨b, off, v, rfl, hc, hv⟩ := (H.out.below hB) k c1
        have hb := lt_of_cell hc
        have c3 : (k : Int) < 6 := by omega
        have hvm : v % 8 = 0 ∨ v % 8 = 1 ∨ v % 8 = 2 ∨ v % 8 = 3 ∨ v % 8 = 4 ∨ v % 8 = 5 ∨ v % 8 = 6 ∨ v % 8 = 7 := by omega
        have VA : Hid (∀ p : ByteArray, (lb p).all (fun c => visB (c.toNat : Int)) = true → (lb (t ++ p)).all (fun c => visB (c.toNat : Int)) = true) := Lib.hid (fun p hp => by rw [lb_append, List.all_append, V.out, hp]; rfl)
        have hs0 : t.size ≤ 12 := by omega
        have SZ : Hid (∀ p : ByteArray, 1 ≤ p.size → p.size ≤ 2 → k + 1 ≤ (t ++ p).size ∧ (t ++ p).size ≤ 2 * (k + 1)) := Lib.hid (fun p h1 h2 => by rw [ByteArray.size_append']; omega)
        rcases hvm with hm | hm | hm | hm | hm | hm | hm | hm
        all_goals
          go_wp2
          go_roundw
          case rel => exact ⟨k + 1, _, by go_num, rfl, by omega, (SZ.out _ (by decide) (by decide)).1, (SZ.out _ (by decide) (by decide)).2, Lib.hid (VA.out _ (by decide)), hB.alloc hB.size _⟩
          case measure => simp [intOf]; omega
      · have c3 : decide ((k : Int) < 6) = false := decide_eq_false (by omega)
        have hz : t.toList.isEmpty = false := toList_ne t (by omega)
        have F : Hid (Short t ∧ t.size ≤ 12) := Lib.hid ⟨⟨⟨by omega, by omega⟩, V.out⟩, by omega⟩
        clear c2 k1 k2 hk
        go_wp2
        go_ret
        exact ⟨t, rfl, Lib.hid F.out.1, F.out.2, hB⟩
    · by_cases c4 : t.size = 0
      · have hz : t.toList.isEmpty = true := toList_none t c4
        clear c4
        go_wp2
        go_ret
        exact ⟨⟨#[107]⟩, rfl, Lib.hid ⟨⟨by decide, by decide⟩, by decide⟩, by decide, hB⟩
      · have hz : t.toList.isEmpty = false := toList_ne t (by omega)
        have F : Hid (Short t ∧ t.size ≤ 12) := Lib.hid ⟨⟨⟨by omega, by omega⟩, V.out⟩, by omega⟩
        clear c4 k1 k2 hk
        go_wp2
        go_ret
        exact ⟨t, rfl, Lib.hid F.out.1, F.out.2, hB⟩
theorem own_low {w : World} {base base' : Nat} {e : TypeId} {size n : Nat} {v : Value} {xs : List Value} (h : w.ownsRow base e size v n xs) (hb : base' ≤ base) : w.ownsRow base' e size v n xs := by
  obtain ⟨h1, h2⟩ := h
  rcases h2 with h2 | ⟨g, cap, cur, hv, hg, h3⟩
  · exact ⟨h1, .inl h2⟩
  · exact ⟨h1, .inr ⟨g, cap, cur, hv, Nat.le_trans hb hg, h3⟩⟩
theorem short_pf {s : ByteArray} (h : Short s) : pfB s = true ∧ rtB (lb s) = true := by
  obtain ⟨⟨h1, h2⟩, h3⟩ := h
  have : rtB (lb s) = true := by unfold rtB; rw [list_size, decide_eq_true (by omega), h3]; rfl
  exact ⟨by unfold pfB; rw [this]; simp, this⟩
theorem own_mk (s : ByteArray) (hs : s.size = 0 ∨ Short s) (every burst kind : Int) (he : 0 ≤ every ∧ every ≤ 4294967295) (hb : 0 ≤ burst ∧ burst ≤ 65535) (hk : 0 ≤ kind ∧ kind ≤ 255) :
    ∃ E B : Nat, 1 + every = (E : Int) ∧ 1 + burst = (B : Int) ∧ Own s E B (1 + kind % 3) := by
  refine ⟨(1 + every).toNat, (1 + burst).toNat, by omega, by omega, ?_, ?_, by omega, by omega, by omega, by omega, by omega, by omega⟩
  · rcases hs with h | h
    · omega
    · exact h.1.2
  · rcases hs with h | h
    · unfold pfB; rw [decide_eq_true h]; rfl
    · exact (short_pf h).1
theorem okr0 : Okr rl0 := ⟨by decide, ⟨by decide, by decide⟩, ⟨by decide, by decide⟩, by decide, by decide⟩
theorem fn_at {rs : List Rl} {k : Nat} (h : k < rs.length) : fnOf rs k = rs[k] := by simp [fnOf, List.getD_eq_getElem?_getD, List.getElem?_eq_getElem h]
theorem fn_mem {rs : List Rl} {k : Nat} (h : k < rs.length) : fnOf rs k ∈ rs := by rw [fn_at h]; exact List.getElem_mem h
theorem fn_out {rs : List Rl} {k : Nat} (h : rs.length ≤ k) : fnOf rs k = rl0 := by simp [fnOf, List.getD_eq_getElem?_getD, List.getElem?_eq_none h]
theorem fn_ok {rs : List Rl} (h : ∀ r ∈ rs, Okr r) (k : Nat) : Okr (fnOf rs k) := by
  by_cases c : k < rs.length
  · exact h _ (fn_mem c)
  · rw [fn_out (by omega)]; exact okr0
theorem Rls.nil (w : World) (A : Option Addr) : Rls w A 0 [] := ⟨rfl, (fun _ h => nomatch h), fun h => absurd h (Nat.lt_irrefl _)⟩
theorem Rls.ok {w : World} {A : Option Addr} {n : Nat} {rs : List Rl} (h : Rls w A n rs) (k : Nat) : Okr (fnOf rs k) := fn_ok h.2.1 k
def flatR : List Rl → List Value
  | [] => []
  | r :: l => r.cs ++ flatR l
theorem flatR_append (a b : List Rl) : flatR (a ++ b) = flatR a ++ flatR b := by
  induction a with
  | nil => rfl
  | cons x a ih => simp [flatR, ih]
theorem flatR_length (a : List Rl) : (flatR a).length = a.length * 4 := by
  induction a with
  | nil => rfl
  | cons x a ih => simp [flatR, ih]; omega
theorem flatR_at : ∀ (rs : List Rl) (k : Nat), k < rs.length → (flatR rs)[k * 4]? = some (.string (fnOf rs k).p) ∧ (flatR rs)[k * 4 + 1]? = some (.int .u64 (fnOf rs k).e) ∧ (flatR rs)[k * 4 + 2]? = some (.int .u64 (fnOf rs k).b) ∧ (flatR rs)[k * 4 + 3]? = some (.int .u8 (fnOf rs k).k)
  | [], k, h => by simp at h
  | r :: l, 0, h => by simp [flatR, fnOf]
  | r :: l, k + 1, h => by
    have ih := flatR_at l k (by simpa using h)
    have e : fnOf (r :: l) (k + 1) = fnOf l k := by simp [fnOf]
    rw [e]
    have s : ∀ j, (flatR (r :: l))[(k + 1) * 4 + j]? = (flatR l)[k * 4 + j]? := by
      intro j
      rw [show (k + 1) * 4 + j = (k * 4 + j) + 4 by omega, flatR, List.getElem?_append_right (by simp)]
      simp
    exact ⟨(s 0).trans ih.1, (s 1).trans ih.2.1, (s 2).trans ih.2.2.1, (s 3).trans ih.2.2.2⟩
theorem flatR_one (rs : List Rl) : ∀ u ∈ flatR rs, u.oneCell' = true := by
  induction rs with
  | nil => intro u hu; cases hu
  | cons r l ih =>
    intro u hu
    rw [flatR, List.mem_append] at hu
    rcases hu with hu | hu
    · simp only [List.mem_cons, List.not_mem_nil, or_false] at hu
      rcases hu with rfl | rfl | rfl | rfl <;> rfl
    · exact ih u hu
def ORls (w : World) (base : Nat) (v : Value) (rs : List Rl) : Prop := w.ownsRow base 28 4 v rs.length (flatR rs)
theorem ORls.nil (w : World) (base : Nat) : ORls w base (.slice none 0 0) [] := World.ownsRow_nil _ _ _ _
theorem r4_of_block {w : World} {B o : Nat} {cs : Array Value} {t : TypeId} {fr : Nat × Nat} {r : Rl} (h : w.heap[B]? = some (.cells cs t fr)) (h0 : cs[o]? = some (.string r.p)) (h1 : cs[o + 1]? = some (.int .u64 r.e)) (h2 : cs[o + 2]? = some (.int .u64 r.b)) (h3 : cs[o + 3]? = some (.int .u8 r.k)) : R4 w B o r := by
  refine ⟨?_, ?_, ?_, ?_⟩ <;> (unfold World.cell?; simp [h, h0, h1, h2, h3])
theorem ORls.rls {w : World} {base : Nat} {v : Value} {rs : List Rl} (h : ORls w base v rs) (hx : ∀ r ∈ rs, Okr r) :
    ∃ A c, v = .slice A rs.length c ∧ rs.length ≤ c ∧ c ≤ 9223372036854775807 ∧ Rls w A rs.length rs := by
  obtain ⟨h1, h2⟩ := h
  rcases h2 with ⟨rfl, h0⟩ | ⟨g, cap, cur, rfl, hb, hg, hc1, hc2, hsz, htk⟩
  · have : rs = [] := List.eq_nil_of_length_eq_zero h0
    subst this
    exact ⟨none, 0, rfl, by simp, by omega, Rls.nil _ _⟩
  · refine ⟨_, cap, rfl, hc1, hc2, rfl, hx, fun hn => ⟨g, 0, rfl, lt_heap hg, fun k hk => ?_⟩⟩
    have at_ : ∀ j, j < 4 → cur[0 + k * 4 + j]? = (flatR rs)[k * 4 + j]? := by
      intro j hj
      have e : (cur.toList.take (rs.length * 4))[k * 4 + j]? = (flatR rs)[k * 4 + j]? := by rw [htk]
      rw [List.getElem?_take, if_pos (by omega)] at e
      rw [Nat.zero_add, ← e]; simp
    obtain ⟨f0, f1, f2, f3⟩ := flatR_at rs k hk
    exact r4_of_block hg ((at_ 0 (by omega)).trans f0) ((at_ 1 (by omega)).trans f1) ((at_ 2 (by omega)).trans f2) ((at_ 3 (by omega)).trans f3)
theorem ownR_low {w : World} {base base' : Nat} {v : Value} {rs : List Rl} (h : ORls w base v rs) (hb : base' ≤ base) : ORls w base' v rs := own_low h hb
theorem ownR_below {w w' : World} {base : Nat} {v : Value} {rs : List Rl} (h : ORls w base v rs) (g : Below w.heap.size w w') : ORls w' base v rs := by
  obtain ⟨h1, h2⟩ := h
  rcases h2 with h2 | ⟨b, cap, cur, hv, hb, hg, h3⟩
  · exact ⟨h1, .inl h2⟩
  · exact ⟨h1, .inr ⟨b, cap, cur, hv, hb, (g.block _ (lt_heap hg)).trans hg, h3⟩⟩
theorem zeroRule : (Try.prog.info? 28).map (fun i => (i.zero, i.size, i.bytes)) = some (some (.agg #[.string ⟨#[]⟩, .int .u64 0, .int .u64 0, .int .u8 0]), 4, 40) := by kernel_rfl
/-- The first rule with a prefix; below 0: there is none. -/
def fdI (rs : List Rl) (p : ByteArray) : Int := match rs.findIdx? (fun r => decide (r.p = p)) with | some i => (i : Int) | none => -1
theorem fd_at {rs : List Rl} {p : ByteArray} (k : Nat) (hk : k < rs.length) (h : (fnOf rs k).p = p) (g : ∀ j, j < k → (fnOf rs j).p ≠ p) : fdI rs p = k := by
  have e : rs.findIdx? (fun r => decide (r.p = p)) = some k := by
    rw [List.findIdx?_eq_some_iff_getElem]
    refine ⟨hk, by rw [← fn_at hk]; exact decide_eq_true h, fun j hj => ?_⟩
    rw [← fn_at (by omega)]
    simpa using g j hj
  unfold fdI
  rw [e]
theorem fd_none {rs : List Rl} {p : ByteArray} (g : ∀ j, j < rs.length → (fnOf rs j).p ≠ p) : fdI rs p = -1 := by
  have e : rs.findIdx? (fun r => decide (r.p = p)) = none := by
    rw [List.findIdx?_eq_none_iff]
    intro x hx
    obtain ⟨j, hj, e⟩ := List.getElem_of_mem hx
    have := g j hj
    rw [fn_at hj, e] at this
    simpa using this
  unfold fdI
  rw [e]
theorem fd_ways (rs : List Rl) (p : ByteArray) : (∃ k, k < rs.length ∧ (fnOf rs k).p = p ∧ (∀ j, j < k → (fnOf rs j).p ≠ p) ∧ fdI rs p = k) ∨ ((∀ j, j < rs.length → (fnOf rs j).p ≠ p) ∧ fdI rs p = -1) := by
  by_cases h : ∃ k, k < rs.length ∧ (fnOf rs k).p = p
  · have : ∀ n, (∃ k, k < n ∧ k < rs.length ∧ (fnOf rs k).p = p) → ∃ k, k < rs.length ∧ (fnOf rs k).p = p ∧ (∀ j, j < k → (fnOf rs j).p ≠ p) := by
      intro n
      induction n with
      | zero => rintro ⟨k, hk, _⟩; omega
      | succ n ih =>
        rintro ⟨k, hk, hl, e⟩
        by_cases c : ∃ j, j < n ∧ j < rs.length ∧ (fnOf rs j).p = p
        · exact ih c
        · by_cases d : k = n
          · exact ⟨k, hl, e, fun j hj he => c ⟨j, by omega, by omega, he⟩⟩
          · exact absurd ⟨k, by omega, hl, e⟩ c
    obtain ⟨k, hk, e⟩ := h
    obtain ⟨k, hk, e, g⟩ := this (k + 1) ⟨k, by omega, hk, e⟩
    exact .inl ⟨k, hk, e, g, fd_at k hk e g⟩
  · have g : ∀ j, j < rs.length → (fnOf rs j).p ≠ p := fun j hj e => h ⟨j, hj, e⟩
    exact .inr ⟨g, fd_none g⟩
def hasB (rs : List Rl) (p : ByteArray) : Bool := decide (0 ≤ fdI rs p)
theorem Rls.grown {w w' : World} {B n : Nat} {rs : List Rl} {row : Option Nat} (h : Rls w (some ⟨B, 0, none⟩) n rs) (g : w.grownBy w' row) (hne : row ≠ some B) : Rls w' (some ⟨B, 0, none⟩) n rs :=
  ⟨h.1, h.2.1, fun hn => by
    obtain ⟨b, off, e, hb, hc⟩ := h.2.2 hn
    injection e with e
    injection e with e1 e2
    subst e1 e2
    exact ⟨_, _, rfl, Nat.lt_of_lt_of_le hb g.size, fun j hj => (hc j hj).of_block (g.block _ hb (fun e => hne e.symm))⟩⟩
theorem flatR_news {w : World} {b off : Nat} {xs : List Rl} (h : ∀ k, k < xs.length → R4 w b (off + k * 4) (fnOf xs k)) : ∀ j u, (flatR xs)[j]? = some u → w.cell? ((⟨b, off, none⟩ : Addr).add j) = some u := by
  intro j u hu
  have hj : j < (flatR xs).length := (List.getElem?_eq_some_iff.1 hu).1
  rw [flatR_length] at hj
  have hk : j / 4 < xs.length := by omega
  obtain ⟨f0, f1, f2, f3⟩ := flatR_at xs (j / 4) hk
  obtain ⟨c0, c1, c2, c3⟩ := h (j / 4) hk
  rw [Go.WideShapes.add_plain]
  have hm : j % 4 = 0 ∨ j % 4 = 1 ∨ j % 4 = 2 ∨ j % 4 = 3 := by omega
  rcases hm with hm | hm | hm | hm
  · have e : j = j / 4 * 4 := by omega
    rw [e] at hu ⊢
    rw [f0] at hu; injection hu with hu; subst hu
    exact c0
  · have e : j = j / 4 * 4 + 1 := by omega
    rw [e] at hu ⊢
    rw [f1] at hu; injection hu with hu; subst hu
    rw [← Nat.add_assoc]; exact c1
  · have e : j = j / 4 * 4 + 2 := by omega
    rw [e] at hu ⊢
    rw [f2] at hu; injection hu with hu; subst hu
    rw [← Nat.add_assoc]; exact c2
  · have e : j = j / 4 * 4 + 3 := by omega
    rw [e] at hu ⊢
    rw [f3] at hu; injection hu with hu; subst hu
    rw [← Nat.add_assoc]; exact c3
theorem wpList_app_rl (w : World) {ops : Array Oper} {rest : List Oper} {o : Oper} {a : Act} {Q : Exit → Act → World → Prop} (hgd : o.guard = none) (s x : Operand)
    (ho : o.op = .call { callee := .builtin .append, args := #[s, x], argTypes := #[22, 22] })
    (base : Nat) (v : Value) (acc : List Rl) (hs : a.eval s = v) (hown : ORls w base v acc) (b off m c : Nat) (xs : List Rl) (hx : a.eval x = .slice (some ⟨b, off, none⟩) m c) (hm : xs.length = m) (hm0 : 0 < m)
    (hR : ∀ k, k < xs.length → R4 w b (off + k * 4) (fnOf xs k)) (hsz : acc.length + m ≤ 1099511627776) (hbase : base ≤ w.heap.size)
    (h : ∀ g cap w', ORls w' base (.slice (some ⟨g, 0, none⟩) (acc.length + m) cap) (acc ++ xs) → Below base w w' → w.grownBy w' v.ownBlock → (v.ownBlock = some g ∨ g = w.heap.size) → wpList Try.prog ops Q rest (a.put o.dst (.slice (some ⟨g, 0, none⟩) (acc.length + m) cap)) w') : wpList Try.prog ops Q (o :: rest) a w := by
  obtain ⟨i0, hi, hy0, hy1, hy2⟩ := info_parts zeroRule
  subst hm
  refine wpList_append_lies w hgd s x 22 ho base 28 i0 (.agg #[.string ⟨#[]⟩, .int .u64 0, .int .u64 0, .int .u8 0]) 4 40 Try.underlying22 hi hy0 hy1 hy2 rfl (by decide) v acc.length (flatR acc) hs hown ⟨b, off, none⟩ xs.length c (flatR xs) hx (by rw [flatR_length]) (flatR_news hR) (flatR_one xs) hm0 (by unfold maxLen; omega) (by omega) hbase w.heap.size rfl ?_
  intro g cap w' own grow hg hgs
  refine h g cap w' ?_ ((Below.refl base w).grown grow hbase (fun k hk => (World.ownsRow.lt hown k hk).1)) grow hg
  unfold ORls
  rw [List.length_append, flatR_append]
  exact own
/-- A rule of choices. -/
def OwnR (r : Rl) : Prop := (∃ E B : Nat, r.e = (E : Int) ∧ r.b = (B : Int) ∧ Own r.p E B r.k) ∧ (r.p.size = 0 ∨ Short r.p)
/-- A policy of choices. -/
structure Polr (m : Int) (rs : List Rl) : Prop where
  m1 : 1 ≤ m
  m2 : m ≤ 50
  hd : ∃ k rest, rs = ⟨nob, 1000, 5, k⟩ :: rest
  own : ∀ r ∈ rs, OwnR r
  nd : (rs.map Rl.p).Nodup
/-- A row of numbers that lies in memory. -/
def Nmr (w : World) (A : Option Addr) (n : Nat) : Prop :=
  ∀ i, i < n → ∃ b off Ai ni ci e u k, A = some ⟨b, off, none⟩ ∧ w.cell? ⟨b, off + i * 4, none⟩ = some (.slice Ai ni ci) ∧ w.cell? ⟨b, off + i * 4 + 1, none⟩ = some (.int .u32 e) ∧ w.cell? ⟨b, off + i * 4 + 2, none⟩ = some (.int .u16 u) ∧ w.cell? ⟨b, off + i * 4 + 3, none⟩ = some (.int .u8 k) ∧
    Hid (Byts w Ai ni ∧ ni ≤ 9223372036854775807 ∧ (0 ≤ e ∧ e ≤ 4294967295) ∧ (0 ≤ u ∧ u ≤ 65535) ∧ (0 ≤ k ∧ k ≤ 255))
theorem Nmr.below {w w' : World} {A : Option Addr} {n : Nat} (h : Nmr w A n) (g : Below w.heap.size w w') : Nmr w' A n := fun i hi => by
  obtain ⟨b, off, Ai, ni, ci, e, u, k, e0, c0, c1, c2, c3, H⟩ := h i hi
  exact ⟨b, off, Ai, ni, ci, e, u, k, e0, celln g c0, celln g c1, celln g c2, celln g c3, Lib.hid ⟨H.out.1.below g, H.out.2⟩⟩
theorem OwnR.okr {r : Rl} (h : OwnR r) : Okr r := by
  obtain ⟨⟨E, B, he, hb, H⟩, _⟩ := h
  have := H.e2; have := H.b2; have := H.sz; have := H.k1; have := H.k2
  exact ⟨by omega, by rw [he]; unfold U; omega, by rw [hb]; unfold U; omega, by omega, by omega⟩
theorem polr_start (m k : Int) (h1 : 1 ≤ m) (h2 : m ≤ 50) (hk : 1 ≤ k ∧ k ≤ 3) : Polr m [⟨nob, 1000, 5, k⟩] := by
  refine ⟨h1, h2, ⟨k, [], rfl⟩, fun r hr => ?_, by simp⟩
  simp only [List.mem_cons, List.not_mem_nil, or_false] at hr
  subst hr
  exact ⟨⟨1000, 5, rfl, rfl, by show nob.size ≤ 12; decide, by show pfB nob = true; decide, by decide, by decide, by decide, by decide, hk.1, hk.2⟩, .inl rfl⟩
theorem polr_more {m : Int} {rs : List Rl} {r : Rl} (h : Polr m rs) (hr : OwnR r) (hn : hasB rs r.p = false) : Polr m (rs ++ [r]) := by
  obtain ⟨k, rest, e⟩ := h.hd
  refine ⟨h.m1, h.m2, ⟨k, rest ++ [r], by rw [e]; rfl⟩, fun x hx => ?_, ?_⟩
  · rcases List.mem_append.1 hx with hx | hx
    · exact h.own x hx
    · simp only [List.mem_cons, List.not_mem_nil, or_false] at hx
      subst hx; exact hr
  · rw [List.map_append, List.nodup_append]
    refine ⟨h.nd, by simp, fun a ha b hb => ?_⟩
    simp only [List.map_cons, List.map_nil, List.mem_cons, List.not_mem_nil, or_false] at hb
    subst hb
    intro e
    subst e
    obtain ⟨x, hx, e⟩ := List.mem_map.1 ha
    obtain ⟨j, hj, e2⟩ := List.getElem_of_mem hx
    rcases fd_ways rs r.p with ⟨k, _, _, _, g⟩ | ⟨g, _⟩
    · unfold hasB at hn
      rw [g] at hn
      have : (0 : Int) ≤ (k : Int) := Int.natCast_nonneg _
      rw [decide_eq_true this] at hn
      cases hn
    · exact g j hj (by rw [fn_at hj, e2]; exact e)
theorem acell {w : World} {o : Obj} {b i : Nat} {v : Value} (h : w.cell? ⟨b, i, none⟩ = some v) : (w.alloc o).cell? ⟨b, i, none⟩ = some v := celln ((Below.refl _ w).alloc (Nat.le_refl _) o) h
theorem zero4 {W w' : World} (g : Below (W.alloc (.cells #[.string ⟨#[]⟩, .int .u64 0, .int .u64 0, .int .u8 0] 28)).heap.size (W.alloc (.cells #[.string ⟨#[]⟩, .int .u64 0, .int .u64 0, .int .u8 0] 28)) w') :
    (w'.cell? ⟨W.heap.size, 0, none⟩ = some (.string ⟨#[]⟩) ∧ w'.cell? ⟨W.heap.size, 1, none⟩ = some (.int .u64 0) ∧ w'.cell? ⟨W.heap.size, 2, none⟩ = some (.int .u64 0) ∧ w'.cell? ⟨W.heap.size, 3, none⟩ = some (.int .u8 0)) ∧
    (w'.frozen? ⟨W.heap.size, 0, none⟩ = false ∧ w'.frozen? ⟨W.heap.size, 1, none⟩ = false ∧ w'.frozen? ⟨W.heap.size, 2, none⟩ = false ∧ w'.frozen? ⟨W.heap.size, 3, none⟩ = false) :=
  ⟨⟨celln g (by simp), celln g (by simp), celln g (by simp), celln g (by simp)⟩,
   (g.frozen (p := ⟨W.heap.size, 0, none⟩) (by simp)).trans (by simp), (g.frozen (p := ⟨W.heap.size, 1, none⟩) (by simp)).trans (by simp), (g.frozen (p := ⟨W.heap.size, 2, none⟩) (by simp)).trans (by simp), (g.frozen (p := ⟨W.heap.size, 3, none⟩) (by simp)).trans (by simp)⟩
theorem zero4d {W w' : World} (g : Below (W.alloc (.cells #[.string ⟨#[]⟩, .int .u64 0, .int .u64 0, .int .u8 0] 28)).drew.heap.size (W.alloc (.cells #[.string ⟨#[]⟩, .int .u64 0, .int .u64 0, .int .u8 0] 28)).drew w') :
    (w'.cell? ⟨W.heap.size, 0, none⟩ = some (.string ⟨#[]⟩) ∧ w'.cell? ⟨W.heap.size, 1, none⟩ = some (.int .u64 0) ∧ w'.cell? ⟨W.heap.size, 2, none⟩ = some (.int .u64 0) ∧ w'.cell? ⟨W.heap.size, 3, none⟩ = some (.int .u8 0)) ∧
    (w'.frozen? ⟨W.heap.size, 0, none⟩ = false ∧ w'.frozen? ⟨W.heap.size, 1, none⟩ = false ∧ w'.frozen? ⟨W.heap.size, 2, none⟩ = false ∧ w'.frozen? ⟨W.heap.size, 3, none⟩ = false) :=
  ⟨⟨celln g (dcell (by simp)), celln g (dcell (by simp)), celln g (dcell (by simp)), celln g (dcell (by simp))⟩,
   (g.frozen (p := ⟨W.heap.size, 0, none⟩) (by simp)).trans (by simp), (g.frozen (p := ⟨W.heap.size, 1, none⟩) (by simp)).trans (by simp), (g.frozen (p := ⟨W.heap.size, 2, none⟩) (by simp)).trans (by simp), (g.frozen (p := ⟨W.heap.size, 3, none⟩) (by simp)).trans (by simp)⟩
/-- Four stores into another block. -/
theorem scell {w : World} {X b i : Nat} {v p q r t : Value} (h : w.cell? ⟨b, i, none⟩ = some v) (hb : b < X) : ((((w.setCell ⟨X, 0, none⟩ p).setCell ⟨X, 1, none⟩ q).setCell ⟨X, 2, none⟩ r).setCell ⟨X, 3, none⟩ t).cell? ⟨b, i, none⟩ = some v :=
  (cs_other _ _ _ _ _ _ (.inl (by omega))).trans ((cs_other _ _ _ _ _ _ (.inl (by omega))).trans ((cs_other _ _ _ _ _ _ (.inl (by omega))).trans ((cs_other _ _ _ _ _ _ (.inl (by omega))).trans h)))
theorem sbel {N : Nat} {u w : World} {p q r t : Value} (h : Below N u w) : Below N u ((((w.setCell ⟨N, 0, none⟩ p).setCell ⟨N, 1, none⟩ q).setCell ⟨N, 2, none⟩ r).setCell ⟨N, 3, none⟩ t) :=
  (((h.setCell (p := ⟨N, 0, none⟩) (Nat.le_refl _) p).setCell (p := ⟨N, 1, none⟩) (Nat.le_refl _) q).setCell (p := ⟨N, 2, none⟩) (Nat.le_refl _) r).setCell (p := ⟨N, 3, none⟩) (Nat.le_refl _) t
theorem r4_new (W : World) (x : Rl) : R4 (W.alloc (.cells #[.string x.p, .int .u64 x.e, .int .u64 x.b, .int .u8 x.k] 28)) W.heap.size 0 x := by
  refine ⟨?_, ?_, ?_, ?_⟩ <;> simp
/-- A rule in a block of its own, that may be written. -/
def XC (w : World) (X : Nat) (x : Rl) : Prop := R4 w X 0 x ∧ S4 w X 0
theorem xc_new (W : World) (p : ByteArray) (e b k : Int) : XC (W.alloc (.cells #[.string p, .int .u64 e, .int .u64 b, .int .u8 k] 28)) W.heap.size ⟨p, e, b, k⟩ := by
  refine ⟨r4_new W ⟨p, e, b, k⟩, ?_, ?_, ?_, ?_⟩ <;> simp
theorem xc_set {w : World} {X : Nat} {p : ByteArray} {e b k : Int} {p0 e0 b0 k0 : Value} (z0 : w.cell? ⟨X, 0, none⟩ = some p0) (z1 : w.cell? ⟨X, 1, none⟩ = some e0) (z2 : w.cell? ⟨X, 2, none⟩ = some b0) (z3 : w.cell? ⟨X, 3, none⟩ = some k0)
    (f0 : w.frozen? ⟨X, 0, none⟩ = false) (f1 : w.frozen? ⟨X, 1, none⟩ = false) (f2 : w.frozen? ⟨X, 2, none⟩ = false) (f3 : w.frozen? ⟨X, 3, none⟩ = false) :
    XC ((((w.setCell ⟨X, 0, none⟩ (.string p)).setCell ⟨X, 1, none⟩ (.int .u64 e)).setCell ⟨X, 2, none⟩ (.int .u64 b)).setCell ⟨X, 3, none⟩ (.int .u8 k)) X ⟨p, e, b, k⟩ := by
  refine ⟨⟨?_, ?_, ?_, ?_⟩, ?_, ?_, ?_, ?_⟩
  · rw [cs_other _ _ _ _ _ _ (.inr (by omega)), cs_other _ _ _ _ _ _ (.inr (by omega)), cs_other _ _ _ _ _ _ (.inr (by omega))]
    exact World.cell?_setCell_same _ _ _ z0
  · rw [cs_other _ _ _ _ _ _ (.inr (by omega)), cs_other _ _ _ _ _ _ (.inr (by omega))]
    exact World.cell?_setCell_same _ _ _ ((cs_other _ _ _ _ _ _ (.inr (by omega))).trans z1)
  · rw [cs_other _ _ _ _ _ _ (.inr (by omega))]
    exact World.cell?_setCell_same _ _ _ ((cs_other _ _ _ _ _ _ (.inr (by omega))).trans ((cs_other _ _ _ _ _ _ (.inr (by omega))).trans z2))
  · exact World.cell?_setCell_same _ _ _ ((cs_other _ _ _ _ _ _ (.inr (by omega))).trans ((cs_other _ _ _ _ _ _ (.inr (by omega))).trans ((cs_other _ _ _ _ _ _ (.inr (by omega))).trans z3)))
  · simp [f0]
  · simp [f1]
  · simp [f2]
  · simp [f3]
theorem xc_two {w : World} {X : Nat} {x : Rl} (h : XC w X x) (e b : Int) : XC ((w.setCell ⟨X, 1, none⟩ (.int .u64 e)).setCell ⟨X, 2, none⟩ (.int .u64 b)) X ⟨x.p, e, b, x.k⟩ := by
  obtain ⟨⟨z0, z1, z2, z3⟩, f0, f1, f2, f3⟩ := h
  refine ⟨⟨?_, ?_, ?_, ?_⟩, ?_, ?_, ?_, ?_⟩
  · rw [cs_other _ _ _ _ _ _ (.inr (by omega)), cs_other _ _ _ _ _ _ (.inr (by omega))]; exact z0
  · rw [cs_other _ _ _ _ _ _ (.inr (by omega))]
    exact World.cell?_setCell_same _ _ _ z1
  · exact World.cell?_setCell_same _ _ _ ((cs_other _ _ _ _ _ _ (.inr (by omega))).trans z2)
  · rw [cs_other _ _ _ _ _ _ (.inr (by omega)), cs_other _ _ _ _ _ _ (.inr (by omega))]; exact z3
  · simpa using f0
  · simpa using f1
  · simpa using f2
  · simpa using f3
theorem ownR_one {s : ByteArray} (hs : Hid (Short s)) {e u kd : Int} (he : 0 ≤ e ∧ e ≤ 4294967295) (hu : 0 ≤ u ∧ u ≤ 65535) (hk : 0 ≤ kd ∧ kd ≤ 255) : OwnR ⟨s, 1 + e, 1 + u, 1 + kd % 3⟩ := by
  obtain ⟨E, B, h1, h2, h3⟩ := own_mk s (.inr hs.out) e u kd he hu hk
  exact ⟨⟨E, B, h1, h2, h3⟩, .inr hs.out⟩
/-- Policy's own cells: the result's and p's. -/
structure PCells (w : World) (H : Nat) (m : Int) (v : Value) : Prop where
  r0 : w.cell? ⟨H, 0, none⟩ = some (.int .i64 0)
  r1 : w.cell? ⟨H, 1, none⟩ = some (.slice none 0 0)
  p0 : w.cell? ⟨H + 1, 0, none⟩ = some (.int .i64 m)
  p1 : w.cell? ⟨H + 1, 1, none⟩ = some v
  fr0 : w.frozen? ⟨H, 0, none⟩ = false
  fr1 : w.frozen? ⟨H, 1, none⟩ = false
  fp0 : w.frozen? ⟨H + 1, 0, none⟩ = false
  fp1 : w.frozen? ⟨H + 1, 1, none⟩ = false
theorem PCells.under {w w' : World} {H N : Nat} {m : Int} {v : Value} (h : PCells w H m v) (g : Below N w w') (hN : H + 2 ≤ N) : PCells w' H m v :=
  ⟨(g.cell (p := ⟨H, 0, none⟩) (by show H < N; omega)).trans h.r0, (g.cell (p := ⟨H, 1, none⟩) (by show H < N; omega)).trans h.r1, (g.cell (p := ⟨H + 1, 0, none⟩) (by show H + 1 < N; omega)).trans h.p0, (g.cell (p := ⟨H + 1, 1, none⟩) (by show H + 1 < N; omega)).trans h.p1,
   (g.frozen (p := ⟨H, 0, none⟩) (by show H < N; omega)).trans h.fr0, (g.frozen (p := ⟨H, 1, none⟩) (by show H < N; omega)).trans h.fr1, (g.frozen (p := ⟨H + 1, 0, none⟩) (by show H + 1 < N; omega)).trans h.fp0, (g.frozen (p := ⟨H + 1, 1, none⟩) (by show H + 1 < N; omega)).trans h.fp1⟩
theorem PCells.put {w : World} {H : Nat} {m : Int} {v : Value} (h : PCells w H m v) (u : Value) : PCells (w.setCell ⟨H + 1, 1, none⟩ u) H m u :=
  ⟨(cs_other _ _ _ _ _ _ (.inl (by omega))).trans h.r0, (cs_other _ _ _ _ _ _ (.inl (by omega))).trans h.r1, (cs_other _ _ _ _ _ _ (.inr (by omega))).trans h.p0, World.cell?_setCell_same _ _ _ h.p1,
   (World.frozen?_setCell _ _ _ _).trans h.fr0, (World.frozen?_setCell _ _ _ _).trans h.fr1, (World.frozen?_setCell _ _ _ _).trans h.fp0, (World.frozen?_setCell _ _ _ _).trans h.fp1⟩
theorem pcells_new (w : World) (m : Int) {W : World} (hW : (w.alloc (.cells #[.int .i64 0, .slice none 0 0] 31)).alloc (.cells #[.int .i64 m, .slice none 0 0] 31) = W) : PCells W w.heap.size m (.slice none 0 0) := by
  subst hW
  have s1 : (w.alloc (.cells #[.int .i64 0, .slice none 0 0] 31)).heap.size = w.heap.size + 1 := by simp
  refine ⟨?_, ?_, ?_, ?_, ?_, ?_, ?_, ?_⟩
  · rw [World.cell?_alloc_past _ _ _ (by omega), World.cell?_alloc_at _ _ _ _ rfl]; rfl
  · rw [World.cell?_alloc_past _ _ _ (by omega), World.cell?_alloc_at _ _ _ _ rfl]; rfl
  · rw [World.cell?_alloc_at _ _ _ _ s1.symm]; rfl
  · rw [World.cell?_alloc_at _ _ _ _ s1.symm]; rfl
  · rw [World.frozen?_alloc_past _ _ _ (by omega), World.frozen?_alloc_at _ _ _ _ rfl]
  · rw [World.frozen?_alloc_past _ _ _ (by omega), World.frozen?_alloc_at _ _ _ _ rfl]
  · rw [World.frozen?_alloc_at _ _ _ _ s1.symm]
  · rw [World.frozen?_alloc_at _ _ _ _ s1.symm]
theorem has_step (rs : List Rl) (p : ByteArray) (j : Nat) (hj : j < rs.length) : (!hasB (rs.take (j + 1)) p) = (!hasB (rs.take j) p && decide ((fnOf rs j).p ≠ p)) := by
  have e : rs.take (j + 1) = rs.take j ++ [fnOf rs j] := by rw [fn_at hj, List.take_succ_eq_append_getElem hj]
  have hl : (rs.take j).length = j := by simp; omega
  have hat : ∀ i, i < j → fnOf (rs.take (j + 1)) i = fnOf (rs.take j) i := fun i hi => by rw [e]; simp [fnOf, List.getD_eq_getElem?_getD, List.getElem?_append_left, hl, hi]
  have hlast : fnOf (rs.take (j + 1)) j = fnOf rs j := by rw [e]; simp [fnOf, List.getD_eq_getElem?_getD, hl]
  have hl1 : (rs.take (j + 1)).length = j + 1 := by simp; omega
  unfold hasB
  rcases fd_ways (rs.take j) p with ⟨i, hi, he, _, g⟩ | ⟨h, g⟩
  · rw [hl] at hi
    rcases fd_ways (rs.take (j + 1)) p with ⟨i2, _, _, _, g2⟩ | ⟨h2, g2⟩
    · rw [g, g2, decide_eq_true (Int.natCast_nonneg _), decide_eq_true (Int.natCast_nonneg _)]; rfl
    · exact absurd ((hat i hi).symm ▸ he) (h2 i (by omega))
  · rw [hl] at h
    by_cases c : (fnOf rs j).p = p
    · rcases fd_ways (rs.take (j + 1)) p with ⟨i2, _, _, _, g2⟩ | ⟨h2, g2⟩
      · rw [g2, g, decide_eq_true (Int.natCast_nonneg _), show decide ((fnOf rs j).p ≠ p) = false from decide_eq_false (fun h => h c)]; simp
      · exact absurd (hlast.symm ▸ c) (h2 j (by omega))
    · rcases fd_ways (rs.take (j + 1)) p with ⟨i2, hi2, he2, _, g2⟩ | ⟨h2, g2⟩
      · rw [hl1] at hi2
        by_cases c2 : i2 = j
        · subst c2; rw [hlast] at he2; exact absurd he2 c
        · rw [hat i2 (by omega)] at he2; exact absurd he2 (h i2 (by omega))
      · rw [g2, g, show decide ((fnOf rs j).p ≠ p) = true from decide_eq_true c]; simp
theorem not_true {b : Bool} (h : true = !b) : b = false := by cases b <;> simp_all
theorem pol_end (w wr : World) (m : Int) (v : Value) (rs : List Rl) (hO : ORls wr (w.heap.size + 2) v rs) (hI : Hid (Polr m rs)) (hB : Below w.heap.size w wr) (hP : PCells wr w.heap.size m v) (hl : rs.length ≤ 13) :
    ((wr.setCell ⟨w.heap.size, 0, none⟩ (.int .i64 m)).setCell ⟨w.heap.size, 1, none⟩ v).cell? ⟨w.heap.size, 0, none⟩ = some (.int .i64 m) ∧ ((wr.setCell ⟨w.heap.size, 0, none⟩ (.int .i64 m)).setCell ⟨w.heap.size, 1, none⟩ v).cell? ⟨w.heap.size, 1, none⟩ = some v ∧
    ((∃ m' rs' v', Ending.returned (.agg #[.int .i64 m, v]) = .returned (.agg #[.int .i64 m', v']) ∧ ORls ((wr.setCell ⟨w.heap.size, 0, none⟩ (.int .i64 m)).setCell ⟨w.heap.size, 1, none⟩ v) w.heap.size v' rs' ∧ rs'.length ≤ 13 ∧ Hid (Polr m' rs')) ∧ Below w.heap.size w ((wr.setCell ⟨w.heap.size, 0, none⟩ (.int .i64 m)).setCell ⟨w.heap.size, 1, none⟩ v)) := by
  refine ⟨?_, ?_, ⟨m, rs, v, rfl, ?_, hl, hI⟩, (hB.setCell (p := ⟨w.heap.size, 0, none⟩) (Nat.le_refl _) _).setCell (p := ⟨w.heap.size, 1, none⟩) (Nat.le_refl _) _⟩
  · rw [cs_other _ _ _ _ _ _ (.inr (by omega))]
    exact World.cell?_setCell_same _ _ _ hP.r0
  · exact World.cell?_setCell_same _ _ _ ((cs_other _ _ _ _ _ _ (.inr (by omega))).trans hP.r1)
  · exact ownR_low (ownsRow_setCell_below (ownsRow_setCell_below hO (by show w.heap.size < w.heap.size + 2; omega) _) (by show w.heap.size < w.heap.size + 2; omega) _) (by omega)
set_option maxHeartbeats 2000000 in
theorem policy_any (most : Int) (A : Option Addr) (n cap : Nat) (w : World) (hm : 0 ≤ most ∧ most ≤ 65535) (h : Nmr w A n) (hn : n ≤ 9223372036854775807) :
    Calls Try.prog 9 #[.int .u16 most, .slice A n cap] w fun r w' => (∃ m rs v, r = .returned (.agg #[.int .i64 m, v]) ∧ ORls w' w.heap.size v rs ∧ rs.length ≤ 13 ∧ Hid (Polr m rs)) ∧ Below w.heap.size w w' := by
  have H := Lib.hid h
  clear h
  have hm1 : 1 ≤ 1 + most % 50 ∧ 1 + most % 50 ≤ 50 := by omega
  have hm3 : 1 ≤ 1 + most % 3 ∧ 1 + most % 3 ≤ 3 := by omega
  have HZ := Lib.hid (polr_start (1 + most % 50) (1 + most % 3) hm1.1 hm1.2 hm3)
  have PC0 := pcells_new w (1 + most % 50) rfl
  have ka := (Below.refl _ w).alloc (Nat.le_refl _) (.cells #[.int .i64 0, .slice none 0 0] 31)
  have kb := (Below.refl _ (w.alloc (.cells #[.int .i64 0, .slice none 0 0] 31))).alloc (Nat.le_refl _) (.cells #[.int .i64 (1 + most % 50), .slice none 0 0] 31)
  have k2 := kbq ka kb
  have hs2 : ((w.alloc (.cells #[.int .i64 0, .slice none 0 0] 31)).alloc (.cells #[.int .i64 (1 + most % 50), .slice none 0 0] 31)).heap.size = w.heap.size + 2 := by simp
  have kc := (Below.refl _ ((w.alloc (.cells #[.int .i64 0, .slice none 0 0] 31)).alloc (.cells #[.int .i64 (1 + most % 50), .slice none 0 0] 31))).alloc (Nat.le_refl _) (.cells #[.string ⟨#[]⟩, .int .u64 1000, .int .u64 5, .int .u8 (1 + most % 3)] 28)
  have RN := r4_new ((w.alloc (.cells #[.int .i64 0, .slice none 0 0] 31)).alloc (.cells #[.int .i64 (1 + most % 50), .slice none 0 0] 31)) ⟨nob, 1000, 5, 1 + most % 3⟩
  rw [hs2] at RN kc
  have PC1 := PC0.under kc (Nat.le_refl _)
  have k3 := Lib.hid (k2.trans (kc.mono (by omega)))
  have RN := Lib.hid RN
  clear ka kb k2 kc PC0 hs2
  go_enter Try.func9, Try.ntmps9
  go_wp2_with (at_builtin; refine wpList_app_rl _ rfl _ _ rfl (w.heap.size + 2) (.slice none 0 0) [] rfl (ORls.nil _ _) (w.heap.size + 2) 0 1 1 [⟨nob, 1000, 5, 1 + most % 3⟩] rfl rfl (by omega) (fun j hj => by obtain rfl : j = 0 := (by simp at hj; exact hj); exact RN.out) (by simp) (by simp) ?_; intro g cp w2 hO2 b2 gw gg; have P2 := PC1.under b2 (Nat.le_refl _); obtain ⟨r0, r1, p0, p1, fr0, fr1, fp0, fp1⟩ := P2; refine stopHere ?_)
  unfold Stop
  have P2 := Lib.hid ((PC1.under b2 (Nat.le_refl _)).put (.slice (some ⟨g, 0, none⟩) 1 cp))
  have hltP := cell_lt p0
  have O2 : ORls (w2.setCell ⟨w.heap.size + 1, 1, none⟩ (.slice (some ⟨g, 0, none⟩) 1 cp)) (w.heap.size + 2) (.slice (some ⟨g, 0, none⟩) 1 cp) [⟨nob, 1000, 5, 1 + most % 3⟩] := ownsRow_setCell_below hO2 (by show w.heap.size + 1 < w.heap.size + 2; omega) _
  have B2 := (k3.out.trans (b2.mono (by omega))).setCell (p := ⟨w.heap.size + 1, 1, none⟩) (by show w.heap.size ≤ w.heap.size + 1; omega) (.slice (some ⟨g, 0, none⟩) 1 cp)
  clear hO2 b2 gw gg PC1 RN k3
  have O2 := Lib.hid O2
  have B2 := Lib.hid B2
  go_wp2
  generalize hW2 : w2.setCell ⟨w.heap.size + 1, 1, none⟩ (.slice (some ⟨g, 0, none⟩) 1 cp) = W2 at *
  clear r0 r1 p0 p1 fr0 fr1 fp0 fp1 hltP hW2
  generalize hm0 : 1 + most % 50 = m at *
  generalize hH : w.heap.size = H0 at *
  clear hm0 hm1 hm3 hm
  go_loopw [6] (fun i wr => ∃ (k : Nat) (rs : List Rl) (v : Value), i = .int .i64 (k : Int) ∧ k ≤ 12 ∧ k ≤ n ∧ PCells wr H0 m v ∧ ORls wr (H0 + 2) v rs ∧ rs.length ≤ k + 1 ∧ Hid (Polr m rs) ∧ Below H0 w wr) (fun i _ => 12 - (intOf i).toNat)
  case atStart => exact ⟨0, _, _, rfl, by omega, by omega, P2.out, O2.out, by simp, HZ, B2.out⟩
  case round =>
    obtain ⟨k, rs, v, rfl, hk, hkn, hP, hO, hl, hI, hB⟩ := hrel
    obtain ⟨r0, r1, p0, p1, fr0, fr1, fp0, fp1⟩ := hP
    have i0 : (0 : Int) ≤ (k : Int) := Int.natCast_nonneg _
    by_cases c1 : k < n
    · have i1 : (k : Int) < (n : Int) := by omega
      by_cases c2 : k < 12
      · have i2 : (k : Int) < 12 := by omega
        subst hH
        obtain ⟨b, off, Ai, ni, ci, e, u, kd, rfl, y0, y1, y2, y3, HH⟩ := (H.out.below hB) k c1
        have KA := key_any Ai ni ci
        obtain ⟨hby, hni, he, hu, hk8⟩ := HH.out
        have HBy := Lib.hid hby
        have hbl := cell_lt y0
        have kr := Below.refl wr.heap.size wr
        have eK : ∀ W, Below wr.heap.size wr W → Calls Try.prog 10 #[.slice Ai ni ci] W fun e w' => ∃ s, e = .returned (.string s) ∧ Hid (Short s) ∧ Below W.heap.size W w' := fun W g => (KA W (HBy.out.below g) hni).mono fun r w' ⟨s, h1, h2, _, h4⟩ => ⟨s, h1, h2, h4⟩
        clear HH hby KA
        have ee : IntKind.u64.wrap e = e := IntWalk.u64_in _ (by omega)
        have ee1 : IntKind.u64.wrap (1 + e) = 1 + e := IntWalk.u64_in _ (by omega)
        have eu : IntKind.u64.wrap u = u := IntWalk.u64_in _ (by omega)
        have eu1 : IntKind.u64.wrap (1 + u) = 1 + u := IntWalk.u64_in _ (by omega)
        have e3 : kd.tmod 3 = kd % 3 := Int.tmod_eq_emod_of_nonneg hk8.1
        have e31 : IntKind.u8.wrap (1 + kd % 3) = 1 + kd % 3 := IntWalk.u8_in _ (by omega)
        have e32 : IntKind.u8.wrap (kd % 3) = kd % 3 := IntWalk.u8_in _ (by omega)
        go_upto_region 6 with fail
        go_cut [7] from 35 to 62 (fun c wx => ∃ (X : Nat) (s : ByteArray), c = .pointer (some ⟨X, 0, none⟩) ∧ wr.heap.size ≤ X ∧ XC wx X ⟨s, 1 + e, 1 + u, 1 + kd % 3⟩ ∧ Hid (Short s) ∧ Below wr.heap.size wr wx)
        case first =>
          go_region_held3 (fun w' => Below wr.heap.size wr w' ∧ w'.cell? ⟨b, off + k * 4, none⟩ = some (.slice Ai ni ci) ∧ w'.cell? ⟨b, off + k * 4 + 1, none⟩ = some (.int .u32 e) ∧ w'.cell? ⟨b, off + k * 4 + 2, none⟩ = some (.int .u16 u) ∧ w'.cell? ⟨b, off + k * 4 + 3, none⟩ = some (.int .u8 kd))
            (first | with_reducible exact ⟨kr, y0, y1, y2, y3⟩ | with_reducible exact ⟨kr.drew, (dcell y0), (dcell y1), (dcell y2), (dcell y3)⟩ | with_reducible exact ⟨(kr.alloc kr.size _), (acell y0), (acell y1), (acell y2), (acell y3)⟩ | with_reducible exact ⟨(kr.alloc kr.size _).drew, (dcell (acell y0)), (dcell (acell y1)), (dcell (acell y2)), (dcell (acell y3))⟩ | with_reducible exact ⟨(sbel kr), scell y0 hbl, scell y1 hbl, scell y2 hbl, scell y3 hbl⟩ | with_reducible exact ⟨(sbel kr).drew, dcell (scell y0 hbl), dcell (scell y1 hbl), dcell (scell y2 hbl), dcell (scell y3 hbl)⟩)
            (first | (go_at_call 10; ((with_reducible refine (eK _ (by first | with_reducible exact kr | with_reducible exact kr.drew | with_reducible exact (kr.alloc kr.size _) | with_reducible exact (kr.alloc kr.size _).drew)).mono ?_); rintro r w4 ⟨s, rfl, hs, g⟩; (first | with_reducible (replace kr := kbq kr g; replace y0 := celln g y0; replace y1 := celln g y1; replace y2 := celln g y2; replace y3 := celln g y3) | with_reducible (replace kr := kbq kr.drew g; replace y0 := celln g (dcell y0); replace y1 := celln g (dcell y1); replace y2 := celln g (dcell y2); replace y3 := celln g (dcell y3)) | with_reducible (obtain ⟨⟨z0, z1, z2, z3⟩, ⟨zf0, zf1, zf2, zf3⟩⟩ := zero4 g; replace kr := kbq (kr.alloc kr.size _) g; replace y0 := celln g (acell y0); replace y1 := celln g (acell y1); replace y2 := celln g (acell y2); replace y3 := celln g (acell y3)) | with_reducible (obtain ⟨⟨z0, z1, z2, z3⟩, ⟨zf0, zf1, zf2, zf3⟩⟩ := zero4d g; replace kr := kbq (kr.alloc kr.size _).drew g; replace y0 := celln g (dcell (acell y0)); replace y1 := celln g (dcell (acell y1)); replace y2 := celln g (dcell (acell y2)); replace y3 := celln g (dcell (acell y3)))))))
          all_goals
            rename_i hH
            obtain ⟨k5, y0, y1, y2, y3⟩ := hH
            first
            | (have hXC := xc_set (p := s) (e := 1 + e) (b := 1 + u) (k := 1 + kd % 3) z0 z1 z2 z3 zf0 zf1 zf2 zf3; have hX : wr.heap.size ≤ wr.heap.size := Nat.le_refl _
               generalize hW : (((w4.setCell ⟨wr.heap.size, 0, none⟩ (.string s)).setCell ⟨wr.heap.size, 1, none⟩ (.int .u64 (1 + e))).setCell ⟨wr.heap.size, 2, none⟩ (.int .u64 (1 + u))).setCell ⟨wr.heap.size, 3, none⟩ (.int .u8 (1 + kd % 3)) = W5 at *)
            | (have hXC := xc_new w4 s (1 + e) (1 + u) (1 + kd % 3); have hX := kr.size
               generalize hW : w4.alloc (.cells #[.string s, .int .u64 (1 + e), .int .u64 (1 + u), .int .u8 (1 + kd % 3)] 28) = W5 at *)
            go_wp2
            go_meet
            case rel => exact ⟨_, _, rfl, hX, hXC, hs, k5⟩
        case rest =>
        obtain ⟨X, s, rfl, hX, hXC, hs, k5⟩ := hcut
        clear eK kr
        have hOw := Lib.hid (ownR_one hs he hu hk8)
        have hOw2 := Lib.hid (ownR_one (s := s) (e := e % 50) (u := u % 9) (kd := kd) hs (by omega) (by omega) hk8)
        replace y1 := celln k5 y1
        replace y2 := celln k5 y2
        replace y3 := celln k5 y3
        have hXC' := Lib.hid hXC
        obtain ⟨⟨x0, x1, x2, x3⟩, f0, f1, f2, f3⟩ := hXC
        go_upto_region 7 with fail
        go_cut [68] from 63 to 68 (fun c wy => ∃ t : Bool, c = .bool t ∧ Hid (t = decide (200 ≤ kd)) ∧ wy = wc)
        case first =>
          by_cases c3 : 200 ≤ kd
          · have c5 : ¬ kd < 200 := by omega
            have c6 : decide (kd < 200) = false := decide_eq_false c5
            have c7 : decide (200 ≤ kd) = true := decide_eq_true c3
            go_wp2
            go_meet
            case rel => exact ⟨true, rfl, Lib.hid (decide_eq_true c3).symm, rfl⟩
          · have c4 : kd < 200 := by omega
            have c6 : decide (kd < 200) = true := decide_eq_true c4
            have c7 : decide (200 ≤ kd) = false := decide_eq_false (by omega : ¬ 200 ≤ kd)
            go_wp2
            go_meet
            case rel => exact ⟨false, rfl, Lib.hid (decide_eq_false (by omega : ¬ 200 ≤ kd)).symm, rfl⟩
        case rest =>
        obtain ⟨t, rfl, ht, rfl⟩ := hcut
        go_upto_if 68 with fail
        go_cut [] from 69 to 86 (fun wy => ∃ x : Rl, XC wy X x ∧ Hid (OwnR x) ∧ Below wr.heap.size wr wy)
        case first =>
          cases t
          case true =>
            have e5 : e.tmod 50 = e % 50 := Int.tmod_eq_emod_of_nonneg he.1
            have e51 : IntKind.u32.wrap (e % 50) = e % 50 := IntWalk.u32_in _ (by omega)
            have e52 : IntKind.u64.wrap (e % 50) = e % 50 := IntWalk.u64_in _ (by omega)
            have e53 : IntKind.u64.wrap (1 + e % 50) = 1 + e % 50 := IntWalk.u64_in _ (by omega)
            have e9 : u.tmod 9 = u % 9 := Int.tmod_eq_emod_of_nonneg hu.1
            have e91 : IntKind.u16.wrap (u % 9) = u % 9 := IntWalk.u16_in _ (by omega)
            have e92 : IntKind.u64.wrap (u % 9) = u % 9 := IntWalk.u64_in _ (by omega)
            have e93 : IntKind.u64.wrap (1 + u % 9) = 1 + u % 9 := IntWalk.u64_in _ (by omega)
            have hlb := Nat.lt_of_lt_of_le hbl hX
            have hne := Nat.ne_of_lt hlb
            go_wp2
            go_meet
            case rel => exact ⟨_, xc_two hXC'.out (1 + e % 50) (1 + u % 9), hOw2, (k5.setCell (p := ⟨X, 1, none⟩) hX _).setCell (p := ⟨X, 2, none⟩) hX _⟩
          case false =>
            go_wp2
            go_meet
            case rel => exact ⟨_, hXC'.out, hOw, k5⟩
        case rest =>
        obtain ⟨x, hXC2, hOx, k6⟩ := hcut
        clear hXC' x0 x1 x2 x3 f0 f1 f2 f3 hOw hOw2 k5 y0 y1 y2 y3 ee ee1 eu eu1 e3 e31 e32 he hu hk8 ht hni
        have lH : w.heap.size < wr.heap.size := cell_lt r0
        have lP : w.heap.size + 1 < wr.heap.size := cell_lt p0
        replace r0 := celln k6 r0
        replace r1 := celln k6 r1
        replace p0 := celln k6 p0
        replace p1 := celln k6 p1
        replace fr0 := (k6.frozen (p := ⟨w.heap.size, 0, none⟩) lH).trans fr0
        replace fr1 := (k6.frozen (p := ⟨w.heap.size, 1, none⟩) lH).trans fr1
        replace fp0 := (k6.frozen (p := ⟨w.heap.size + 1, 0, none⟩) lP).trans fp0
        replace fp1 := (k6.frozen (p := ⟨w.heap.size + 1, 1, none⟩) lP).trans fp1
        have hO6 := ownR_below hO k6
        have hB6 := kbq hB k6
        obtain ⟨A3, c3, rfl, hq3, hq4, hRl⟩ := hO6.rls (fun r hr => (hI.out.own r hr).okr)
        have HRl := Lib.hid hRl
        have HO6 := Lib.hid hO6
        have HX := Lib.hid hXC2
        obtain ⟨⟨x0, x1, x2, x3⟩, f0, f1, f2, f3⟩ := hXC2
        obtain ⟨xp, xe, xb, xk⟩ := x
        simp only at x0 x1 x2 x3
        clear hO hRl k6 hB
        have hxw := cell_lt x0
        have P6 := Lib.hid (PCells.mk r0 r1 p0 p1 fr0 fr1 fp0 fp1)
        have sz6 : w.heap.size + 2 ≤ wc.heap.size := by have := cell_lt p0; omega
        have hbs : Hid (∀ j, j < rs.length → Hid ((!hasB (rs.take (j + 1)) xp) = (!hasB (rs.take j) xp && decide ((fnOf rs j).p ≠ xp)))) := Lib.hid (fun j hj => Lib.hid (has_step rs xp j hj))
        go_wp2_with fail
        go_loopw [8, 9] (fun tv i wi => ∃ (j : Nat) (tb : Bool), i = .int .i64 (j : Int) ∧ tv = .bool tb ∧ j ≤ rs.length ∧ Hid (tb = !hasB (rs.take j) xp) ∧ Below wc.heap.size wc wi) (fun _ i _ => rs.length - (intOf i).toNat)
        case atStart => exact ⟨0, true, rfl, rfl, Nat.zero_le _, Lib.hid rfl, Below.refl _ _⟩
        case round =>
          obtain ⟨j, tb, rfl, rfl, hj, ht, kB⟩ := hrel
          have j0 : (0 : Int) ≤ (j : Int) := Int.natCast_nonneg _
          replace p1 := celln kB p1
          replace x0 := celln kB x0
          by_cases cj : j < rs.length
          · have j1 : (j : Int) < (rs.length : Int) := by omega
            obtain ⟨b3, o3, rfl, hb3, hc3⟩ := (HRl.out.below kB).2.2 (by omega)
            have e0 := (hc3 j cj).1
            have hst := hbs.out j cj
            generalize hpe : (fnOf rs j).p = pe at e0 hst
            clear hpe hc3
            cases tb
            · go_wp2
              go_region
              go_wp2
              go_roundw
              case rel => exact ⟨j + 1, false, rfl, rfl, cj, Lib.hid (by rw [hst.out, ← ht.out]; rfl), kB.drew⟩
              case measure => simp [intOf]; omega
            · have ts := text_same (a := pe) (b := xp)
              cases hd : decide (pe = xp)
              · rw [hd] at ts
                have hne := of_decide_eq_false hd
                clear hd
                go_wp2
                go_region
                go_wp2
                go_roundw
                case rel => exact ⟨j + 1, true, rfl, rfl, cj, Lib.hid (by rw [hst.out, ← ht.out, decide_eq_true hne]; rfl), kB.drew⟩
                case measure => simp [intOf]; omega
              · rw [hd] at ts
                have heq := of_decide_eq_true hd
                clear hd
                go_wp2
                go_region
                go_wp2
                go_roundw
                case rel => exact ⟨j + 1, false, rfl, rfl, cj, Lib.hid (by rw [hst.out, ← ht.out, show decide (pe ≠ xp) = false from decide_eq_false (fun h => h heq)]; rfl), kB.drew⟩
                case measure => simp [intOf]; omega
          · have j1 : ¬ (j : Int) < (rs.length : Int) := by omega
            have hjj : j = rs.length := by omega
            subst hjj
            replace x1 := celln kB x1
            replace x2 := celln kB x2
            replace x3 := celln kB x3
            have B7 := kbq hB6 kB
            have O7 := ownR_below HO6.out kB
            have P7 := P6.out.under kB sz6
            have P7' := Lib.hid P7
            obtain ⟨r0, r1, p0, p1, fr0, fr1, fp0, fp1⟩ := P7
            rw [List.take_length] at ht
            cases tb
            · go_wp2
              go_roundw
              case rel => exact ⟨k + 1, rs, _, rfl, by omega, by omega, P7'.out, O7, by omega, hI, B7⟩
              case measure => simp [intOf]; omega
            · have hno : hasB rs xp = false := not_true ht.out
              have hPo := Lib.hid (polr_more hI.out hOx.out hno)
              have RN2 := Lib.hid (r4_new wr ⟨xp, xe, xb, xk⟩)
              have O8 : ORls (wr.alloc (.cells #[.string xp, .int .u64 xe, .int .u64 xb, .int .u8 xk] 28)) (w.heap.size + 2) (.slice A3 rs.length c3) rs := ownR_below O7 ((Below.refl _ wr).alloc (Nat.le_refl _) _)
              have O8 := Lib.hid O8
              have kE := (Below.refl _ wr).alloc (Nat.le_refl _) (.cells #[.string xp, .int .u64 xe, .int .u64 xb, .int .u8 xk] 28)
              have P8 := P7'.out.under kE (Nat.le_trans sz6 kB.size)
              have B8 := Lib.hid (kbq B7 kE)
              have hsz8 : w.heap.size + 2 ≤ (wr.alloc (.cells #[.string xp, .int .u64 xe, .int .u64 xb, .int .u8 xk] 28)).heap.size := Nat.le_trans (Nat.le_trans sz6 kB.size) kE.size
              clear kE
              go_wp2_with (at_builtin; refine wpList_app_rl _ rfl _ _ rfl (w.heap.size + 2) (.slice A3 rs.length c3) rs rfl O8.out wr.heap.size 0 1 1 [⟨xp, xe, xb, xk⟩] rfl rfl (by omega) (fun j hj => by obtain rfl : j = 0 := (by simp at hj; exact hj); exact RN2.out) (by omega) hsz8 ?_; intro g2 cp2 w8 hO9 b8 gw8 gg8; have P9 := P8.under b8 (Nat.le_refl _); have P9' := Lib.hid P9; clear P8 r0 r1 p0 p1 fr0 fr1 fp0 fp1; obtain ⟨r0, r1, p0, p1, fr0, fr1, fp0, fp1⟩ := P9; refine stopHere ?_)
              unfold Stop
              have PA := Lib.hid (P9'.out.put (.slice (some ⟨g2, 0, none⟩) (rs.length + 1) cp2))
              have OA : ORls (w8.setCell ⟨w.heap.size + 1, 1, none⟩ (.slice (some ⟨g2, 0, none⟩) (rs.length + 1) cp2)) (w.heap.size + 2) (.slice (some ⟨g2, 0, none⟩) (rs.length + 1) cp2) (rs ++ [⟨xp, xe, xb, xk⟩]) := ownsRow_setCell_below hO9 (by show w.heap.size + 1 < w.heap.size + 2; omega) _
              have OA := Lib.hid OA
              have BA := Lib.hid ((B8.out.trans (b8.mono (by omega))).setCell (p := ⟨w.heap.size + 1, 1, none⟩) (by show w.heap.size ≤ w.heap.size + 1; omega) (.slice (some ⟨g2, 0, none⟩) (rs.length + 1) cp2))
              clear hO9 b8 gw8 gg8 P9'
              go_wp2
              go_roundw
              case rel => exact ⟨k + 1, _, _, rfl, by omega, by omega, PA.out, OA.out, by simp; omega, hPo, BA.out⟩
              case measure => simp [intOf]; omega
      · have i2 : ¬ (k : Int) < 12 := by omega
        subst hH
        obtain ⟨A3, q3, rfl, _, _, _⟩ := hO.rls (fun r hr => (hI.out.own r hr).okr)
        have OZ := Lib.hid (pol_end w wr m _ rs hO hI hB ⟨r0, r1, p0, p1, fr0, fr1, fp0, fp1⟩ (by omega))
        go_wp2
        obtain ⟨q0, q1, hz⟩ := OZ.out
        show bodyPost Try.prog Try.f9 _ _ _ _
        refine bodyPost_ret (v := .agg #[.int .i64 m, .slice A3 rs.length q3]) ?_ rfl hz
        simp [results, Try.results9, go_sem, q0, q1]
    · have i1 : ¬ (k : Int) < (n : Int) := by omega
      subst hH
      obtain ⟨A3, q3, rfl, _, _, _⟩ := hO.rls (fun r hr => (hI.out.own r hr).okr)
      have OZ := Lib.hid (pol_end w wr m _ rs hO hI hB ⟨r0, r1, p0, p1, fr0, fr1, fp0, fp1⟩ (by omega))
      go_wp2
      obtain ⟨q0, q1, hz⟩ := OZ.out
      show bodyPost Try.prog Try.f9 _ _ _ _
      refine bodyPost_ret (v := .agg #[.int .i64 m, .slice A3 rs.length q3]) ?_ rfl hz
      simp [results, Try.results9, go_sem, q0, q1]
theorem plainx_addr {w : World} {ad : Addr} {v : Value} (h : w.cell? (ad.add 0) = some v) : ∃ b off, ad = ⟨b, off, none⟩ := by
  obtain ⟨b, off, spot⟩ := ad
  have hspot : spot = none := by simpa [Addr.add] using World.cell?_spot h
  subst hspot
  exact ⟨b, off, rfl⟩
theorem openx_byts {H : Type} {enc : TypeId × Value → H} {w : World} {base : Nat} {sp : Nat → Bool} {held : Bool} {fuel : Nat} {a : Option Addr} {len cap : Nat} {x : DataW H × List MemPlace}
    (h : DataW.trod enc Try.prog w base sp held fuel 25 [.slice a len cap] = some x) : len ≤ 9223372036854775807 ∧ Byts w a len := by
  rcases open_slice1 Try.underlying25 (by kernel_rfl) h with ⟨h0, _⟩ | ⟨ad, l, c, m, n, V, D, Pl, hcs, hb, hl, hm, hmm, _, hx⟩
  · simp at h0
    obtain ⟨rfl, rfl, rfl⟩ := h0
    exact ⟨by omega, fun i hi => absurd hi (by omega)⟩
  · simp at hcs
    obtain ⟨rfl, rfl, rfl⟩ := hcs
    unfold maxLen at hm
    have hlm : len ≤ m := by rw [hmm]; split <;> omega
    refine ⟨by omega, fun i hi => ?_⟩
    obtain ⟨g1, _⟩ := hx 0 (by omega)
    obtain ⟨b, off, rfl⟩ := plainx_addr g1
    obtain ⟨h1, h2⟩ := hx i (by omega)
    obtain ⟨v, e, _, wf⟩ := DataW.trod_int Try.underlying5 h2
    simp at e
    rw [e, Go.WideShapes.add_plain] at h1
    exact ⟨b, off, v, rfl, h1, bounds_u8 wf⟩
theorem cells_numbers : ∃ f0 f1 f2 f3 : Field, Try.prog.underlying 47 = some (.struct #[f0, f1, f2, f3]) ∧ (f0.offset = 0 ∧ f1.offset = 1 ∧ f2.offset = 2 ∧ f3.offset = 3) ∧ f0.type = 25 ∧ f1.type = 45 ∧ f2.type = 23 ∧ f3.type = 5 :=
  ⟨_, _, _, _, Try.underlying47, ⟨rfl, rfl, rfl, rfl⟩, rfl, rfl, rfl, rfl⟩
theorem open_nmr {H : Type} {enc : TypeId × Value → H} {w : World} {base : Nat} {sp : Nat → Bool} {held : Bool} {fuel : Nat} {a : Option Addr} {len cap : Nat} {x : DataW H × List MemPlace}
    (h : DataW.trod enc Try.prog w base sp held fuel 24 [.slice a len cap] = some x) : len ≤ 9223372036854775807 ∧ Nmr w a len := by
  obtain ⟨f0, f1, f2, f3, hu, ⟨o0, o1, o2, o3⟩, y0, y1, y2, y3⟩ := cells_numbers
  rcases open_slice Try.underlying24 h with ⟨h0, _⟩ | ⟨ad, l, c, m, n, D, Pl, hcs, hb, hl, hm, hmm, _, hx⟩
  · simp at h0
    obtain ⟨rfl, rfl, rfl⟩ := h0
    exact ⟨by omega, fun i hi => absurd hi (by omega)⟩
  · simp at hcs
    obtain ⟨rfl, rfl, rfl⟩ := hcs
    refine ⟨by unfold maxLen at hm; omega, ?_⟩
    have ce : Try.prog.cellsOf 47 = 4 := by kernel_rfl
    have cS : Try.prog.cellsOf 25 = 1 := by kernel_rfl
    have c32 : Try.prog.cellsOf 45 = 1 := by kernel_rfl
    have c16 : Try.prog.cellsOf 23 = 1 := by kernel_rfl
    have c8 : Try.prog.cellsOf 5 = 1 := by kernel_rfl
    have hlm : len ≤ m := by rw [hmm]; split <;> omega
    intro i hi
    have hsp : ∃ u, w.cell? ((ad.add (0 * 4)).add 0) = some u := by
      obtain ⟨cs0, h10, _⟩ := hx 0 (by omega)
      rw [ce] at h10
      obtain ⟨_, hlen0, hcell0⟩ := World.cells?_some h10
      match cs0, hlen0, hcell0 with
      | [u0, u1, u2, u3], _, hc => exact ⟨u0, by simpa using hc 0 (by omega)⟩
    obtain ⟨u0, hu0⟩ := hsp
    obtain ⟨cs', h1, h2⟩ := hx i (by omega)
    rw [ce] at h1
    obtain ⟨_, hlen, hcell⟩ := World.cells?_some h1
    obtain ⟨xs, k, hk, hxy, _, hxl, hf⟩ := DataW.trod_struct hu h2
    match xs, hxl, cs', hlen with
    | [x0, x1, x2, x3], _, [v0, v1, v2, v3], _ =>
      have g0 := hf 0 f0 rfl
      have g1 := hf 1 f1 rfl
      have g2 := hf 2 f2 rfl
      have g3 := hf 3 f3 rfl
      simp [o0, o1, o2, o3, y0, y1, y2, y3, cS, c32, c16, c8] at g0 g1 g2 g3
      have hs : ∃ a' n' c', v0 = .slice a' n' c' := by
        rcases open_slice1 Try.underlying25 (by kernel_rfl) g0 with ⟨h0, _⟩ | ⟨ad, l, c, m, n, V', D', Pl', hcs, _⟩
        · simp at h0; exact ⟨_, _, _, h0⟩
        · simp at hcs; exact ⟨_, _, _, hcs⟩
      obtain ⟨a', n', c', rfl⟩ := hs
      obtain ⟨hn', hb'⟩ := openx_byts g0
      obtain ⟨i1, e1, _, w1⟩ := DataW.trod_int Try.underlying45 g1
      obtain ⟨i2, e2, _, w2⟩ := DataW.trod_int Try.underlying23 g2
      obtain ⟨i3, e3, _, w3⟩ := DataW.trod_int Try.underlying5 g3
      simp at e1 e2 e3
      subst e1 e2 e3
      have c0 := hcell 0 (by omega)
      have c1 := hcell 1 (by omega)
      have c2 := hcell 2 (by omega)
      have c3 := hcell 3 (by omega)
      obtain ⟨b, off, spot⟩ := ad
      have hspot : spot = none := by simpa [Addr.add] using World.cell?_spot hu0
      subst hspot
      simp [Go.WideShapes.add_plain] at c0 c1 c2 c3
      exact ⟨b, off, a', n', c', i1, i2, i3, rfl, by simpa [Nat.add_assoc] using c0, by simpa [Nat.add_assoc] using c1, by simpa [Nat.add_assoc] using c2, by simpa [Nat.add_assoc] using c3, Lib.hid ⟨hb', hn', bounds_u32 w1, bounds_u16 w2, bounds_u8 w3⟩⟩
theorem Polr.ok {m : Int} {rs : List Rl} (h : Polr m rs) : ∀ r ∈ rs, Okr r := fun r hr => (h.own r hr).okr
theorem fnx_drop (rs : List Rl) (i k : Nat) : fnOf (rs.drop i) k = fnOf rs (i + k) := by simp [fnOf, List.getD_eq_getElem?_getD]
theorem ORls.form2 {w : World} {base : Nat} {v : Value} {rs : List Rl} (h : ORls w base v rs) (hx : ∀ r ∈ rs, Okr r) : ∃ A c, v = .slice A rs.length c ∧ (rs.length ≤ c ∧ c ≤ 9223372036854775807) ∧ Rls w A rs.length rs ∧ (A = none → c = 0) ∧ (∀ ad, A = some ad → ad.spot = none) := by
  rcases h.2 with ⟨rfl, h0⟩ | ⟨g, cap, cur, rfl, _⟩
  · have : rs = [] := List.eq_nil_of_length_eq_zero h0
    subst this
    exact ⟨none, 0, rfl, ⟨by simp, by omega⟩, Rls.nil _ _, fun _ => rfl, fun ad e => by cases e⟩
  · obtain ⟨A, c, e, h1, h2, h3⟩ := h.rls hx
    simp only [Value.slice.injEq] at e
    obtain ⟨rfl, _, rfl⟩ := e
    exact ⟨_, _, rfl, ⟨h1, h2⟩, h3, (fun e => by cases e), fun ad e => by cases e; rfl⟩
theorem rslice_front (A : Option Addr) (n cap i : Nat) (hi : i ≤ cap) (hcap : cap ≤ 9223372036854775807) (W : World) : (Instr.slice 22 (.slice A n cap) none (some (.int .i64 (i : Int))) none).run Try.prog W = .ok (.slice A i cap) W := by
  obtain ⟨i0, hz, hz0, hz1, hz2⟩ := info_parts zeroRule
  simp [go_sem, Try.underlying22, sizeOf, typeInfo, hz, hz1, hi]
/-- What is left of a row of rules, and where it lies. -/
theorem rslice_rest (A : Option Addr) (n cap i : Nat) (hi : i ≤ n) (hn : n ≤ cap) : ∃ A', (∀ W : World, (Instr.slice 22 (.slice A n cap) (some (.int .i64 (i : Int))) none none).run Try.prog W = .ok (.slice A' (n - i) (cap - i)) W) ∧
    (∀ (W : World) (l : List Rl), Rls W A n l → Rls W A' (n - i) (l.drop i)) ∧ (A' = none → A = none) ∧ ((∀ ad, A = some ad → ad.spot = none) → ∀ ad, A' = some ad → ad.spot = none) := by
  obtain ⟨i0, hz, hz0, hz1, hz2⟩ := info_parts zeroRule
  refine ⟨if cap = i then A else A.map (·.add (i * 4)), fun W => ?_, fun W l h => ?_, fun h => ?_, fun h ad e => ?_⟩
  · simp [go_sem, Try.underlying22, sizeOf, typeInfo, hz, hz1, hi, sliced]
  · refine ⟨by rw [List.length_drop, h.1], fun r hr => h.2.1 r (List.mem_of_mem_drop hr), fun h0 => ?_⟩
    obtain ⟨b, off, rfl, hb, hc⟩ := h.2.2 (by omega)
    rw [if_neg (by omega)]
    refine ⟨b, off + i * 4, by simp [Go.WideShapes.add_plain], hb, fun k hk => ?_⟩
    rw [fnx_drop, Nat.add_assoc, ← Nat.add_mul]
    exact hc (i + k) (by omega)
  · split at h
    · exact h
    · cases A with
      | none => rfl
      | some ad => simp at h
  · split at e
    · exact h ad e
    · cases A with
      | none => simp at e
      | some ad' =>
        have := h ad' rfl
        obtain ⟨b, off, sp⟩ := ad'
        simp at this
        subst this
        simp [Go.WideShapes.add_plain] at e
        rw [← e]
/-- Rules behind rules: any number. -/
theorem wpList_app_rls (w : World) {ops : Array Oper} {rest : List Oper} {o : Oper} {a : Act} {Q : Exit → Act → World → Prop} (hgd : o.guard = none) (s x : Operand)
    (ho : o.op = .call { callee := .builtin .append, args := #[s, x], argTypes := #[22, 22] })
    (base : Nat) (v : Value) (acc : List Rl) (hs : a.eval s = v) (hown : ORls w base v acc) (ao : Option Addr) (m c : Nat) (xs : List Rl) (hx : a.eval x = .slice ao m c) (hT : Rls w ao m xs) (hn : ao = none → c = 0) (ha : ∀ ad, ao = some ad → ad.spot = none)
    (hsz : acc.length + m ≤ 1099511627776) (hbase : base ≤ w.heap.size)
    (h : ∀ v' w', ORls w' base v' (acc ++ xs) → Below base w w' → w.grownBy w' v.ownBlock → wpList Try.prog ops Q rest (a.put o.dst v') w') : wpList Try.prog ops Q (o :: rest) a w := by
  obtain ⟨i0, hz, hz0, hz1, hz2⟩ := info_parts zeroRule
  cases ao with
  | none =>
    obtain rfl := hn rfl
    have hm : m = 0 := by
      by_cases hm : 0 < m
      · obtain ⟨_, _, e, _⟩ := hT.2.2 hm; cases e
      · omega
    subst hm
    have hl : xs = [] := List.eq_nil_of_length_eq_zero hT.1
    subst hl
    exact wpList_append_own_none hgd s x 22 ho base 28 i0 4 Try.underlying22 hz v acc.length (flatR acc) hs hown hx (h _ w (by rw [List.append_nil]; exact hown) (Below.refl _ _) (World.grownBy.refl w _))
  | some ad =>
    obtain ⟨b, off, sp⟩ := ad
    obtain rfl : sp = none := ha _ rfl
    have hnews : ∀ j u, (flatR xs)[j]? = some u → w.cell? ((⟨b, off, none⟩ : Addr).add j) = some u := by
      by_cases hm : 0 < m
      · obtain ⟨b', off', e, hb, hc⟩ := hT.2.2 hm
        simp only [Option.some.injEq, Addr.mk.injEq, and_true] at e
        obtain ⟨rfl, rfl⟩ := e
        exact flatR_news (fun k hk => hc k (by rw [← hT.1]; exact hk))
      · have hl : xs = [] := List.eq_nil_of_length_eq_zero (by rw [hT.1]; omega)
        subst hl
        intro j u hu
        simp [flatR] at hu
    refine wpList_append_own w hgd s x 22 ho base 28 i0 (.agg #[.string ⟨#[]⟩, .int .u64 0, .int .u64 0, .int .u8 0]) 4 40 Try.underlying22 hz hz0 hz1 hz2 rfl (by decide) v acc.length (flatR acc) hs hown ⟨b, off, none⟩ m c (flatR xs) hx (by rw [flatR_length, hT.1]) hnews (flatR_one xs) (by unfold maxLen; omega) (by omega) hbase ?_
    intro v' w' own grow _
    refine h v' w' ?_ ((Below.refl base w).grown grow hbase (fun k hk => (World.ownsRow.lt hown k hk).1)) grow
    unfold ORls
    rw [flatR_append, List.length_append, hT.1]
    exact own
theorem ORls.form3 {w : World} {base n : Nat} {v : Value} {rs : List Rl} (h : ORls w base v rs) (hx : ∀ r ∈ rs, Okr r) (hn : rs.length = n) : ∃ A c, v = .slice A n c ∧ (n ≤ c ∧ c ≤ 9223372036854775807) ∧ Rls w A n rs ∧ (A = none → c = 0) ∧ (∀ ad, A = some ad → ad.spot = none) := by
  subst hn; exact h.form2 hx
end Go.Proofs.Ytekpmepcacbloaa.Wd
