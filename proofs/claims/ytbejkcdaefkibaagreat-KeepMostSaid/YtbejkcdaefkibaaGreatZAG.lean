/- Rows of rules that a call owns; elder words Rules: a policy of choices; no conditions but those that each names. keep: who stayed stays again; no conditions but those that each names. -/
import Derived.Test.YtbejkcdaefkibaaGreatZAF
import Derived.WalkKit
import Derived.Laws.Bits64b
import Derived.Below
import Derived.Deep.Draws
import Derived.ProofKit
import Derived.OpenShut
import Derived.Handy
import Derived.Lib.Hide
import Derived.Deep.RegionHeld3
import Derived.Deep.QuietTactic
import Derived.BigQuiet
import Derived.RangeFuncNested
import Derived.RangeFuncBound
import Derived.RangeFuncCalls
import Derived.RangeFuncLeaves
import Derived.Shelf.Abstract
import Derived.Shelf.RegionOpen
import Derived.OwnWalkIn
import Derived.TacticsInMore
import Derived.LoopNIn
import Derived.LoopIn
import Derived.LoopTactic
import Derived.OwnWalk
import Derived.Laws.OwnMore
import Derived.Maps.OwnSet
import Derived.Laws.EntriesVeiled
import Derived.Lib.ReflectliteSwap
import Derived.Deep.CutRange
import Derived.Deep.DeepCutAuto
import Derived.Shelf.LaysM
import Derived.Shelf.Strconv.Clone
import Derived.Lib.ItoaNum
import Derived.Lib.ItoaLen
import Derived.Laws.Strings
import GoSem.Op.String
import Derived.Lib.BufferWrite
import Derived.Laws.IdiomStrings
import Derived.Laws.ResultCell
import Derived.Laws.Rows
import Derived.ScopeJumps
import Derived.WalkMore
import Derived.WalkLawsBesides
import Derived.WalkSpells
import Derived.Deep.WholeRow
import Derived.StillTailTactics
import Derived.Deep.AppendLies
import Derived.Laws.ComplexArith
import Derived.WalkSmall
import Derived.Laws.Entries
import Derived.Laws.AppendOwn
import Derived.Deep.LoopGhost
import Derived.Lib.QuietBelow
import Derived.PlainAid
import Derived.Lib.SlBytesConst
import Derived.Lib.SmallJoins
import Derived.Laws.AppendOwnNone
import Derived.Laws.MakeOwn
import Derived.Lib.AppendStr
import Derived.Deep.RegionLaw
import Derived.Defers
import Derived.Recover
import Derived.Deep.Slices
import Derived.OneCell
import Derived.Test.YtbejkcdaefkibaaGreatZAE
namespace Go.Proofs.YtbejkcdaefkibaaGreat.Wd
open Go Go.RowKit Go.Shelf Go.Deep
set_option linter.unusedVariables false
set_option maxRecDepth 100000
theorem lt_heap {w : World} {R : Nat} {o : Obj} (h : w.heap[R]? = some o) : R < w.heap.size := by
  by_cases c : R < w.heap.size
  · exact c
  · rw [Array.getElem?_eq_none (by omega)] at h; cases h
def flatR : List Rl → List Value
  | [] => []
  | r :: l => r.cs ++ flatR l
theorem flatR_append (a b : List Rl) : flatR (a ++ b) = flatR a ++ flatR b := by
  induction a with
  | nil => rfl
  | cons x a ih => simp [flatR, ih]
theorem flatR_length (a : List Rl) : (flatR a).length = a.length * 4 := by
  induction a with
  | nil => rfl
  | cons x a ih => simp [flatR, ih]; omega
theorem flatR_at : ∀ (rs : List Rl) (k : Nat), k < rs.length → (flatR rs)[k * 4]? = some (.string (fnOf rs k).p) ∧ (flatR rs)[k * 4 + 1]? = some (.int .u64 (fnOf rs k).e) ∧ (flatR rs)[k * 4 + 2]? = some (.int .u64 (fnOf rs k).b) ∧ (flatR rs)[k * 4 + 3]? = some (.int .u8 (fnOf rs k).k)
  | [], k, h => by simp at h
  | r :: l, 0, h => by simp [flatR, fnOf]
  | r :: l, k + 1, h => by
    have ih := flatR_at l k (by simpa using h)
    have e : fnOf (r :: l) (k + 1) = fnOf l k := by simp [fnOf]
    rw [e]
    have s : ∀ j, (flatR (r :: l))[(k + 1) * 4 + j]? = (flatR l)[k * 4 + j]? := by
      intro j
      rw [show (k + 1) * 4 + j = (k * 4 + j) + 4 by omega, flatR, List.getElem?_append_right (by simp)]
      simp
    exact ⟨(s 0).trans ih.1, (s 1).trans ih.2.1, (s 2).trans ih.2.2.1, (s 3).trans ih.2.2.2⟩
theorem flatR_one (rs : List Rl) : ∀ u ∈ flatR rs, u.oneCell' = true := by
  induction rs with
  | nil => intro u hu; cases hu
  | cons r l ih =>
    intro u hu
    rw [flatR, List.mem_append] at hu
    rcases hu with hu | hu
    · simp only [List.mem_cons, List.not_mem_nil, or_false] at hu
      rcases hu with rfl | rfl | rfl | rfl <;> rfl
    · exact ih u hu
def ORls (w : World) (base : Nat) (v : Value) (rs : List Rl) : Prop := w.ownsRow base 79 4 v rs.length (flatR rs)
theorem ORls.nil (w : World) (base : Nat) : ORls w base (.slice none 0 0) [] := World.ownsRow_nil _ _ _ _
theorem r4_of_block {w : World} {B o : Nat} {cs : Array Value} {t : TypeId} {fr : Nat × Nat} {r : Rl} (h : w.heap[B]? = some (.cells cs t fr)) (h0 : cs[o]? = some (.string r.p)) (h1 : cs[o + 1]? = some (.int .u64 r.e)) (h2 : cs[o + 2]? = some (.int .u64 r.b)) (h3 : cs[o + 3]? = some (.int .u8 r.k)) : R4 w B o r := by
  refine ⟨?_, ?_, ?_, ?_⟩ <;> (unfold World.cell?; simp [h, h0, h1, h2, h3])
theorem ORls.rls {w : World} {base : Nat} {v : Value} {rs : List Rl} (h : ORls w base v rs) (hx : ∀ r ∈ rs, Okr r) :
    ∃ A c, v = .slice A rs.length c ∧ rs.length ≤ c ∧ c ≤ 9223372036854775807 ∧ Rls w A rs.length rs := by
  obtain ⟨h1, h2⟩ := h
  rcases h2 with ⟨rfl, h0⟩ | ⟨g, cap, cur, rfl, hb, hg, hc1, hc2, hsz, htk⟩
  · have : rs = [] := List.eq_nil_of_length_eq_zero h0
    subst this
    exact ⟨none, 0, rfl, by simp, by omega, Rls.nil _ _⟩
  · refine ⟨_, cap, rfl, hc1, hc2, rfl, hx, fun hn => ⟨g, 0, rfl, lt_heap hg, fun k hk => ?_⟩⟩
    have at_ : ∀ j, j < 4 → cur[0 + k * 4 + j]? = (flatR rs)[k * 4 + j]? := by
      intro j hj
      have e : (cur.toList.take (rs.length * 4))[k * 4 + j]? = (flatR rs)[k * 4 + j]? := by rw [htk]
      rw [List.getElem?_take, if_pos (by omega)] at e
      rw [Nat.zero_add, ← e]; simp
    obtain ⟨f0, f1, f2, f3⟩ := flatR_at rs k hk
    exact r4_of_block hg ((at_ 0 (by omega)).trans f0) ((at_ 1 (by omega)).trans f1) ((at_ 2 (by omega)).trans f2) ((at_ 3 (by omega)).trans f3)
theorem zeroRule : (Tryz.prog.info? 79).map (fun i => (i.zero, i.size, i.bytes)) = some (some (.agg #[.string ⟨#[]⟩, .int .u64 0, .int .u64 0, .int .u8 0]), 4, 40) := by kernel_rfl
theorem Rls.grown {w w' : World} {B n : Nat} {rs : List Rl} {row : Option Nat} (h : Rls w (some ⟨B, 0, none⟩) n rs) (g : w.grownBy w' row) (hne : row ≠ some B) : Rls w' (some ⟨B, 0, none⟩) n rs :=
  ⟨h.1, h.2.1, fun hn => by
    obtain ⟨b, off, e, hb, hc⟩ := h.2.2 hn
    injection e with e
    injection e with e1 e2
    subst e1 e2
    exact ⟨_, _, rfl, Nat.lt_of_lt_of_le hb g.size, fun j hj => (hc j hj).of_block (g.block _ hb (fun e => hne e.symm))⟩⟩
theorem flatR_news {w : World} {b off : Nat} {xs : List Rl} (h : ∀ k, k < xs.length → R4 w b (off + k * 4) (fnOf xs k)) : ∀ j u, (flatR xs)[j]? = some u → w.cell? ((⟨b, off, none⟩ : Addr).add j) = some u := by
  intro j u hu
  have hj : j < (flatR xs).length := (List.getElem?_eq_some_iff.1 hu).1
  rw [flatR_length] at hj
  have hk : j / 4 < xs.length := by omega
  obtain ⟨f0, f1, f2, f3⟩ := flatR_at xs (j / 4) hk
  obtain ⟨c0, c1, c2, c3⟩ := h (j / 4) hk
  rw [Go.WideShapes.add_plain]
  have hm : j % 4 = 0 ∨ j % 4 = 1 ∨ j % 4 = 2 ∨ j % 4 = 3 := by omega
  rcases hm with hm | hm | hm | hm
  · have e : j = j / 4 * 4 := by omega
    rw [e] at hu ⊢
    rw [f0] at hu; injection hu with hu; subst hu
    exact c0
  · have e : j = j / 4 * 4 + 1 := by omega
    rw [e] at hu ⊢
    rw [f1] at hu; injection hu with hu; subst hu
    rw [← Nat.add_assoc]; exact c1
  · have e : j = j / 4 * 4 + 2 := by omega
    rw [e] at hu ⊢
    rw [f2] at hu; injection hu with hu; subst hu
    rw [← Nat.add_assoc]; exact c2
  · have e : j = j / 4 * 4 + 3 := by omega
    rw [e] at hu ⊢
    rw [f3] at hu; injection hu with hu; subst hu
    rw [← Nat.add_assoc]; exact c3
theorem wpList_app_rl (w : World) {ops : Array Oper} {rest : List Oper} {o : Oper} {a : Act} {Q : Exit → Act → World → Prop} (hgd : o.guard = none) (s x : Operand)
    (ho : o.op = .call { callee := .builtin .append, args := #[s, x], argTypes := #[22, 22] })
    (base : Nat) (v : Value) (acc : List Rl) (hs : a.eval s = v) (hown : ORls w base v acc) (b off m c : Nat) (xs : List Rl) (hx : a.eval x = .slice (some ⟨b, off, none⟩) m c) (hm : xs.length = m) (hm0 : 0 < m)
    (hR : ∀ k, k < xs.length → R4 w b (off + k * 4) (fnOf xs k)) (hsz : acc.length + m ≤ 1099511627776) (hbase : base ≤ w.heap.size)
    (h : ∀ g cap w', ORls w' base (.slice (some ⟨g, 0, none⟩) (acc.length + m) cap) (acc ++ xs) → Below base w w' → w.grownBy w' v.ownBlock → (v.ownBlock = some g ∨ g = w.heap.size) → wpList Tryz.prog ops Q rest (a.put o.dst (.slice (some ⟨g, 0, none⟩) (acc.length + m) cap)) w') : wpList Tryz.prog ops Q (o :: rest) a w := by
  obtain ⟨i0, hi, hy0, hy1, hy2⟩ := info_parts zeroRule
  subst hm
  refine wpList_append_lies w hgd s x 22 ho base 79 i0 (.agg #[.string ⟨#[]⟩, .int .u64 0, .int .u64 0, .int .u8 0]) 4 40 Tryz.underlying22 hi hy0 hy1 hy2 rfl (by decide) v acc.length (flatR acc) hs hown ⟨b, off, none⟩ xs.length c (flatR xs) hx (by rw [flatR_length]) (flatR_news hR) (flatR_one xs) hm0 (by unfold maxLen; omega) (by omega) hbase w.heap.size rfl ?_
  intro g cap w' own grow hg hgs
  refine h g cap w' ?_ ((Below.refl base w).grown grow hbase (fun k hk => (World.ownsRow.lt hown k hk).1)) grow hg
  unfold ORls
  rw [List.length_append, flatR_append]
  exact own
theorem ORls.form2 {w : World} {base : Nat} {v : Value} {rs : List Rl} (h : ORls w base v rs) (hx : ∀ r ∈ rs, Okr r) : ∃ A c, v = .slice A rs.length c ∧ (rs.length ≤ c ∧ c ≤ 9223372036854775807) ∧ Rls w A rs.length rs ∧ (A = none → c = 0) ∧ (∀ ad, A = some ad → ad.spot = none) := by
  rcases h.2 with ⟨rfl, h0⟩ | ⟨g, cap, cur, rfl, _⟩
  · have : rs = [] := List.eq_nil_of_length_eq_zero h0
    subst this
    exact ⟨none, 0, rfl, ⟨by simp, by omega⟩, Rls.nil _ _, fun _ => rfl, fun ad e => by cases e⟩
  · obtain ⟨A, c, e, h1, h2, h3⟩ := h.rls hx
    simp only [Value.slice.injEq] at e
    obtain ⟨rfl, _, rfl⟩ := e
    exact ⟨_, _, rfl, ⟨h1, h2⟩, h3, (fun e => by cases e), fun ad e => by cases e; rfl⟩
theorem ORls.form3 {w : World} {base n : Nat} {v : Value} {rs : List Rl} (h : ORls w base v rs) (hx : ∀ r ∈ rs, Okr r) (hn : rs.length = n) : ∃ A c, v = .slice A n c ∧ (n ≤ c ∧ c ≤ 9223372036854775807) ∧ Rls w A n rs ∧ (A = none → c = 0) ∧ (∀ ad, A = some ad → ad.spot = none) := by
  subst hn; exact h.form2 hx
end Go.Proofs.YtbejkcdaefkibaaGreat.Wd
namespace Go.Proofs.YtbejkcdaefkibaaGreat.Wd
open Go Go.RowKit Go.Deep Go.Shelf
set_option linter.unusedVariables false
set_option maxRecDepth 100000
attribute [local go_sem] Oper.semAt_some
theorem orls_lit (w : World) (base : Nat) (r : Rl) (hb : base ≤ w.heap.size) : ORls (w.alloc (.cells #[.string r.p, .int .u64 r.e, .int .u64 r.b, .int .u8 r.k] 79)) base (.slice (some ⟨w.heap.size, 0, none⟩) 1 1) [r] := by
  have h := World.ownsRow_lit (base := base) (e := 79) (size := 4) w #[.string r.p, .int .u64 r.e, .int .u64 r.b, .int .u8 r.k] 1 hb (by unfold maxLen; omega) (by simp)
  exact h
abbrev txL : Array Value := #[.string ⟨#[97]⟩, .string ⟨#[98]⟩, .string ⟨#[97, 47]⟩, .string ⟨#[99]⟩, .string ⟨#[122]⟩, .string ⟨#[126]⟩, .string ⟨#[33]⟩, .string ⟨#[]⟩]
theorem own_set {w : World} {base size n PB i : Nat} {e : TypeId} {v u : Value} {xs : List Value} (h : w.ownsRow base e size v n xs) (hne : v.ownBlock ≠ some PB) : (w.setCell ⟨PB, i, none⟩ u).ownsRow base e size v n xs := by
  refine ⟨h.1, ?_⟩
  rcases h.2 with hn | ⟨b, cap, cur, rfl, hb, hgg, rest⟩
  · exact .inl hn
  · exact .inr ⟨b, cap, cur, rfl, hb, (Below.heap_setCell _ _ _ _ (fun e => hne (by rw [e]; rfl))).trans hgg, rest⟩
theorem tx_at (j : Nat) (h : j < 8) : ∃ t : ByteArray, txL[j]? = some (.string t) ∧ t.size ≤ 2 := by
  match j, h with
  | 0, _ => exact ⟨_, rfl, by decide⟩
  | 1, _ => exact ⟨_, rfl, by decide⟩
  | 2, _ => exact ⟨_, rfl, by decide⟩
  | 3, _ => exact ⟨_, rfl, by decide⟩
  | 4, _ => exact ⟨_, rfl, by decide⟩
  | 5, _ => exact ⟨_, rfl, by decide⟩
  | 6, _ => exact ⟨_, rfl, by decide⟩
  | 7, _ => exact ⟨_, rfl, by decide⟩
set_option maxHeartbeats 8000000 in
theorem rules_any (k0 : Int) (A0 : Option Addr) (n cap : Nat) (bs : List UInt8) (w : World) (h : Txt w A0 n bs) (hn : n ≤ 9223372036854775807) (hk : 0 ≤ k0 ∧ k0 ≤ 255) :
    Calls Tryz.prog 15 #[.int .u8 k0, .slice A0 n cap] w fun e w' => ∃ v rs, e = .returned (.agg #[.int .i64 (1 + k0 % 9), v]) ∧ ORls w' w.heap.size v rs ∧ (∀ r ∈ rs, Okr r) ∧ rs.length ≤ 9 ∧ Below w.heap.size w w' := by
  have HX := Lib.hid h
  have tm9 : k0.tmod 9 = k0 % 9 := Int.tmod_eq_emod_of_nonneg hk.1
  have wk9 : IntKind.i64.wrap (k0 % 9) = k0 % 9 := by rw [IntKind.wrap_i64]; omega
  have wm9 : IntKind.i64.wrap (1 + k0 % 9) = 1 + k0 % 9 := by rw [IntKind.wrap_i64]; omega
  have tm240 : k0.tmod 240 = k0 % 240 := Int.tmod_eq_emod_of_nonneg hk.1
  clear h
  have kA := Lib.hid ((Below.refl _ w).alloc (Nat.le_refl _) (.cells #[.int .i64 0, .slice none 0 0] 24))
  have bA := Lib.hid (Blk.new w #[.int .i64 0, .slice none 0 0] 24)
  have CR := Lib.hid (fun V k (hk : 0 ≤ k ∧ k ≤ 255) => rule_any k V hk)
  go_enter Tryz.func15, Tryz.ntmps15
  go_upto_region 1 with fail
  generalize w.alloc (.cells #[.int .i64 0, .slice none 0 0] 24) = W0 at *
  go_wp2_with (go_at_call 47; refine (CR.out _ _ (by omega)).mono ?_; rintro e W1 ⟨rfl, g⟩; refine stopHere ?_)
  unfold Stop
  have hr0 := ruleK_okr (k0 % 240) (by omega)
  generalize ruleK (k0 % 240) = r at *
  generalize hmm : 1 + k0 % 9 = m at *
  have HM := Lib.hid hmm
  clear hmm wk9 wm9 tm240
  have g5 : Below W1.heap.size W1 ((W1.alloc (.cells #[.string r.p, .int .u64 r.e, .int .u64 r.b, .int .u8 r.k] 79)).alloc (.cells #[.int .i64 m, .slice (some ⟨W1.heap.size, 0, none⟩) 1 1] 24)) := ((Below.refl _ W1).alloc (Nat.le_refl _) (.cells #[.string r.p, .int .u64 r.e, .int .u64 r.b, .int .u8 r.k] 79)).alloc (by simp) (.cells #[.int .i64 m, .slice (some ⟨W1.heap.size, 0, none⟩) 1 1] 24)
  have O1 := Lib.hid (show ORls ((W1.alloc (.cells #[.string r.p, .int .u64 r.e, .int .u64 r.b, .int .u8 r.k] 79)).alloc (.cells #[.int .i64 m, .slice (some ⟨W1.heap.size, 0, none⟩) 1 1] 24)) W1.heap.size _ _ from own_below (orls_lit W1 W1.heap.size r (Nat.le_refl _)) ((Below.refl _ _).alloc (Nat.le_refl _) _))
  have B1 := Lib.hid (Blk.new (W1.alloc (.cells #[.string r.p, .int .u64 r.e, .int .u64 r.b, .int .u8 r.k] 79)) #[.int .i64 m, .slice (some ⟨W1.heap.size, 0, none⟩) 1 1] 24)
  rw [show (W1.alloc (.cells #[.string r.p, .int .u64 r.e, .int .u64 r.b, .int .u8 r.k] 79)).heap.size = W1.heap.size + 1 by simp] at B1
  have Z1 := Lib.hid (((bA.out.below g).below g5))
  have K1 := Lib.hid (kbq (kbq kA.out g) g5)
  have hz1 := bA.out.lt
  have hz2 := g.size
  have hz0 := kA.out.size
  clear g g5 kA bA
  go_upto_region 2 with fail
  revert O1 B1 Z1 K1
  generalize (W1.alloc (.cells #[.string r.p, .int .u64 r.e, .int .u64 r.b, .int .u8 r.k] 79)).alloc (.cells #[.int .i64 m, .slice (some ⟨W1.heap.size, 0, none⟩) 1 1] 24) = W2
  intro O1 B1 Z1 K1
  obtain ⟨ba, hba⟩ : ∃ ba, W1.heap.size = ba := ⟨_, rfl⟩
  rw [hba] at O1 B1 ⊢ hz2
  have hwb : w.heap.size < ba := by omega
  clear hba
  go_wp2
  go_loopw [6] (fun i wr => ∃ (j : Nat) (rs : List Rl) (v : Value), i = .int .i64 (j : Int) ∧ (j ≤ n ∧ j ≤ 8) ∧ Hid (Blk wr (ba + 1) #[.int .i64 m, v] 24) ∧ Hid (ORls wr ba v rs) ∧ Hid (v.ownBlock ≠ some (ba + 1)) ∧ Hid (∀ r ∈ rs, Okr r) ∧ rs.length ≤ j + 1 ∧ Hid (Blk wr w.heap.size #[.int .i64 0, .slice none 0 0] 24) ∧ Hid (Below w.heap.size w wr)) (fun i _ => 8 - (intOf i).toNat)
  case atStart => exact ⟨0, [r], _, rfl, ⟨Nat.zero_le _, Nat.zero_le _⟩, B1, O1, Lib.hid (fun e => by injection e with e; have e : ba = ba + 1 := e; omega), Lib.hid (fun x hx => by rw [List.mem_singleton.1 hx]; exact hr0), by simp, Z1, K1⟩
  case round =>
    clear O1 B1 Z1 K1
    obtain ⟨j, rs, v, rfl, ⟨hjn, hj8⟩, HP, HO, HNe, HR, hrl, HZ, HB⟩ := hrel
    go_upto_region 3 with fail
    go_cut [24] from 17 to 23 (fun v wx => ∃ t : Bool, v = .bool t ∧ Hid (t = true ↔ (j < n ∧ j < 8)) ∧ Hid (wx = wr))
    case first =>
      by_cases q1 : j < n
      · have q1' : (j : Int) < (n : Int) := by omega
        by_cases q2 : j < 8
        · have q2' : (j : Int) < 8 := by omega
          go_wp2
          go_meet
          case rel => exact ⟨true, rfl, Lib.hid (by simp [q1, q2]), Lib.hid rfl⟩
        · have q2' : decide ((j : Int) < 8) = false := decide_eq_false (by omega)
          go_wp2
          go_meet
          case rel => exact ⟨false, rfl, Lib.hid (by simp [q2]), Lib.hid rfl⟩
      · have q1' : decide ((j : Int) < (n : Int)) = false := decide_eq_false (by omega)
        go_wp2
        go_meet
        case rel => exact ⟨false, rfl, Lib.hid (by simp [q1]), Lib.hid rfl⟩
    case rest =>
    obtain ⟨tt, rfl, htt, hwx⟩ := hcut
    obtain rfl := hwx.out.symm
    clear hwx
    obtain ⟨Av, cv, rfl, _⟩ := HO.out.form2 HR.out
    cases tt
    · clear htt
      obtain ⟨p0, p1, _⟩ : wr.cell? ⟨ba + 1, 0, none⟩ = some (.int .i64 m) ∧ wr.cell? ⟨ba + 1, 1, none⟩ = some (.slice Av rs.length cv) ∧ True := ⟨HP.out.cell 0, HP.out.cell 1, trivial⟩
      obtain ⟨s0, s1, sf0, sf1⟩ : wr.cell? ⟨w.heap.size, 0, none⟩ = some (.int .i64 0) ∧ wr.cell? ⟨w.heap.size, 1, none⟩ = some (.slice none 0 0) ∧ wr.frozen? ⟨w.heap.size, 0, none⟩ = false ∧ wr.frozen? ⟨w.heap.size, 1, none⟩ = false := ⟨HZ.out.cell 0, HZ.out.cell 1, HZ.out.fz 0, HZ.out.fz 1⟩
      go_wp2_with fail
      have z := (HZ.out.set 0 (.int .i64 m)).set 1 (.slice Av rs.length cv)
      obtain ⟨v0, v1⟩ : _ ∧ _ := ⟨z.cell 0, z.cell 1⟩
      have hne : (Value.slice Av rs.length cv).ownBlock ≠ some w.heap.size := fun e => by have := (World.ownsRow.lt HO.out _ e).1; omega
      have KO := Lib.hid (own_base (show w.heap.size ≤ ba by omega) (own_set (i := 1) (u := .slice Av rs.length cv) (own_set (i := 0) (u := .int .i64 m) HO.out hne) hne))
      have KB := Lib.hid ((HB.out.setCell (p := ⟨w.heap.size, 0, none⟩) (Nat.le_refl _) (.int .i64 m)).setCell (p := ⟨w.heap.size, 1, none⟩) (Nat.le_refl _) (.slice Av rs.length cv))
      clear z p0 p1 s0 s1 sf0 sf1
      refine bodyPost_ret (v := .agg #[.int .i64 m, .slice Av rs.length cv]) ?_ rfl ⟨_, rs, by rw [HM.out], KO.out, HR.out, by omega, KB.out⟩
      simp at v0 v1
      simp [results, Tryz.results15, go_sem, v0, v1]
    · obtain ⟨hj1, hj2⟩ := htt.out.1 rfl
      clear htt
      obtain ⟨b, off, rfl, hb, hc⟩ := HX.out.2 (by omega)
      have hcj := hc j hj1
      have x0 := HB.out.cell (p := ⟨b, off + j, none⟩) hb
      rw [hcj] at x0
      obtain ⟨x, hx⟩ : ∃ x : Int, ((bs.getD j 0).toNat : Int) = x := ⟨_, rfl⟩
      have hx8 : 0 ≤ x ∧ x ≤ 255 := by rw [← hx]; have := (bs.getD j 0).toNat_lt; omega
      rw [hx] at x0
      clear hcj hx hc
      have tm5 : x.tmod 5 = x % 5 := Int.tmod_eq_emod_of_nonneg hx8.1
      have jn : (j : Int) < (n : Int) := by omega
      have CX := Lib.hid (fun V => rule_any x V hx8)
      have hrx := ruleK_okr x hx8
      generalize ruleK x = y at *
      go_wp2_with (go_at_call 47; refine (CX.out _).mono ?_; rintro e W5 ⟨rfl, g⟩; refine stopHere ?_)
      unfold Stop
      obtain ⟨t, htx, ht2⟩ := tx_at j (by omega)
      have hw5 := g.size
      have g7 : Below wr.heap.size wr ((W5.alloc (.cells #[.string t, .int .u64 y.e, .int .u64 y.b, .int .u8 y.k] 79)).alloc (.cells txL 9)) := (g.alloc g.size (.cells #[.string t, .int .u64 y.e, .int .u64 y.b, .int .u8 y.k] 79)).alloc (by simp; omega) (.cells txL 9)
      have bT := (Blk.new (W5.alloc (.cells #[.string y.p, .int .u64 y.e, .int .u64 y.b, .int .u8 y.k] 79)) txL 9).cell j
      rw [htx, show (W5.alloc (.cells #[.string y.p, .int .u64 y.e, .int .u64 y.b, .int .u8 y.k] 79)).heap.size = W5.heap.size + 1 by simp] at bT
      have jn8 : (j : Int) < 8 := by omega
      have j0 : (0 : Int) ≤ (j : Int) := by omega
      go_upto_region 7 with fail
      have bY := Lib.hid ((Blk.new W5 #[.string t, .int .u64 y.e, .int .u64 y.b, .int .u8 y.k] 79).alloc (.cells txL 9))
      have hY' : Okr ⟨t, y.e, y.b, y.k⟩ := ⟨by show t.size ≤ _; omega, hrx.e, hrx.b, hrx.k⟩
      have x7 := g7.cell (p := ⟨b, off + j, none⟩) (cell_lt x0)
      rw [x0] at x7
      have HP7 := Lib.hid (HP.out.below g7)
      have HO7 := Lib.hid (show ORls _ _ _ _ from own_below HO.out g7)
      have HZ7 := Lib.hid (HZ.out.below g7)
      have HB7 := Lib.hid (kbq HB.out g7)
      have hw7 := g7.size
      have hlo := HO.out
      clear g bT g7 x0 HP HO HZ HB htx hrx CX
      revert bY x7 HP7 HO7 HZ7 HB7 hw7
      generalize (W5.alloc (.cells #[.string t, .int .u64 y.e, .int .u64 y.b, .int .u8 y.k] 79)).alloc (.cells txL 9) = W7
      intro bY x7 HP7 HO7 HZ7 HB7 hw7
      by_cases q : 0 < x % 5
      · have q' := decide_eq_true q
        obtain ⟨p0, p1⟩ : W7.cell? ⟨ba + 1, 0, none⟩ = some (.int .i64 m) ∧ W7.cell? ⟨ba + 1, 1, none⟩ = some (.slice Av rs.length cv) := ⟨HP7.out.cell 0, HP7.out.cell 1⟩
        obtain ⟨r0, r1, r2, r3, _⟩ := blk4 bY.out
        have hbw : ba + 1 < W7.heap.size := HP7.out.lt
        have hrl9 : rs.length ≤ 9 := by omega
        go_wp2_with (at_builtin; refine wpList_app_rl _ rfl _ _ rfl ba (.slice Av rs.length cv) rs rfl ?o _ 0 1 1 [⟨t, y.e, y.b, y.k⟩] rfl rfl (by decide) ?c1 ?c2 ?c3 ?_)
        case o => exact own_below (show ORls W7 _ _ _ from HO7.out) ((Below.refl _ _).alloc (Nat.le_refl _) _)
        case c1 =>
          intro k hk
          have e := Blk.new W7 #[.string t, .int .u64 y.e, .int .u64 y.b, .int .u8 y.k] 79
          match k, hk with
          | 0, _ => exact ⟨e.cell 0, e.cell 1, e.cell 2, e.cell 3⟩
        case c2 => omega
        case c3 => simp; omega
        intro g cap9 w9 own bel grow hg
        have a7 := (Below.refl _ W7).alloc (Nat.le_refl _) (.cells #[.string t, .int .u64 y.e, .int .u64 y.b, .int .u8 y.k] 79)
        have hsz8 : (W7.alloc (.cells #[.string t, .int .u64 y.e, .int .u64 y.b, .int .u8 y.k] 79)).heap.size = W7.heap.size + 1 := by simp
        have hnz : (Value.slice Av rs.length cv).ownBlock ≠ some w.heap.size := fun e => by have := (World.ownsRow.lt HO7.out _ e).1; omega
        have HP9 := Lib.hid (show Blk w9 (ba + 1) _ _ from (grow.block (ba + 1) (by omega) (fun e => HNe.out e.symm)).trans (HP7.out.below a7))
        have HZ9 := Lib.hid (show Blk w9 w.heap.size _ _ from (grow.block w.heap.size (by omega) (fun e => hnz e.symm)).trans (HZ7.out.below a7))
        have HO9 := Lib.hid own
        have HB9 := Lib.hid ((kbq HB7.out a7).trans (bel.mono (by omega)))
        have hne9 : Hid ((Value.slice (some ⟨g, 0, none⟩) (rs.length + 1) cap9).ownBlock ≠ some (ba + 1)) := Lib.hid (fun e => by
          have e' : some g = some (ba + 1) := e
          injection e' with e'
          rcases hg with hg | hg
          · exact HNe.out (by rw [hg, e'])
          · omega)
        have hR9 : Hid (∀ z ∈ rs ++ [⟨t, y.e, y.b, y.k⟩], Okr z) := Lib.hid (fun z hz => (List.mem_append.1 hz).elim (HR.out z) (fun hz => by rw [List.mem_singleton.1 hz]; exact hY'))
        clear own bel grow hg a7 p0 p1 r0 r1 r2 r3 HP7 HO7 HZ7 HB7 bY x7
        obtain ⟨p0, p1, pf0, pf1⟩ : w9.cell? ⟨ba + 1, 0, none⟩ = some (.int .i64 m) ∧ w9.cell? ⟨ba + 1, 1, none⟩ = some (.slice Av rs.length cv) ∧ w9.frozen? ⟨ba + 1, 0, none⟩ = false ∧ w9.frozen? ⟨ba + 1, 1, none⟩ = false := ⟨HP9.out.cell 0, HP9.out.cell 1, HP9.out.fz 0, HP9.out.fz 1⟩
        go_upto_region 4 with fail
        have HPZ := Lib.hid (show Blk _ (ba + 1) #[.int .i64 m, .slice (some ⟨g, 0, none⟩) (rs.length + 1) cap9] _ from HP9.out.set 1 (.slice (some ⟨g, 0, none⟩) (rs.length + 1) cap9))
        have HZZ := Lib.hid (HZ9.out.other (c := ba + 1) 1 (.slice (some ⟨g, 0, none⟩) (rs.length + 1) cap9) (by omega))
        have HOZ := Lib.hid (show ORls _ _ _ _ from own_set (i := 1) (u := .slice (some ⟨g, 0, none⟩) (rs.length + 1) cap9) HO9.out hne9.out)
        have HBZ := Lib.hid (HB9.out.setCell (p := ⟨ba + 1, 1, none⟩) (show w.heap.size ≤ ba + 1 by omega) (.slice (some ⟨g, 0, none⟩) (rs.length + 1) cap9))
        clear p0 p1 pf0 pf1 HP9 HZ9 HO9 HB9
        revert HPZ HZZ HOZ HBZ
        generalize World.setCell w9 _ _ = V
        intro HPZ HZZ HOZ HBZ
        go_wp2
        go_roundw
        case rel => exact ⟨j + 1, rs ++ [⟨t, y.e, y.b, y.k⟩], _, by go_num, ⟨by omega, by omega⟩, HPZ, HOZ, hne9, hR9, by simp; omega, HZZ, HBZ⟩
        case measure => simp [intOf]; omega
      · have q' := decide_eq_false q
        go_wp2
        go_roundw
        case rel => exact ⟨j + 1, rs, _, by go_num, ⟨by omega, by omega⟩, HP7, HO7, HNe, HR, by omega, HZ7, HB7⟩
        case measure => simp [intOf]; omega
end Go.Proofs.YtbejkcdaefkibaaGreat.Wd
namespace Go.Proofs.YtbejkcdaefkibaaGreat.Wd
open Go Go.RowKit Go.Deep Go.Shelf
set_option linter.unusedVariables false
set_option maxRecDepth 100000
theorem All2.diag {R : Sl → Sl → Prop} : ∀ {S : List Sl}, All2 R S S → ∀ s ∈ S, R s s
  | [], _, s, h => (List.not_mem_nil h).elim
  | a :: r, .cons h t, s, hs => by
    rcases List.mem_cons.1 hs with rfl | q
    · exact h
    · exact All2.diag t s q
theorem Twi.self {c : Int} {z s : Sl} (h : Twi c z s) : Twi c z z := by
  obtain ⟨f, h1, _⟩ := h.say
  exact ⟨rfl, rfl, rfl, rfl, f, h1, h1⟩
theorem stay_again {rs : List Rl} {c : Int} {s z : Sl} (h : Twi c s s) (ho : Okt c s) (hok : ∀ K r, findR rs K = some r → Okr r) (hc : U c) (hc2 : c ≤ 4611686018427387904) (hz : stayS rs c s = some z) : stayS rs c z = some z := by
  have hT := (stay_twi h ho hok hc hc2 hz).1
  obtain ⟨r, hr, he, hb, h0, rfl⟩ := stay_some hz
  have h3 := rule_is3 h0
  have hf := hT.fl (Int.le_refl c) hc
  have ec : capR r = capR s.r := hT.cap
  have e1 : stayS rs c (stK c s r) = some (stK c (stK c s r) r) := stay_yes (s := stK c s r) hr (by unfold smB; simp) h0
  have ek : kmK (kmK s.k r.k) r.k = kmK s.k r.k := by rw [kmK_is ho.kind h3, kmK_is h3 h3]
  have ea : kmA (kmK s.k r.k) (kmA s.k s.a s.b r.k c (capR r)) (kmB s.k r.k c) r.k c (capR r) = kmA s.k s.a s.b r.k c (capR r) := by
    have hf' : kfI (kmK s.k r.k) (kmA s.k s.a s.b r.k c (capR r)) (kmB s.k r.k c) c (capR r) = kfI s.k s.a s.b c (capR s.r) := hf
    have hi : Is3 (kmK s.k r.k) := by rw [kmK_is ho.kind h3]; exact h3
    rw [kmA_is hi, hf', kmA_is ho.kind, ec]
  have eb : kmB (kmK s.k r.k) r.k c = kmB s.k r.k c := by
    have hi : Is3 (kmK s.k r.k) := by rw [kmK_is ho.kind h3]; exact h3
    rw [kmB_is hi, kmB_is ho.kind]
  rw [e1]
  show some (Sl.mk s.key r (kmK (kmK s.k r.k) r.k) (kmA (kmK s.k r.k) (kmA s.k s.a s.b r.k c (capR r)) (kmB s.k r.k c) r.k c (capR r)) (kmB (kmK s.k r.k) r.k c)) = some (Sl.mk s.key r (kmK s.k r.k) (kmA s.k s.a s.b r.k c (capR r)) (kmB s.k r.k c))
  rw [ea, ek, eb]
/-- Nothing is wrong with those who stay. -/
theorem wo_stay {rs : List Rl} {m mo c : Int} {S xs : List Sl} (hw : Wf m c S) (TL : Told S xs) (hT : ∀ s ∈ S, Twi c s s) (hok : ∀ K r, findR rs K = some r → Okr r) (hc2 : c ≤ 4611686018427387904) (hm : m ≤ mo) (hm2 : mo ≤ 1000000) : woE mo c (xs.filterMap (stayS rs c)) = 0 := by
  have hl : ((xs.filterMap (stayS rs c)).length : Int) ≤ mo := by
    have h1 := List.length_filterMap_le (stayS rs c) xs
    have h2 := TL.len
    have h3 := hw.len
    omega
  have hf : fsE c (xs.filterMap (stayS rs c)) = 0 := fs_zero (fun z hz => by
    obtain ⟨s, hs, e⟩ := List.mem_filterMap.1 hz
    have hs' := (TL.mem s).1 hs
    have q := stay_twi (hT s hs') (hw.ok s hs') hok hw.cu hc2 e
    exact ws_zero q.2 (twi_cap q.1 hw.cu))
  have hs := rise_so (rise_stay (rs := rs) (c := c) (told_rise TL hw.ap).1)
  have := hw.m1
  unfold woE
  rw [if_neg (by omega), if_pos hf, if_pos hs, if_neg (by omega)]
/-- Who stays is in the new table. -/
theorem keep_stay (T : Nat) (B : Nat → Prop) (m c mo : Int) (S : List Sl) (A : Option Addr) (n cap : Nat) (rs : List Rl) (w : World) (h : Tbl w T B m c S) (hT : ∀ s ∈ S, Twi c s s) (hc2 : c ≤ 4611686018427387904) (hr : Rls w A n rs) (hn : n ≤ 1000000) (hm : m ≤ mo) (hm2 : mo ≤ 1000000) :
    Calls Tryz.prog 39 #[ptr T, .agg #[.int .i64 mo, .slice A n cap]] w fun e w' => ∃ T2 B2 S2, ∃ g : Nat, e = .returned (.tuple #[ptr T2, .int .i64 (g : Int), .int .u16 0]) ∧ Tbl w' T2 B2 mo c S2 ∧ (∀ z ∈ S2, Twi c z z ∧ stayS rs c z = some z) ∧ Below w.heap.size w w' := by
  have hw := h.wf
  have hok : ∀ K r, findR rs K = some r → Okr r := fun K r e => find_okr hr.2.1 K r e
  refine (keep_any (some ⟨T, 0, none⟩) _ B m c mo S A n cap rs w (Ent.yes h) (fun s hs => (hw.ok s hs).oks) (fun s hs z e => (stay_twi (hT s hs) (hw.ok s hs) hok hw.cu hc2 e).2.oks) (by have := hw.len; have := hw.m2; omega) hw.cu hr (by omega) hok).mono ?_
  rintro e w' ⟨xs, TL, g, hk⟩
  rcases hk with ⟨_, T2, B2, S2, he, ht, hp, _⟩ | ⟨q, _⟩
  · refine ⟨T2, B2, S2, _, he, ht, fun z hz => ?_, g⟩
    obtain ⟨s, hs, e⟩ := List.mem_filterMap.1 (hp.mem_iff.1 hz)
    have hs' := (TL.mem s).1 hs
    exact ⟨(stay_twi (hT s hs') (hw.ok s hs') hok hw.cu hc2 e).1.self, stay_again (hT s hs') (hw.ok s hs') hok hw.cu hc2 e⟩
  · exact absurd (wo_stay hw TL hT hok hc2 hm hm2) q
theorem fm_id {rs : List Rl} {c : Int} : ∀ {xs : List Sl}, (∀ z ∈ xs, stayS rs c z = some z) → xs.filterMap (stayS rs c) = xs ∧ xs.filter (fun s => (stayS rs c s).isNone) = []
  | [], _ => ⟨rfl, rfl⟩
  | a :: r, h => by
    have h1 := h a (List.mem_cons_self ..)
    have ih := fm_id (rs := rs) (c := c) (xs := r) (fun z hz => h z (List.mem_cons_of_mem _ hz))
    refine ⟨?_, ?_⟩
    · rw [List.filterMap_cons, h1]; show a :: _ = _; rw [ih.1]
    · rw [List.filter_cons, h1]; exact ih.2
/-- Where all stay: the same slots, and nobody goes. -/
theorem keep_all (T : Nat) (B : Nat → Prop) (m c mo : Int) (S : List Sl) (A : Option Addr) (n cap : Nat) (rs : List Rl) (w : World) (h : Tbl w T B m c S) (hT : ∀ z ∈ S, Twi c z z ∧ stayS rs c z = some z) (hc2 : c ≤ 4611686018427387904) (hr : Rls w A n rs) (hn : n ≤ 1000000) (hm : m ≤ mo) (hm2 : mo ≤ 1000000) :
    Calls Tryz.prog 39 #[ptr T, .agg #[.int .i64 mo, .slice A n cap]] w fun e w' => ∃ T2 B2 S2, e = .returned (.tuple #[ptr T2, .int .i64 0, .int .u16 0]) ∧ Tbl w' T2 B2 mo c S2 ∧ S2.Perm S ∧ Below w.heap.size w w' := by
  have hw := h.wf
  have hok : ∀ K r, findR rs K = some r → Okr r := fun K r e => find_okr hr.2.1 K r e
  refine (keep_any (some ⟨T, 0, none⟩) _ B m c mo S A n cap rs w (Ent.yes h) (fun s hs => (hw.ok s hs).oks) (fun s hs z e => (stay_twi (hT s hs).1 (hw.ok s hs) hok hw.cu hc2 e).2.oks) (by have := hw.len; have := hw.m2; omega) hw.cu hr (by omega) hok).mono ?_
  rintro e w' ⟨xs, TL, g, hk⟩
  rcases hk with ⟨_, T2, B2, S2, he, ht, hp, _⟩ | ⟨q, _⟩
  · obtain ⟨e1, e2⟩ := fm_id (rs := rs) (c := c) (xs := xs) (fun z hz => (hT z ((TL.mem z).1 hz)).2)
    rw [e2] at he
    rw [e1] at hp
    exact ⟨T2, B2, S2, he, ht, hp.trans (told_rise TL hw.ap).2, g⟩
  · exact absurd (wo_stay hw TL (fun s hs => (hT s hs).1) hok hc2 hm hm2) q
theorem lost_none (T : Nat) (B : Nat → Prop) (m c mo : Int) (S : List Sl) (A : Option Addr) (n cap : Nat) (rs : List Rl) (w : World) (h : Tbl w T B m c S) (hT : ∀ z ∈ S, stayS rs c z = some z) (hr : Rls w A n rs) (hn : n ≤ 1000000) :
    Calls Tryz.prog 40 #[ptr T, .agg #[.int .i64 mo, .slice A n cap]] w fun e w' => ∃ u, e = .returned u ∧ ORow w' w.heap.size u [] ∧ Below w.heap.size w w' := by
  have hw := h.wf
  refine (lost_any (some ⟨T, 0, none⟩) _ B m c mo S A n cap rs w (Ent.yes h) (fun s hs => (hw.ok s hs).oks) (by have := hw.len; have := hw.m2; omega) hw.cu hr (by omega) (fun K r e => find_okr hr.2.1 K r e)).mono ?_
  rintro e w' ⟨xs, u, TL, g, rfl, ho⟩
  obtain ⟨_, e2⟩ := fm_id (rs := rs) (c := c) (xs := xs) (fun z hz => hT z ((TL.mem z).1 hz))
  rw [e2] at ho
  exact ⟨u, rfl, ho, g⟩
theorem Told.perm {S S' xs : List Sl} (h : Told S xs) (p : S.Perm S') : Told S' xs := ⟨fun x => (h.mem x).trans p.mem_iff, by rw [h.len, p.length_eq], h.inc⟩
end Go.Proofs.YtbejkcdaefkibaaGreat.Wd
