/- What TableMoves calls: Entries and its keys, when entries are the same, what a deed costs; two tables, one of which goes over; no conditions but those that each names. The document's table: New, fill, Slots, find, without; no conditions but those that each names. The document's table: with, Slots; rows of slots behind one another, and parts of them; no conditions but those that each names. Plain: the document's table by its slots: what a charge leaves, what goes over, that keys rise; no conditions but those that each names. The document's table: Tick, told; when slots are the same; no conditions but those that each names. Plain: what a charge tells, by the document; no conditions but those that each names. The tree of prefixes, and the document's search; elder words -/
import Derived.Test.YtbejkcdaefkibaaGreatZAC
import Derived.Laws.StructEq
import Derived.Laws.AppendOwnNone
import Derived.Test.YtbejkcdaefkibaaGreatZAB
import Derived.Test.YtbejkcdaefkibaaGreatZAA
import Derived.WalkKit
import Derived.Laws.Bits64b
import Derived.Below
import Derived.Deep.Draws
import Derived.Test.YtbejkcdaefkibaaGreatRows
import Derived.ProofKit
import Derived.OpenShut
import Derived.Handy
import Derived.Lib.Hide
import Derived.Deep.RegionHeld3
import Derived.Deep.QuietTactic
import Derived.BigQuiet
import Derived.RangeFuncNested
import Derived.RangeFuncBound
import Derived.RangeFuncCalls
import Derived.RangeFuncLeaves
import Derived.Shelf.Abstract
import Derived.Shelf.RegionOpen
import Derived.OwnWalkIn
import Derived.TacticsInMore
import Derived.LoopNIn
import Derived.LoopIn
import Derived.LoopTactic
import Derived.OwnWalk
import Derived.Laws.OwnMore
import Derived.Maps.OwnSet
import Derived.Laws.EntriesVeiled
import Derived.Lib.ReflectliteSwap
import Derived.Deep.CutRange
import Derived.Deep.DeepCutAuto
import Derived.Shelf.LaysM
import Derived.Shelf.Strconv.Clone
import Derived.Lib.ItoaNum
import Derived.Lib.ItoaLen
import Derived.Laws.Strings
import GoSem.Op.String
import Derived.Lib.BufferWrite
import Derived.Laws.IdiomStrings
import Derived.Laws.ResultCell
import Derived.Laws.Rows
import Derived.ScopeJumps
import Derived.WalkMore
import Derived.WalkLawsBesides
import Derived.WalkSpells
import Derived.Deep.WholeRow
import Derived.StillTailTactics
import Derived.Deep.AppendLies
import Derived.Laws.ComplexArith
import Derived.WalkSmall
import Derived.Laws.Entries
import Derived.Laws.AppendOwn
import Derived.Deep.LoopGhost
import Derived.Lib.QuietBelow
import Derived.PlainAid
import Derived.Lib.SlBytesConst
import Derived.Lib.SmallJoins
import Derived.Laws.MakeOwn
import Derived.Lib.AppendStr
import Derived.Deep.RegionLaw
import Derived.Defers
import Derived.Recover
import Derived.Deep.Slices
import Derived.OneCell
import Derived.Laws.Cover3
namespace Go.Proofs.YtbejkcdaefkibaaGreat.Wd
open Go Go.RowKit Go.Deep Go.Shelf
set_option linter.unusedVariables false
set_option maxRecDepth 100000

theorem cell_drew {w w' : World} (g : Drew w w') (p : Addr) : w'.cell? p = w.cell? p := by obtain ⟨n, rfl⟩ := g; rfl
theorem entries_all (o : Option Addr) (QT B : Nat → Prop) (m c : Int) (S : List Sl) (w : World) (h : Ent o w QT B m c S) (hsort : SortC S.length) :
    Calls Tryz.prog 28 #[.pointer o] w fun e w' => ∃ v, ∃ xs : List Sl, e = .returned v ∧ OwE w' w.heap.size v (xs.map (entS c)) ∧ (∀ x ∈ xs, x ∈ S) ∧ Allk S (xs.map (fun x => x.key)) ∧ Below w.heap.size w w' := by
  have CO := Lib.hid h.go
  have b0 := Boxed.new w Ttp (.pointer o)
  have k0 := (Below.refl _ w).alloc (Nat.le_refl _) (.cells #[.pointer o] Ttp)
  have HS := Lib.hid hsort
  clear h hsort
  go_enter Tryz.func28, Tryz.ntmps28
  go_wp2_with (go_at_call 64; refine (CO.out _ k0).mono ?_; rintro e w2 ⟨T, rfl, g2, hQ, hT⟩; refine stopHere ?_)
  unfold Stop
  obtain ⟨M, hM⟩ := hT.tbm
  have b2 : Boxed w2 w.heap.size Ttp (.pointer o) := (g2.block _ (heap_lt b0)).trans b0
  have k2 := kbq k0 g2
  have hs2 := k2.size
  have hM3 := hM.setBox b2 (by decide) (ptr T)
  have b3 := box_put b2 (ptr T)
  have k3 := k2.setCell (p := ⟨w.heap.size, 0, none⟩) (Nat.le_refl _) (ptr T)
  have C := callsIn_wide.1 (eall_in 8 (by omega) w.heap.size T M B m c S _ hM3 HS.out b3.cell)
  have c2 := b2.cell
  have f2 := b2.frozen
  clear hM hM3 hT b2 g2 k0 b0 HS CO
  have c3 := b3.cell
  have hs3 : (w2.setCell ⟨w.heap.size, 0, none⟩ (ptr T)).heap.size = w2.heap.size := by simp
  clear b3
  go_wp2_with (go_at_call 65; refine C.mono ?_; rintro e w4 ⟨v, xs, rfl, h1, h2, h3, h4⟩)
  go_ret
  exact ⟨_, _, rfl, own_base (by omega) h1, h2, h3, k3.trans (h4.mono (by omega))⟩
/-- Entries that are the same are told so. -/
theorem entry_same (v1 v2 : Value) (b1 b2 : Nat) (xs : List En) (w : World) (h1 : OwE w b1 v1 xs) (h2 : OwE w b2 v2 xs) (hn : xs.length ≤ 1099511627776) :
    Calls Tryz.prog 27 #[v1, v2] w fun e w' => e = .returned (.bool true) ∧ Drew w w' := by
  obtain ⟨A1, c1, rfl, _, _, hf1⟩ := h1.form
  obtain ⟨A2, c2, rfl, _, _, hf2⟩ := h2.form
  have HF1 := Lib.hid hf1
  have HF2 := Lib.hid hf2
  clear hf1 hf2 h1 h2
  go_enter Tryz.func27, Tryz.ntmps27
  go_wp2
  go_loopw [5] (fun i wr => ∃ q : Nat, i = .int .i64 (q : Int) ∧ q ≤ xs.length ∧ Drew w wr) (fun i _ => xs.length - (intOf i).toNat)
  case atStart => exact ⟨0, rfl, Nat.zero_le _, Drew.refl _⟩
  case round =>
    obtain ⟨q, rfl, hq, hd⟩ := hrel
    by_cases hlt : q < xs.length
    · obtain ⟨a, rfl, _, _, hr1⟩ := HF1.out (by omega)
      obtain ⟨b, rfl, _, _, hr2⟩ := HF2.out (by omega)
      obtain ⟨y0, y1⟩ := hr1 q hlt
      obtain ⟨z0, z1⟩ := hr2 q hlt
      have HD := Lib.hid hd
      rw [← cell_drew hd] at y0 y1 z0 z1
      generalize atE xs q = y at *
      clear hr1 hr2 hd
      go_wp2_with fail
      go_quiet (fail)
      go_wp2
      go_roundw
      case rel => exact ⟨q + 1, by go_num, by omega, HD.out.trans (Drew.of _ _)⟩
      case measure => simp [intOf]; omega
    · go_wp2
      go_ret
      exact ⟨rfl, hd⟩
/-- What a deed costs. -/
def costI (d : Dd) : Int := if 60000 ≤ d.n then 18446744073709551615 - d.n else d.n % 6
theorem costI_U {d : Dd} (h : 0 ≤ d.n ∧ d.n ≤ 65535) : U (costI d) := by unfold costI U; split <;> omega
theorem cost_any (d : Dd) (ka : Option Addr) (kn kc : Nat) (w : World) (hn : 0 ≤ d.n ∧ d.n ≤ 65535) :
    Calls Tryz.prog 125 #[d.v ka kn kc] w fun e w' => e = .returned (.int .u64 (costI d)) ∧ Below w.heap.size w w' := by
  have kr := (Below.refl _ w).alloc (Nat.le_refl _) (.cells #[.int .u8 d.kind, .int .u32 d.wait, .int .u8 d.big, .slice ka kn kc, .int .u8 d.rule, .int .u16 d.n, .int .u8 d.dest] 60)
  have tm6 : d.n.tmod 6 = d.n % 6 := Int.tmod_eq_emod_of_nonneg hn.1
  have w1 : IntKind.u64.wrap (d.n % 6) = d.n % 6 := by rw [IntKind.wrap_u64]; omega
  have w2 : IntKind.u64.wrap d.n = d.n := by rw [IntKind.wrap_u64]; omega
  have w3 : IntKind.u64.wrap (18446744073709551615 - d.n) = 18446744073709551615 - d.n := by rw [IntKind.wrap_u64]; omega
  unfold costI
  by_cases h : 60000 ≤ d.n
  · have hq := decide_eq_true h
    rw [if_pos h]
    go_enter Tryz.func125, Tryz.ntmps125
    go_wp2
    go_ret
    exact ⟨rfl, kr⟩
  · have hq := decide_eq_false h
    rw [if_neg h]
    go_enter Tryz.func125, Tryz.ntmps125
    go_wp2
    go_ret
    exact ⟨rfl, kr⟩
/-! ### Two tables, one of which goes over -/
section
variable {w w' : World} {n0 T Y : Nat} {m1 c1 m2 c2 : Int} {S1 S2 : List Sl}
theorem Pr.perm2 {S3 : List Sl} (h : Pr w n0 T Y m1 c1 S1 m2 c2 S2) (p : S2.Perm S3) : Pr w n0 T Y m1 c1 S1 m2 c2 S3 := by
  obtain ⟨h0, B1, B2, h1, h2, r⟩ := h
  exact ⟨h0, B1, B2, h1, h2.perm p, r⟩
theorem Pr.move1 (h : Pr w n0 T Y m1 c1 S1 m2 c2 S2) (k : ByteArray) (k2 : Int) (hk : k.size ≤ 9223372036854775807) (h3 : Is3 k2) :
    Calls Tryz.prog 121 #[ptr T, .string k, .int .u8 k2] w fun e w' => e = .returned (.int .u16 (mvE S1 k)) ∧ Hid (Pr w' n0 T Y m1 c1 (mvN c1 k2 S1 k) m2 c2 S2) ∧ Tch (fun k => n0 ≤ k) w w' := by
  obtain ⟨h0, B1, B2, h1, h2, h4, h5, h6⟩ := h
  refine (move_of (some ⟨T, 0, none⟩) (fun x => x = T) B1 m1 c1 S1 k k2 w (Ent.yes h1) hk h3).mono ?_
  rintro e w' ⟨rfl, g, _, rfl, t⟩
  exact ⟨rfl, pr_turn h0 h2 h4 h5 h6 g t⟩
theorem Pr.mvall1 (h : Pr w n0 T Y m1 c1 S1 m2 c2 S2) (k2 : Int) (h3 : Is3 k2) (hfl : ∀ s ∈ S1, flS c1 (mvS c1 k2 s) ≠ 0) (hsort : SortC S1.length) :
    Calls Tryz.prog 123 #[ptr T, .int .u8 k2] w fun e w' => e = .returned (.tuple #[.int .i64 (S1.length : Int), .int .u16 0]) ∧ Hid (Pr w' n0 T Y m1 c1 (S1.map (mvS c1 k2)) m2 c2 S2) ∧ Tch (fun k => n0 ≤ k) w w' := by
  obtain ⟨h0, B1, B2, h1, h2, h4, h5, h6⟩ := h
  refine (mvall_of (some ⟨T, 0, none⟩) (fun x => x = T) B1 m1 c1 k2 S1 w (Ent.yes h1) h3 hfl hsort).mono ?_
  rintro e w' ⟨rfl, g, _, rfl, t⟩
  exact ⟨rfl, pr_turn h0 h2 h4 h5 h6 g t⟩
theorem Pr.entries1 (h : Pr w n0 T Y m1 c1 S1 m2 c2 S2) (hsort : SortC S1.length) :
    Calls Tryz.prog 28 #[ptr T] w fun e w' => ∃ v, ∃ xs : List Sl, e = .returned v ∧ OwE w' w.heap.size v (xs.map (entS c1)) ∧ (∀ x ∈ xs, x ∈ S1) ∧ Allk S1 (xs.map (fun x => x.key)) ∧ Below w.heap.size w w' := by
  obtain ⟨h0, B1, B2, h1, _⟩ := h
  exact entries_all _ _ B1 m1 c1 S1 w (Ent.yes h1) hsort
end
end Go.Proofs.YtbejkcdaefkibaaGreat.Wd
namespace Go.Proofs.YtbejkcdaefkibaaGreat.Wd
open Go Go.RowKit Go.Deep Go.Shelf
set_option linter.unusedVariables false
set_option maxRecDepth 100000

abbrev Trf : TypeId := 46
/-- The document's table, as a value: as many as may be, its clock, all its slots. -/
abbrev rcs (m c : Int) (v : Value) : Array Value := #[.int .i64 m, .int .u64 c, v]
abbrev rtv (m c : Int) (v : Value) : Value := .agg (rcs m c v)
theorem mostI_ref (m : Int) : max 1 (min m 1000000) = mostI m := by unfold mostI; omega
theorem rnew_any (m : Int) (w : World) : Calls Tryz.prog 52 #[.int .i64 m] w fun e w' => e = .returned (rtv (mostI m) 0 (.slice none 0 0)) ∧ Below w.heap.size w w' := by
  rw [← mostI_ref]
  go_enter Tryz.func52, Tryz.ntmps52
  go_wp2
  refine bodyPost_ret (v := rtv (max 1 (min m 1000000)) 0 (.slice none 0 0)) ?_ rfl ⟨rfl, (Below.refl _ w).alloc (Nat.le_refl _) _⟩
  simp [results, Tryz.results52, go_sem]
theorem rfill_any (m c : Int) (A : Option Addr) (n cap : Nat) (s : Sl) (w : World) (hs : Oks s) (hc : U c) :
    Calls Tryz.prog 89 #[rtv m c (.slice A n cap), s.v] w fun e w' => e = .returned (.int .u64 (flS c s)) ∧ Below w.heap.size w w' := by
  have CC := Lib.hid (fun W => refCap_any s.r.p s.r.e s.r.b s.r.k W (by have := hs.r.p; omega) hs.r.e hs.r.b hs.r.k)
  have CU := Lib.hid (fun W => krfill_any s.k s.a s.b c (capS s) W hs.a hs.b hc (capS_U hs))
  rw [show flS c s = kfI s.k s.a s.b c (capS s) from rfl]
  have b1 := Lib.hid (Blk.new (w.alloc (.cells (rcs m c (.slice A n cap)) Trf)) s.cs Tas)
  have b0 := Lib.hid ((Blk.new w (rcs m c (.slice A n cap)) Trf).alloc (.cells s.cs Tas))
  rw [show (w.alloc (.cells (rcs m c (.slice A n cap)) Trf)).heap.size = w.heap.size + 1 by simp] at b1
  have k0 := Lib.hid (((Below.refl _ w).alloc (Nat.le_refl _) (.cells (rcs m c (.slice A n cap)) Trf)).alloc (by simp) (.cells s.cs Tas))
  go_enter Tryz.func89, Tryz.ntmps89
  go_wp2_with fail
  generalize ((w.alloc (.cells (rcs m c (.slice A n cap)) Trf)).alloc (.cells s.cs Tas)) = W at *
  obtain ⟨x0, x1, x2, x3, x4, x5, x6, x7⟩ := b1.out.eight
  have cT := b0.out.cell 1
  simp only [rcs] at cT
  replace cT : W.cell? ⟨w.heap.size, 1, none⟩ = some (.int .u64 c) := cT
  have kr := Tch.refl (fun _ => False) W
  go_region_held3 (fun w' => Tch (fun _ => False) W w' ∧ w'.cell? ⟨w.heap.size + 1, 1, none⟩ = some (.string s.r.p) ∧ w'.cell? ⟨w.heap.size + 1, 2, none⟩ = some (.int .u64 s.r.e) ∧ w'.cell? ⟨w.heap.size + 1, 3, none⟩ = some (.int .u64 s.r.b) ∧ w'.cell? ⟨w.heap.size + 1, 4, none⟩ = some (.int .u8 s.r.k) ∧ w'.cell? ⟨w.heap.size + 1, 5, none⟩ = some (.int .u8 s.k) ∧ w'.cell? ⟨w.heap.size + 1, 6, none⟩ = some (.int .u64 s.a) ∧ w'.cell? ⟨w.heap.size + 1, 7, none⟩ = some (.int .u64 s.b) ∧ w'.cell? ⟨w.heap.size, 1, none⟩ = some (.int .u64 c))
    (first | with_reducible exact ⟨kr, x1, x2, x3, x4, x5, x6, x7, cT⟩ | with_reducible exact ⟨(td kr), dcell x1, dcell x2, dcell x3, dcell x4, dcell x5, dcell x6, dcell x7, dcell cT⟩)
    (first
      | (go_at_call 72; ((with_reducible refine (CC.out _).mono ?_); rintro r w' ⟨rfl, _, g⟩; (first | with_reducible (replace kr := tb kr g; replace x1 := celln g x1; replace x2 := celln g x2; replace x3 := celln g x3; replace x4 := celln g x4; replace x5 := celln g x5; replace x6 := celln g x6; replace x7 := celln g x7; replace cT := celln g cT) | with_reducible (replace kr := tb (td kr) g; replace x1 := celln g (dcell x1); replace x2 := celln g (dcell x2); replace x3 := celln g (dcell x3); replace x4 := celln g (dcell x4); replace x5 := celln g (dcell x5); replace x6 := celln g (dcell x6); replace x7 := celln g (dcell x7); replace cT := celln g (dcell cT)))))
      | (go_at_call 143; ((with_reducible refine (CU.out _).mono ?_); rintro r w' ⟨rfl, _, g⟩; (first | with_reducible (replace kr := tb kr g; replace x1 := celln g x1; replace x2 := celln g x2; replace x3 := celln g x3; replace x4 := celln g x4; replace x5 := celln g x5; replace x6 := celln g x6; replace x7 := celln g x7; replace cT := celln g cT) | with_reducible (replace kr := tb (td kr) g; replace x1 := celln g (dcell x1); replace x2 := celln g (dcell x2); replace x3 := celln g (dcell x3); replace x4 := celln g (dcell x4); replace x5 := celln g (dcell x5); replace x6 := celln g (dcell x6); replace x7 := celln g (dcell x7); replace cT := celln g (dcell cT))))))
  rename_i hH
  clear hH
  have k1 := Lib.hid (Tch.belowF k0.out kr)
  clear CC CU b0 b1 k0 kr
  go_wp2
  go_ret
  exact ⟨rfl, k1.out⟩
/-- Who is there by a key; below 0: nobody. -/
def findI : List Sl → ByteArray → Int → Int
  | [], _, _ => -1
  | s :: xs, k, i => if s.key = k then i else findI xs k (i + 1)
theorem rfind_any (v : Value) (base : Nat) (xs : List Sl) (k : ByteArray) (w : World) (h : OwS w base v xs) (hn : xs.length ≤ 1099511627776) :
    Calls Tryz.prog 91 #[v, .string k] w fun e w' => e = .returned (.int .i64 (findI xs k 0)) ∧ w' = w := by
  obtain ⟨A, cap, rfl, h1, h2, hf⟩ := h.form
  have HF := Lib.hid hf
  clear hf h
  go_enter Tryz.func91, Tryz.ntmps91
  go_wp2
  go_loopw [5] (fun i wr => ∃ j : Nat, i = .int .i64 (j : Int) ∧ j ≤ xs.length ∧ Hid (findI xs k 0 = findI (xs.drop j) k (j : Int)) ∧ wr = w) (fun i _ => xs.length - (intOf i).toNat)
  case atStart => exact ⟨0, rfl, Nat.zero_le _, Lib.hid rfl, rfl⟩
  case round =>
    obtain ⟨j, rfl, hj, hh, rfl⟩ := hrel
    by_cases hlt : j < xs.length
    · obtain ⟨b, rfl, hb, hb2, hrow⟩ := HF.out (by omega)
      obtain ⟨x0, _⟩ := (hrow j hlt).eight
      have hs : xs.drop j = atS xs j :: xs.drop (j + 1) := by
        rw [List.drop_eq_getElem_cons hlt]; simp [atS, List.getD, hlt]
      have HN : Hid (findI xs k 0 = if (atS xs j).key = k then (j : Int) else findI (xs.drop (j + 1)) k ((j : Int) + 1)) := Lib.hid (by rw [hh.out, hs]; rfl)
      clear hrow HF hh hs
      generalize atS xs j = y at *
      by_cases e : y.key = k
      · have e' : (y.key.toList == k.toList) = true := by rw [text_same, decide_eq_true e]
        have HE := Lib.hid e
        clear e
        go_wp2
        go_ret
        exact ⟨by rw [HN.out, if_pos HE.out]; rfl, rfl⟩
      · have e' : (y.key.toList == k.toList) = false := by rw [text_same, decide_eq_false e]
        have HE := Lib.hid e
        clear e
        go_wp2
        go_roundw
        case rel => exact ⟨j + 1, by go_num, by omega, Lib.hid (by rw [HN.out, if_neg HE.out]; simp), trivial⟩
        case measure => simp [intOf]; omega
    · have HE : Hid (findI xs k 0 = -1) := Lib.hid (by rw [hh.out, List.drop_of_length_le (by omega)]; rfl)
      go_wp2
      go_ret
      exact ⟨by rw [HE.out]; rfl, rfl⟩
theorem offS_app (k : ByteArray) (a b : List Sl) : offS k (a ++ b) = offS k a ++ offS k b := by unfold offS; exact List.filter_append a b
theorem offS_one (k : ByteArray) (y : Sl) : offS k [y] = if y.key = k then [] else [y] := by unfold offS; by_cases e : y.key = k <;> simp [e]
set_option maxHeartbeats 1000000 in
theorem rwithout_any (v : Value) (base : Nat) (xs : List Sl) (k : ByteArray) (w : World) (h : OwS w base v xs) (hn : xs.length ≤ 1099511627775) :
    Calls Tryz.prog 92 #[v, .string k] w fun e w' => ∃ u, e = .returned u ∧ OwS w' w.heap.size u (offS k xs) ∧ Below w.heap.size w w' := by
  obtain ⟨A, cap, rfl, h1, h2, hf⟩ := h.form
  have HF := Lib.hid hf
  clear hf h
  go_enter Tryz.func92, Tryz.ntmps92
  go_wp2
  go_loopw [5, 6] (fun u i wr => ∃ j : Nat, i = .int .i64 (j : Int) ∧ j ≤ xs.length ∧ Hid (OwS wr w.heap.size u (offS k (xs.take j))) ∧ Hid (Below w.heap.size w wr)) (fun u i _ => xs.length - (intOf i).toNat)
  case atStart => exact ⟨0, rfl, Nat.zero_le _, Lib.hid (OwS.nil _ _), Lib.hid (Below.refl _ _)⟩
  case round =>
    obtain ⟨j, rfl, hj, ho, hB⟩ := hrel
    obtain ⟨A0, cap0, hv0, hcap, hcap2, hv⟩ := ho.out.form
    subst hv0
    clear hv
    by_cases hlt : j < xs.length
    · obtain ⟨b, rfl, hb, hb2, hrow⟩ := HF.out (by omega)
      obtain ⟨x0, x1, x2, x3, x4, x5, x6, x7⟩ := (show S8 wr b (j * 8) (atS xs j) from fun i hi => by rw [World.cell?_of_block (hB.out.block b hb2)]; exact hrow j hlt i hi).eight
      have ht : xs.take (j + 1) = xs.take j ++ [atS xs j] := by
        rw [List.take_succ_eq_append_getElem hlt]; simp [atS, List.getD, hlt]
      have HT : Hid (offS k (xs.take (j + 1)) = if (atS xs j).key = k then offS k (xs.take j) else offS k (xs.take j) ++ [atS xs j]) := Lib.hid (by
        rw [ht, offS_app, offS_one]; split <;> simp)
      have hl : (offS k (xs.take j)).length ≤ j := Nat.le_trans (List.length_filter_le _ _) (by simp; omega)
      clear hrow HF ht
      generalize atS xs j = y at *
      by_cases e : y.key = k
      · have e' : (y.key.toList == k.toList) = true := by rw [text_same, decide_eq_true e]
        have HE := Lib.hid e
        clear e
        go_wp2
        go_roundw
        case rel => exact ⟨j + 1, by go_num, by omega, Lib.hid (by rw [HT.out, if_pos HE.out]; exact ho.out), hB⟩
        case measure => simp [intOf]; omega
      · have e' : (y.key.toList == k.toList) = false := by rw [text_same, decide_eq_false e]
        have HE := Lib.hid e
        clear e
        go_wp2_with (at_builtin; refine wpList_app_s _ rfl _ _ rfl w.heap.size _ (offS k (xs.take j)) rfl ?o wr.heap.size 0 1 y rfl ?c1 ?c2 ?c3 ?_)
        case o => exact own_tch (S := fun _ => False) ho.out (Tch.of ((Below.refl _ wr).alloc (Nat.le_refl _) _)) (fun _ _ _ x => x)
        case c1 =>
          intro i hi
          have z := (Blk.new wr y.cs Tas).cell i
          rw [Nat.zero_add]; exact z
        case c2 => omega
        case c3 => have := hB.out.size; simp; omega
        intro g cap w2 own bel grow hg2
        have OW := Lib.hid own
        have B2 := Lib.hid ((hB.out.alloc hB.out.size (.cells y.cs Tas)).trans bel)
        clear own bel grow hg2
        go_wp2
        go_roundw
        case rel => exact ⟨j + 1, by go_num, by omega, Lib.hid (by rw [HT.out, if_neg HE.out]; exact OW.out), B2⟩
        case measure => simp [intOf]; omega
    · have HE : Hid (xs.take j = xs) := Lib.hid (List.take_of_length_le (by omega))
      go_wp2
      go_ret
      refine ⟨_, rfl, ?_, hB.out⟩
      have z := ho.out
      show OwS wr w.heap.size (.slice A0 (offS k (xs.take j)).length cap0) (offS k xs)
      revert z
      generalize (offS k (xs.take j)).length = L
      rw [HE.out]
      exact id
end Go.Proofs.YtbejkcdaefkibaaGreat.Wd
namespace Go.Proofs.YtbejkcdaefkibaaGreat.Wd
open Go Go.RowKit Go.Deep Go.Shelf
set_option linter.unusedVariables false
set_option maxRecDepth 100000

/-- A slice of slots. -/
def Rds (w : World) (A : Option Addr) (n : Nat) (xs : List Sl) : Prop :=
  xs.length = n ∧ (0 < n → ∃ b off, A = some ⟨b, off, none⟩ ∧ b < w.heap.size ∧ ∀ k, k < n → S8 w b (off + k * 8) (atS xs k))
theorem Rds.below {w w' : World} {A : Option Addr} {n : Nat} {xs : List Sl} (h : Rds w A n xs) (g : Below w.heap.size w w') : Rds w' A n xs :=
  ⟨h.1, fun h0 => by
    obtain ⟨b, off, e, hb, hc⟩ := h.2 h0
    exact ⟨b, off, e, Nat.lt_of_lt_of_le hb g.size, fun k hk j hj => (g.cell (p := ⟨b, _, none⟩) hb).trans (hc k hk j hj)⟩⟩
theorem Rds.drew {w w' : World} {A : Option Addr} {n : Nat} {xs : List Sl} (h : Rds w A n xs) (g : Drew w w') : Rds w' A n xs := by
  obtain ⟨m, rfl⟩ := g
  exact h
theorem Rds.front {w : World} {A : Option Addr} {n i : Nat} {xs : List Sl} (h : Rds w A n xs) (hi : i ≤ n) : Rds w A i (xs.take i) :=
  ⟨by rw [List.length_take, h.1]; omega, fun h0 => by
    obtain ⟨b, off, e, hb, hc⟩ := h.2 (by omega)
    refine ⟨b, off, e, hb, fun k hk => ?_⟩
    have z : atS (xs.take i) k = atS xs k := by simp only [atS, List.getD_eq_getElem?_getD, List.getElem?_take, if_pos hk]
    rw [z]; exact hc k (by omega)⟩
theorem OwS.rds {w : World} {base : Nat} {v : Value} {xs : List Sl} (h : OwS w base v xs) : ∃ A cap, v = .slice A xs.length cap ∧ (xs.length ≤ cap ∧ cap ≤ 9223372036854775807) ∧ Rds w A xs.length xs ∧ (A = none → cap = 0) ∧ (∀ ad, A = some ad → ad.spot = none) := by
  rcases h.2 with ⟨rfl, h0⟩ | ⟨g, cap, cur, rfl, hb, hgg, h1, h2, h3, h4⟩
  · refine ⟨none, 0, by rw [h0], by omega, ⟨rfl, fun hn => by omega⟩, fun _ => rfl, fun ad e => by cases e⟩
  · refine ⟨_, cap, rfl, ⟨h1, h2⟩, ⟨rfl, fun _ => ⟨g, 0, rfl, heap_lt hgg, fun k hk j hj => ?_⟩⟩, (fun e => by cases e), fun ad e => by cases e; rfl⟩
    rw [← flatS_at xs k hk j hj, ← h4, List.getElem?_take, if_pos (by omega), Nat.zero_add]
    simp [World.cell?, hgg]
theorem rds_news {w : World} {b off n : Nat} {xs : List Sl} (h : Rds w (some ⟨b, off, none⟩) n xs) : ∀ j u, (flatS xs)[j]? = some u → w.cell? ((⟨b, off, none⟩ : Addr).add j) = some u := by
  intro j u hu
  have hj : j < xs.length * 8 := by
    by_cases hj : j < xs.length * 8
    · exact hj
    · rw [List.getElem?_eq_none (by rw [flatS_len]; omega)] at hu; cases hu
  obtain ⟨b', off', e, _, hc⟩ := h.2 (by rw [← h.1]; omega)
  simp only [Option.some.injEq, Addr.mk.injEq] at e
  obtain ⟨rfl, rfl, _⟩ := e
  have z := hc (j / 8) (by rw [← h.1]; omega) (j % 8) (by omega)
  rw [← flatS_at xs (j / 8) (by omega) (j % 8) (by omega), show j / 8 * 8 + j % 8 = j by omega, show off + j / 8 * 8 + j % 8 = off + j by omega] at z
  rw [Go.WideShapes.add_plain, z]; exact hu
/-- Slots behind slots. -/
theorem wpList_app_rds (w : World) {ops : Array Oper} {rest : List Oper} {o : Oper} {a : Act} {Q : Exit → Act → World → Prop} (hgd : o.guard = none) (s x : Operand)
    (ho : o.op = .call { callee := .builtin .append, args := #[s, x], argTypes := #[Tass, Tass] })
    (base : Nat) (v : Value) (acc : List Sl) (hs : a.eval s = v) (hown : OwS w base v acc) (ao : Option Addr) (m c : Nat) (l : List Sl) (hx : a.eval x = .slice ao m c) (hT : Rds w ao m l) (hn : ao = none → c = 0) (ha : ∀ ad, ao = some ad → ad.spot = none)
    (hsz : acc.length + m ≤ 1099511627776) (hbase : base ≤ w.heap.size)
    (h : ∀ v' w', OwS w' base v' (acc ++ l) → Below base w w' → wpList Tryz.prog ops Q rest (a.put o.dst v') w') : wpList Tryz.prog ops Q (o :: rest) a w := by
  obtain ⟨i0, hz, hz0, hz1, hz2⟩ := info_parts zeroAs
  cases ao with
  | none =>
    obtain rfl := hn rfl
    have hm : m = 0 := by
      by_cases hm : 0 < m
      · obtain ⟨_, _, e, _⟩ := hT.2 hm; cases e
      · omega
    subst hm
    have hl : l = [] := List.eq_nil_of_length_eq_zero hT.1
    subst hl
    exact wpList_append_own_none hgd s x Tass ho base Tas i0 8 Tryz.underlying44 hz v acc.length (flatS acc) hs hown hx (h _ w (by rw [List.append_nil]; exact hown) (Below.refl _ _))
  | some ad =>
    obtain ⟨b, off, sp⟩ := ad
    obtain rfl : sp = none := ha _ rfl
    refine wpList_append_own w hgd s x Tass ho base Tas i0 _ 8 80 Tryz.underlying44 hz hz0 hz1 hz2 rfl (by decide) v acc.length (flatS acc) hs hown ⟨b, off, none⟩ m c (flatS l) hx (by rw [flatS_len, hT.1]) (rds_news hT) (flatS_one l) (by unfold maxLen; omega) (by omega) hbase ?_
    intro v' w' own grow _
    refine h v' w' ?_ ((Below.refl base w).grown grow hbase (fun k hk => (World.ownsRow.lt hown k hk).1))
    unfold OwS
    rw [flatS_append, List.length_append, hT.1]
    exact own
theorem sslice_front (A : Option Addr) (n cap i : Nat) (hi : i ≤ cap) (hcap : cap ≤ 9223372036854775807) (W : World) : (Instr.slice Tass (.slice A n cap) none (some (.int .i64 (i : Int))) none).run Tryz.prog W = .ok (.slice A i cap) W := by
  obtain ⟨i0, hz, hz0, hz1, hz2⟩ := info_parts zeroAs
  simp [go_sem, Tryz.underlying44, sizeOf, typeInfo, hz, hz1, hi]
theorem sslice_back (A : Option Addr) (n cap i : Nat) (hi : i ≤ n) (hn : n ≤ cap) : ∃ A', (∀ W : World, (Instr.slice Tass (.slice A n cap) (some (.int .i64 (i : Int))) none none).run Tryz.prog W = .ok (.slice A' (n - i) (cap - i)) W) ∧
    (∀ (W : World) (l : List Sl), Rds W A n l → Rds W A' (n - i) (l.drop i)) ∧ (A' = none → A = none) ∧ ((∀ ad, A = some ad → ad.spot = none) → ∀ ad, A' = some ad → ad.spot = none) := by
  obtain ⟨i0, hz, hz0, hz1, hz2⟩ := info_parts zeroAs
  refine ⟨if cap = i then A else A.map (·.add (i * 8)), fun W => ?_, fun W l h => ?_, fun h => ?_, fun h ad e => ?_⟩
  · simp [go_sem, Tryz.underlying44, sizeOf, typeInfo, hz, hz1, hi, sliced]
  · refine ⟨by rw [List.length_drop, h.1], fun h0 => ?_⟩
    obtain ⟨b, off, rfl, hb, hc⟩ := h.2 (by omega)
    rw [if_neg (by omega)]
    refine ⟨b, off + i * 8, by simp [Go.WideShapes.add_plain], hb, fun k hk => ?_⟩
    have z : atS (l.drop i) k = atS l (i + k) := by simp [atS, List.getD_eq_getElem?_getD]
    rw [z, show off + i * 8 + k * 8 = off + (i + k) * 8 by omega]
    exact hc (i + k) (by omega)
  · split at h
    · exact h
    · cases A with
      | none => rfl
      | some ad => simp at h
  · split at e
    · exact h ad e
    · cases A with
      | none => simp at e
      | some ad' =>
        have := h ad' rfl
        obtain ⟨b, off, sp⟩ := ad'
        simp at this
        subst this
        simp [Go.WideShapes.add_plain] at e
        rw [← e]
/-- A slot in its place. -/
def insS : List Sl → Sl → List Sl
  | [], s => [s]
  | y :: ys, s => if ltK y.key s.key = true then y :: insS ys s else s :: y :: ys
/-- How many come ahead of it. -/
def frS : List Sl → Sl → Nat
  | [], _ => 0
  | y :: ys, s => if ltK y.key s.key = true then frS ys s + 1 else 0
theorem frS_le : ∀ (l : List Sl) (s : Sl), frS l s ≤ l.length
  | [], _ => Nat.le_refl _
  | y :: ys, s => by
    have := frS_le ys s
    unfold frS; split <;> simp <;> omega
theorem insS_is : ∀ (l : List Sl) (s : Sl), insS l s = l.take (frS l s) ++ ([s] ++ l.drop (frS l s))
  | [], _ => rfl
  | y :: ys, s => by
    unfold insS frS
    split
    · rw [insS_is ys s]; simp
    · simp
set_option maxHeartbeats 1000000 in
theorem rwith_any (v : Value) (base : Nat) (xs : List Sl) (s : Sl) (w : World) (h : OwS w base v xs) (hn : xs.length ≤ 1099511627000) (hs : s.key.size ≤ 9223372036854775807) (hx : ∀ x ∈ xs, x.key.size ≤ 9223372036854775807) :
    Calls Tryz.prog 96 #[v, s.v] w fun e w' => ∃ u, e = .returned u ∧ OwS w' w.heap.size u (insS (offS s.key xs) s) ∧ Below w.heap.size w w' := by
  have b0 := Lib.hid (Blk.new w s.cs Tas)
  have k0 := Lib.hid ((Below.refl _ w).alloc (Nat.le_refl _) (.cells s.cs Tas))
  have CW := Lib.hid (rwithout_any v base xs s.key _ (own_below h k0.out) (by omega))
  have hl := offS_le s.key xs
  have hxx : Hid (∀ x ∈ offS s.key xs, x.key.size ≤ 9223372036854775807) := Lib.hid (fun x m => hx x (offS_mem.1 m).1)
  clear h hx
  obtain ⟨ys, hys⟩ : ∃ ys, offS s.key xs = ys := ⟨_, rfl⟩
  rw [hys] at CW hl hxx ⊢
  clear hys
  go_enter Tryz.func96, Tryz.ntmps96
  go_wp2_with fail
  generalize w.alloc (.cells s.cs Tas) = W at *
  have hW := k0.out.size
  have x0 := b0.out.cell 0
  replace x0 : W.cell? ⟨w.heap.size, 0, none⟩ = some (.string s.key) := x0
  go_wp2_with (go_at_call 92; refine CW.out.mono ?_; rintro e w1 ⟨u, rfl, o1, g1⟩; refine stopHere ?_)
  unfold Stop
  obtain ⟨A, cap, rfl, hcap, hR, hnil, hspot⟩ := o1.rds
  have b1 := Lib.hid (b0.out.below g1)
  have k1 := Lib.hid (kbq k0.out g1)
  have hR1 := Lib.hid hR
  have hN := Lib.hid hnil
  have hS := Lib.hid hspot
  clear b0 k0 CW g1 o1 hR hnil hspot x0
  go_wp2_with fail
  go_loopw [6] (fun i wr => ∃ j : Nat, i = .int .i64 (j : Int) ∧ j ≤ ys.length ∧ Hid (frS ys s = j + frS (ys.drop j) s) ∧ Drew w1 wr) (fun i _ => ys.length - (intOf i).toNat)
  case atStart => exact ⟨0, rfl, Nat.zero_le _, Lib.hid (by simp), Drew.refl _⟩
  case round =>
    obtain ⟨j, rfl, hj, hh, hd⟩ := hrel
    have R2 := hR1.out.drew hd
    have K2 := Lib.hid (kbq k1.out (Drew.lo hd (Nat.le_refl _)))
    have B2 : Hid (Blk wr w.heap.size s.cs Tas) := Lib.hid (by obtain ⟨m, rfl⟩ := hd; exact b1.out)
    have x0 := B2.out.cell 0
    replace x0 : wr.cell? ⟨w.heap.size, 0, none⟩ = some (.string s.key) := x0
    have hj' : (j : Int) ≤ (ys.length : Int) := by omega
    by_cases hlt : j < ys.length
    · obtain ⟨b, off, rfl, hb, hc⟩ := R2.2 (by omega)
      obtain ⟨y0, _⟩ := (hc j hlt).eight
      have hdr : ys.drop j = atS ys j :: ys.drop (j + 1) := by
        rw [List.drop_eq_getElem_cons hlt]; simp [atS, List.getD, hlt]
      have HN : Hid (frS ys s = j + if ltK (atS ys j).key s.key = true then frS (ys.drop (j + 1)) s + 1 else 0) := Lib.hid (by rw [hh.out, hdr]; rfl)
      have hmem : atS ys j ∈ ys := by simp [atS, List.getD, hlt]
      have CL := Lib.hid (fun W => rless_any (atS ys j).key s.key W (hxx.out _ hmem) hs)
      have R3 := Lib.hid R2
      have HD := Lib.hid hd
      clear hc R2 hh hdr hmem hd
      have hlt' : (j : Int) < (ys.length : Int) := by omega
      rw [show ls (lb (atS ys j).key) (lb s.key) = ltK (atS ys j).key s.key from rfl] at CL
      generalize atS ys j = y at *
      obtain ⟨o, ho⟩ : ∃ o, ltK y.key s.key = o := ⟨_, rfl⟩
      rw [ho] at HN CL
      clear ho
      go_wp2_with fail
      go_quiet ((go_at_call 46; exact Calls.quiet_of (CL.out _)))
      rcases o with _ | _
      · have hf : frS ys s = j := by have := HN.out; simpa using this
        obtain ⟨A', hb1, hb2, hb3, hb4⟩ := sslice_back (some ⟨b, off, none⟩) ys.length cap j hj hcap.1
        have sf := sslice_front (some ⟨b, off, none⟩) ys.length cap j (by omega) hcap.2
        have HF := Lib.hid hf
        clear hf HN
        go_wp2_with (at_builtin; refine wpList_app_rds _ rfl _ _ rfl wr.heap.size _ [] rfl ?o (some ⟨b, off, none⟩) j cap (ys.take j) rfl ?c1 ?c2 ?c3 ?c4 ?c5 ?_)
        case o => exact OwS.nil _ _
        case c1 => exact R3.out.front hj
        case c2 => exact hN.out
        case c3 => exact hS.out
        case c4 => simp; omega
        case c5 => exact Nat.le_refl _
        intro v2 w2 O2 g2
        have B3 : Hid (Blk w2 w.heap.size s.cs Tas) := Lib.hid (Blk.below (show Blk (wr.drewN _) w.heap.size s.cs Tas from B2.out) g2)
        have R4 : Hid (Rds w2 (some ⟨b, off, none⟩) ys.length ys) := Lib.hid (Rds.below (R3.out.drew ⟨_, rfl⟩) g2)
        have K3 : Hid (Below w.heap.size w w2) := Lib.hid (kbq (kbq K2.out (Drew.lo (Drew.of wr _) (Nat.le_refl _))) g2)
        have hw2 : wr.heap.size ≤ w2.heap.size := g2.size
        have hwr : w.heap.size ≤ wr.heap.size := K2.out.size
        have O2' := Lib.hid O2
        obtain ⟨z0, z1, z2, z3, z4, z5, z6, z7⟩ := B3.out.eight
        clear x0 g2 O2 B3 R3 B2
        go_wp2_with (at_builtin; refine wpList_app_s _ rfl _ _ rfl wr.heap.size _ ([] ++ ys.take j) rfl ?o2 w2.heap.size 0 1 s rfl ?d1 ?d2 ?d3 ?_)
        case o2 => exact own_tch (S := fun _ => False) O2'.out (Tch.of ((Below.refl _ w2).alloc (Nat.le_refl _) _)) (fun _ _ _ x => x)
        case d1 =>
          intro i hi
          have z := (Blk.new w2 s.cs Tas).cell i
          rw [Nat.zero_add]; exact z
        case d2 => simp; omega
        case d3 => simp; omega
        intro g3 cap3 w3 O3 bel3 grow3 hg3
        have B5 := (Below.alloc (Below.refl _ w2) (Nat.le_refl _) (.cells s.cs Tas))
        have R5 : Hid (Rds w3 (some ⟨b, off, none⟩) ys.length ys) := Lib.hid ⟨R4.out.1, fun h0 => by
          obtain ⟨b', off', e', hb', hc'⟩ := R4.out.2 h0
          obtain ⟨bb, oo, ee, hbb, _⟩ := hR1.out.2 h0
          have hbe : b' < wr.heap.size := by rw [ee] at e'; cases e'; have := HD.out.size; omega
          refine ⟨b', off', e', by have := bel3.size; simp at this; omega, fun k hk i hi => ?_⟩
          rw [← hc' k hk i hi, ← (B5.cell (p := ⟨b', _, none⟩) hb')]
          exact bel3.cell (p := ⟨b', _, none⟩) hbe⟩
        have K5 : Hid (Below w.heap.size w w3) := Lib.hid ((K3.out.alloc K3.out.size (.cells s.cs Tas)).trans (bel3.mono hwr))
        have hw3 : wr.heap.size ≤ w3.heap.size := by have := bel3.size; simp at this; omega
        have O3' := Lib.hid O3
        have lt2 : (ys.take j).length ≤ ys.length := by simp; omega
        clear O3 bel3 grow3 hg3 B5 R4 O2' z0 z1 z2 z3 z4 z5 z6 z7 K3
        go_wp2_with (at_builtin; refine wpList_app_rds _ rfl _ _ rfl wr.heap.size _ ([] ++ ys.take j ++ [s]) rfl ?o3 A' (ys.length - j) (cap - j) (ys.drop j) rfl ?e1 ?e2 ?e3 ?e4 ?e5 ?_)
        case o3 => exact O3'.out
        case e1 => exact hb2 _ _ R5.out
        case e2 => intro e; have := hN.out (hb3 e); omega
        case e3 => exact hb4 hS.out
        case e4 => simp; omega
        case e5 => exact hw3
        intro v4 w4 O4 g4
        have HO : Hid (OwS w4 w.heap.size v4 (insS ys s)) := Lib.hid (by
          rw [insS_is, HF.out]
          exact own_base hwr O4)
        have K6 := Lib.hid (K5.out.trans (g4.mono hwr))
        clear O4 g4 O3' K5
        go_wp2
        go_ret
        exact ⟨_, rfl, HO.out, K6.out⟩
      · go_wp2
        go_roundw
        case rel => exact ⟨j + 1, by go_num, by omega, Lib.hid (by have := HN.out; simp at this; omega), HD.out.trans ⟨_, rfl⟩⟩
        case measure => simp [intOf]; omega
    · have hf : frS ys s = j := by rw [hh.out, List.drop_of_length_le (by omega)]; rfl
      have hnlt : ¬ (j : Int) < (ys.length : Int) := by omega
      have hdec : decide ((j : Int) < (ys.length : Int)) = false := decide_eq_false hnlt
      obtain ⟨A', hb1, hb2, hb3, hb4⟩ := sslice_back A ys.length cap j hj hcap.1
      have sf := sslice_front A ys.length cap j (by omega) hcap.2
      have HF := Lib.hid hf
      have R3 := Lib.hid R2
      have HD := Lib.hid hd
      clear hf hh hd R2
      go_wp2_with fail
      go_quiet (fail)
      go_wp2_with (at_builtin; refine wpList_app_rds _ rfl _ _ rfl wr.heap.size _ [] rfl ?o A j cap (ys.take j) rfl ?c1 ?c2 ?c3 ?c4 ?c5 ?_)
      case o => exact OwS.nil _ _
      case c1 => exact R3.out.front hj
      case c2 => exact hN.out
      case c3 => exact hS.out
      case c4 => simp; omega
      case c5 => exact Nat.le_refl _
      intro v2 w2 O2 g2
      have B3 : Hid (Blk w2 w.heap.size s.cs Tas) := Lib.hid (Blk.below (show Blk (wr.drewN _) w.heap.size s.cs Tas from B2.out) g2)
      have R4 : Hid (Rds w2 A ys.length ys) := Lib.hid (Rds.below (R3.out.drew ⟨_, rfl⟩) g2)
      have K3 : Hid (Below w.heap.size w w2) := Lib.hid (kbq (kbq K2.out (Drew.lo (Drew.of wr _) (Nat.le_refl _))) g2)
      have hw2 : wr.heap.size ≤ w2.heap.size := g2.size
      have hwr : w.heap.size ≤ wr.heap.size := K2.out.size
      have O2' := Lib.hid O2
      obtain ⟨z0, z1, z2, z3, z4, z5, z6, z7⟩ := B3.out.eight
      clear x0 g2 O2 B3 R3 B2
      go_wp2_with (at_builtin; refine wpList_app_s _ rfl _ _ rfl wr.heap.size _ ([] ++ ys.take j) rfl ?o2 w2.heap.size 0 1 s rfl ?d1 ?d2 ?d3 ?_)
      case o2 => exact own_tch (S := fun _ => False) O2'.out (Tch.of ((Below.refl _ w2).alloc (Nat.le_refl _) _)) (fun _ _ _ x => x)
      case d1 =>
        intro i hi
        have z := (Blk.new w2 s.cs Tas).cell i
        rw [Nat.zero_add]; exact z
      case d2 => simp; omega
      case d3 => simp; omega
      intro g3 cap3 w3 O3 bel3 grow3 hg3
      have B5 := (Below.alloc (Below.refl _ w2) (Nat.le_refl _) (.cells s.cs Tas))
      have R5 : Hid (Rds w3 A ys.length ys) := Lib.hid ⟨R4.out.1, fun h0 => by
        obtain ⟨b', off', e', hb', hc'⟩ := R4.out.2 h0
        obtain ⟨bb, oo, ee, hbb, _⟩ := hR1.out.2 h0
        have hbe : b' < wr.heap.size := by rw [ee] at e'; cases e'; have := HD.out.size; omega
        refine ⟨b', off', e', by have := bel3.size; simp at this; omega, fun k hk i hi => ?_⟩
        rw [← hc' k hk i hi, ← (B5.cell (p := ⟨b', _, none⟩) hb')]
        exact bel3.cell (p := ⟨b', _, none⟩) hbe⟩
      have K5 : Hid (Below w.heap.size w w3) := Lib.hid ((K3.out.alloc K3.out.size (.cells s.cs Tas)).trans (bel3.mono hwr))
      have hw3 : wr.heap.size ≤ w3.heap.size := by have := bel3.size; simp at this; omega
      have O3' := Lib.hid O3
      have lt2 : (ys.take j).length ≤ ys.length := by simp; omega
      clear O3 bel3 grow3 hg3 B5 R4 O2' z0 z1 z2 z3 z4 z5 z6 z7 K3
      go_wp2_with (at_builtin; refine wpList_app_rds _ rfl _ _ rfl wr.heap.size _ ([] ++ ys.take j ++ [s]) rfl ?o3 A' (ys.length - j) (cap - j) (ys.drop j) rfl ?e1 ?e2 ?e3 ?e4 ?e5 ?_)
      case o3 => exact O3'.out
      case e1 => exact hb2 _ _ R5.out
      case e2 => intro e; have := hN.out (hb3 e); omega
      case e3 => exact hb4 hS.out
      case e4 => simp; omega
      case e5 => exact hw3
      intro v4 w4 O4 g4
      have HO : Hid (OwS w4 w.heap.size v4 (insS ys s)) := Lib.hid (by
        rw [insS_is, HF.out]
        exact own_base hwr O4)
      have K6 := Lib.hid (K5.out.trans (g4.mono hwr))
      clear O4 g4 O3' K5
      go_wp2
      go_ret
      exact ⟨_, rfl, HO.out, K6.out⟩
/-- Who is active. -/
def rsl (c : Int) (xs : List Sl) : List Sl := xs.filter (actB c)
theorem rsl_app (c : Int) (a b : List Sl) : rsl c (a ++ b) = rsl c a ++ rsl c b := List.filter_append a b
theorem rsl_one (c : Int) (y : Sl) : rsl c [y] = if actB c y = true then [y] else [] := by unfold rsl; by_cases z : actB c y = true <;> simp [z]
set_option maxHeartbeats 2000000 in
theorem rslots_any (m c : Int) (v : Value) (base : Nat) (xs : List Sl) (w : World) (h : OwS w base v xs) (hok : ∀ s ∈ xs, Oks s) (hc : U c) (hn : xs.length ≤ 1099511627000) :
    Calls Tryz.prog 51 #[rtv m c v] w fun e w' => ∃ u, e = .returned u ∧ OwS w' w.heap.size u (rsl c xs) ∧ Below w.heap.size w w' := by
  obtain ⟨A, cap, rfl, hcap, hR, hnil, hspot⟩ := h.rds
  have b0 := Lib.hid (Blk.new w (rcs m c (.slice A xs.length cap)) Trf)
  have k0 := Lib.hid ((Below.refl _ w).alloc (Nat.le_refl _) (.cells (rcs m c (.slice A xs.length cap)) Trf))
  have R0 := Lib.hid (hR.below ((Below.refl _ w).alloc (Nat.le_refl _) (.cells (rcs m c (.slice A xs.length cap)) Trf)))
  have HO := Lib.hid hok
  clear h hR hnil hspot hok
  go_enter Tryz.func51, Tryz.ntmps51
  go_wp2_with fail
  generalize w.alloc (.cells (rcs m c (.slice A xs.length cap)) Trf) = W at *
  have hW := k0.out.size
  go_loopw [3, 4] (fun u i wr => ∃ j : Nat, i = .int .i64 (j : Int) ∧ j ≤ xs.length ∧ Hid (OwS wr W.heap.size u (rsl c (xs.take j))) ∧ Hid (Below W.heap.size W wr)) (fun u i _ => xs.length - (intOf i).toNat)
  case atStart => exact ⟨0, rfl, Nat.zero_le _, Lib.hid (OwS.nil _ _), Lib.hid (Below.refl _ _)⟩
  case round =>
    obtain ⟨j, rfl, hj, ho, hB⟩ := hrel
    obtain ⟨A0, cap0, hv0, hcap0, hcap2, hv⟩ := ho.out.form
    subst hv0
    clear hv
    have bt := Lib.hid (b0.out.below hB.out)
    obtain ⟨q0, q1, q2⟩ : wr.cell? ⟨w.heap.size, 0, none⟩ = some (.int .i64 m) ∧ wr.cell? ⟨w.heap.size, 1, none⟩ = some (.int .u64 c) ∧ wr.cell? ⟨w.heap.size, 2, none⟩ = some (.slice A xs.length cap) := ⟨bt.out.cell 0, bt.out.cell 1, bt.out.cell 2⟩
    have hBs := hB.out.size
    by_cases hlt : j < xs.length
    · obtain ⟨b, off, rfl, hb, hcc⟩ := (R0.out.below hB.out).2 (by omega)
      obtain ⟨x0, x1, x2, x3, x4, x5, x6, x7⟩ := (hcc j hlt).eight
      have ht : xs.take (j + 1) = xs.take j ++ [atS xs j] := by
        rw [List.take_succ_eq_append_getElem hlt]; simp [atS, List.getD, hlt]
      have HT : Hid (rsl c (xs.take (j + 1)) = rsl c (xs.take j) ++ if actB c (atS xs j) = true then [atS xs j] else []) := Lib.hid (by
        rw [ht, rsl_app, rsl_one])
      have hl : (rsl c (xs.take j)).length ≤ j := Nat.le_trans (List.length_filter_le _ _) (by simp; omega)
      have hmem : atS xs j ∈ xs := by simp [atS, List.getD, hlt]
      have CF := Lib.hid (fun W => rfill_any m c (some ⟨b, off, none⟩) xs.length cap (atS xs j) W (HO.out _ hmem) hc)
      have HB := Lib.hid hb
      clear hcc ht hmem
      have HA : Hid (actB c (atS xs j) = decide (0 < flS c (atS xs j))) := Lib.hid rfl
      generalize atS xs j = y at *
      generalize flS c y = f at *
      have kr := Tch.refl (fun _ => False) wr
      go_wp2_with fail
      go_region_held3 (fun w' => Tch (fun _ => False) wr w' ∧ w'.cell? ⟨b, off + j * 8, none⟩ = some (.string y.key) ∧ w'.cell? ⟨b, off + j * 8 + 1, none⟩ = some (.string y.r.p) ∧ w'.cell? ⟨b, off + j * 8 + 2, none⟩ = some (.int .u64 y.r.e) ∧ w'.cell? ⟨b, off + j * 8 + 3, none⟩ = some (.int .u64 y.r.b) ∧ w'.cell? ⟨b, off + j * 8 + 4, none⟩ = some (.int .u8 y.r.k) ∧ w'.cell? ⟨b, off + j * 8 + 5, none⟩ = some (.int .u8 y.k) ∧ w'.cell? ⟨b, off + j * 8 + 6, none⟩ = some (.int .u64 y.a) ∧ w'.cell? ⟨b, off + j * 8 + 7, none⟩ = some (.int .u64 y.b) ∧ w'.cell? ⟨w.heap.size, 0, none⟩ = some (.int .i64 m) ∧ w'.cell? ⟨w.heap.size, 1, none⟩ = some (.int .u64 c) ∧ w'.cell? ⟨w.heap.size, 2, none⟩ = some (.slice (some ⟨b, off, none⟩) xs.length cap))
        (first | with_reducible exact ⟨kr, x0, x1, x2, x3, x4, x5, x6, x7, q0, q1, q2⟩ | with_reducible exact ⟨(td kr), dcell x0, dcell x1, dcell x2, dcell x3, dcell x4, dcell x5, dcell x6, dcell x7, dcell q0, dcell q1, dcell q2⟩)
        (first
          | (go_at_call 89; ((with_reducible refine (CF.out _).mono ?_); rintro r w' ⟨rfl, g⟩; (first | with_reducible (replace kr := tb kr g; replace x0 := celln g x0; replace x1 := celln g x1; replace x2 := celln g x2; replace x3 := celln g x3; replace x4 := celln g x4; replace x5 := celln g x5; replace x6 := celln g x6; replace x7 := celln g x7; replace q0 := celln g q0; replace q1 := celln g q1; replace q2 := celln g q2) | with_reducible (replace kr := tb (td kr) g; replace x0 := celln g (dcell x0); replace x1 := celln g (dcell x1); replace x2 := celln g (dcell x2); replace x3 := celln g (dcell x3); replace x4 := celln g (dcell x4); replace x5 := celln g (dcell x5); replace x6 := celln g (dcell x6); replace x7 := celln g (dcell x7); replace q0 := celln g (dcell q0); replace q1 := celln g (dcell q1); replace q2 := celln g (dcell q2))))))
      have OW := Lib.hid (own_tch ho.out kr (fun _ _ _ x => x))
      have K2 := Lib.hid (Tch.belowF hB.out kr)
      clear kr bt ho hB CF
      by_cases e : 0 < f
      · have HE := Lib.hid (HA.out.trans (decide_eq_true e))
        go_wp2_with (at_builtin; refine wpList_app_s _ rfl _ _ rfl W.heap.size _ (rsl c (xs.take j)) rfl ?o _ 0 1 y rfl ?c1 ?c2 ?c3 ?_)
        case o => exact own_tch (S := fun _ => False) OW.out (Tch.of ((Below.refl _ _).alloc (Nat.le_refl _) _)) (fun _ _ _ x => x)
        case c1 =>
          intro i hi
          rw [Nat.zero_add]
          exact (Blk.new _ y.cs Tas).cell i
        case c2 => omega
        case c3 => have := K2.out.size; simp; omega
        intro g cap w2 own bel grow hg2
        have OW2 := Lib.hid own
        have B2 := Lib.hid ((K2.out.alloc K2.out.size (.cells y.cs Tas)).trans bel)
        clear own bel grow hg2
        go_wp2
        go_roundw
        case rel => exact ⟨j + 1, by go_num, by omega, Lib.hid (by rw [HT.out, if_pos HE.out]; exact OW2.out), B2⟩
        case measure => simp [intOf]; omega
      · have HE := Lib.hid (HA.out.trans (decide_eq_false e))
        have e2 : f ≤ 0 := by omega
        clear e
        go_wp2
        go_roundw
        case rel => exact ⟨j + 1, by go_num, by omega, Lib.hid (by rw [HT.out, if_neg (by rw [HE.out]; decide), List.append_nil]; exact OW.out), K2⟩
        case measure => simp [intOf]; omega
    · have HE : Hid (xs.take j = xs) := Lib.hid (List.take_of_length_le (by omega))
      go_wp2
      go_ret
      refine ⟨_, rfl, ?_, (kbq k0.out hB.out)⟩
      have z := own_base hW ho.out
      show OwS wr w.heap.size (.slice A0 (rsl c (xs.take j)).length cap0) (rsl c xs)
      revert z
      show OwS wr w.heap.size (.slice A0 (rsl c (xs.take j)).length cap0) (rsl c (xs.take j)) → _
      generalize (rsl c (xs.take j)).length = L
      rw [HE.out]
      exact id
end Go.Proofs.YtbejkcdaefkibaaGreat.Wd
namespace Go.Proofs.YtbejkcdaefkibaaGreat.Wd
open Go Go.RowKit Go.Deep Go.Shelf
set_option linter.unusedVariables false
set_option maxRecDepth 100000

/-- Keys rise. -/
def Rise (A : List Sl) : Prop := A.Pairwise (fun x y => ltK x.key y.key = true)
theorem Rise.sub {A B : List Sl} (h : Rise A) (s : B.Sublist A) : Rise B := List.Pairwise.sublist s h
theorem Rise.off {A : List Sl} (h : Rise A) (k : ByteArray) : Rise (offS k A) := h.sub List.filter_sublist
theorem Rise.act {A : List Sl} (h : Rise A) (c : Int) : Rise (rsl c A) := h.sub List.filter_sublist
theorem ltK_irr (k : ByteArray) : ltK k k = false := ls_irrefl _
theorem Rise.ne {A : List Sl} (h : Rise A) : A.Pairwise (fun x y => x.key ≠ y.key) := h.imp (fun {a b} e x => by
  have : ltK a.key a.key = true := by rw [show ltK a.key a.key = ltK a.key b.key by rw [x]]; exact e
  rw [ltK_irr] at this; cases this)
theorem ltK_tot {a b : ByteArray} (h : a ≠ b) : ltK a b = true ∨ ltK b a = true := by
  have e := ls_total (lb a) (lb b)
  have hne : (lb a == lb b) = false := by
    rw [beq_eq_false_iff_ne]
    intro x
    exact h (lb_inj x)
  rw [hne] at e
  cases z : ls (lb a) (lb b) with
  | true => exact .inl z
  | false => rw [z] at e; exact .inr (by simpa using e)
theorem insS_mem {x s : Sl} : ∀ {l : List Sl}, x ∈ insS l s ↔ x = s ∨ x ∈ l
  | [] => by simp [insS]
  | y :: ys => by
    unfold insS
    split
    · simp only [List.mem_cons, insS_mem (l := ys)]
      constructor
      · rintro (h | h | h) <;> simp [h]
      · rintro (h | h | h) <;> simp [h]
    · simp
theorem insS_perm (s : Sl) : ∀ l : List Sl, (insS l s).Perm (s :: l)
  | [] => List.Perm.refl _
  | y :: ys => by
    unfold insS
    split
    · exact ((insS_perm s ys).cons y).trans (List.Perm.swap s y ys)
    · exact List.Perm.refl _
theorem Rise.ins {s : Sl} : ∀ {l : List Sl}, Rise l → (∀ x ∈ l, x.key ≠ s.key) → Rise (insS l s)
  | [], _, _ => by simp [insS, Rise]
  | y :: ys, h, hn => by
    have hp := List.pairwise_cons.1 h
    unfold insS
    split
    · rename_i e
      refine List.pairwise_cons.2 ⟨fun x hx => ?_, Rise.ins hp.2 (fun x hx => hn x (List.mem_cons_of_mem _ hx))⟩
      rcases insS_mem.1 hx with rfl | hx
      · exact e
      · exact hp.1 x hx
    · rename_i e
      have e2 : ltK s.key y.key = true := by
        rcases ltK_tot (hn y (List.mem_cons_self ..)) with z | z
        · exact absurd z e
        · exact z
      refine List.pairwise_cons.2 ⟨fun x hx => ?_, h⟩
      rcases List.mem_cons.1 hx with rfl | hx
      · exact e2
      · exact ls_trans _ _ _ e2 (hp.1 x hx)
/-- Two rows of rising keys with the same slots are the same. -/
theorem rise_one : ∀ {A B : List Sl}, Rise A → Rise B → A.Perm B → A = B := by
  intro A B hA hB hp
  exact List.Perm.eq_of_pairwise (le := fun x y : Sl => ltK x.key y.key = true) (fun a b _ _ h1 h2 => by
    have e1 : ls (lb a.key) (lb b.key) = true := h1
    have e2 : ls (lb b.key) (lb a.key) = true := h2
    rw [ls_asymm _ _ e1] at e2; cases e2) hA hB hp
theorem getS_prm {S S' : List Sl} (hp : S.Perm S') (hw : S.Pairwise (fun x y => x.key ≠ y.key)) (k : ByteArray) : getS S k = getS S' k := by
  have hw' : S'.Pairwise (fun x y => x.key ≠ y.key) := (hp.pairwise_iff (fun {_ _} hne => Ne.symm hne)).1 hw
  cases h : getS S' k with
  | none => exact getS_none.2 (fun s hs => getS_none.1 h s (hp.mem_iff.1 hs))
  | some s => exact getS_of hw (hp.mem_iff.2 (getS_some h).1) (getS_some h).2
theorem offS_prm {S S' : List Sl} (hp : S.Perm S') (k : ByteArray) : (offS k S).Perm (offS k S') := hp.filter _
theorem dropS_prm {S S' : List Sl} (hp : S.Perm S') (hw : S.Pairwise (fun x y => x.key ≠ y.key)) (k : ByteArray) (r : Rl) : (dropS S k r).Perm (dropS S' k r) := by
  unfold dropS
  rw [getS_prm hp hw k]
  split
  · split
    · exact hp
    · exact offS_prm hp k
  · exact hp
theorem dropS_pw {S : List Sl} (hw : S.Pairwise (fun x y => x.key ≠ y.key)) (k : ByteArray) (r : Rl) : (dropS S k r).Pairwise (fun x y => x.key ≠ y.key) := by
  unfold dropS
  split
  · split
    · exact hw
    · exact offS_pw hw
  · exact hw
theorem putS_prm {S S' : List Sl} (hp : S.Perm S') (c : Int) (s : Sl) : (putS c s S).Perm (putS c s S') := by
  unfold putS
  split
  · exact offS_prm hp _
  · exact (offS_prm hp _).cons _
/-- A charge asks nothing of the order of slots. -/
theorem chA_prm {m c n : Int} {S S' : List Sl} (hp : S.Perm S') (hw : S.Pairwise (fun x y => x.key ≠ y.key)) (k : ByteArray) (r : Rl) : chA m c S k r n = chA m c S' k r n := by
  have e1 := getS_prm (dropS_prm hp hw k r) (dropS_pw hw k r) k
  have e2 := (dropS_prm hp hw k r).length_eq
  unfold chA fullB
  rw [e1, e2]
theorem chN_prm {m c n : Int} {S S' : List Sl} (hp : S.Perm S') (hw : S.Pairwise (fun x y => x.key ≠ y.key)) (k : ByteArray) (r : Rl) : (chN m c S k r n).Perm (chN m c S' k r n) := by
  have hd := dropS_prm hp hw k r
  have e1 := getS_prm hd (dropS_pw hw k r) k
  have e2 := hd.length_eq
  unfold chN fullB
  rw [e1, e2]
  split
  · split
    · exact hd
    · unfold decS
      split
      · exact putS_prm hd _ _
      · exact hd
  · exact hp
/-- What the document's charge leaves. -/
def rcN (m c : Int) (A : List Sl) (k : ByteArray) (r : Rl) (n : Int) : List Sl :=
  if wkE k r = 0 then
    (if fullB m (dropS (rsl c A) k r) k = true then dropS (rsl c A) k r
     else if stIn c r (stOf c r (getS (dropS (rsl c A) k r) k)) n = true then insS (offS k (dropS (rsl c A) k r)) (slOf k r (stNx c r (stOf c r (getS (dropS (rsl c A) k r) k)) n))
     else dropS (rsl c A) k r)
  else A
theorem rsl_all {c : Int} {A : List Sl} (h : ∀ s ∈ A, actB c s = true) : rsl c A = A := List.filter_eq_self.2 h
theorem rsl_mem {c : Int} {A : List Sl} {s : Sl} : s ∈ rsl c A ↔ s ∈ A ∧ actB c s = true := List.mem_filter
theorem rsl_prm {c : Int} {A B : List Sl} (h : A.Perm B) : (rsl c A).Perm (rsl c B) := h.filter _
theorem dropS_act {c : Int} {A : List Sl} {k : ByteArray} {r : Rl} : rsl c (dropS (rsl c A) k r) = dropS (rsl c A) k r := by
  refine rsl_all (fun s hs => ?_)
  unfold dropS at hs
  split at hs
  · split at hs
    · exact (rsl_mem.1 hs).2
    · exact (rsl_mem.1 (offS_mem.1 hs).1).2
  · exact (rsl_mem.1 hs).2
theorem rsl_ins {c : Int} {L : List Sl} {s : Sl} (hl : rsl c L = L) (hs : 0 ≤ flS c s) : (rsl c (insS (offS s.key L) s)).Perm (putS c s L) := by
  have ho : rsl c (offS s.key L) = offS s.key L := rsl_all (fun x hx => by
    have := (offS_mem.1 hx).1
    rw [← hl] at this
    exact (rsl_mem.1 this).2)
  refine (rsl_prm (insS_perm s _)).trans ?_
  unfold putS
  split
  · rename_i e
    have : actB c s = false := by unfold actB; rw [e]; rfl
    unfold rsl
    rw [List.filter_cons_of_neg (by rw [this]; decide)]
    exact List.Perm.of_eq ho
  · rename_i e
    have : actB c s = true := by unfold actB; exact decide_eq_true (by omega)
    unfold rsl
    rw [List.filter_cons_of_pos this]
    exact (List.Perm.of_eq ho).cons _
/-- Behind a charge both have the same slots. -/
theorem rcN_prm {m c n : Int} {A : List Sl} {k : ByteArray} {r : Rl} (hf : ∀ s, 0 ≤ flS c (slOf k r (stNx c r s n)) ) : (chN m c (rsl c A) k r n).Perm (rsl c (rcN m c A k r n)) := by
  unfold chN rcN
  split
  · split
    · rw [dropS_act]
    · unfold decS
      split
      · exact (rsl_ins (s := slOf k r _) dropS_act (hf _)).symm
      · rw [dropS_act]
  · exact List.Perm.refl _
theorem Rise.drop {A : List Sl} (h : Rise A) (k : ByteArray) (r : Rl) : Rise (dropS A k r) := by
  unfold dropS
  split
  · split
    · exact h
    · exact h.off k
  · exact h
theorem Rise.charge {m c n : Int} {A : List Sl} {k : ByteArray} {r : Rl} (h : Rise A) : Rise (rcN m c A k r n) := by
  unfold rcN
  split
  · split
    · exact (h.act c).drop k r
    · split
      · exact Rise.ins (((h.act c).drop k r).off k) (fun x hx => (offS_mem.1 hx).2)
      · exact (h.act c).drop k r
  · exact h
end Go.Proofs.YtbejkcdaefkibaaGreat.Wd
namespace Go.Proofs.YtbejkcdaefkibaaGreat.Wd
open Go Go.RowKit Go.Deep Go.Shelf
set_option linter.unusedVariables false
set_option maxRecDepth 100000

theorem rtick_any (m c x : Int) (A : Option Addr) (n cap : Nat) (w : World) :
    Calls Tryz.prog 53 #[rtv m c (.slice A n cap), .int .u64 x] w fun e w' => e = .returned (rtv m (max c x) (.slice A n cap)) ∧ Below w.heap.size w w' := by
  go_enter Tryz.func53, Tryz.ntmps53
  go_wp2
  refine bodyPost_ret (v := rtv m (max c x) (.slice A n cap)) ?_ rfl ⟨rfl, ?_⟩
  · simp [results, Tryz.results53, go_sem]
  · repeat' first
      | exact Below.refl _ _
      | refine Below.setCell ?_ (Nat.le_succ _) _
      | refine Below.setCell ?_ (Nat.le_refl _) _
      | refine Below.alloc ?_ (Nat.le_refl _) _
      | refine Below.alloc ?_ (by simp) _
/-- Slots that are the same are told so. -/
theorem slots_same (v1 v2 : Value) (b1 b2 : Nat) (xs : List Sl) (w : World) (h1 : OwS w b1 v1 xs) (h2 : OwS w b2 v2 xs) (hn : xs.length ≤ 1099511627776) :
    Calls Tryz.prog 50 #[v1, v2] w fun e w' => e = .returned (.bool true) ∧ Drew w w' := by
  obtain ⟨A1, c1, rfl, _, _, hf1⟩ := h1.form
  obtain ⟨A2, c2, rfl, _, _, hf2⟩ := h2.form
  have HF1 := Lib.hid hf1
  have HF2 := Lib.hid hf2
  clear hf1 hf2 h1 h2
  go_enter Tryz.func50, Tryz.ntmps50
  go_wp2
  go_loopw [5] (fun i wr => ∃ q : Nat, i = .int .i64 (q : Int) ∧ q ≤ xs.length ∧ Drew w wr) (fun i _ => xs.length - (intOf i).toNat)
  case atStart => exact ⟨0, rfl, Nat.zero_le _, Drew.refl _⟩
  case round =>
    obtain ⟨q, rfl, hq, hd⟩ := hrel
    by_cases hlt : q < xs.length
    · obtain ⟨a, rfl, _, _, hr1⟩ := HF1.out (by omega)
      obtain ⟨b, rfl, _, _, hr2⟩ := HF2.out (by omega)
      have HD := Lib.hid hd
      obtain ⟨y0, y1, y2, y3, y4, y5, y6, y7⟩ := (show S8 wr a (q * 8) (atS xs q) from fun i hi => by rw [cell_drew hd]; exact hr1 q hlt i hi).eight
      obtain ⟨z0, z1, z2, z3, z4, z5, z6, z7⟩ := (show S8 wr b (q * 8) (atS xs q) from fun i hi => by rw [cell_drew hd]; exact hr2 q hlt i hi).eight
      generalize atS xs q = y at *
      clear hr1 hr2 hd
      go_wp2_with fail
      go_quiet (fail)
      go_wp2
      go_roundw
      case rel => exact ⟨q + 1, by go_num, by omega, HD.out.trans (Drew.of _ _)⟩
      case measure => simp [intOf]; omega
    · go_wp2
      go_ret
      exact ⟨rfl, hd⟩
theorem tch_below {Q : Nat → Prop} {n : Nat} {a b d : World} (h : Below n a b) (g : Tch Q b d) (hn : n ≤ a.heap.size) (hQ : ∀ k, k < n → ¬ Q k) : Below n a d :=
  h.trans ⟨g.os, g.tape, g.output, g.size, fun k hk => by
    by_cases hl : k < b.heap.size
    · exact g.block k hl (hQ k hk)
    · have := h.size; omega⟩
/-- What is told of a state. -/
def toldA (c : Int) (r : Rl) (s : St) (a : An) : An := { a with lim := r.b, left := dvI (sbI (capR r) (flT c r s)) r.e, reset := secI (flT c r s) }
set_option maxHeartbeats 8000000 in
theorem rtold_any (m c : Int) (A : Option Addr) (n cap : Nat) (a : An) (r : Rl) (s : St) (w : World) (hc : U c) (hr : Okr r) (hk : 0 ≤ r.k ∧ r.k ≤ 255) (hs : OkSt s) :
    Calls Tryz.prog 97 #[rtv m c (.slice A n cap), a.v, r.v, s.v] w fun e w' => e = .returned (toldA c r s a).v ∧ Below w.heap.size w w' := by
  have CC := Lib.hid (fun W => refCap_any r.p r.e r.b r.k W (by have := hr.p; omega) hr.e hr.b hk)
  have CL := Lib.hid (fun W => krleft_any s.k s.a s.b c (capR r) r.e W hs.a hs.b hc (capR_U hr) hr.e)
  have CF := Lib.hid (fun W => krfill_any s.k s.a s.b c (capR r) W hs.a hs.b hc (capR_U hr))
  have CE := Lib.hid (fun W => ref_ceil (kfI s.k s.a s.b c (capR r)) 1000000000 W (kfI_U _ _ _ _ _ hs.a hs.b hc (capR_U hr)) (by unfold U; omega))
  have e1 : toldA c r s a = ⟨a.code, a.err, r.b, dvI (sbI (capR r) (kfI s.k s.a s.b c (capR r))) r.e, clI (kfI s.k s.a s.b c (capR r)) 1000000000, a.after, a.nanos, a.retry⟩ := rfl
  rw [e1]
  clear e1
  generalize dvI (sbI (capR r) (kfI s.k s.a s.b c (capR r))) r.e = LL at *
  generalize clI (kfI s.k s.a s.b c (capR r)) 1000000000 = EE at *
  generalize kfI s.k s.a s.b c (capR r) = FF at *
  have b0 := Lib.hid (show Blk (((((w.alloc (.cells (rcs m c (.slice A n cap)) Trf)).alloc (.cells #[.int .u8 a.code, .int .u16 a.err, .int .u64 a.lim, .int .u64 a.left, .int .u64 a.reset, .int .u64 a.after, .int .u64 a.nanos, .bool a.retry, .int .i64 0, .slice none 0 0] 57)).alloc (.cells #[.string r.p, .int .u64 r.e, .int .u64 r.b, .int .u8 r.k] 79)).alloc (.cells #[.int .u8 s.k, .int .u64 s.a, .int .u64 s.b] 90)).alloc (.cells #[.int .u8 0, .int .u16 0, .int .u64 0, .int .u64 0, .int .u64 0, .int .u64 0, .int .u64 0, .bool false, .int .i64 0, .slice none 0 0] 57)) (w.heap.size) (rcs m c (.slice A n cap)) Trf from (((((Blk.new w (rcs m c (.slice A n cap)) Trf).alloc (.cells #[.int .u8 a.code, .int .u16 a.err, .int .u64 a.lim, .int .u64 a.left, .int .u64 a.reset, .int .u64 a.after, .int .u64 a.nanos, .bool a.retry, .int .i64 0, .slice none 0 0] 57)).alloc (.cells #[.string r.p, .int .u64 r.e, .int .u64 r.b, .int .u8 r.k] 79)).alloc (.cells #[.int .u8 s.k, .int .u64 s.a, .int .u64 s.b] 90)).alloc (.cells #[.int .u8 0, .int .u16 0, .int .u64 0, .int .u64 0, .int .u64 0, .int .u64 0, .int .u64 0, .bool false, .int .i64 0, .slice none 0 0] 57)))
  have b1 := Lib.hid (show Blk (((((w.alloc (.cells (rcs m c (.slice A n cap)) Trf)).alloc (.cells #[.int .u8 a.code, .int .u16 a.err, .int .u64 a.lim, .int .u64 a.left, .int .u64 a.reset, .int .u64 a.after, .int .u64 a.nanos, .bool a.retry, .int .i64 0, .slice none 0 0] 57)).alloc (.cells #[.string r.p, .int .u64 r.e, .int .u64 r.b, .int .u8 r.k] 79)).alloc (.cells #[.int .u8 s.k, .int .u64 s.a, .int .u64 s.b] 90)).alloc (.cells #[.int .u8 0, .int .u16 0, .int .u64 0, .int .u64 0, .int .u64 0, .int .u64 0, .int .u64 0, .bool false, .int .i64 0, .slice none 0 0] 57)) (w.heap.size + 1) #[.int .u8 a.code, .int .u16 a.err, .int .u64 a.lim, .int .u64 a.left, .int .u64 a.reset, .int .u64 a.after, .int .u64 a.nanos, .bool a.retry, .int .i64 0, .slice none 0 0] 57 by have z := ((((Blk.new (w.alloc (.cells (rcs m c (.slice A n cap)) Trf)) #[.int .u8 a.code, .int .u16 a.err, .int .u64 a.lim, .int .u64 a.left, .int .u64 a.reset, .int .u64 a.after, .int .u64 a.nanos, .bool a.retry, .int .i64 0, .slice none 0 0] 57).alloc (.cells #[.string r.p, .int .u64 r.e, .int .u64 r.b, .int .u8 r.k] 79)).alloc (.cells #[.int .u8 s.k, .int .u64 s.a, .int .u64 s.b] 90)).alloc (.cells #[.int .u8 0, .int .u16 0, .int .u64 0, .int .u64 0, .int .u64 0, .int .u64 0, .int .u64 0, .bool false, .int .i64 0, .slice none 0 0] 57)); rwa [show (w.alloc (.cells (rcs m c (.slice A n cap)) Trf)).heap.size = w.heap.size + 1 by simp] at z)
  have b2 := Lib.hid (show Blk (((((w.alloc (.cells (rcs m c (.slice A n cap)) Trf)).alloc (.cells #[.int .u8 a.code, .int .u16 a.err, .int .u64 a.lim, .int .u64 a.left, .int .u64 a.reset, .int .u64 a.after, .int .u64 a.nanos, .bool a.retry, .int .i64 0, .slice none 0 0] 57)).alloc (.cells #[.string r.p, .int .u64 r.e, .int .u64 r.b, .int .u8 r.k] 79)).alloc (.cells #[.int .u8 s.k, .int .u64 s.a, .int .u64 s.b] 90)).alloc (.cells #[.int .u8 0, .int .u16 0, .int .u64 0, .int .u64 0, .int .u64 0, .int .u64 0, .int .u64 0, .bool false, .int .i64 0, .slice none 0 0] 57)) (w.heap.size + 2) #[.string r.p, .int .u64 r.e, .int .u64 r.b, .int .u8 r.k] 79 by have z := (((Blk.new ((w.alloc (.cells (rcs m c (.slice A n cap)) Trf)).alloc (.cells #[.int .u8 a.code, .int .u16 a.err, .int .u64 a.lim, .int .u64 a.left, .int .u64 a.reset, .int .u64 a.after, .int .u64 a.nanos, .bool a.retry, .int .i64 0, .slice none 0 0] 57)) #[.string r.p, .int .u64 r.e, .int .u64 r.b, .int .u8 r.k] 79).alloc (.cells #[.int .u8 s.k, .int .u64 s.a, .int .u64 s.b] 90)).alloc (.cells #[.int .u8 0, .int .u16 0, .int .u64 0, .int .u64 0, .int .u64 0, .int .u64 0, .int .u64 0, .bool false, .int .i64 0, .slice none 0 0] 57)); rwa [show ((w.alloc (.cells (rcs m c (.slice A n cap)) Trf)).alloc (.cells #[.int .u8 a.code, .int .u16 a.err, .int .u64 a.lim, .int .u64 a.left, .int .u64 a.reset, .int .u64 a.after, .int .u64 a.nanos, .bool a.retry, .int .i64 0, .slice none 0 0] 57)).heap.size = w.heap.size + 2 by simp] at z)
  have b3 := Lib.hid (show Blk (((((w.alloc (.cells (rcs m c (.slice A n cap)) Trf)).alloc (.cells #[.int .u8 a.code, .int .u16 a.err, .int .u64 a.lim, .int .u64 a.left, .int .u64 a.reset, .int .u64 a.after, .int .u64 a.nanos, .bool a.retry, .int .i64 0, .slice none 0 0] 57)).alloc (.cells #[.string r.p, .int .u64 r.e, .int .u64 r.b, .int .u8 r.k] 79)).alloc (.cells #[.int .u8 s.k, .int .u64 s.a, .int .u64 s.b] 90)).alloc (.cells #[.int .u8 0, .int .u16 0, .int .u64 0, .int .u64 0, .int .u64 0, .int .u64 0, .int .u64 0, .bool false, .int .i64 0, .slice none 0 0] 57)) (w.heap.size + 3) #[.int .u8 s.k, .int .u64 s.a, .int .u64 s.b] 90 by have z := ((Blk.new (((w.alloc (.cells (rcs m c (.slice A n cap)) Trf)).alloc (.cells #[.int .u8 a.code, .int .u16 a.err, .int .u64 a.lim, .int .u64 a.left, .int .u64 a.reset, .int .u64 a.after, .int .u64 a.nanos, .bool a.retry, .int .i64 0, .slice none 0 0] 57)).alloc (.cells #[.string r.p, .int .u64 r.e, .int .u64 r.b, .int .u8 r.k] 79)) #[.int .u8 s.k, .int .u64 s.a, .int .u64 s.b] 90).alloc (.cells #[.int .u8 0, .int .u16 0, .int .u64 0, .int .u64 0, .int .u64 0, .int .u64 0, .int .u64 0, .bool false, .int .i64 0, .slice none 0 0] 57)); rwa [show (((w.alloc (.cells (rcs m c (.slice A n cap)) Trf)).alloc (.cells #[.int .u8 a.code, .int .u16 a.err, .int .u64 a.lim, .int .u64 a.left, .int .u64 a.reset, .int .u64 a.after, .int .u64 a.nanos, .bool a.retry, .int .i64 0, .slice none 0 0] 57)).alloc (.cells #[.string r.p, .int .u64 r.e, .int .u64 r.b, .int .u8 r.k] 79)).heap.size = w.heap.size + 3 by simp] at z)
  have b4 := Lib.hid (show Blk (((((w.alloc (.cells (rcs m c (.slice A n cap)) Trf)).alloc (.cells #[.int .u8 a.code, .int .u16 a.err, .int .u64 a.lim, .int .u64 a.left, .int .u64 a.reset, .int .u64 a.after, .int .u64 a.nanos, .bool a.retry, .int .i64 0, .slice none 0 0] 57)).alloc (.cells #[.string r.p, .int .u64 r.e, .int .u64 r.b, .int .u8 r.k] 79)).alloc (.cells #[.int .u8 s.k, .int .u64 s.a, .int .u64 s.b] 90)).alloc (.cells #[.int .u8 0, .int .u16 0, .int .u64 0, .int .u64 0, .int .u64 0, .int .u64 0, .int .u64 0, .bool false, .int .i64 0, .slice none 0 0] 57)) (w.heap.size + 4) #[.int .u8 0, .int .u16 0, .int .u64 0, .int .u64 0, .int .u64 0, .int .u64 0, .int .u64 0, .bool false, .int .i64 0, .slice none 0 0] 57 by have z := (Blk.new ((((w.alloc (.cells (rcs m c (.slice A n cap)) Trf)).alloc (.cells #[.int .u8 a.code, .int .u16 a.err, .int .u64 a.lim, .int .u64 a.left, .int .u64 a.reset, .int .u64 a.after, .int .u64 a.nanos, .bool a.retry, .int .i64 0, .slice none 0 0] 57)).alloc (.cells #[.string r.p, .int .u64 r.e, .int .u64 r.b, .int .u8 r.k] 79)).alloc (.cells #[.int .u8 s.k, .int .u64 s.a, .int .u64 s.b] 90)) #[.int .u8 0, .int .u16 0, .int .u64 0, .int .u64 0, .int .u64 0, .int .u64 0, .int .u64 0, .bool false, .int .i64 0, .slice none 0 0] 57); rwa [show ((((w.alloc (.cells (rcs m c (.slice A n cap)) Trf)).alloc (.cells #[.int .u8 a.code, .int .u16 a.err, .int .u64 a.lim, .int .u64 a.left, .int .u64 a.reset, .int .u64 a.after, .int .u64 a.nanos, .bool a.retry, .int .i64 0, .slice none 0 0] 57)).alloc (.cells #[.string r.p, .int .u64 r.e, .int .u64 r.b, .int .u8 r.k] 79)).alloc (.cells #[.int .u8 s.k, .int .u64 s.a, .int .u64 s.b] 90)).heap.size = w.heap.size + 4 by simp] at z)
  have k0 := Lib.hid (show Below w.heap.size w (((((w.alloc (.cells (rcs m c (.slice A n cap)) Trf)).alloc (.cells #[.int .u8 a.code, .int .u16 a.err, .int .u64 a.lim, .int .u64 a.left, .int .u64 a.reset, .int .u64 a.after, .int .u64 a.nanos, .bool a.retry, .int .i64 0, .slice none 0 0] 57)).alloc (.cells #[.string r.p, .int .u64 r.e, .int .u64 r.b, .int .u8 r.k] 79)).alloc (.cells #[.int .u8 s.k, .int .u64 s.a, .int .u64 s.b] 90)).alloc (.cells #[.int .u8 0, .int .u16 0, .int .u64 0, .int .u64 0, .int .u64 0, .int .u64 0, .int .u64 0, .bool false, .int .i64 0, .slice none 0 0] 57)) from ((((((Below.refl w.heap.size w).alloc (Nat.le_refl _) (.cells (rcs m c (.slice A n cap)) Trf)).alloc (by simp) (.cells #[.int .u8 a.code, .int .u16 a.err, .int .u64 a.lim, .int .u64 a.left, .int .u64 a.reset, .int .u64 a.after, .int .u64 a.nanos, .bool a.retry, .int .i64 0, .slice none 0 0] 57)).alloc (by simp; omega) (.cells #[.string r.p, .int .u64 r.e, .int .u64 r.b, .int .u8 r.k] 79)).alloc (by simp; omega) (.cells #[.int .u8 s.k, .int .u64 s.a, .int .u64 s.b] 90)).alloc (by simp; omega) (.cells #[.int .u8 0, .int .u16 0, .int .u64 0, .int .u64 0, .int .u64 0, .int .u64 0, .int .u64 0, .bool false, .int .i64 0, .slice none 0 0] 57)))
  have z0 := Lib.hid (show w.heap.size + 5 ≤ (((((w.alloc (.cells (rcs m c (.slice A n cap)) Trf)).alloc (.cells #[.int .u8 a.code, .int .u16 a.err, .int .u64 a.lim, .int .u64 a.left, .int .u64 a.reset, .int .u64 a.after, .int .u64 a.nanos, .bool a.retry, .int .i64 0, .slice none 0 0] 57)).alloc (.cells #[.string r.p, .int .u64 r.e, .int .u64 r.b, .int .u8 r.k] 79)).alloc (.cells #[.int .u8 s.k, .int .u64 s.a, .int .u64 s.b] 90)).alloc (.cells #[.int .u8 0, .int .u16 0, .int .u64 0, .int .u64 0, .int .u64 0, .int .u64 0, .int .u64 0, .bool false, .int .i64 0, .slice none 0 0] 57)).heap.size by simp)
  go_enter Tryz.func97, Tryz.ntmps97
  go_wp2_with fail
  try simp only [Nat.add_assoc, Nat.reduceAdd]
  generalize (((((w.alloc (.cells (rcs m c (.slice A n cap)) Trf)).alloc (.cells #[.int .u8 a.code, .int .u16 a.err, .int .u64 a.lim, .int .u64 a.left, .int .u64 a.reset, .int .u64 a.after, .int .u64 a.nanos, .bool a.retry, .int .i64 0, .slice none 0 0] 57)).alloc (.cells #[.string r.p, .int .u64 r.e, .int .u64 r.b, .int .u8 r.k] 79)).alloc (.cells #[.int .u8 s.k, .int .u64 s.a, .int .u64 s.b] 90)).alloc (.cells #[.int .u8 0, .int .u16 0, .int .u64 0, .int .u64 0, .int .u64 0, .int .u64 0, .int .u64 0, .bool false, .int .i64 0, .slice none 0 0] 57)) = W at *
  obtain ⟨r0, r1, r2, r3, _⟩ := blk4 b2.out
  go_wp2_with (go_at_call 72; refine (CC.out _).mono ?_; rintro e w1 ⟨rfl, _, g⟩; refine stopHere ?_)
  unfold Stop
  have d0 := Lib.hid (b0.out.below g)
  have d1 := Lib.hid (b1.out.below g)
  have d2 := Lib.hid (b2.out.below g)
  have d3 := Lib.hid (b3.out.below g)
  have d4 := Lib.hid (b4.out.below g)
  have kd := Lib.hid (kbq k0.out g)
  have zd := Lib.hid (show w.heap.size + 5 ≤ w1.heap.size by have := z0.out; have := g.size; omega)
  clear b0 b1 b2 b3 b4 k0 z0 g r0 r1 r2 r3 CC
  have c0 := d0
  have c1 := d1
  have c2 := d2
  have c3 := d3
  have c4 := d4
  have k1 := kd
  have z1 := zd
  clear d0 d1 d2 d3 d4 kd zd
  obtain ⟨r0, r1, r2, r3, _⟩ := blk4 c2.out
  obtain ⟨s0, s1, s2, _⟩ := blk3 c3.out
  obtain ⟨t0, t1, t2, _⟩ := blk3 c0.out
  obtain ⟨y0, y1, y2, y3, y4, y5, y6, y7, y8, y9, f0, f1, f2, f3, f4, f5, f6, f7, f8, f9⟩ := blk10 c1.out
  have l1 := c1.out.lt
  go_wp2_with (go_at_call 149; refine (CL.out _).mono ?_; rintro e w2 ⟨rfl, _, g⟩; refine stopHere ?_)
  unfold Stop
  clear r0 r1 r2 r3 s0 s1 s2 t0 t1 t2 y0 y1 y2 y3 y4 y5 y6 y7 y8 y9 f0 f1 f2 f3 f4 f5 f6 f7 f8 f9
  have d0 := Lib.hid ((c0.out.other 2 (.int .u64 r.b) (by omega)).below g)
  have d1 := Lib.hid ((c1.out.set 2 (.int .u64 r.b)).below g)
  have d2 := Lib.hid ((c2.out.other 2 (.int .u64 r.b) (by omega)).below g)
  have d3 := Lib.hid ((c3.out.other 2 (.int .u64 r.b) (by omega)).below g)
  have d4 := Lib.hid ((c4.out.other 2 (.int .u64 r.b) (by omega)).below g)
  have kd := Lib.hid (kbq (k1.out.setCell (p := ⟨w.heap.size + 1, 2, none⟩) (show w.heap.size ≤ w.heap.size + 1 by omega) (.int .u64 r.b)) g)
  have zd := Lib.hid (show w.heap.size + 5 ≤ w2.heap.size by have := z1.out; have := g.size; simp at this; omega)
  clear c0 c1 c2 c3 c4 k1 z1 g
  have c0 := d0
  have c1 := d1
  have c2 := d2
  have c3 := d3
  have c4 := d4
  have k1 := kd
  have z1 := zd
  clear d0 d1 d2 d3 d4 kd zd
  clear CL l1
  obtain ⟨r0, r1, r2, r3, _⟩ := blk4 c2.out
  obtain ⟨s0, s1, s2, _⟩ := blk3 c3.out
  obtain ⟨t0, t1, t2, _⟩ := blk3 c0.out
  obtain ⟨y0, y1, y2, y3, y4, y5, y6, y7, y8, y9, f0, f1, f2, f3, f4, f5, f6, f7, f8, f9⟩ := blk10 c1.out
  have l1 := c1.out.lt
  go_wp2_with (go_at_call 143; refine (CF.out _).mono ?_; rintro e w3 ⟨rfl, _, g⟩; refine stopHere ?_)
  unfold Stop
  clear r0 r1 r2 r3 s0 s1 s2 t0 t1 t2 y0 y1 y2 y3 y4 y5 y6 y7 y8 y9 f0 f1 f2 f3 f4 f5 f6 f7 f8 f9
  have d0 := Lib.hid ((c0.out.other 3 (.int .u64 LL) (by omega)).below g)
  have d1 := Lib.hid ((c1.out.set 3 (.int .u64 LL)).below g)
  have d2 := Lib.hid ((c2.out.other 3 (.int .u64 LL) (by omega)).below g)
  have d3 := Lib.hid ((c3.out.other 3 (.int .u64 LL) (by omega)).below g)
  have d4 := Lib.hid ((c4.out.other 3 (.int .u64 LL) (by omega)).below g)
  have kd := Lib.hid (kbq (k1.out.setCell (p := ⟨w.heap.size + 1, 3, none⟩) (show w.heap.size ≤ w.heap.size + 1 by omega) (.int .u64 LL)) g)
  have zd := Lib.hid (show w.heap.size + 5 ≤ w3.heap.size by have := z1.out; have := g.size; simp at this; omega)
  clear c0 c1 c2 c3 c4 k1 z1 g
  have c0 := d0
  have c1 := d1
  have c2 := d2
  have c3 := d3
  have c4 := d4
  have k1 := kd
  have z1 := zd
  clear d0 d1 d2 d3 d4 kd zd
  clear CF l1
  obtain ⟨r0, r1, r2, r3, _⟩ := blk4 c2.out
  obtain ⟨s0, s1, s2, _⟩ := blk3 c3.out
  obtain ⟨t0, t1, t2, _⟩ := blk3 c0.out
  obtain ⟨y0, y1, y2, y3, y4, y5, y6, y7, y8, y9, f0, f1, f2, f3, f4, f5, f6, f7, f8, f9⟩ := blk10 c1.out
  have l1 := c1.out.lt
  go_wp2_with (go_at_call 98; refine (CE.out _).mono ?_; rintro e w4 ⟨rfl, rfl⟩; refine stopHere ?_)
  unfold Stop
  have hB := Lib.hid (c1.out.set 4 (.int .u64 EE))
  have c9 := Lib.hid (c4.out.other (c := w.heap.size + 1) 4 (.int .u64 EE) (by omega))
  have k9 := Lib.hid (k1.out.setCell (p := ⟨w.heap.size + 1, 4, none⟩) (show w.heap.size ≤ w.heap.size + 1 by omega) (.int .u64 EE))
  go_upto_region 5 with fail
  revert hB c9 k9
  generalize World.setCell _ ⟨w.heap.size + 1, 4, none⟩ _ = V
  intro hB c9 k9
  clear r0 r1 r2 r3 s0 s1 s2 t0 t1 t2 y0 y1 y2 y3 y4 y5 y6 y7 y8 y9 f0 f1 f2 f3 f4 f5 f6 f7 f8 f9 l1
  have hB' : Hid (Blk V (w.heap.size + 1) #[.int .u8 a.code, .int .u16 a.err, .int .u64 r.b, .int .u64 LL, .int .u64 EE, .int .u64 a.after, .int .u64 a.nanos, .bool a.retry, .int .i64 0, .slice none 0 0] 57) := hB
  obtain ⟨y0, y1, y2, y3, y4, y5, y6, y7, y8, y9, _⟩ := blk10 hB'.out
  obtain ⟨v0, v1, v2, v3, v4, v5, v6, v7, v8, v9, f0, f1, f2, f3, f4, f5, f6, f7, f8, f9⟩ := blk10 c9.out
  go_wp2
  have z8 := Lib.hid (bset10 (p0 := .int .u8 a.code) (p1 := .int .u16 a.err) (p2 := .int .u64 r.b) (p3 := .int .u64 LL) (p4 := .int .u64 EE) (p5 := .int .u64 a.after) (p6 := .int .u64 a.nanos) (p7 := .bool a.retry) (p8 := .int .i64 0) (p9 := .slice none 0 0) c9.out)
  have kz := Lib.hid (ts10 (p0 := .int .u8 a.code) (p1 := .int .u16 a.err) (p2 := .int .u64 r.b) (p3 := .int .u64 LL) (p4 := .int .u64 EE) (p5 := .int .u64 a.after) (p6 := .int .u64 a.nanos) (p7 := .bool a.retry) (p8 := .int .i64 0) (p9 := .slice none 0 0) (Tch.refl (fun k => k = w.heap.size + 4) V) (.inl rfl))
  revert z8 kz
  generalize World.setCell _ ⟨w.heap.size + 4, 9, none⟩ _ = V9
  intro z8 kz
  obtain ⟨q0, q1, q2, q3, q4, q5, q6, q7, q8, q9, _⟩ := blk10 z8.out
  refine bodyPost_ret (v := An.v (An.mk a.code a.err r.b LL EE a.after a.nanos a.retry)) ?_ rfl ⟨rfl, tch_below k9.out kz.out (Nat.le_refl _) (by rintro k hk rfl; omega)⟩
  simp [results, Tryz.results97, go_sem, q0, q1, q2, q3, q4, q5, q6, q7, q8, q9]
end Go.Proofs.YtbejkcdaefkibaaGreat.Wd
namespace Go.Proofs.YtbejkcdaefkibaaGreat.Wd
open Go Go.RowKit Go.Deep Go.Shelf
set_option linter.unusedVariables false
set_option maxRecDepth 100000

/-- Who is admitted fits. -/
theorem kd_fits (k a b now cap v : Int) (h3 : Is3 k) (hc : U cap) (hv : U v) (ha : U a) (hb : U b) (hn : U now) (h : kdB k a b now cap v = true) : kfI k a b now cap + v ≤ cap := by
  rcases h3 with rfl | rfl | rfl
  · have e : ftB (sbI a now) v cap = true := h
    have := of_decide_eq_true e
    exact this
  · have e : bdB a b now cap v = true := h
    have e1 := of_decide_eq_true e
    have e2 := tkI_le a b now cap
    show biI a b now cap + v ≤ cap
    unfold biI
    omega
  · have e : ftB (fiI a b now) v cap = true := h
    have := of_decide_eq_true e
    exact this
theorem sec_zero : secI 0 = 0 := by unfold secI clI; decide
theorem kwI_no {f cap v : Int} (h : kwB f cap v = false) : kwI f cap v = 0 := by unfold kwI; rw [h]; rfl
theorem kwB_in {f cap v : Int} (h : f + v ≤ cap) : kwB f cap v = false := by unfold kwB; exact decide_eq_false (by omega)
theorem dec_in {c n : Int} {r : Rl} {s : St} (hs : OkSt s) (hr : Okr r) (hc : U c) (hn : U n) (h : stIn c r s n = true) : decA c r s n = toldA c r (stNx c r s n) ⟨1, 0, 0, 0, 0, 0, 0, false⟩ := by
  have hw : U (wI r n) := sat_U _ (Int.mul_nonneg hn.1 hr.e.1)
  have hf := kd_fits s.k s.a s.b c (capR r) (wI r n) hs.k (capR_U hr) hw hs.a hs.b hc h
  have e1 := kwB_in hf
  unfold decA toldA
  rw [h, e1, kwI_no e1, sec_zero]
  rfl
theorem st_no {c n : Int} {r : Rl} {s : St} (h : stIn c r s n = false) : stNx c r s n = s := by
  obtain ⟨h1, h2, h3⟩ := kd_no (k := s.k) s.a s.b c (capR r) (wI r n) h
  unfold stNx
  rw [h1, h2, h3]
theorem dec_no {c n : Int} {r : Rl} {s : St} (h : stIn c r s n = false) : decA c r s n = toldA c r s ⟨2, 0, 0, 0, 0, if kwB (flT c r s) (capR r) (wI r n) = true then secI (kwI (flT c r s) (capR r) (wI r n)) else 0, kwI (flT c r s) (capR r) (wI r n), kwB (flT c r s) (capR r) (wI r n)⟩ := by
  unfold decA toldA
  rw [st_no h, h]
  cases e : kwB (flT c r s) (capR r) (wI r n) with
  | true => rfl
  | false => rw [kwI_no e, sec_zero]; rfl
/-- Where a key stands among rising ones: there, or nowhere. -/
theorem find_get {k : ByteArray} : ∀ {l : List Sl} {i : Int}, 0 ≤ i → (getS l k = none ∧ findI l k i = -1) ∨ ∃ j : Nat, ∃ s, getS l k = some s ∧ findI l k i = i + j ∧ l[j]? = some s
  | [], i, hi => .inl ⟨rfl, rfl⟩
  | x :: xs, i, hi => by
    rw [getS_cons]
    unfold findI
    by_cases e : x.key = k
    · rw [if_pos e, if_pos e]
      exact .inr ⟨0, x, rfl, by simp, rfl⟩
    · rw [if_neg e, if_neg e]
      rcases find_get (k := k) (l := xs) (i := i + 1) (by omega) with h | ⟨j, s, h1, h2, h3⟩
      · exact .inl h
      · exact .inr ⟨j + 1, s, h1, by rw [h2]; omega, h3⟩
theorem Rise.moved {A : List Sl} (h : Rise A) (c k2 : Int) : Rise (A.map (mvS c k2)) := List.pairwise_map.2 h
theorem rsl_moved {c k2 : Int} {A : List Sl} (h : ∀ s ∈ A, 0 < flS c (mvS c k2 s)) : rsl c (A.map (mvS c k2)) = A.map (mvS c k2) := rsl_all (fun x hx => by
  obtain ⟨s, hs, rfl⟩ := List.mem_map.1 hx
  exact decide_eq_true (h s hs))
end Go.Proofs.YtbejkcdaefkibaaGreat.Wd
namespace Go.Proofs.YtbejkcdaefkibaaGreat.Wd
open Go Go.RowKit Go.Shelf Go.Deep Go.Sort
set_option linter.unusedVariables false
set_option maxRecDepth 100000
attribute [local go_sem] Oper.semAt_some
theorem cm_take : ∀ x y : List UInt8, x.take (cm x y) = y.take (cm x y)
  | [], y => by rw [cm_nil_left]; simp
  | a :: x, [] => by rw [cm_nil_right]; simp
  | a :: x, b :: y => by
    rw [cm_cons]
    by_cases h : a = b
    · rw [if_pos h, h]; simp [cm_take x y]
    · rw [if_neg h]; simp
theorem cm_unlike : ∀ x y (h : cm x y < x.length) (h' : cm x y < y.length), x[cm x y] ≠ y[cm x y]
  | [], y, h, _ => by simp at h
  | a :: x, [], _, h' => by simp at h'
  | a :: x, b :: y, h, h' => by
    by_cases e : a = b
    · have hc : cm (a :: x) (b :: y) = cm x y + 1 := by rw [cm_cons, if_pos e]
      have h1 : cm x y < x.length := by rw [hc] at h; simpa using h
      have h2 : cm x y < y.length := by rw [hc] at h'; simpa using h'
      have := cm_unlike x y h1 h2
      simp only [hc, List.getElem_cons_succ]
      exact this
    · have hc : cm (a :: x) (b :: y) = 0 := by rw [cm_cons, if_neg e]
      simp only [hc, List.getElem_cons_zero]
      exact e
/-- One begins with the other one, just if all of that is common. -/
theorem cm_has (k p : List UInt8) : cm k p = p.length ↔ p <+: k := by
  constructor
  · intro h
    have := cm_take k p
    rw [h, List.take_length] at this
    rw [← this]; exact List.take_prefix _ _
  · rintro ⟨t, rfl⟩
    exact cm_is _ _ _ (by simp) (Nat.le_refl _) (by simp) (fun _ h => absurd h (Nat.lt_irrefl _))
theorem Two.set {p : Nat} (W : World) (q : Addr) (u : Value) (h : q.block ≠ p) (h' : q.block ≠ p + 1) : Two p W (W.setCell q u) :=
  ⟨Below.heap_setCell _ _ _ _ (by omega), Below.heap_setCell _ _ _ _ (by omega)⟩
set_option maxRecDepth 100000 in
set_option maxHeartbeats 2000000 in
theorem common_in (n : Nat) (hn : 3 ≤ n) (a b : ByteArray) (ha : a.size ≤ 9223372036854775807) (hb : b.size ≤ 9223372036854775807) (w : World) :
    CallsIn Fence.wide n Tryz.prog 218 #[.string a, .string b] w fun e w' => e = .returned (.int .i64 (cm (lb a) (lb b) : Int)) ∧ Below w.heap.size w w' := by
  have h1 : 1 ≤ n := by omega
  refine callsIn_of_wp_marks Tryz.func218 rfl trivial ?_ rfl
  simp only [Tryz.ntmps218, List.size_toArray, List.length_cons, List.length_nil, Nat.reduceAdd, Nat.reduceSub, Array.replicate_succ, Array.replicate_zero, List.push_toArray, List.append_toArray, List.nil_append, List.cons_append]
  gi_wp2_with (refine ⟨trivial, ?_⟩; gi_at_call 160; refine (pairs_in Fence.wide (n - 1) trivial rfl _ _ _).mono ?_; rintro e w' ⟨rfl, rfl⟩)
  have bR := ((Boxed.new w 3 (.int .i64 0)).alloc (.cells #[.string a] 9)).alloc (.cells #[.string b] 9)
  have bA := (Boxed.new (w.alloc (.cells #[.int .i64 0] 3)) 9 (.string a)).alloc (.cells #[.string b] 9)
  have bB := Boxed.new ((w.alloc (.cells #[.int .i64 0] 3)).alloc (.cells #[.string a] 9)) 9 (.string b)
  simp only [World.size_alloc] at bA bB
  have hB0 : Below w.heap.size w (((w.alloc (.cells #[.int .i64 0] 3)).alloc (.cells #[.string a] 9)).alloc (.cells #[.string b] 9)) := (((Below.refl _ w).alloc (Nat.le_refl _) _).alloc (by simp) _).alloc (by simp; omega) _
  have hsz : (((w.alloc (.cells #[.int .i64 0] 3)).alloc (.cells #[.string a] 9)).alloc (.cells #[.string b] 9)).heap.size = w.heap.size + 3 := by simp
  obtain ⟨W0, hW0⟩ : ∃ W0, ((w.alloc (.cells #[.int .i64 0] 3)).alloc (.cells #[.string a] 9)).alloc (.cells #[.string b] 9) = W0 := ⟨_, rfl⟩
  rw [hW0] at bR bA bB hB0 hsz ⊢
  clear hW0
  have hL : ((lb a).zip (lb b)).length ≤ 9223372036854775807 := by rw [List.length_zip, list_size, list_size]; omega
  refine wpIn_rangeFunc_ownF rfl h1 (gf := 194) (lb := #[.pointer (some ⟨w.heap.size + 1, 0, none⟩), .pointer (some ⟨w.heap.size + 1 + 1, 0, none⟩)]) rfl trivial (enters_of Tryz.func194 (by kernel_rfl) rfl)
    (pairs1_stops (n - 1) (by omega) (w.heap.size + 1) a b ha hb W0 bA bB) two_t (two_b (by omega)) (Below.refl _ _) (fun _ => rfl)
    (fun pre W => ((∀ q ∈ pre, q.1 = q.2) ∧ W.cell? ⟨w.heap.size, 0, none⟩ = some (.int .i64 (pre.length : Int)) ∧ W.frozen? ⟨w.heap.size, 0, none⟩ = false) ∧ Below w.heap.size w W)
    (fun c pre W => (c = .exit 0 ∧ ∃ pre' x, pre = pre' ++ [x] ∧ (∀ q ∈ pre', q.1 = q.2) ∧ x.1 ≠ x.2 ∧ W.cell? ⟨w.heap.size, 0, none⟩ = some (.int .i64 (pre'.length : Int))) ∧ Below w.heap.size w W)
    (OwnFrom.and (Own.from (fun s A B row hs hg hr => ⟨hs.1, cell_kept hs.2.1 hg hr, (frozen_kept hs.2.1 hg hr).trans hs.2.2⟩) _) (ownFrom_below (Nat.le_refl _) (by omega)))
    (fun c => OwnFrom.and (Own.from (fun s A B row hs hg hr => by obtain ⟨hc, p, x, h1, h2, h3, h4⟩ := hs; exact ⟨hc, p, x, h1, h2, h3, cell_kept h4 hg hr⟩) _) (ownFrom_below (Nat.le_refl _) (by omega)))
    ⟨⟨by simp, bR.cell, bR.frozen⟩, hB0⟩
    (fun x => { tmps := #[.string a, .string b, undef, undef, .int .i64 0, .pointer (some ⟨w.heap.size, 0, none⟩), .int .u8 (x.1.toNat : Int), .int .u8 (x.2.toNat : Int), .string a, .string b, .func (.func 194) #[] #[.pointer (some ⟨w.heap.size + 1, 0, none⟩), .pointer (some ⟨w.heap.size + 1 + 1, 0, none⟩)], .int .u8 (x.1.toNat : Int), .int .u8 (x.2.toNat : Int), undef, undef, undef, undef, undef, undef], defers := [] }) ?assign ?body ?done ?stop
  case assign =>
    intro l x W K hK
    gi_wp2
    exact hK
  case body =>
    rintro l pre x W ⟨⟨hp, hcr, hfr⟩, hB⟩ hlen
    by_cases hx : x.1 = x.2
    · have hx' : ((x.1.toNat : Int) == (x.2.toNat : Int)) = true := by rw [hx]; simp
      have HX := Lib.hid hx
      have hw : IntKind.i64.wrap ((pre.length : Int) + 1) = (pre.length : Int) + 1 := by rw [IntKind.wrap_i64]; omega
      clear hx
      gi_wp2
      refine ⟨KeepsOthers.setCell _ _ _, Two.set _ _ _ (by simp) (by simp; omega), ⟨fun y hy => (List.mem_append.1 hy).elim (hp y) (fun e => by simp at e; subst e; exact HX.out), ?_, by rw [World.frozen?_setCell]; exact hfr⟩, hB.setCell (p := ⟨w.heap.size, 0, none⟩) (by simp) _⟩
      rw [show ((pre ++ [x]).length : Int) = (pre.length : Int) + 1 by simp]
      exact World.cell?_setCell_same' _ _ _ (by rw [hcr]; rfl)
    · have hx' := u8_ne hx
      have HX := Lib.hid hx
      clear hx
      gi_wp2
      exact ⟨KeepsOthers.refl _, ⟨rfl, pre, x, rfl, hp, HX.out, hcr⟩, hB⟩
  case done =>
    rintro D ys W hD rfl ⟨⟨hne, hcr, hfr⟩, hB⟩ hK
    have E := cm_all hne
    rw [List.length_zip, list_size, list_size] at E
    have HE := Lib.hid E
    clear hne E
    gi_wp2
    refine ⟨by simp, .inl ⟨_, _, rfl, run_takeDeferred hK, ?_⟩⟩
    exact ⟨_, results_tmp rfl _ _ _, by rw [HE.out]; rfl, hB.trans (belowK_b (w := w) (Nat.le_refl _) W D _ _ (by omega) hK rfl rfl)⟩
  case stop =>
    rintro D c pre W hD hpre ⟨⟨rfl, pre', x, rfl, hall, hne, hcr⟩, hB⟩ hK
    have HE := Lib.hid (cm_parts hpre hall hne).1
    clear hpre hall hne
    gi_wp2
    refine ⟨by simp, .inl ⟨_, _, rfl, run_takeDeferred hK, ?_⟩⟩
    exact ⟨_, results_tmp rfl _ _ _, by rw [HE.out]; rfl, hB.trans (belowK_b (w := w) (Nat.le_refl _) W D _ _ (by omega) hK rfl rfl)⟩
theorem common_any (a b : ByteArray) (w : World) (ha : a.size ≤ 9223372036854775807) (hb : b.size ≤ 9223372036854775807) :
    Calls Tryz.prog 218 #[.string a, .string b] w fun e w' => e = .returned (.int .i64 (cm (lb a) (lb b) : Int)) ∧ Below w.heap.size w w' := callsIn_wide.1 (common_in 3 (Nat.le_refl _) a b ha hb w)
theorem has_any (k p : ByteArray) (w : World) (hk : k.size ≤ 9223372036854775807) (hp : p.size ≤ 9223372036854775807) :
    Calls Tryz.prog 196 #[.string k, .string p] w fun e w' => e = .returned (.bool (decide (cm (lb k) (lb p) = p.size))) ∧ Below w.heap.size w w' := by
  have c1 := fun W => common_any k p W hk hp
  generalize hm : cm (lb k) (lb p) = m at *
  have e : ((m : Int) == (p.size : Int)) = decide (m = p.size) := by
    rw [Bool.eq_iff_iff, beq_iff_eq, decide_eq_true_eq]; omega
  go_enter Tryz.func196, Tryz.ntmps196
  go_wp2_with (go_at_call 218; refine (c1 _).mono ?_; rintro e w1 ⟨rfl, b1⟩)
  go_ret
  exact ⟨rfl, b1⟩
/-- What a rule of choices is: right, and small. -/
structure Own (s : ByteArray) (E B : Nat) (k : Int) : Prop where
  sz : s.size ≤ 12
  pf : pfB s = true
  e1 : 1 ≤ E
  e2 : E ≤ 4294967296
  b1 : 1 ≤ B
  b2 : B ≤ 65536
  k1 : 1 ≤ k
  k2 : k ≤ 3
abbrev fnOf (rs : List Rl) : Nat → Rl := fun k => rs.getD k rl0
def Rls (w : World) (A : Option Addr) (n : Nat) (rs : List Rl) : Prop :=
  rs.length = n ∧ (∀ r ∈ rs, Okr r) ∧ (0 < n → ∃ b off, A = some ⟨b, off, none⟩ ∧ b < w.heap.size ∧ ∀ k, k < n → R4 w b (off + k * 4) (fnOf rs k))
theorem Rls.below {w w' : World} {A : Option Addr} {n : Nat} {rs : List Rl} (h : Rls w A n rs) (k : Below w.heap.size w w') : Rls w' A n rs :=
  ⟨h.1, h.2.1, fun hn => by
    obtain ⟨b, off, e, hb, hc⟩ := h.2.2 hn
    exact ⟨b, off, e, Nat.lt_of_lt_of_le hb k.size, fun j hj => (hc j hj).of_block (k.block _ hb)⟩⟩
/-- What is left of a text behind its first n bytes. -/
def cutB (s : ByteArray) (n : Nat) : ByteArray := s.extract n s.size
theorem lb_ext (s : ByteArray) (i j : Nat) : lb (s.extract i j) = ((lb s).drop i).take (j - i) := by
  show (s.extract i j).data.toList = _
  rw [ByteArray.data_extract, Array.toList_extract]
theorem lb_cut (s : ByteArray) (n : Nat) : lb (cutB s n) = (lb s).drop n := by
  unfold cutB
  rw [lb_ext, List.take_of_length_le]
  rw [List.length_drop, list_size]; exact Nat.le_refl _
theorem lb_front (s : ByteArray) (n : Nat) : lb (s.extract 0 n) = (lb s).take n := by rw [lb_ext]; simp
theorem plb_len (s : ByteArray) : (lb s).length = s.size := list_size s
theorem cut_size (s : ByteArray) (n : Nat) : (cutB s n).size = s.size - n := by rw [← plb_len, lb_cut, List.length_drop, plb_len]
theorem front_size (s : ByteArray) (n : Nat) (h : n ≤ s.size) : (s.extract 0 n).size = n := by rw [← plb_len, lb_front, List.length_take, plb_len]; omega
theorem plb_inj {a b : ByteArray} (h : lb a = lb b) : a = b := by
  cases a; cases b; simp only [lb] at h; rw [Array.toList_inj.1 h]
/-- A text's first byte. -/
def hdB (s : ByteArray) : UInt8 := (lb s).headD 0
theorem hd_some {s : ByteArray} (h : 0 < s.size) : (lb s).head? = some (hdB s) := by
  have : (lb s).length = s.size := list_size s
  unfold hdB
  cases e : lb s with
  | nil => rw [e] at this; simp at this; omega
  | cons a l => rfl
theorem hd_of {s : ByteArray} {c : UInt8} (h : (lb s).head? = some c) : hdB s = c ∧ 0 < s.size := by
  have : (lb s).length = s.size := list_size s
  unfold hdB
  cases e : lb s with
  | nil => rw [e] at h; cases h
  | cons a l => rw [e] at h this; simp at h this; exact ⟨h, by omega⟩
theorem hd_at {s : ByteArray} (h : 0 < s.size) : s[0] = hdB s := by
  have hl : 0 < (lb s).length := by rw [list_size]; exact h
  rw [← list_at s 0 h hl]
  unfold hdB
  cases e : lb s with
  | nil => rw [e] at hl; simp at hl
  | cons a l => simp [e]
/-- A node: what leads to it, its step, its map's block, the nodes below by bytes, its rule. -/
structure Nd where
  path : List UInt8
  step : ByteArray
  mp : Option Nat
  dn : List (UInt8 × Nat)
  rule : Option Rl
def look : List (UInt8 × Nat) → UInt8 → Option Nat
  | [], _ => none
  | e :: d, c => if e.1 = c then some e.2 else look d c
def putD : List (UInt8 × Nat) → UInt8 → Nat → List (UInt8 × Nat)
  | [], c, b => [(c, b)]
  | e :: d, c, b => if e.1 = c then (c, b) :: d else e :: putD d c b
theorem look_put : ∀ (d : List (UInt8 × Nat)) (c : UInt8) (b : Nat) (c' : UInt8), look (putD d c b) c' = if c = c' then some b else look d c'
  | [], c, b, c' => by
    by_cases h : c = c'
    · simp [putD, look, h]
    · simp [putD, look, h]
  | e :: d, c, b, c' => by
    have ih := look_put d c b c'
    by_cases h : e.1 = c
    · by_cases h' : c = c'
      · simp [putD, look, h, h']
      · simp [putD, look, h, h']
    · by_cases h' : e.1 = c'
      · have : ¬ c = c' := fun g => h (h'.trans g.symm)
        rw [putD, if_neg h, look, if_pos h', look, if_pos h', if_neg this]
      · rw [putD, if_neg h, look, if_neg h', look, if_neg h', ih]
/-- A wood: nodes by their blocks. -/
structure Wood (F : Nat → Option Nd) (R : Nat) : Prop where
  root : ∃ nd, F R = some nd ∧ nd.path = [] ∧ nd.step.size = 0
  down : ∀ b nd c b', F b = some nd → look nd.dn c = some b' → ∃ nd', F b' = some nd' ∧ nd'.path = nd.path ++ lb nd'.step ∧ (lb nd'.step).head? = some c
  up : ∀ b nd, F b = some nd → b ≠ R → ∃ p np c, F p = some np ∧ look np.dn c = some b
  one : ∀ b p np c q nq d, F p = some np → look np.dn c = some b → F q = some nq → look nq.dn d = some b → p = q
def upd (F : Nat → Option Nd) (b : Nat) (nd : Nd) : Nat → Option Nd := fun x => if x = b then some nd else F x
theorem upd_same (F : Nat → Option Nd) (b : Nat) (nd : Nd) : upd F b nd b = some nd := if_pos rfl
theorem upd_other (F : Nat → Option Nd) {b x : Nat} (nd : Nd) (h : x ≠ b) : upd F b nd x = F x := if_neg h
theorem Wood.notRoot {F : Nat → Option Nd} {R : Nat} (h : Wood F R) {b : Nat} {nd : Nd} {c : UInt8} (hb : F b = some nd) : look nd.dn c ≠ some R := fun e => by
  obtain ⟨nd', e1, e2, e3⟩ := h.down b nd c R hb e
  obtain ⟨r, f1, f2, f3⟩ := h.root
  rw [f1] at e1
  cases e1
  have := (hd_of e3).2
  omega
/-- A node is longer than the one above it. -/
theorem Wood.longer {F : Nat → Option Nd} {R : Nat} (h : Wood F R) {b b' : Nat} {nd nd' : Nd} {c : UInt8} (hb : F b = some nd) (hc : look nd.dn c = some b') (hb' : F b' = some nd') : nd'.path = nd.path ++ lb nd'.step ∧ (lb nd'.step).head? = some c ∧ nd.path.length < nd'.path.length := by
  obtain ⟨x, e1, e2, e3⟩ := h.down b nd c b' hb hc
  rw [hb'] at e1
  cases e1
  refine ⟨e2, e3, ?_⟩
  have := (hd_of e3).2
  rw [e2, List.length_append, plb_len]
  omega
/-- The way of a text from a node down: the nodes that it comes by, and what is left behind each. -/
inductive Way (F : Nat → Option Nd) : Option Nat → ByteArray → List (Nat × ByteArray) → Prop
  | none {l} : Way F none l []
  | off {b nd l} : F b = some nd → ¬ lb nd.step <+: lb l → Way F (some b) l []
  | last {b nd l} : F b = some nd → lb nd.step <+: lb l → (cutB l nd.step.size).size = 0 → Way F (some b) l [(b, cutB l nd.step.size)]
  | on {b nd l xs} : F b = some nd → lb nd.step <+: lb l → 0 < (cutB l nd.step.size).size → Way F (look nd.dn (hdB (cutB l nd.step.size))) (cutB l nd.step.size) xs → Way F (some b) l ((b, cutB l nd.step.size) :: xs)
theorem pre_size {a b : ByteArray} (h : lb a <+: lb b) : a.size ≤ b.size := by have := h.length_le; rwa [list_size, list_size] at this
theorem pre_cut {a b : ByteArray} (h : lb a <+: lb b) : lb b = lb a ++ lb (cutB b a.size) := by
  rw [lb_cut]
  obtain ⟨t, e⟩ := h
  rw [← e, ← list_size, List.drop_left]
theorem cut_cut (s : ByteArray) (m n : Nat) : cutB (cutB s m) n = cutB s (m + n) := plb_inj (by rw [lb_cut, lb_cut, lb_cut, List.drop_drop])
/-- What is left is what is left of the text behind what led there. -/
theorem Way.parts {F : Nat → Option Nd} {R : Nat} (W : Wood F R) {K : ByteArray} : ∀ {o l xs}, Way F o l xs → (∀ b nd, o = some b → F b = some nd → ∃ np, nd.path = np ++ lb nd.step ∧ lb K = np ++ lb l) →
    ∀ x ∈ xs, ∃ nd, F x.1 = some nd ∧ lb K = nd.path ++ lb x.2 := by
  intro o l xs h
  induction h with
  | none => intro _ x hx; cases hx
  | off _ _ => intro _ x hx; cases hx
  | @last b nd l hb hp h0 =>
    intro hk x hx
    simp only [List.mem_cons, List.not_mem_nil, or_false] at hx
    subst hx
    obtain ⟨np, e1, e2⟩ := hk b nd rfl hb
    exact ⟨nd, hb, by rw [e1, e2, List.append_assoc, ← pre_cut hp]⟩
  | @on b nd l xs hb hp h0 hw ih =>
    intro hk x hx
    obtain ⟨np, e1, e2⟩ := hk b nd rfl hb
    have e3 : lb K = nd.path ++ lb (cutB l nd.step.size) := by rw [e1, e2, List.append_assoc, ← pre_cut hp]
    rcases List.mem_cons.1 hx with rfl | hx
    · exact ⟨nd, hb, e3⟩
    · refine ih (fun b' nd' ho hb' => ?_) x hx
      exact ⟨nd.path, (W.longer hb ho hb').1, e3⟩
theorem Way.ofRoot {F : Nat → Option Nd} {R : Nat} (W : Wood F R) {K : ByteArray} {xs} (h : Way F (some R) K xs) : ∀ x ∈ xs, ∃ nd, F x.1 = some nd ∧ lb K = nd.path ++ lb x.2 := by
  refine h.parts W (fun b nd e hb => ?_)
  cases e
  obtain ⟨r, f1, f2, f3⟩ := W.root
  rw [hb] at f1
  cases f1
  have : lb nd.step = [] := List.eq_nil_of_length_eq_zero (by rw [list_size]; exact f3)
  exact ⟨[], by rw [f2, this]; rfl, rfl⟩
/-- What is left gets less. -/
theorem Way.less {F : Nat → Option Nd} {R : Nat} (W : Wood F R) : ∀ {o l xs}, Way F o l xs → (∀ x ∈ xs, x.2.size ≤ l.size ∧ ((∀ b nd, o = some b → F b = some nd → 0 < nd.step.size) → 0 < l.size → x.2.size < l.size)) ∧ xs.Pairwise (fun x y => y.2.size < x.2.size) := by
  intro o l xs h
  induction h with
  | none => exact ⟨fun x hx => (by cases hx), List.Pairwise.nil⟩
  | off _ _ => exact ⟨fun x hx => (by cases hx), List.Pairwise.nil⟩
  | @last b nd l hb hp h0 =>
    refine ⟨fun x hx => ?_, List.pairwise_singleton _ _⟩
    simp only [List.mem_cons, List.not_mem_nil, or_false] at hx
    subst hx
    exact ⟨by show (cutB l _).size ≤ _; omega, fun _ _ => by show (cutB l _).size < _; omega⟩
  | @on b nd l xs hb hp h0 hw ih =>
    have hsz := cut_size l nd.step.size
    have hst : ∀ b' nd', look nd.dn (hdB (cutB l nd.step.size)) = some b' → F b' = some nd' → 0 < nd'.step.size := fun b' nd' e hb' => (hd_of (W.longer hb e hb').2.1).2
    refine ⟨fun x hx => ?_, List.pairwise_cons.2 ⟨fun y hy => (ih.1 y hy).2 hst h0, ih.2⟩⟩
    rcases List.mem_cons.1 hx with rfl | hx
    · exact ⟨by show (cutB l _).size ≤ _; omega, fun g _ => by have := g b nd rfl hb; show (cutB l _).size < _; omega⟩
    · have := (ih.1 x hx).2 hst h0
      exact ⟨by omega, fun _ _ => by omega⟩
/-- From a node on the way to the next one. -/
theorem Way.next {F : Nat → Option Nd} : ∀ {o l xs}, Way F o l xs → ∀ {p l1 np b' nd'}, (p, l1) ∈ xs → F p = some np → 0 < l1.size → look np.dn (hdB l1) = some b' → F b' = some nd' → lb nd'.step <+: lb l1 → (b', cutB l1 nd'.step.size) ∈ xs := by
  intro o l xs h
  induction h with
  | none => intro p l1 np b' nd' hx; cases hx
  | off _ _ => intro p l1 np b' nd' hx; cases hx
  | @last b nd l hb hp h0 =>
    intro p l1 np b' nd' hx _ h1
    simp only [List.mem_cons, List.not_mem_nil, or_false, Prod.mk.injEq] at hx
    obtain ⟨rfl, rfl⟩ := hx
    omega
  | @on b nd l xs hb hp h0 hw ih =>
    intro p l1 np b' nd' hx hF h1 hl hb' hpre
    rcases List.mem_cons.1 hx with e | hx
    · simp only [Prod.mk.injEq] at e
      obtain ⟨rfl, rfl⟩ := e
      rw [hb] at hF
      cases hF
      rw [hl] at hw
      refine List.mem_cons_of_mem _ ?_
      cases hw with
      | off g1 g2 => rw [hb'] at g1; cases g1; exact absurd hpre g2
      | last g1 g2 g3 => rw [hb'] at g1; cases g1; exact List.mem_cons_self
      | on g1 g2 g3 g4 => rw [hb'] at g1; cases g1; exact List.mem_cons_self
    · exact List.mem_cons_of_mem _ (ih hx hF h1 hl hb' hpre)
/-- Where a way ends. -/
theorem Way.ends {F : Nat → Option Nd} : ∀ {o l xs}, Way F o l xs → ∀ {ys p l1 np}, xs = ys ++ [(p, l1)] → F p = some np → l1.size = 0 ∨ Way F (look np.dn (hdB l1)) l1 [] := by
  intro o l xs h
  induction h with
  | none => intro ys p l1 np e; simp at e
  | off _ _ => intro ys p l1 np e; simp at e
  | @last b nd l hb hp h0 =>
    intro ys p l1 np e hF
    left
    cases ys with
    | nil => simp at e; rw [← e.2]; exact h0
    | cons a ys => simp at e
  | @on b nd l xs hb hp h0 hw ih =>
    intro ys p l1 np e hF
    cases ys with
    | nil =>
      simp at e
      obtain ⟨⟨rfl, rfl⟩, rfl⟩ := e
      rw [hb] at hF
      cases hF
      exact .inr hw
    | cons a ys =>
      simp only [List.cons_append, List.cons.injEq] at e
      exact ih e.2 hF
/-- There is a way. -/
theorem Wood.way {F : Nat → Option Nd} {R : Nat} (W : Wood F R) : ∀ (n : Nat) (o : Option Nat) (l : ByteArray), l.size ≤ n → (∀ b, o = some b → ∃ nd, F b = some nd ∧ 0 < nd.step.size) → ∃ xs, Way F o l xs
  | n, none, l, _, _ => ⟨[], .none⟩
  | n, some b, l, hn, ho => by
    obtain ⟨nd, hb, h0⟩ := ho b rfl
    by_cases hp : lb nd.step <+: lb l
    · by_cases hz : (cutB l nd.step.size).size = 0
      · exact ⟨_, .last hb hp hz⟩
      · have hc := cut_size l nd.step.size
        match n, hn with
        | 0, hn => omega
        | n + 1, hn =>
          obtain ⟨xs, hxs⟩ := W.way n (look nd.dn (hdB (cutB l nd.step.size))) (cutB l nd.step.size) (by omega) (fun b' e => by
            obtain ⟨nd', e1, e2, e3⟩ := W.down b nd _ b' hb e
            exact ⟨nd', e1, (hd_of e3).2⟩)
          exact ⟨_, .on hb hp (by omega) hxs⟩
    · exact ⟨_, .off hb hp⟩
theorem Wood.rootWay {F : Nat → Option Nd} {R : Nat} (W : Wood F R) (K : ByteArray) : ∃ xs, Way F (some R) K xs := by
  obtain ⟨r, f1, f2, f3⟩ := W.root
  have hp : lb r.step <+: lb K := by
    have : lb r.step = [] := List.eq_nil_of_length_eq_zero (by rw [list_size]; exact f3)
    rw [this]; exact List.nil_prefix
  by_cases hz : (cutB K r.step.size).size = 0
  · exact ⟨_, .last f1 hp hz⟩
  · obtain ⟨xs, hxs⟩ := W.way _ (look r.dn (hdB (cutB K r.step.size))) (cutB K r.step.size) (Nat.le_refl _) (fun b' e => by
      obtain ⟨nd', e1, e2, e3⟩ := W.down R r _ b' f1 e
      exact ⟨nd', e1, (hd_of e3).2⟩)
    exact ⟨_, .on f1 hp (by omega) hxs⟩
theorem Way.head {F : Nat → Option Nd} {R : Nat} (W : Wood F R) {K : ByteArray} {xs} (h : Way F (some R) K xs) : (R, K) ∈ xs := by
  obtain ⟨r, f1, f2, f3⟩ := W.root
  have e : cutB K r.step.size = K := plb_inj (by rw [lb_cut, f3]; rfl)
  have hp : lb r.step <+: lb K := by
    have : lb r.step = [] := List.eq_nil_of_length_eq_zero (by rw [list_size]; exact f3)
    rw [this]; exact List.nil_prefix
  cases h with
  | off g1 g2 => rw [f1] at g1; cases g1; exact absurd hp g2
  | last g1 g2 g3 => rw [f1] at g1; cases g1; rw [e]; exact List.mem_cons_self
  | on g1 g2 g3 g4 => rw [f1] at g1; cases g1; rw [e]; exact List.mem_cons_self
/-- Whoever leads to the text's front is on its way. -/
theorem Way.full {F : Nat → Option Nd} {R : Nat} (W : Wood F R) {K : ByteArray} {xs} (h : Way F (some R) K xs) : ∀ (n : Nat) (b : Nat) (nd : Nd), nd.path.length ≤ n → F b = some nd → nd.path <+: lb K → (b, cutB K nd.path.length) ∈ xs
  | n, b, nd, hn, hb, hp => by
    by_cases hR : b = R
    · subst hR
      obtain ⟨r, f1, f2, f3⟩ := W.root
      rw [hb] at f1
      cases f1
      rw [f2]
      have e : cutB K ([] : List UInt8).length = K := plb_inj (by rw [lb_cut]; rfl)
      rw [e]
      exact h.head W
    · obtain ⟨p, np, c, e1, e2⟩ := W.up b nd hb hR
      obtain ⟨g1, g2, g3⟩ := W.longer e1 e2 hb
      match n, hn with
      | 0, hn => omega
      | n + 1, hn =>
        have hpp : np.path <+: lb K := List.IsPrefix.trans ⟨lb nd.step, g1.symm⟩ hp
        have ih := Way.full W h n p np (by omega) e1 hpp
        have hk : lb (cutB K np.path.length) = (lb K).drop np.path.length := lb_cut _ _
        have hpre : lb nd.step <+: lb (cutB K np.path.length) := by
          rw [hk]
          obtain ⟨t, ht⟩ := hp
          refine ⟨t, ?_⟩
          rw [← ht, g1, List.append_assoc, List.drop_left]
        have hh := hd_of g2
        have h1 : (lb (cutB K np.path.length)).head? = some c := by
          obtain ⟨t, ht⟩ := hpre
          rw [← ht, List.head?_append, g2]; rfl
        have h2 := hd_of h1
        have := h.next ih e1 h2.2 (by rw [h2.1]; exact e2) hb hpre
        rw [cut_cut, ← list_size nd.step, ← List.length_append, ← g1] at this
        exact this
theorem Wood.inj {F : Nat → Option Nd} {R : Nat} (W : Wood F R) {b b' : Nat} {nd nd' : Nd} (hb : F b = some nd) (hb' : F b' = some nd') (e : nd.path = nd'.path) : b = b' := by
  obtain ⟨xs, hx⟩ := W.rootWay ⟨nd.path.toArray⟩
  have h1 := hx.full W _ b nd (Nat.le_refl _) hb (List.prefix_rfl)
  have h2 := hx.full W _ b' nd' (Nat.le_refl _) hb' (by rw [← e]; exact List.prefix_rfl)
  rw [← e] at h2
  have hs := (hx.less W).2
  obtain ⟨i, hi, e1⟩ := List.getElem_of_mem h1
  obtain ⟨j, hj, e2⟩ := List.getElem_of_mem h2
  rw [List.pairwise_iff_getElem] at hs
  rcases Nat.lt_trichotomy i j with g | g | g
  · have := hs i j hi hj g; rw [e1, e2] at this; exact absurd this (Nat.lt_irrefl _)
  · subst g; rw [e1] at e2; exact (Prod.mk.inj e2).1
  · have := hs j i hj hi g; rw [e1, e2] at this; exact absurd this (Nat.lt_irrefl _)
theorem okr0 : Okr rl0 := ⟨by decide, ⟨by decide, by decide⟩, ⟨by decide, by decide⟩, by decide, by decide⟩
theorem fn_at {rs : List Rl} {k : Nat} (h : k < rs.length) : fnOf rs k = rs[k] := by simp [fnOf, List.getD_eq_getElem?_getD, List.getElem?_eq_getElem h]
theorem fn_mem {rs : List Rl} {k : Nat} (h : k < rs.length) : fnOf rs k ∈ rs := by rw [fn_at h]; exact List.getElem_mem h
theorem fn_out {rs : List Rl} {k : Nat} (h : rs.length ≤ k) : fnOf rs k = rl0 := by simp [fnOf, List.getD_eq_getElem?_getD, List.getElem?_eq_none h]
theorem fn_ok {rs : List Rl} (h : ∀ r ∈ rs, Okr r) (k : Nat) : Okr (fnOf rs k) := by
  by_cases c : k < rs.length
  · exact h _ (fn_mem c)
  · rw [fn_out (by omega)]; exact okr0
theorem Rls.nil (w : World) (A : Option Addr) : Rls w A 0 [] := ⟨rfl, (fun _ h => nomatch h), fun h => absurd h (Nat.lt_irrefl _)⟩
theorem Rls.ok {w : World} {A : Option Addr} {n : Nat} {rs : List Rl} (h : Rls w A n rs) (k : Nat) : Okr (fnOf rs k) := fn_ok h.2.1 k
/-- A node more, below n, where there was none. -/
theorem Wood.leaf {F : Nat → Option Nd} {R n t : Nat} {nd : Nd} {r : ByteArray} {m' : Option Nat} (h : Wood F R) (hn : F n = some nd) (hf : F t = none) (hc : look nd.dn (hdB r) = none) (h0 : 0 < r.size) :
    Wood (upd (upd F n { nd with mp := m', dn := putD nd.dn (hdB r) t }) t ⟨nd.path ++ lb r, r, none, [], none⟩) R := by
  have htn : t ≠ n := fun e => by rw [e, hn] at hf; cases hf
  obtain ⟨n', hn'⟩ : ∃ n' : Nd, n' = { nd with mp := m', dn := putD nd.dn (hdB r) t } := ⟨_, rfl⟩
  obtain ⟨lf, hlf⟩ : ∃ lf : Nd, lf = ⟨nd.path ++ lb r, r, none, [], none⟩ := ⟨_, rfl⟩
  rw [← hn', ← hlf]
  obtain ⟨G, hG⟩ : ∃ G, G = upd (upd F n n') t lf := ⟨_, rfl⟩
  rw [← hG]
  have Gt : G t = some lf := by rw [hG]; exact upd_same _ _ _
  have Gn : G n = some n' := by rw [hG, upd_other _ _ (Ne.symm htn)]; exact upd_same _ _ _
  have Go' : ∀ x, x ≠ t → x ≠ n → G x = F x := fun x h1 h2 => by rw [hG, upd_other _ _ h1, upd_other _ _ h2]
  have keep : ∀ x nx, F x = some nx → ∃ nx', G x = some nx' ∧ nx'.path = nx.path ∧ nx'.step = nx.step := fun x nx hx => by
    by_cases e : x = n
    · subst e; rw [hn] at hx; cases hx; exact ⟨n', Gn, by rw [hn'], by rw [hn']⟩
    · exact ⟨nx, by rw [Go' x (fun e => by rw [e, hf] at hx; cases hx) e]; exact hx, rfl, rfl⟩
  have chi : ∀ p np c z, G p = some np → look np.dn c = some z → (p = n ∧ z = t ∧ c = hdB r) ∨ (∃ np0, F p = some np0 ∧ np0.path = np.path ∧ look np0.dn c = some z) := fun p np c z hp hl => by
    by_cases e1 : p = t
    · subst e1; rw [Gt] at hp; cases hp; rw [hlf] at hl; cases hl
    · by_cases e2 : p = n
      · subst e2
        rw [Gn] at hp; cases hp
        rw [hn', look_put] at hl
        by_cases e3 : hdB r = c
        · rw [if_pos e3] at hl; cases hl; exact .inl ⟨rfl, rfl, e3.symm⟩
        · rw [if_neg e3] at hl; exact .inr ⟨nd, hn, by rw [hn'], hl⟩
      · rw [Go' p e1 e2] at hp; exact .inr ⟨np, hp, rfl, hl⟩
  have notT : ∀ p np c, F p = some np → look np.dn c ≠ some t := fun p np c hp hl => by
    obtain ⟨x, hx, _⟩ := h.down p np c t hp hl
    rw [hf] at hx; cases hx
  refine ⟨?_, ?_, ?_, ?_⟩
  · obtain ⟨r0, f1, f2, f3⟩ := h.root
    obtain ⟨x, g1, g2, g3⟩ := keep R r0 f1
    exact ⟨x, g1, by rw [g2, f2], by rw [g3, f3]⟩
  · intro b nb c z hb hl
    rcases chi b nb c z hb hl with ⟨rfl, rfl, rfl⟩ | ⟨n0, e1, e2, e3⟩
    · rw [Gn] at hb; cases hb
      exact ⟨lf, Gt, by rw [hlf, hn'], by rw [hlf]; exact hd_some h0⟩
    · obtain ⟨x, g1, g2, g3⟩ := h.down b n0 c z e1 e3
      obtain ⟨y, k1, k2, k3⟩ := keep z x g1
      exact ⟨y, k1, by rw [k2, k3, g2, e2], by rw [k3]; exact g3⟩
  · intro b nb hb hR
    by_cases e1 : b = t
    · subst e1
      exact ⟨n, n', hdB r, Gn, by rw [hn', look_put, if_pos rfl]⟩
    · have hFb : ∃ x, F b = some x := by
        by_cases e2 : b = n
        · exact ⟨nd, by rw [e2]; exact hn⟩
        · rw [Go' b e1 e2] at hb; exact ⟨nb, hb⟩
      obtain ⟨x, hx⟩ := hFb
      obtain ⟨p, np, c, g1, g2⟩ := h.up b x hx hR
      by_cases e3 : p = n
      · subst e3
        rw [hn] at g1; cases g1
        exact ⟨p, n', c, Gn, by rw [hn', look_put, if_neg (fun e => by rw [← e, hc] at g2; cases g2)]; exact g2⟩
      · exact ⟨p, np, c, by rw [Go' p (fun e => by rw [e, hf] at g1; cases g1) e3]; exact g1, g2⟩
  · intro b p np c q nq d hp hl hq hm
    rcases chi p np c b hp hl with ⟨rfl, rfl, _⟩ | ⟨p0, e1, _, e3⟩
    · rcases chi q nq d b hq hm with ⟨rfl, _, _⟩ | ⟨q0, k1, _, k3⟩
      · rfl
      · exact absurd k3 (notT q q0 d k1)
    · rcases chi q nq d b hq hm with ⟨rfl, rfl, _⟩ | ⟨q0, k1, _, k3⟩
      · exact absurd e3 (notT p p0 c e1)
      · exact h.one b p p0 c q q0 d e1 e3 k1 k3
/-- A node between n and b, where both have x in common. -/
theorem Wood.split {F : Nat → Option Nd} {R n b t : Nat} {nd bd : Nd} {x y : ByteArray} {m' m2 : Option Nat} (h : Wood F R) (hn : F n = some nd) (hf : F t = none) (hb : F b = some bd) (hc : look nd.dn (hdB x) = some b) (hxy : lb bd.step = lb x ++ lb y) (hx0 : 0 < x.size) (hy0 : 0 < y.size) :
    Wood (upd (upd (upd F n { nd with mp := m', dn := putD nd.dn (hdB x) t }) b { bd with step := y }) t ⟨nd.path ++ lb x, x, m2, [(hdB y, b)], none⟩) R := by
  obtain ⟨hbp, hbh, hbl⟩ := h.longer hn hc hb
  have htn : t ≠ n := fun e => by rw [e, hn] at hf; cases hf
  have htb : t ≠ b := fun e => by rw [e, hb] at hf; cases hf
  have hbn : b ≠ n := fun e => by rw [e, hn] at hb; cases hb; omega
  obtain ⟨n', hn'⟩ : ∃ n' : Nd, n' = { nd with mp := m', dn := putD nd.dn (hdB x) t } := ⟨_, rfl⟩
  obtain ⟨b', hb'⟩ : ∃ b' : Nd, b' = { bd with step := y } := ⟨_, rfl⟩
  obtain ⟨tn, ht⟩ : ∃ tn : Nd, tn = ⟨nd.path ++ lb x, x, m2, [(hdB y, b)], none⟩ := ⟨_, rfl⟩
  rw [← hn', ← hb', ← ht]
  obtain ⟨G, hG⟩ : ∃ G, G = upd (upd (upd F n n') b b') t tn := ⟨_, rfl⟩
  rw [← hG]
  have Gt : G t = some tn := by rw [hG]; exact upd_same _ _ _
  have Gb : G b = some b' := by rw [hG, upd_other _ _ (Ne.symm htb)]; exact upd_same _ _ _
  have Gn : G n = some n' := by rw [hG, upd_other _ _ (Ne.symm htn), upd_other _ _ (Ne.symm hbn)]; exact upd_same _ _ _
  have Go' : ∀ z, z ≠ t → z ≠ b → z ≠ n → G z = F z := fun z h1 h2 h3 => by rw [hG, upd_other _ _ h1, upd_other _ _ h2, upd_other _ _ h3]
  have keep : ∀ z nz, F z = some nz → z ≠ b → ∃ nz', G z = some nz' ∧ nz'.path = nz.path ∧ nz'.step = nz.step := fun z nz hz e => by
    by_cases e2 : z = n
    · subst e2; rw [hn] at hz; cases hz; exact ⟨n', Gn, by rw [hn'], by rw [hn']⟩
    · exact ⟨nz, by rw [Go' z (fun e => by rw [e, hf] at hz; cases hz) e e2]; exact hz, rfl, rfl⟩
  have chi : ∀ p np c z, G p = some np → look np.dn c = some z → (p = n ∧ z = t ∧ c = hdB x) ∨ (p = t ∧ z = b ∧ c = hdB y) ∨ (z ≠ b ∧ ∃ np0, F p = some np0 ∧ np0.path = np.path ∧ look np0.dn c = some z) := fun p np c z hp hl => by
    by_cases e1 : p = t
    · subst e1
      rw [Gt] at hp; cases hp
      rw [ht] at hl
      by_cases e4 : hdB y = c
      · simp only [look, if_pos e4, Option.some.injEq] at hl
        exact .inr (.inl ⟨rfl, hl.symm, e4.symm⟩)
      · simp [look, e4] at hl
    · by_cases e2 : p = n
      · subst e2
        rw [Gn] at hp; cases hp
        rw [hn', look_put] at hl
        by_cases e3 : hdB x = c
        · rw [if_pos e3] at hl; cases hl; exact .inl ⟨rfl, rfl, e3.symm⟩
        · rw [if_neg e3] at hl
          refine .inr (.inr ⟨fun e => ?_, nd, hn, by rw [hn'], hl⟩)
          subst e
          obtain ⟨_, g2, _⟩ := h.longer hn hl hb
          rw [hbh] at g2; cases g2; exact e3 rfl
      · by_cases e5 : p = b
        · subst e5
          rw [Gb] at hp; cases hp
          rw [hb'] at hl
          refine .inr (.inr ⟨fun e => ?_, bd, hb, by rw [hb'], hl⟩)
          subst e
          obtain ⟨_, _, g3⟩ := h.longer hb hl hb
          omega
        · rw [Go' p e1 e5 e2] at hp
          exact .inr (.inr ⟨fun e => by subst e; exact e2 (h.one z p np c n nd (hdB x) hp hl hn hc), np, hp, rfl, hl⟩)
  have notT : ∀ p np c, F p = some np → look np.dn c ≠ some t := fun p np c hp hl => by
    obtain ⟨z, hz, _⟩ := h.down p np c t hp hl
    rw [hf] at hz; cases hz
  have hRb : R ≠ b := fun e => h.notRoot hn (by rw [e]; exact hc)
  refine ⟨?_, ?_, ?_, ?_⟩
  · obtain ⟨r0, f1, f2, f3⟩ := h.root
    obtain ⟨z, g1, g2, g3⟩ := keep R r0 f1 hRb
    exact ⟨z, g1, by rw [g2, f2], by rw [g3, f3]⟩
  · intro p np c z hp hl
    rcases chi p np c z hp hl with ⟨rfl, rfl, rfl⟩ | ⟨rfl, rfl, rfl⟩ | ⟨hz, n0, e1, e2, e3⟩
    · rw [Gn] at hp; cases hp
      exact ⟨tn, Gt, by rw [ht, hn'], by rw [ht]; exact hd_some hx0⟩
    · rw [Gt] at hp; cases hp
      exact ⟨b', Gb, by rw [hb', ht]; show bd.path = _; rw [hbp, hxy, List.append_assoc], by rw [hb']; exact hd_some hy0⟩
    · obtain ⟨z1, g1, g2, g3⟩ := h.down p n0 c z e1 e3
      obtain ⟨z2, k1, k2, k3⟩ := keep z z1 g1 hz
      exact ⟨z2, k1, by rw [k2, k3, g2, e2], by rw [k3]; exact g3⟩
  · intro z nz hz hR
    by_cases e1 : z = t
    · subst e1
      exact ⟨n, n', hdB x, Gn, by rw [hn', look_put, if_pos rfl]⟩
    · by_cases e4 : z = b
      · subst e4
        exact ⟨t, tn, hdB y, Gt, by rw [ht]; simp [look]⟩
      · have hFz : ∃ z1, F z = some z1 := by
          by_cases e2 : z = n
          · exact ⟨nd, by rw [e2]; exact hn⟩
          · rw [Go' z e1 e4 e2] at hz; exact ⟨nz, hz⟩
        obtain ⟨z1, hz1⟩ := hFz
        obtain ⟨p, np, c, g1, g2⟩ := h.up z z1 hz1 hR
        by_cases e3 : p = n
        · subst e3
          rw [hn] at g1; cases g1
          refine ⟨p, n', c, Gn, ?_⟩
          rw [hn', look_put, if_neg (fun e => ?_)]
          · exact g2
          · rw [← e, hc] at g2; cases g2; exact e4 rfl
        · by_cases e5 : p = b
          · subst e5
            rw [hb] at g1; cases g1
            exact ⟨p, b', c, Gb, by rw [hb']; exact g2⟩
          · exact ⟨p, np, c, by rw [Go' p (fun e => by rw [e, hf] at g1; cases g1) e5 e3]; exact g1, g2⟩
  · intro z p np c q nq d hp hl hq hm
    rcases chi p np c z hp hl with ⟨rfl, rfl, _⟩ | ⟨rfl, rfl, _⟩ | ⟨hz, p0, e1, _, e3⟩
    · rcases chi q nq d z hq hm with ⟨rfl, _, _⟩ | ⟨_, e, _⟩ | ⟨_, q0, k1, _, k3⟩
      · rfl
      · exact absurd e htb
      · exact absurd k3 (notT q q0 d k1)
    · rcases chi q nq d z hq hm with ⟨_, e, _⟩ | ⟨rfl, _, _⟩ | ⟨g, _⟩
      · exact absurd e.symm htb
      · rfl
      · exact absurd rfl g
    · rcases chi q nq d z hq hm with ⟨rfl, rfl, _⟩ | ⟨_, e, _⟩ | ⟨_, q0, k1, _, k3⟩
      · exact absurd e3 (notT p p0 c e1)
      · exact absurd e hz
      · exact h.one z p p0 c q q0 d e1 e3 k1 k3
/-- A wood that has more nodes, without rules; what was there leads there, and has its rule. -/
structure Ext (F G : Nat → Option Nd) : Prop where
  old : ∀ b nd, F b = some nd → ∃ nd', G b = some nd' ∧ nd'.path = nd.path ∧ nd'.rule = nd.rule
  new : ∀ b nd', F b = none → G b = some nd' → nd'.rule = none
theorem Ext.refl (F : Nat → Option Nd) : Ext F F := ⟨fun b nd h => ⟨nd, h, rfl, rfl⟩, fun b nd h g => by rw [h] at g; cases g⟩
theorem Ext.trans {F G H : Nat → Option Nd} (h : Ext F G) (g : Ext G H) : Ext F H := by
  refine ⟨fun b nd hb => ?_, fun b nd hb hh => ?_⟩
  · obtain ⟨x, e1, e2, e3⟩ := h.old b nd hb
    obtain ⟨y, k1, k2, k3⟩ := g.old b x e1
    exact ⟨y, k1, by rw [k2, e2], by rw [k3, e3]⟩
  · cases e : G b with
    | none => exact g.new b nd e hh
    | some x =>
      obtain ⟨y, k1, k2, k3⟩ := g.old b x e
      rw [hh] at k1; cases k1
      rw [k3]; exact h.new b x hb e
theorem ext_leaf {F : Nat → Option Nd} {n t : Nat} {nd n' lf : Nd} (hn : F n = some nd) (hf : F t = none) (hp : n'.path = nd.path) (hr : n'.rule = nd.rule) (hl : lf.rule = none) : Ext F (upd (upd F n n') t lf) := by
  refine ⟨fun b x hb => ?_, fun b x hb hx => ?_⟩
  · have e1 : b ≠ t := fun e => by rw [e, hf] at hb; cases hb
    rw [upd_other _ _ e1]
    by_cases e2 : b = n
    · subst e2; rw [hn] at hb; cases hb; exact ⟨n', upd_same _ _ _, hp, hr⟩
    · rw [upd_other _ _ e2]; exact ⟨x, hb, rfl, rfl⟩
  · by_cases e1 : b = t
    · subst e1; rw [upd_same] at hx; cases hx; exact hl
    · rw [upd_other _ _ e1] at hx
      by_cases e2 : b = n
      · subst e2; rw [hn] at hb; cases hb
      · rw [upd_other _ _ e2, hb] at hx; cases hx
theorem ext_split {F : Nat → Option Nd} {n b t : Nat} {nd bd n' b' tn : Nd} (hn : F n = some nd) (hb : F b = some bd) (hbn : b ≠ n) (hf : F t = none) (hp : n'.path = nd.path) (hr : n'.rule = nd.rule) (hp' : b'.path = bd.path) (hr' : b'.rule = bd.rule) (hl : tn.rule = none) : Ext F (upd (upd (upd F n n') b b') t tn) := by
  refine ⟨fun z x hz => ?_, fun z x hz hx => ?_⟩
  · have e1 : z ≠ t := fun e => by rw [e, hf] at hz; cases hz
    rw [upd_other _ _ e1]
    by_cases e3 : z = b
    · subst e3; rw [hb] at hz; cases hz; exact ⟨b', upd_same _ _ _, hp', hr'⟩
    · rw [upd_other _ _ e3]
      by_cases e2 : z = n
      · subst e2; rw [hn] at hz; cases hz; exact ⟨n', upd_same _ _ _, hp, hr⟩
      · rw [upd_other _ _ e2]; exact ⟨x, hz, rfl, rfl⟩
  · by_cases e1 : z = t
    · subst e1; rw [upd_same] at hx; cases hx; exact hl
    · rw [upd_other _ _ e1] at hx
      by_cases e3 : z = b
      · subst e3; rw [hb] at hz; cases hz
      · rw [upd_other _ _ e3] at hx
        by_cases e2 : z = n
        · subst e2; rw [hn] at hz; cases hz
        · rw [upd_other _ _ e2, hz] at hx; cases hx
/-- The first rule whose prefix is just that. -/
def fstR (rs : List Rl) (p : List UInt8) : Option Rl := rs.find? (fun r => decide (lb r.p = p))
theorem fst_snoc (rs : List Rl) (r : Rl) (p : List UInt8) : fstR (rs ++ [r]) p = (fstR rs p).or (if lb r.p = p then some r else none) := by
  unfold fstR
  rw [List.find?_append]
  congr 1
  by_cases h : lb r.p = p <;> simp [h]
theorem fst_none {rs : List Rl} {p : List UInt8} (h : fstR rs p = none) : ∀ r ∈ rs, lb r.p ≠ p := fun r hr e => by
  have := List.find?_eq_none.1 h r hr
  simp [e] at this
theorem fst_some {rs : List Rl} {p : List UInt8} {r : Rl} (h : fstR rs p = some r) : ∃ j, j < rs.length ∧ fnOf rs j = r ∧ lb r.p = p ∧ ∀ i, i < j → lb (fnOf rs i).p ≠ p := by
  obtain ⟨h1, us, vs, h2, h3⟩ := List.find?_eq_some_iff_append.1 h
  refine ⟨us.length, by rw [h2]; simp, ?_, by simpa using h1, fun i hi => ?_⟩
  · rw [h2, fnOf, List.getD_eq_getElem?_getD]; simp
  · have hm : fnOf rs i ∈ us := by
      rw [h2, fnOf, List.getD_eq_getElem?_getD, List.getElem?_append_left hi, List.getElem?_eq_getElem hi]
      exact List.getElem_mem _
    simpa using h3 _ hm
/-- A wood whose nodes have the rules of a row. -/
structure Grove (F : Nat → Option Nd) (R : Nat) (rs : List Rl) : Prop where
  wood : Wood F R
  rule : ∀ b nd, F b = some nd → nd.rule = fstR rs nd.path
  all : ∀ r ∈ rs, ∃ b nd, F b = some nd ∧ nd.path = lb r.p
theorem Grove.ext {F G : Nat → Option Nd} {R : Nat} {rs : List Rl} (h : Grove F R rs) (W : Wood G R) (E : Ext F G) : Grove G R rs := by
  have A : ∀ r ∈ rs, ∃ b nd nd', F b = some nd ∧ G b = some nd' ∧ nd'.path = lb r.p := fun r hr => by
    obtain ⟨b, nd, e1, e2⟩ := h.all r hr
    obtain ⟨x, k1, k2, k3⟩ := E.old b nd e1
    exact ⟨b, nd, x, e1, k1, by rw [k2, e2]⟩
  refine ⟨W, fun b x hx => ?_, fun r hr => ?_⟩
  · cases e : F b with
    | some nd =>
      obtain ⟨y, k1, k2, k3⟩ := E.old b nd e
      rw [hx] at k1; cases k1
      rw [k2, k3]; exact h.rule b nd e
    | none =>
      rw [E.new b x e hx]
      cases e2 : fstR rs x.path with
      | none => rfl
      | some r =>
        obtain ⟨j, hj, e3, e4, _⟩ := fst_some e2
        obtain ⟨b0, nd0, nd1, g1, g2, g3⟩ := A r (by rw [← e3]; exact fn_mem hj)
        have := W.inj hx g2 (by rw [g3, e4])
        subst this
        rw [e] at g1; cases g1
  · obtain ⟨b, nd, x, e1, k1, k2⟩ := A r hr
    exact ⟨b, x, k1, k2⟩
/-- A rule more, at a node without one. -/
theorem Grove.add {G : Nat → Option Nd} {R n : Nat} {rs : List Rl} {nd : Nd} {r : Rl} (h : Grove G R rs) (hn : G n = some nd) (hp : nd.path = lb r.p) (h0 : nd.rule = none) : Grove (upd G n { nd with rule := some r }) R (rs ++ [r]) := by
  obtain ⟨n', hn'⟩ : ∃ n' : Nd, n' = { nd with rule := some r } := ⟨_, rfl⟩
  rw [← hn']
  have ep : n'.path = nd.path := by rw [hn']
  have es : n'.step = nd.step := by rw [hn']
  have ed : n'.dn = nd.dn := by rw [hn']
  have er : n'.rule = some r := by rw [hn']
  have fw : ∀ x nx, G x = some nx → ∃ nx', upd G n n' x = some nx' ∧ nx'.path = nx.path ∧ nx'.step = nx.step ∧ nx'.dn = nx.dn := fun x nx hx => by
    by_cases e : x = n
    · subst e; rw [hn] at hx; cases hx; exact ⟨n', upd_same _ _ _, ep, es, ed⟩
    · exact ⟨nx, by rw [upd_other _ _ e]; exact hx, rfl, rfl, rfl⟩
  have bw : ∀ x nx', upd G n n' x = some nx' → ∃ nx, G x = some nx ∧ nx'.path = nx.path ∧ nx'.step = nx.step ∧ nx'.dn = nx.dn := fun x nx hx => by
    by_cases e : x = n
    · subst e; rw [upd_same] at hx; cases hx; exact ⟨nd, hn, ep, es, ed⟩
    · rw [upd_other _ _ e] at hx; exact ⟨nx, hx, rfl, rfl, rfl⟩
  refine ⟨⟨?_, ?_, ?_, ?_⟩, ?_, ?_⟩
  · obtain ⟨r0, f1, f2, f3⟩ := h.wood.root
    obtain ⟨x, k1, k2, k3, _⟩ := fw R r0 f1
    exact ⟨x, k1, by rw [k2, f2], by rw [k3, f3]⟩
  · intro b nb c z hb hl
    obtain ⟨b0, k1, k2, k3, k4⟩ := bw b nb hb
    obtain ⟨z0, g1, g2, g3⟩ := h.wood.down b b0 c z k1 (by rw [← k4]; exact hl)
    obtain ⟨z1, l1, l2, l3, _⟩ := fw z z0 g1
    exact ⟨z1, l1, by rw [l2, l3, g2, k2], by rw [l3]; exact g3⟩
  · intro b nb hb hR
    obtain ⟨b0, k1, _⟩ := bw b nb hb
    obtain ⟨p, np, c, g1, g2⟩ := h.wood.up b b0 k1 hR
    obtain ⟨p1, l1, _, _, l4⟩ := fw p np g1
    exact ⟨p, p1, c, l1, by rw [l4]; exact g2⟩
  · intro b p np c q nq d hp1 hl hq hm
    obtain ⟨p0, k1, _, _, k4⟩ := bw p np hp1
    obtain ⟨q0, l1, _, _, l4⟩ := bw q nq hq
    exact h.wood.one b p p0 c q q0 d k1 (by rw [← k4]; exact hl) l1 (by rw [← l4]; exact hm)
  · intro b nb hb
    rw [fst_snoc]
    by_cases e : b = n
    · subst e
      rw [upd_same] at hb; cases hb
      have := h.rule b nd hn
      rw [er, ep, ← this, h0, if_pos hp.symm]; rfl
    · rw [upd_other _ _ e] at hb
      rw [if_neg (fun e2 => e (h.wood.inj hb hn (by rw [hp, e2]))), Option.or_none]
      exact h.rule b nb hb
  · intro r' hr'
    rcases List.mem_append.1 hr' with hr' | hr'
    · obtain ⟨b, nb, k1, k2⟩ := h.all r' hr'
      obtain ⟨x, l1, l2, _⟩ := fw b nb k1
      exact ⟨b, x, l1, by rw [l2, k2]⟩
    · simp only [List.mem_cons, List.not_mem_nil, or_false] at hr'
      subst hr'
      exact ⟨n, n', upd_same _ _ _, by rw [ep, hp]⟩
/-- A rule more, at a node that has one. -/
theorem Grove.not {G : Nat → Option Nd} {R n : Nat} {rs : List Rl} {nd : Nd} {r r0 : Rl} (h : Grove G R rs) (hn : G n = some nd) (hp : nd.path = lb r.p) (h0 : nd.rule = some r0) : Grove G R (rs ++ [r]) := by
  refine ⟨h.wood, fun b nb hb => ?_, fun r' hr' => ?_⟩
  · rw [fst_snoc]
    by_cases e : b = n
    · subst e
      rw [hn] at hb; cases hb
      rw [← h.rule b nd hn, h0]; rfl
    · rw [if_neg (fun e2 => e (h.wood.inj hb hn (by rw [hp, e2]))), Option.or_none]
      exact h.rule b nb hb
  · rcases List.mem_append.1 hr' with hr' | hr'
    · exact h.all r' hr'
    · simp only [List.mem_cons, List.not_mem_nil, or_false] at hr'
      subst hr'
      exact ⟨n, nd, hn, hp⟩
/-- How many prefixes there are among the first n. -/
def cntT (rs : List Rl) : Nat → Nat
  | 0 => 0
  | i + 1 => cntT rs i + (if (fstR (rs.take i) (lb (fnOf rs i).p)).isNone then 1 else 0)
theorem cnt_le (rs : List Rl) : ∀ n, cntT rs n ≤ n
  | 0 => Nat.le_refl _
  | n + 1 => by have := cnt_le rs n; unfold cntT; split <;> omega
theorem grove_new (R : Nat) : Grove (upd (fun _ => none) R ⟨[], ⟨#[]⟩, none, [], none⟩) R [] := by
  have bw : ∀ x nx, upd (fun _ => none) R (⟨[], ⟨#[]⟩, none, [], none⟩ : Nd) x = some nx → x = R ∧ nx = ⟨[], ⟨#[]⟩, none, [], none⟩ := fun x nx h => by
    by_cases e : x = R
    · subst e; rw [upd_same] at h; cases h; exact ⟨rfl, rfl⟩
    · rw [upd_other _ _ e] at h; cases h
  refine ⟨⟨⟨_, upd_same _ _ _, rfl, rfl⟩, fun b nb c z hb hl => ?_, fun b nb hb hR => ?_, fun b p np c q nq d hp hl _ _ => ?_⟩, fun b nb hb => ?_, fun r hr => by cases hr⟩
  · obtain ⟨_, rfl⟩ := bw b nb hb; cases hl
  · exact absurd (bw b nb hb).1 hR
  · obtain ⟨_, rfl⟩ := bw p np hp; cases hl
  · obtain ⟨_, rfl⟩ := bw b nb hb; rfl
def hsK (K p : ByteArray) : Bool := decide (cm (lb K) (lb p) = p.size)
theorem hsK_iff (K p : ByteArray) : hsK K p = true ↔ lb p <+: lb K := by
  unfold hsK; rw [decide_eq_true_eq, ← cm_has, plb_len]
/-- Where the best rule is among the first n. -/
def bestT (rs : List Rl) (K : ByteArray) : Nat → Option Nat
  | 0 => none
  | i + 1 => if hsK K (fnOf rs i).p && (match bestT rs K i with | none => true | some j => decide ((fnOf rs j).p.size < (fnOf rs i).p.size)) then some i else bestT rs K i
/-- The rule with the longest prefix. -/
def findR (rs : List Rl) (K : ByteArray) : Option Rl := (bestT rs K rs.length).map (fnOf rs)
/-- j is where the best rule is. -/
structure Best (rs : List Rl) (K : ByteArray) (n j : Nat) : Prop where
  lt : j < n
  has : hsK K (fnOf rs j).p = true
  most : ∀ i, i < n → hsK K (fnOf rs i).p = true → (fnOf rs i).p.size ≤ (fnOf rs j).p.size
  first : ∀ i, i < j → hsK K (fnOf rs i).p = true → (fnOf rs i).p.size < (fnOf rs j).p.size
theorem best_is (rs : List Rl) (K : ByteArray) : ∀ n, (bestT rs K n = none ∧ ∀ i, i < n → hsK K (fnOf rs i).p = false) ∨ ∃ j, bestT rs K n = some j ∧ Best rs K n j
  | 0 => .inl ⟨rfl, fun i hi => absurd hi (Nat.not_lt_zero _)⟩
  | n + 1 => by
    have ih := best_is rs K n
    rw [bestT]
    cases hh : hsK K (fnOf rs n).p with
    | false =>
      rw [if_neg (by simp)]
      rcases ih with ⟨e, h⟩ | ⟨j, e, B⟩
      · refine .inl ⟨e, fun i hi => ?_⟩
        by_cases c : i = n
        · subst c; exact hh
        · exact h i (by omega)
      · refine .inr ⟨j, e, by have := B.lt; omega, B.has, fun i hi g => ?_, B.first⟩
        by_cases c : i = n
        · subst c; rw [hh] at g; cases g
        · exact B.most i (by omega) g
    | true =>
      rcases ih with ⟨e, h⟩ | ⟨j, e, B⟩
      · rw [e, if_pos (by simp)]
        refine .inr ⟨n, rfl, by omega, hh, fun i hi g => ?_, fun i hi g => by rw [h i hi] at g; cases g⟩
        by_cases c : i = n
        · subst c; exact Nat.le_refl _
        · rw [h i (by omega)] at g; cases g
      · rw [e]
        by_cases c : (fnOf rs j).p.size < (fnOf rs n).p.size
        · rw [if_pos (by show (true && decide ((fnOf rs j).p.size < (fnOf rs n).p.size)) = true; rw [decide_eq_true c]; rfl)]
          refine .inr ⟨n, rfl, by omega, hh, fun i hi g => ?_, fun i hi g => by have := B.most i hi g; omega⟩
          by_cases c2 : i = n
          · subst c2; exact Nat.le_refl _
          · have := B.most i (by omega) g; omega
        · rw [if_neg (by show ¬ (true && decide ((fnOf rs j).p.size < (fnOf rs n).p.size)) = true; rw [decide_eq_false c]; decide)]
          refine .inr ⟨j, rfl, by have := B.lt; omega, B.has, fun i hi g => ?_, B.first⟩
          by_cases c2 : i = n
          · subst c2; omega
          · exact B.most i (by omega) g
theorem Best.uniq {rs : List Rl} {K : ByteArray} {n j k : Nat} (h : Best rs K n j) (g : Best rs K n k) : j = k := by
  rcases Nat.lt_trichotomy j k with c | c | c
  · have := g.first j c h.has; have := h.most k g.lt g.has; omega
  · exact c
  · have := h.first k c g.has; have := g.most j h.lt h.has; omega
theorem find_best {rs : List Rl} {K : ByteArray} {j : Nat} (h : Best rs K rs.length j) : findR rs K = some (fnOf rs j) := by
  unfold findR
  rcases best_is rs K rs.length with ⟨_, g⟩ | ⟨k, e, B⟩
  · have := g j h.lt; rw [h.has] at this; cases this
  · rw [e, h.uniq B]; rfl
theorem find_none {rs : List Rl} {K : ByteArray} (h : ∀ r ∈ rs, hsK K r.p = false) : findR rs K = none := by
  unfold findR
  rcases best_is rs K rs.length with ⟨e, _⟩ | ⟨k, e, B⟩
  · rw [e]; rfl
  · have := h _ (fn_mem B.lt); rw [B.has] at this; cases this
def hasF (F : Nat → Option Nd) (b : Nat) : Bool := match F b with | some nd => nd.rule.isSome | none => false
/-- The last node on a way that has a rule. -/
def lastR (F : Nat → Option Nd) (xs : List (Nat × ByteArray)) : Option Nat := xs.foldl (fun o x => if hasF F x.1 then some x.1 else o) none
theorem last_snoc (F : Nat → Option Nd) (xs : List (Nat × ByteArray)) (x : Nat × ByteArray) : lastR F (xs ++ [x]) = if hasF F x.1 then some x.1 else lastR F xs := by
  unfold lastR; rw [List.foldl_append]; rfl
theorem last_is (F : Nat → Option Nd) : ∀ (n : Nat) (xs : List (Nat × ByteArray)), xs.length = n → (lastR F xs = none ∧ ∀ x ∈ xs, hasF F x.1 = false) ∨ ∃ b l ys zs, lastR F xs = some b ∧ xs = ys ++ (b, l) :: zs ∧ hasF F b = true ∧ ∀ z ∈ zs, hasF F z.1 = false
  | 0, xs, h => by
    obtain rfl := List.eq_nil_of_length_eq_zero h
    exact .inl ⟨rfl, fun x hx => by cases hx⟩
  | n + 1, xs, h => by
    have hne : xs ≠ [] := fun e => by rw [e] at h; cases h
    have ed := List.dropLast_concat_getLast hne
    have hl : xs.dropLast.length = n := by rw [List.length_dropLast, h]; rfl
    generalize xs.getLast hne = x at ed
    generalize xs.dropLast = ys at ed hl
    subst ed
    rw [last_snoc]
    cases hx : hasF F x.1 with
    | true => exact .inr ⟨x.1, x.2, ys, [], rfl, rfl, hx, fun z hz => by cases hz⟩
    | false =>
      rcases last_is F n ys hl with ⟨e, g⟩ | ⟨b, l, us, vs, e1, e2, e3, e4⟩
      · refine .inl ⟨e, fun y hy => ?_⟩
        rcases List.mem_append.1 hy with hy | hy
        · exact g y hy
        · simp only [List.mem_cons, List.not_mem_nil, or_false] at hy
          subst hy; exact hx
      · refine .inr ⟨b, l, us, vs ++ [x], e1, by rw [e2]; simp, e3, fun z hz => ?_⟩
        rcases List.mem_append.1 hz with hz | hz
        · exact e4 z hz
        · simp only [List.mem_cons, List.not_mem_nil, or_false] at hz
          subst hz; exact hx
/-- What is found by a tree is what is found by the row of rules. -/
theorem Grove.find {F : Nat → Option Nd} {R : Nat} {rs : List Rl} {K : ByteArray} {xs : List (Nat × ByteArray)} (h : Grove F R rs) (hw : Way F (some R) K xs) :
    (lastR F xs = none ∧ findR rs K = none) ∨ ∃ b nd r, lastR F xs = some b ∧ F b = some nd ∧ nd.rule = some r ∧ findR rs K = some r := by
  have here : ∀ r ∈ rs, hsK K r.p = true → ∃ b nd, F b = some nd ∧ nd.path = lb r.p ∧ hasF F b = true ∧ (b, cutB K r.p.size) ∈ xs := fun r hr hk => by
    obtain ⟨b, nd, e1, e2⟩ := h.all r hr
    have hf := hw.full h.wood _ b nd (Nat.le_refl _) e1 (by rw [e2]; exact (hsK_iff _ _).1 hk)
    rw [e2, plb_len] at hf
    refine ⟨b, nd, e1, e2, ?_, hf⟩
    unfold hasF
    rw [e1]
    show nd.rule.isSome = true
    rw [h.rule b nd e1]
    cases e3 : fstR rs nd.path with
    | none => exact absurd e2.symm (fst_none e3 r hr)
    | some _ => rfl
  have hpr := hw.ofRoot h.wood
  have hso := (hw.less h.wood).2
  rcases last_is F _ xs rfl with ⟨e, g⟩ | ⟨b, l, ys, zs, e1, e2, e3, e4⟩
  · refine .inl ⟨e, find_none (fun r hr => ?_)⟩
    cases hk : hsK K r.p with
    | false => rfl
    | true =>
      obtain ⟨b, nd, _, _, g1, g2⟩ := here r hr hk
      have := g _ g2
      rw [g1] at this; cases this
  · obtain ⟨nd, k1, k2⟩ := hpr (b, l) (by rw [e2]; simp)
    have hr : ∃ r, nd.rule = some r := by
      unfold hasF at e3
      simp only at k1
      rw [k1] at e3
      exact Option.isSome_iff_exists.1 e3
    obtain ⟨r, hr⟩ := hr
    obtain ⟨j, hj, g1, g2, g3⟩ := fst_some ((h.rule b nd k1).symm.trans hr)
    refine .inr ⟨b, nd, r, e1, k1, hr, ?_⟩
    have hKj : K.size = (fnOf rs j).p.size + l.size := by
      have := congrArg List.length k2
      rw [plb_len, List.length_append, ← g2, plb_len, plb_len, ← g1] at this
      exact this
    have look2 : ∀ i, i < rs.length → hsK K (fnOf rs i).p = true → (fnOf rs i).p.size < (fnOf rs j).p.size ∨ lb (fnOf rs i).p = nd.path := fun i hi hk => by
      obtain ⟨bi, ni, f1, f2, f3, f4⟩ := here _ (fn_mem hi) hk
      have hle : (fnOf rs i).p.size ≤ K.size := pre_size ((hsK_iff _ _).1 hk)
      rw [e2] at f4
      rcases List.mem_append.1 f4 with f4 | f4
      · left
        rw [e2, List.pairwise_append] at hso
        have := hso.2.2 _ f4 _ List.mem_cons_self
        rw [cut_size] at this
        show _ < _
        simp only at this
        omega
      · rcases List.mem_cons.1 f4 with f4 | f4
        · right
          have e5 := (Prod.mk.inj f4).1
          subst e5
          rw [f1] at k1; cases k1
          exact f2.symm
        · have := e4 _ f4
          simp only at this
          rw [f3] at this; cases this
    rw [← g1]
    refine find_best ⟨hj, ?_, fun i hi hk => ?_, fun i hi hk => ?_⟩
    · rw [hsK_iff, g1, g2]; exact ⟨_, k2.symm⟩
    · rcases look2 i hi hk with g | g
      · omega
      · have : lb (fnOf rs i).p = lb (fnOf rs j).p := by rw [g, g1, g2]
        rw [plb_inj this]; exact Nat.le_refl _
    · rcases look2 i (by omega) hk with g | g
      · exact g
      · exact absurd g (g3 i hi)
abbrev ndp (o : Option Nat) : Value := .pointer (o.map (fun b => ⟨b, 0, none⟩))
/-- The rule that a node's cells hold. -/
def rlOf (nd : Nd) : Rl := nd.rule.getD rl0
def cellsN (nd : Nd) : Array Value := #[.string nd.step, .map nd.mp, .string (rlOf nd).p, .int .u64 (rlOf nd).e, .int .u64 (rlOf nd).b, .int .u8 (rlOf nd).k, .bool nd.rule.isSome]
/-- A map's entries. -/
def entsL : List (UInt8 × Nat) → Nat → List MapEntry
  | [], _ => []
  | e :: d, i => ⟨.int .u8 (e.1.toNat : Int), ndp (some e.2), i⟩ :: entsL d (i + 1)
def mapO (d : List (UInt8 × Nat)) : Obj := .map (entsL d 0).toArray d.length
def posD : List (UInt8 × Nat) → UInt8 → Nat → Nat
  | [], _, i => i
  | e :: d, c, i => if e.1 = c then i else posD d c (i + 1)
theorem u8_beq (a b : UInt8) : ((a.toNat : Int) == (b.toNat : Int)) = decide (a = b) := by
  rw [Bool.eq_iff_iff, beq_iff_eq, decide_eq_true_eq, ← UInt8.toNat_inj]; omega
theorem find_ents (c : UInt8) : ∀ d i, Instr.findNow (.int .u8) (.int .u8 (c.toNat : Int)) (entsL d i) i = some ((look d c).map (fun b => (posD d c i, ndp (some b))))
  | [], i => rfl
  | e :: d, i => by
    rw [entsL, Instr.findNow]
    have h : Instr.sameNow (.int .u8) (.int .u8 (c.toNat : Int)) (.int .u8 (e.1.toNat : Int)) = some (decide (c = e.1)) := by
      simp only [Instr.sameNow, if_true, u8_beq]
    simp only [h]
    by_cases g : e.1 = c
    · rw [decide_eq_true g.symm]
      simp [look, posD, g]
    · rw [decide_eq_false (fun x => g x.symm)]
      show Instr.findNow _ _ (entsL d (i + 1)) (i + 1) = _
      rw [find_ents c d (i + 1), look, if_neg g, posD, if_neg g]
theorem ents_put_new (c : UInt8) (b : Nat) : ∀ d i, look d c = none → entsL (putD d c b) i = entsL d i ++ [⟨.int .u8 (c.toNat : Int), ndp (some b), i + d.length⟩] ∧ (putD d c b).length = d.length + 1
  | [], i, _ => ⟨rfl, rfl⟩
  | e :: d, i, h => by
    rw [look] at h
    by_cases g : e.1 = c
    · rw [if_pos g] at h; cases h
    · rw [if_neg g] at h
      obtain ⟨h1, h2⟩ := ents_put_new c b d (i + 1) h
      rw [putD, if_neg g, entsL, h1, entsL, List.length_cons, List.length_cons, h2]
      exact ⟨by simp [Nat.add_assoc, Nat.add_comm 1], rfl⟩
theorem ents_put_old (c : UInt8) (b : Nat) : ∀ d i, look d c ≠ none → entsL (putD d c b) i = (entsL d i).modify (posD d c i - i) (fun x => { x with key := .int .u8 (c.toNat : Int), val := ndp (some b) }) ∧ (putD d c b).length = d.length ∧ i ≤ posD d c i
  | [], i, h => absurd rfl h
  | e :: d, i, h => by
    rw [look] at h
    by_cases g : e.1 = c
    · rw [putD, if_pos g, entsL, entsL, posD, if_pos g, Nat.sub_self]
      exact ⟨by simp, rfl, Nat.le_refl _⟩
    · rw [if_neg g] at h
      obtain ⟨h1, h2, h3⟩ := ents_put_old c b d (i + 1) h
      rw [putD, if_neg g, entsL, h1, entsL, List.length_cons, List.length_cons, h2, posD, if_neg g]
      refine ⟨?_, rfl, by omega⟩
      rw [show posD d c (i + 1) - i = (posD d c (i + 1) - (i + 1)) + 1 by omega, List.modify_succ_cons]
theorem pos_key (c : UInt8) : ∀ d i, look d c ≠ none → ∃ x : MapEntry, (entsL d i)[posD d c i - i]? = some x ∧ x.key = .int .u8 (c.toNat : Int)
  | [], i, h => absurd rfl h
  | e :: d, i, h => by
    rw [look] at h
    by_cases g : e.1 = c
    · rw [entsL, posD, if_pos g, Nat.sub_self]
      exact ⟨_, rfl, by rw [g]⟩
    · rw [if_neg g] at h
      obtain ⟨x, h1, h2⟩ := pos_key c d (i + 1) h
      obtain ⟨_, _, h3⟩ := ents_put_old c 0 d (i + 1) h
      rw [entsL, posD, if_neg g, show posD d c (i + 1) - i = (posD d c (i + 1) - (i + 1)) + 1 by omega]
      exact ⟨x, by simpa using h1, h2⟩
/-- What is looked up in a node's map. -/
theorem run_down (w : World) (mp : Option Nat) (d : List (UInt8 × Nat)) (c : UInt8) (hm : ∀ m, mp = some m → w.heap[m]? = some (mapO d)) (hb : mp = none → d = []) (ok : Bool) :
    (Instr.lookup 171 (.map mp) (.int .u8 (c.toNat : Int)) ok).run Tryz.prog w = .ok (if ok then .tuple #[ndp (look d c), .bool (look d c).isSome] else ndp (look d c)) w := by
  cases mp with
  | none =>
    rw [hb rfl]
    have hn : Instr.findNow (.int .u8) (.int .u8 (c.toNat : Int)) [] 0 = some none := rfl
    cases ok <;> simp [Instr.lookup, run_underlying Tryz.underlying171, MapKept.run_checkKey Tryz.underlying5 (d := .int .u8) (k := .int .u8 (c.toNat : Int)) rfl, MapKept.run_findKey Tryz.underlying5 hn, Result.andThen, look, go_sem]
  | some m =>
    have hh := hm m rfl
    unfold mapO at hh
    have hn := find_ents c d 0
    cases e : look d c with
    | none =>
      rw [e] at hn
      cases ok <;> simp [Instr.lookup, run_underlying Tryz.underlying171, MapKept.run_getObj_map hh, MapKept.run_checkKey Tryz.underlying5 (d := .int .u8) (k := .int .u8 (c.toNat : Int)) rfl, MapKept.run_findKey Tryz.underlying5 hn, Result.andThen, go_sem]
    | some b =>
      rw [e] at hn
      cases ok <;> simp [Instr.lookup, run_underlying Tryz.underlying171, MapKept.run_getObj_map hh, MapKept.run_checkKey Tryz.underlying5 (d := .int .u8) (k := .int .u8 (c.toNat : Int)) rfl, MapKept.run_findKey Tryz.underlying5 hn, Result.andThen, go_sem]
/-- What is put into a node's map. -/
theorem run_putm (w : World) (m : Nat) (d : List (UInt8 × Nat)) (c : UInt8) (b : Nat) (hh : w.heap[m]? = some (mapO d)) :
    (Instr.mapUpdate 171 (.map (some m)) (.int .u8 (c.toNat : Int)) (ndp (some b))).run Tryz.prog w = .ok () (w.putObj m (mapO (putD d c b))) := by
  unfold mapO at hh
  have hn := find_ents c d 0
  cases e : look d c with
  | none =>
    rw [e] at hn
    obtain ⟨g1, g2⟩ := ents_put_new c b d 0 e
    have hE : mapO (putD d c b) = .map ((entsL d 0).toArray.push ⟨.int .u8 (c.toNat : Int), ndp (some b), d.length⟩) (d.length + 1) := by
      unfold mapO
      rw [g1, g2, Nat.zero_add]; simp
    rw [hE]
    simp [Instr.mapUpdate, run_underlying Tryz.underlying171, MapKept.run_getObj_map hh, MapKept.run_checkKey Tryz.underlying5 (d := .int .u8) (k := .int .u8 (c.toNat : Int)) rfl, MapKept.run_findKey Tryz.underlying5 hn, MapKept.run_setObj_map _ hh, Result.andThen, World.putObj]
  | some b0 =>
    rw [e] at hn
    have hne : look d c ≠ none := by rw [e]; exact fun h => by cases h
    obtain ⟨g1, g2, _⟩ := ents_put_old c b d 0 hne
    obtain ⟨x, k1, k2⟩ := pos_key c d 0 hne
    rw [Nat.sub_zero] at g1 k1
    have hE : mapO (putD d c b) = .map ((entsL d 0).toArray.modify (posD d c 0) (fun x => { x with key := .int .u8 (c.toNat : Int), val := ndp (some b) })) d.length := by
      unfold mapO
      rw [g1, g2]; simp
    rw [hE]
    simp [Instr.mapUpdate, run_underlying Tryz.underlying171, MapKept.run_getObj_map hh, MapKept.run_checkKey Tryz.underlying5 (d := .int .u8) (k := .int .u8 (c.toNat : Int)) rfl, MapKept.run_findKey Tryz.underlying5 hn, MapKept.run_setObj_map _ hh, Result.andThen, World.putObj, k1, k2, MapKept.run_keyThatStays (d := .int .u8) (k := .int .u8 (c.toNat : Int)) rfl]
/-- Nodes lie in memory, in blocks of a kind. -/
structure Lies (w : World) (F : Nat → Option Nd) (lo : Nat → Prop) : Prop where
  node : ∀ b nd, F b = some nd → w.heap[b]? = some (.cells (cellsN nd) 173)
  map : ∀ b nd m, F b = some nd → nd.mp = some m → w.heap[m]? = some (mapO nd.dn)
  bare : ∀ b nd, F b = some nd → nd.mp = none → nd.dn = []
  apart : ∀ b nd b' nd' m, F b = some nd → F b' = some nd' → nd.mp = some m → nd'.mp = some m → b = b'
  low : ∀ b nd, F b = some nd → lo b ∧ ∀ m, nd.mp = some m → lo m
  small : ∀ b nd, F b = some nd → nd.step.size ≤ 281474976710656 ∧ Okr (rlOf nd)
/-- They all lie below N. -/
def Under (F : Nat → Option Nd) (N : Nat) : Prop := ∀ b nd, F b = some nd → b < N ∧ ∀ m, nd.mp = some m → m < N
theorem Lies.under {w : World} {F : Nat → Option Nd} {lo : Nat → Prop} (h : Lies w F lo) : Under F w.heap.size := fun b nd hb => ⟨heap_lt (h.node b nd hb), fun m hm => heap_lt (h.map b nd m hb hm)⟩
theorem Lies.keep {w w' : World} {F : Nat → Option Nd} {N : Nat} {lo : Nat → Prop} (h : Lies w F lo) (u : Under F N) (g : Below N w w') : Lies w' F lo :=
  ⟨fun b nd hb => (g.block b (u b nd hb).1).trans (h.node b nd hb), fun b nd m hb hm => (g.block m ((u b nd hb).2 m hm)).trans (h.map b nd m hb hm), h.bare, h.apart, h.low, h.small⟩
theorem Lies.below {w w' : World} {F : Nat → Option Nd} {lo : Nat → Prop} (h : Lies w F lo) (g : Below w.heap.size w w') : Lies w' F lo := h.keep h.under g
/-- A node's cells. -/
structure NC (w : World) (b : Nat) (nd : Nd) : Prop where
  c0 : w.cell? ⟨b, 0, none⟩ = some (.string nd.step)
  c1 : w.cell? ⟨b, 1, none⟩ = some (.map nd.mp)
  c2 : R4 w b 2 (rlOf nd)
  c6 : w.cell? ⟨b, 6, none⟩ = some (.bool nd.rule.isSome)
theorem nc_of {w : World} {b : Nat} {nd : Nd} (h : w.heap[b]? = some (.cells (cellsN nd) 173)) : NC w b nd := by
  refine ⟨?_, ?_, ⟨?_, ?_, ?_, ?_⟩, ?_⟩ <;> simp [World.cell?, h, cellsN]
theorem Lies.nc {w : World} {F : Nat → Option Nd} {b : Nat} {lo : Nat → Prop} {nd : Nd} (h : Lies w F lo) (hb : F b = some nd) : NC w b nd := nc_of (h.node b nd hb)
theorem Lies.down {w : World} {F : Nat → Option Nd} {b : Nat} {lo : Nat → Prop} {nd : Nd} (h : Lies w F lo) (hb : F b = some nd) (c : UInt8) (ok : Bool) :
    (Instr.lookup 171 (.map nd.mp) (.int .u8 (c.toNat : Int)) ok).run Tryz.prog w = .ok (if ok then .tuple #[ndp (look nd.dn c), .bool (look nd.dn c).isSome] else ndp (look nd.dn c)) w :=
  run_down w nd.mp nd.dn c (fun m hm => h.map b nd m hb hm) (h.bare b nd hb) ok
/-- A tree in memory. -/
def TreeAt (w : World) (t : Nat) (rs : List Rl) : Prop := ∃ F R lo, w.heap[t]? = some (.cells #[ndp (some R), .int .i64 (cntT rs rs.length : Int)] 175) ∧ Lies w F lo ∧ Grove F R rs
theorem TreeAt.below {w w' : World} {t : Nat} {rs : List Rl} (h : TreeAt w t rs) (g : Below w.heap.size w w') : TreeAt w' t rs := by
  obtain ⟨F, R, lo, h1, h2, h3⟩ := h
  exact ⟨F, R, lo, (g.block t (heap_lt h1)).trans h1, h2.below g, h3⟩
/-- A node that is there, and what is left behind it. -/
abbrev WN (F : Nat → Option Nd) := { x : Nat × ByteArray // ∃ nd, F x.1 = some nd }
abbrev enw {F : Nat → Option Nd} (x : WN F) : Array Value := #[ndp (some x.1.1), .string x.1.2]
abbrev rawW {F : Nat → Option Nd} (l : List (WN F)) : List (Nat × ByteArray) := l.map Subtype.val
theorem way_in (n : Nat) (o : Option Nat) (K : ByteArray) (w : World) :
    CallsIn Fence.wide n Tryz.prog 162 #[ndp o, .string K] w fun e w' => e = .returned (.func (.func 195) #[] #[.pointer (some ⟨w.heap.size, 0, none⟩), .pointer (some ⟨w.heap.size + 1, 0, none⟩)]) ∧ w' = (w.alloc (.cells #[ndp o] 170)).alloc (.cells #[.string K] 9) := by
  refine callsIn_of_wp Tryz.func162 rfl trivial ?_ rfl
  simp only [Tryz.ntmps162, List.size_toArray, List.length_cons, List.length_nil, Nat.reduceAdd, Nat.reduceSub, Array.replicate_succ, Array.replicate_zero, List.push_toArray, List.append_toArray, List.nil_append, List.cons_append]
  gi_wp2
  go_ret
  exact ⟨rfl, rfl⟩
theorem grown_of {w W : World} (h : Below w.heap.size w W) : w.grownBy W none := ⟨h.os, h.tape, h.output, h.size, fun k hk _ => h.block k hk⟩
def sizeV : Value → Nat | .string s => s.size | _ => 0
def atV (R : Nat) : Value → Nat | .pointer (some a) => if a.block = R then 1 else 0 | _ => 0
theorem atV_same (R : Nat) : atV R (ndp (some R)) = 1 := if_pos rfl
theorem atV_other {R b : Nat} (h : b ≠ R) : atV R (ndp (some b)) = 0 := if_neg h
theorem way_last {F : Nat → Option Nd} {b : Nat} {nd : Nd} {s s' : ByteArray} (hb : F b = some nd) (hp : lb nd.step <+: lb s) (e : cutB s nd.step.size = s') (h0 : s'.size = 0) : Way F (some b) s [(b, s')] := by
  subst e; exact .last hb hp h0
theorem way_on {F : Nat → Option Nd} {b : Nat} {nd : Nd} {s s' : ByteArray} {ys} (hb : F b = some nd) (hp : lb nd.step <+: lb s) (e : cutB s nd.step.size = s') (h0 : 0 < s'.size) (h : Way F (look nd.dn (hdB s')) s' ys) : Way F (some b) s ((b, s') :: ys) := by
  subst e; exact .on hb hp h0 h
theorem way_step {F : Nat → Option Nd} {R b : Nat} {nd : Nd} {c : UInt8} {m n : Nat} (WF : Wood F R) (hb : F b = some nd) (hs : b = R ∨ 0 < nd.step.size) (h : m + nd.step.size = n) : m + atV R (ndp (look nd.dn c)) < n + atV R (ndp (some b)) := by
  have h0 : atV R (ndp (look nd.dn c)) = 0 := by
    cases e : look nd.dn c with
    | none => rfl
    | some b' => exact atV_other (fun g => WF.notRoot hb (by rw [e, g]))
  rw [h0]
  rcases hs with rfl | hs
  · rw [atV_same]; omega
  · omega
set_option maxHeartbeats 2000000 in
theorem way1_stops (n : Nat) (hn : 4 ≤ n) (p N : Nat) (lo : Nat → Prop) (R : Nat) (K : ByteArray) (F : Nat → Option Nd) (WF : Wood F R) (hK : K.size ≤ 281474976710656) (w : World) (hL : Lies w F lo) (hu : Under F N) (hN : N ≤ w.heap.size)
    (hA : Boxed w p 170 (ndp (some R))) (hB : Boxed w (p + 1) 9 (.string K)) :
    SeqStopsK Fence.wide n Tryz.prog 195 #[.pointer (some ⟨p, 0, none⟩), .pointer (some ⟨p + 1, 0, none⟩)] (enw (F := F)) (Below N) (fun xs => Way F (some R) K (rawW xs)) (fun _ => True) (K.size + 2) w := by
  intro l J Jx W hW hJ hJx hY h0
  have h1 : 1 ≤ n := by omega
  have bA : Boxed W p 170 (ndp (some R)) := (hW.block p hA.lt).trans hA
  have bB : Boxed W (p + 1) 9 (.string K) := (hW.block (p + 1) hB.lt).trans hB
  have LW : Lies W F lo := hL.below hW
  have cA : W.cell? ⟨p, 0, none⟩ = some (.pointer (some ⟨R, 0, none⟩)) := bA.cell
  have cB := bB.cell
  have HY := Lib.hid hY
  have HJ := Lib.hid hJ
  have HL := Lib.hid LW
  have H0 := Lib.hid h0
  clear hA hB hW hL hY hJ hJx LW h0 bA bB
  refine callsIn_of_wp Tryz.func195 rfl trivial ?_ rfl
  simp only [Tryz.ntmps195, List.size_toArray, List.length_cons, List.length_nil, Nat.reduceAdd, Nat.reduceSub, Array.replicate_succ, Array.replicate_zero, List.push_toArray, List.append_toArray, List.nil_append, List.cons_append]
  gi_wp2
  gi_region
  gi_wp2
  gi_loopw [4, 5] (fun at_ left wr => ∃ (o : Option Nat) (s : ByteArray) (pre : List (WN F)), at_ = ndp o ∧ left = .string s ∧ Hid (∀ ys, Way F o s ys → Way F (some R) K (rawW pre ++ ys)) ∧ Hid (∀ b, o = some b → ∃ nd, F b = some nd ∧ (b = R ∨ 0 < nd.step.size)) ∧ s.size ≤ K.size ∧ Hid (pre.length + s.size + atV R (ndp o) ≤ K.size + 1) ∧ Hid (J pre wr) ∧ Hid (Lies wr F lo))
    (fun at_ left _ => sizeV left + atV R at_)
  case atStart => exact ⟨some R, K, [], rfl, rfl, Lib.hid (fun ys h => h), Lib.hid (fun b e => by cases e; obtain ⟨r, h1, _⟩ := WF.root; exact ⟨r, h1, .inl rfl⟩), Nat.le_refl _, Lib.hid (by rw [atV_same]; simp), Lib.hid (HJ.out _ _ _ none H0.out ⟨rfl, rfl, rfl, Nat.le_refl _, fun _ _ _ => rfl⟩ (fun _ e => by cases e)), Lib.hid (HL.out.below (Below.refl _ _).drew)⟩
  case round =>
    obtain ⟨o, s, pre, rfl, rfl, HW, HO, hs, hm, hJs, Lr⟩ := hrel
    cases o with
    | none =>
      dsimp only [ndp, Option.map_none]
      gi_wp2
      refine ⟨trivial, ?_⟩
      gi_wp2
      go_end0
      exact ⟨⟨_, rfl⟩, .inl ⟨pre, by have := HW.out [] .none; rwa [List.append_nil] at this, hJs.out⟩⟩
    | some b =>
      obtain ⟨nd, hb, hbs⟩ := HO.out b rfl
      have HB := Lib.hid hb
      have HS := Lib.hid hbs
      have c0 := (Lr.out.nc hb).c0
      have C := Lib.hid (fun W => has_any s nd.step W (by omega) (Nat.le_trans (Lr.out.small b nd hb).1 (by omega)))
      have hh : Hid (decide (cm (lb s) (lb nd.step) = nd.step.size) = true ↔ lb nd.step <+: lb s) := Lib.hid (hsK_iff s nd.step)
      generalize decide (cm (lb s) (lb nd.step) = nd.step.size) = has at C hh
      clear hb hbs cA cB
      dsimp only [ndp, Option.map_some]
      gi_wp2_with (refine ⟨trivial, ?_⟩; gi_at_call 196; refine (callsIn_wide.2 (C.out _)).mono ?_; rintro e w1 ⟨rfl, g1⟩; refine stopHere ?_)
      unfold Stop
      have hJ1 := Lib.hid (HJ.out pre _ _ none hJs.out (grown_of g1) (fun _ e => by cases e))
      have L1 := Lib.hid (Lr.out.below g1)
      have c1 := (L1.out.nc HB.out).c0
      clear c0 g1 hJs Lr C
      cases has
      · gi_wp2
        go_end0
        exact ⟨⟨_, rfl⟩, .inl ⟨pre, by have := HW.out [] (.off HB.out (fun h => by cases hh.out.2 h)); rwa [List.append_nil] at this, hJ1.out⟩⟩
      · have hp : lb nd.step <+: lb s := hh.out.1 rfl
        have hps := pre_size hp
        have HP := Lib.hid hp
        have hcs := cut_size s nd.step.size
        have hsl : ∀ V : World, (Instr.slice 9 (.string s) (some (.int .i64 (nd.step.size : Int))) none none).run Tryz.prog V = .ok (.string (cutB s nd.step.size)) V := fun V => by
          rw [run_slice_string_from_if V 9 s .i64 _ Tryz.underlying9, if_pos ⟨by omega, by omega⟩]; rfl
        generalize hs' : cutB s nd.step.size = s' at *
        have HS' := Lib.hid hs'
        clear hs' hp hh
        obtain ⟨fn, tmps, assign, body, hy, hR⟩ := HY.out pre ⟨(b, s'), nd, HB.out⟩ w1 hJ1.out (by have := hm.out; omega)
        dsimp only [enw, ndp, Option.map_some] at hy
        have HR := Lib.hid hR
        clear hR
        gi_wp2
        refine HR.out.mono ?_
        rintro e W3 (⟨rfl, hJ3, hk3⟩ | ⟨rfl, hJx3⟩)
        · by_cases hz : s'.size = 0
          · have ht := toList_none s' hz
            have HZ := Lib.hid hz
            clear hz
            gi_wp2
            refine bodyPost_ret (results_none rfl _ _ _) rfl ?_
            exact ⟨⟨_, rfl⟩, .inl ⟨pre ++ [⟨(b, s'), nd, HB.out⟩], by have := HW.out _ (way_last HB.out HP.out HS'.out HZ.out); simpa [rawW] using this, hJ3⟩⟩
          · have ht := toList_ne s' (by omega)
            have L3 := Lib.hid (L1.out.keep hu hk3)
            have d1 := (L3.out.nc HB.out).c1
            have h0 : 0 < s'.size := by omega
            have hi : s'[0] = hdB s' := hd_at h0
            have k0 : (Instr.lookup 171 (.map nd.mp) (.int .u8 ((hdB s').toNat : Int)) false).run Tryz.prog W3 = .ok (ndp (look nd.dn (hdB s'))) W3 := L3.out.down HB.out (hdB s') false
            have k1 : (Instr.lookup 171 (.map nd.mp) (.int .u8 ((hdB s').toNat : Int)) false).run Tryz.prog W3.drew = .ok (ndp (look nd.dn (hdB s'))) W3.drew := (L3.out.below (Below.refl _ _).drew).down HB.out (hdB s') false
            have HD := Lib.hid (fun b' (e : look nd.dn (hdB s') = some b') => WF.down b nd (hdB s') b' HB.out e)
            have HM := Lib.hid (way_step WF (c := hdB s') HB.out HS.out (show s'.size + nd.step.size = s.size by omega))
            have HG := Lib.hid (fun o (e : look nd.dn (hdB s') = o) ys (h : Way F o s' ys) => HW.out _ (way_on HB.out HP.out HS'.out h0 (e ▸ h)))
            generalize hc : hdB s' = c at *
            generalize look nd.dn c = o2 at *
            gi_wp2
            gi_region
            gi_wp2
            go_roundw
            case rel =>
              refine ⟨o2, s', pre ++ [⟨(b, s'), nd, HB.out⟩], rfl, rfl, Lib.hid (fun ys h => by have := HG.out o2 rfl ys h; simpa [rawW] using this), Lib.hid (fun b' e => ?_), by omega, Lib.hid ?_, Lib.hid (HJ.out _ W3 _ none hJ3 ⟨rfl, rfl, rfl, Nat.le_refl _, fun _ _ _ => rfl⟩ (fun _ e => by cases e)), Lib.hid (L3.out.below (Below.refl _ _).drew)⟩
              · obtain ⟨nd', e1, _, e3⟩ := HD.out b' e
                exact ⟨nd', e1, .inr (hd_of e3).2⟩
              · have h1 := HM.out
                have h2 := hm.out
                rw [List.length_append]
                show pre.length + 1 + s'.size + atV R (ndp o2) ≤ _
                omega
            case measure => exact HM.out
        · gi_wp2
          refine bodyPost_ret (results_none rfl _ _ _) rfl ?_
          exact ⟨⟨_, rfl⟩, .inr ⟨_, trivial, hJx3⟩⟩
theorem pown_any (r : Rl) (w : World) (hr : Okr r) :
    Calls Tryz.prog 151 #[r.v] w fun e w' => e = .returned r.v ∧ Below w.heap.size w w' := by
  have C := Lib.hid (fun W => clone_any r.p W hr.p)
  go_enter Tryz.func151, Tryz.ntmps151
  go_wp2_with (go_at_call 69; refine (C.out _).mono ?_; rintro e w1 ⟨rfl, g1⟩; refine stopHere ?_)
  unfold Stop
  have b0 := (((Blk.new w #[.string r.p, .int .u64 r.e, .int .u64 r.b, .int .u8 r.k] 79).alloc (.cells #[.string ⟨#[]⟩, .int .u64 0, .int .u64 0, .int .u8 0] 79)).below g1)
  have b1 := (Blk.new (w.alloc (.cells #[.string r.p, .int .u64 r.e, .int .u64 r.b, .int .u8 r.k] 79)) #[.string ⟨#[]⟩, .int .u64 0, .int .u64 0, .int .u8 0] 79).below g1
  rw [World.size_alloc] at b1
  have kW := Lib.hid (kbq ((((Below.refl _ w).alloc (Nat.le_refl _) (.cells #[.string r.p, .int .u64 r.e, .int .u64 r.b, .int .u8 r.k] 79)).alloc (by simp) (.cells #[.string ⟨#[]⟩, .int .u64 0, .int .u64 0, .int .u8 0] 79))) g1)
  have c0 := b0.cell 0
  have c1 := b0.cell 1
  have c2 := b0.cell 2
  have c3 := b0.cell 3
  have d0 := b1.cell 0
  have d1 := b1.cell 1
  have d2 := b1.cell 2
  have d3 := b1.cell 3
  have f0 := b0.fz 0
  have g0 := b1.fz 0
  have g1' := b1.fz 1
  have g2 := b1.fz 2
  have g3 := b1.fz 3
  simp at c0 c1 c2 c3 d0 d1 d2 d3
  have B1 := Lib.hid b1
  clear g1 b0 b1 C
  go_wp2
  have z := ((((B1.out.other (c := w.heap.size) 0 (.string r.p) (by omega)).set 0 (.string r.p)).set 1 (.int .u64 r.e)).set 2 (.int .u64 r.b)).set 3 (.int .u8 r.k)
  have kZ := ((((kW.out.setCell (p := ⟨w.heap.size, 0, none⟩) (Nat.le_refl _) (.string r.p)).setCell (p := ⟨w.heap.size + 1, 0, none⟩) (Nat.le_succ _) (.string r.p)).setCell (p := ⟨w.heap.size + 1, 1, none⟩) (Nat.le_succ _) (.int .u64 r.e)).setCell (p := ⟨w.heap.size + 1, 2, none⟩) (Nat.le_succ _) (.int .u64 r.b)).setCell (p := ⟨w.heap.size + 1, 3, none⟩) (Nat.le_succ _) (.int .u8 r.k)
  have q0 := z.cell 0
  have q1 := z.cell 1
  have q2 := z.cell 2
  have q3 := z.cell 3
  simp at q0 q1 q2 q3
  refine bodyPost_ret (v := r.v) ?_ rfl ⟨rfl, kZ⟩
  simp [results, Tryz.results151, go_sem, q0, q1, q2, q3]
theorem run_map_nil (m : Option Nat) (W : World) : (binOp BinOp.eql 171 (.map m) (.map none)).run Tryz.prog W = .ok (.bool m.isNone) W := by
  simp [binOp, go_sem, run_equal_map_nil W _ _ _ m Tryz.underlying171]
theorem pput_any (b x : Nat) (nd : Nd) (s : ByteArray) (w : World) (hb : Blk w b (cellsN nd) 173) (hm : ∀ m, nd.mp = some m → w.heap[m]? = some (mapO nd.dn)) (h0 : nd.mp = none → nd.dn = []) (hx : w.cell? ⟨x, 0, none⟩ = some (.string s)) (hs : 0 < s.size) (hxb : x ≠ b) :
    Calls Tryz.prog 217 #[.pointer (some ⟨b, 0, none⟩), .pointer (some ⟨x, 0, none⟩)] w fun e w' => e = .returned (.pointer (some ⟨x, 0, none⟩)) ∧
      ∃ m', (nd.mp = some m' ∨ (nd.mp = none ∧ m' = w.heap.size)) ∧ Blk w' b (cellsN { nd with mp := some m', dn := putD nd.dn (hdB s) x }) 173 ∧ w'.heap[m']? = some (mapO (putD nd.dn (hdB s) x)) ∧ Tch (fun k => k = b ∨ nd.mp = some k) w w' := by
  have c1 : w.cell? ⟨b, 1, none⟩ = some (.map nd.mp) := hb.cell 1
  have f1 := hb.fz 1
  have hi : s[0] = hdB s := hd_at hs
  have HS := Lib.hid hs
  have hxl : x < w.heap.size := cell_lt hx
  have hbl := hb.lt
  have HB := Lib.hid hb
  have H0 := Lib.hid h0
  have HM := Lib.hid hm
  clear hb h0 hm
  cases e : nd.mp with
  | some m =>
    rw [e] at c1
    have hk := HM.out m e
    have hmb : m ≠ b := fun g => by rw [g, HB.out] at hk; cases hk
    have kq := run_map_nil (some m)
    have k0 : (Instr.mapUpdate 171 (.map (some m)) (.int .u8 ((hdB s).toNat : Int)) (.pointer (some ⟨x, 0, none⟩))).run Tryz.prog w = .ok () (w.putObj m (mapO (putD nd.dn (hdB s) x))) := run_putm w m nd.dn (hdB s) x hk
    have k1 : (Instr.mapUpdate 171 (.map (some m)) (.int .u8 ((hdB s).toNat : Int)) (.pointer (some ⟨x, 0, none⟩))).run Tryz.prog w.drew = .ok () (w.drew.putObj m (mapO (putD nd.dn (hdB s) x))) := run_putm w.drew m nd.dn (hdB s) x hk
    have HE := Lib.hid e
    have HK := Lib.hid hk
    clear e hk
    generalize hc : hdB s = c at *
    go_enter Tryz.func217, Tryz.ntmps217
    go_wp2
    go_region
    go_wp2
    go_ret
    subst hc
    refine ⟨rfl, m, .inl rfl, ?_, World.putObj_heap_same (heap_lt HK.out), ?_⟩
    · have ec : cellsN { nd with mp := some m, dn := putD nd.dn (hdB s) x } = cellsN nd := by unfold cellsN rlOf; rw [HE.out]
      rw [ec]
      exact (World.putObj_heap_other (Ne.symm hmb)).trans HB.out
    · exact ⟨rfl, rfl, rfl, by simp, fun k _ hn => World.putObj_heap_other (fun g => hn (by rw [g]; exact .inr rfl))⟩
  | none =>
    rw [e] at c1
    have hd := H0.out e
    have HE := Lib.hid e
    have kq := run_map_nil none
    have hmm := @run_makeMap Tryz.prog
    clear e
    generalize hc : hdB s = c at *
    have hne : w.heap.size ≠ b := by omega
    go_enter Tryz.func217, Tryz.ntmps217
    go_wp2
    have hsz : (w.setCell ⟨b, 1, none⟩ (.map (some w.heap.size))).heap.size = w.heap.size := by simp [World.setCell]
    have hk : ((w.setCell ⟨b, 1, none⟩ (.map (some w.heap.size))).alloc (.map #[] 0)).heap[w.heap.size]? = some (mapO []) := by
      have := World.alloc_heap_new (w.setCell ⟨b, 1, none⟩ (.map (some w.heap.size))) (.map #[] 0)
      rw [hsz] at this
      exact this
    have hbk : Blk ((w.setCell ⟨b, 1, none⟩ (.map (some w.heap.size))).alloc (.map #[] 0)) b (cellsN { nd with mp := some w.heap.size, dn := putD nd.dn c x }) 173 := (HB.out.set 1 (.map (some w.heap.size))).alloc _
    have ht : Tch (fun k => k = b ∨ none = some k) w ((w.setCell ⟨b, 1, none⟩ (.map (some w.heap.size))).alloc (.map #[] 0)) := (Tch.set w b 1 _ (.inl rfl)).trans (Tch.of ((Below.refl _ _).alloc (Nat.le_refl _) _))
    have c0 : ((w.setCell ⟨b, 1, none⟩ (.map (some w.heap.size))).alloc (.map #[] 0)).cell? ⟨x, 0, none⟩ = some (.string s) := acell ((cs_other w b 1 _ x 0 (.inl hxb)).trans hx)
    generalize ((w.setCell ⟨b, 1, none⟩ (.map (some w.heap.size))).alloc (.map #[] 0)) = W at *
    have c1' : W.cell? ⟨b, 1, none⟩ = some (.map (some w.heap.size)) := hbk.cell 1
    have k0 : (Instr.mapUpdate 171 (.map (some w.heap.size)) (.int .u8 (c.toNat : Int)) (.pointer (some ⟨x, 0, none⟩))).run Tryz.prog W = .ok () (W.putObj w.heap.size (mapO (putD [] c x))) := run_putm W w.heap.size [] c x hk
    have k1 : (Instr.mapUpdate 171 (.map (some w.heap.size)) (.int .u8 (c.toNat : Int)) (.pointer (some ⟨x, 0, none⟩))).run Tryz.prog W.drew = .ok () (W.drew.putObj w.heap.size (mapO (putD [] c x))) := run_putm W.drew w.heap.size [] c x hk
    have HT := Lib.hid ht
    have HK := Lib.hid hk
    have HBK := Lib.hid hbk
    clear ht hk hbk hsz
    go_region
    go_wp2
    go_ret
    subst hc
    refine ⟨rfl, w.heap.size, .inr ⟨trivial, rfl⟩, (World.putObj_heap_other (Ne.symm hne)).trans HBK.out, ?_, ?_⟩
    · rw [hd]; exact World.putObj_heap_same (heap_lt HK.out)
    · exact ⟨HT.out.os, HT.out.tape, HT.out.output, by have := HT.out.size; simpa using this, fun k hk hn => (World.putObj_heap_other (Nat.ne_of_lt hk)).trans (HT.out.block k hk hn)⟩
/-- All blocks from n on are of that kind. -/
def Fr (P : Nat → Prop) (n : Nat) : Prop := ∀ k, n ≤ k → P k
theorem Fr.up {P : Nat → Prop} {n m : Nat} (h : Fr P n) (g : n ≤ m) : Fr P m := fun k hk => h k (Nat.le_trans g hk)
/-- A node below gets its map, or its map one more. -/
theorem Lies.change {w w' : World} {F : Nat → Option Nd} {n m' : Nat} {lo : Nat → Prop} {nd n' : Nd} (h : Lies w F lo) (hn : F n = some nd) (hm : nd.mp = some m' ∨ (nd.mp = none ∧ m' = w.heap.size)) (hb : Blk w' n (cellsN n') 173) (hmp : n'.mp = some m')
    (hmo : w'.heap[m']? = some (mapO n'.dn)) (ht : Tch (fun k => k = n ∨ nd.mp = some k) w w') (hlo : Fr lo w.heap.size) (hs : n'.step.size ≤ 281474976710656 ∧ Okr (rlOf n')) : Lies w' (upd F n n') lo := by
  have bw : ∀ b x, upd F n n' b = some x → (b = n ∧ x = n') ∨ (b ≠ n ∧ F b = some x) := fun b x hx => by
    by_cases e : b = n
    · subst e; rw [upd_same] at hx; cases hx; exact .inl ⟨rfl, rfl⟩
    · rw [upd_other _ _ e] at hx; exact .inr ⟨e, hx⟩
  have hne : ∀ b x m, F b = some x → nd.mp = some m → b ≠ m := fun b x m hx g e => by
    have h1 := h.node b x hx
    have h2 := h.map n nd m hn g
    rw [e, h2] at h1; cases h1
  have hot : ∀ b x m, b ≠ n → F b = some x → x.mp = some m → m ≠ m' := fun b x m hb hx g e => by
    subst e
    rcases hm with hm | ⟨_, hm⟩
    · exact hb (h.apart b x n nd m hx hn g hm)
    · have := heap_lt (h.map b x m hx g); omega
  refine ⟨fun b x hx => ?_, fun b x m hx g => ?_, fun b x hx g => ?_, fun b x c y m hx hy gx gy => ?_, fun b x hx => ?_, fun b x hx => ?_⟩
  · rcases bw b x hx with ⟨rfl, rfl⟩ | ⟨e, hx⟩
    · exact hb
    · exact ht.blk (h.node b x hx) (fun g => g.elim e (fun g => hne b x b hx g rfl))
  · rcases bw b x hx with ⟨rfl, rfl⟩ | ⟨e, hx⟩
    · rw [hmp] at g; cases g; exact hmo
    · have h1 := h.map b x m hx g
      refine (ht.block m (heap_lt h1) (fun k => ?_)).trans h1
      rcases k with k | k
      · subst k; rw [h.node m nd hn] at h1; cases h1
      · exact e (h.apart b x n nd m hx hn g k)
  · rcases bw b x hx with ⟨rfl, rfl⟩ | ⟨e, hx⟩
    · rw [hmp] at g; cases g
    · exact h.bare b x hx g
  · rcases bw b x hx with ⟨e, e'⟩ | ⟨e, hx'⟩
    · rcases bw c y hy with ⟨e2, _⟩ | ⟨e2, hy'⟩
      · exact e.trans e2.symm
      · rw [e', hmp] at gx; cases gx; exact absurd rfl (hot c y m' e2 hy' gy)
    · rcases bw c y hy with ⟨e2, e3⟩ | ⟨e2, hy'⟩
      · rw [e3, hmp] at gy; cases gy; exact absurd rfl (hot b x m' e hx' gx)
      · exact h.apart b x c y m hx' hy' gx gy
  · rcases bw b x hx with ⟨rfl, rfl⟩ | ⟨e, hx⟩
    · refine ⟨(h.low b nd hn).1, fun m g => ?_⟩
      rw [hmp] at g; cases g
      rcases hm with hm | ⟨_, hm⟩
      · exact (h.low b nd hn).2 m' hm
      · rw [hm]; exact hlo _ (Nat.le_refl _)
    · exact h.low b x hx
  · rcases bw b x hx with ⟨rfl, rfl⟩ | ⟨e, hx⟩
    · exact hs
    · exact h.small b x hx
/-- A node of its own, without a map. -/
theorem Lies.more {w : World} {F : Nat → Option Nd} {t : Nat} {lo : Nat → Prop} {x : Nd} (h : Lies w F lo) (hf : F t = none) (hb : Blk w t (cellsN x) 173) (hmp : x.mp = none) (hd : x.dn = []) (hlo : lo t) (hs : x.step.size ≤ 281474976710656 ∧ Okr (rlOf x)) : Lies w (upd F t x) lo := by
  have bw : ∀ b y, upd F t x b = some y → (b = t ∧ y = x) ∨ (b ≠ t ∧ F b = some y) := fun b y hy => by
    by_cases e : b = t
    · subst e; rw [upd_same] at hy; cases hy; exact .inl ⟨rfl, rfl⟩
    · rw [upd_other _ _ e] at hy; exact .inr ⟨e, hy⟩
  refine ⟨fun b y hy => ?_, fun b y m hy g => ?_, fun b y hy g => ?_, fun b y c z m hy hz gy gz => ?_, fun b y hy => ?_, fun b y hy => ?_⟩
  · rcases bw b y hy with ⟨rfl, rfl⟩ | ⟨_, hy⟩
    · exact hb
    · exact h.node b y hy
  · rcases bw b y hy with ⟨rfl, rfl⟩ | ⟨_, hy⟩
    · rw [hmp] at g; cases g
    · exact h.map b y m hy g
  · rcases bw b y hy with ⟨rfl, rfl⟩ | ⟨_, hy⟩
    · exact hd
    · exact h.bare b y hy g
  · rcases bw b y hy with ⟨rfl, rfl⟩ | ⟨_, hy⟩
    · rw [hmp] at gy; cases gy
    · rcases bw c z hz with ⟨rfl, rfl⟩ | ⟨_, hz⟩
      · rw [hmp] at gz; cases gz
      · exact h.apart b y c z m hy hz gy gz
  · rcases bw b y hy with ⟨rfl, rfl⟩ | ⟨_, hy⟩
    · exact ⟨hlo, fun m g => by rw [hmp] at g; cases g⟩
    · exact h.low b y hy
  · rcases bw b y hy with ⟨rfl, rfl⟩ | ⟨_, hy⟩
    · exact hs
    · exact h.small b y hy
/-- A node's own cells are written. -/
theorem Lies.store {w w' : World} {F : Nat → Option Nd} {n : Nat} {lo : Nat → Prop} {nd n' : Nd} (h : Lies w F lo) (hn : F n = some nd) (hmp : n'.mp = nd.mp) (hd : n'.dn = nd.dn) (hb : Blk w' n (cellsN n') 173) (ht : Tch (fun k => k = n) w w') (hs : n'.step.size ≤ 281474976710656 ∧ Okr (rlOf n')) : Lies w' (upd F n n') lo := by
  have bw : ∀ b x, upd F n n' b = some x → (b = n ∧ x = n') ∨ (b ≠ n ∧ F b = some x) := fun b x hx => by
    by_cases e : b = n
    · subst e; rw [upd_same] at hx; cases hx; exact .inl ⟨rfl, rfl⟩
    · rw [upd_other _ _ e] at hx; exact .inr ⟨e, hx⟩
  have old : ∀ b x, upd F n n' b = some x → ∃ y, F b = some y ∧ x.mp = y.mp ∧ x.dn = y.dn := fun b x hx => by
    rcases bw b x hx with ⟨rfl, rfl⟩ | ⟨e, hx⟩
    · exact ⟨nd, hn, hmp, hd⟩
    · exact ⟨x, hx, rfl, rfl⟩
  refine ⟨fun b x hx => ?_, fun b x m hx g => ?_, fun b x hx g => ?_, fun b x c y m hx hy gx gy => ?_, fun b x hx => ?_, fun b x hx => ?_⟩
  · rcases bw b x hx with ⟨rfl, rfl⟩ | ⟨e, hx⟩
    · exact hb
    · exact ht.blk (h.node b x hx) e
  · obtain ⟨y, k1, k2, k3⟩ := old b x hx
    have h1 := h.map b y m k1 (by rw [← k2]; exact g)
    rw [k3]
    exact (ht.block m (heap_lt h1) (fun e => by rw [e, h.node n nd hn] at h1; cases h1)).trans h1
  · obtain ⟨y, k1, k2, k3⟩ := old b x hx
    rw [k3]; exact h.bare b y k1 (by rw [← k2]; exact g)
  · obtain ⟨x0, k1, k2, _⟩ := old b x hx
    obtain ⟨y0, l1, l2, _⟩ := old c y hy
    exact h.apart b x0 c y0 m k1 l1 (by rw [← k2]; exact gx) (by rw [← l2]; exact gy)
  · obtain ⟨y, k1, k2, _⟩ := old b x hx
    exact ⟨(h.low b y k1).1, fun m g => (h.low b y k1).2 m (by rw [← k2]; exact g)⟩
  · rcases bw b x hx with ⟨rfl, rfl⟩ | ⟨e, hx⟩
    · exact hs
    · exact h.small b x hx
theorem upd_comm (F : Nat → Option Nd) {a b : Nat} (x y : Nd) (h : a ≠ b) : upd (upd F a x) b y = upd (upd F b y) a x := by
  funext z
  unfold upd
  by_cases e1 : z = a
  · rw [if_neg (fun g => h (e1.symm.trans g)), if_pos e1, if_pos e1]
  · rw [if_neg e1, if_neg e1]
theorem upd_four (F : Nat → Option Nd) {t n b : Nat} (t0 n' b' t' : Nd) (h1 : n ≠ t) (h2 : b ≠ t) : upd (upd (upd (upd F t t0) n n') b b') t t' = upd (upd (upd F n n') b b') t t' := by
  funext z
  unfold upd
  by_cases e1 : z = t
  · simp [e1]
  · simp [e1]
theorem cm_pos {a b : ByteArray} {c : UInt8} (h : (lb a).head? = some c) (g : (lb b).head? = some c) : 1 ≤ cm (lb a) (lb b) := by
  cases e : lb a with
  | nil => rw [e] at h; cases h
  | cons x l =>
    cases e2 : lb b with
    | nil => rw [e2] at g; cases g
    | cons y m =>
      rw [e] at h; rw [e2] at g
      simp at h g
      rw [cm_cons, if_pos (h.trans g.symm)]; omega
/-- How a step is parted where it goes on unlike. -/
theorem part_step {r s : ByteArray} {c : UInt8} (h0 : (lb r).head? = some c) (h1 : (lb s).head? = some c) (hp : ¬ lb s <+: lb r) :
    ∃ k, cm (lb r) (lb s) = k ∧ 1 ≤ k ∧ k < s.size ∧ k ≤ r.size ∧ lb s = lb (r.extract 0 k) ++ lb (cutB s k) ∧ (r.extract 0 k).size = k ∧ hdB (r.extract 0 k) = c ∧ 0 < (cutB s k).size ∧ lb r = lb (r.extract 0 k) ++ lb (cutB r k) ∧ (k < r.size → hdB (cutB s k) ≠ hdB (cutB r k)) := by
  have e1 := cm_le_left (lb r) (lb s)
  have e2 := cm_le_right (lb r) (lb s)
  have e3 : cm (lb r) (lb s) ≠ (lb s).length := fun e => hp ((cm_has _ _).1 e)
  have e4 := cm_take (lb r) (lb s)
  have e5 := cm_unlike (lb r) (lb s)
  have e6 := cm_pos h0 h1
  generalize cm (lb r) (lb s) = k at *
  rw [plb_len] at e1 e2 e3
  have hx : (r.extract 0 k).size = k := front_size r k e1
  refine ⟨k, rfl, e6, by omega, e1, ?_, hx, ?_, by rw [cut_size]; omega, ?_, fun hk => ?_⟩
  · rw [lb_front, lb_cut, e4, List.take_append_drop]
  · refine (hd_of ?_).1
    rw [lb_front]
    cases e : lb r with
    | nil => rw [e] at h0; cases h0
    | cons a l =>
      rw [e] at h0
      match k, e6 with
      | k + 1, _ => simpa using h0
  · rw [lb_front, lb_cut, List.take_append_drop]
  · have g1 : k < (lb r).length := by rw [plb_len]; exact hk
    have g2 : k < (lb s).length := by rw [plb_len]; omega
    have := e5 g1 g2
    have a1 : hdB (cutB r k) = (lb r)[k] := by
      refine (hd_of ?_).1
      rw [lb_cut, List.head?_drop, List.getElem?_eq_getElem g1]
    have a2 : hdB (cutB s k) = (lb s)[k] := by
      refine (hd_of ?_).1
      rw [lb_cut, List.head?_drop, List.getElem?_eq_getElem g2]
    rw [a1, a2]
    exact fun e => this e.symm
theorem sl_front (s : ByteArray) (k : Nat) (hk : k ≤ s.size) (V : World) : (Instr.slice 9 (.string s) none (some (.int .i64 (k : Int))) none).run Tryz.prog V = .ok (.string (s.extract 0 k)) V := by
  rw [run_slice_string_to_if V 9 s .i64 _ Tryz.underlying9, if_pos ⟨by omega, by omega⟩]; rfl
theorem sl_back (s : ByteArray) (k : Nat) (hk : k ≤ s.size) (V : World) : (Instr.slice 9 (.string s) (some (.int .i64 (k : Int))) none none).run Tryz.prog V = .ok (.string (cutB s k)) V := by
  rw [run_slice_string_from_if V 9 s .i64 _ Tryz.underlying9, if_pos ⟨by omega, by omega⟩]; rfl
abbrev lfN (p : List UInt8) (s : ByteArray) : Nd := ⟨p, s, none, [], none⟩
theorem Lies.free {w : World} {F : Nat → Option Nd} {t : Nat} {lo : Nat → Prop} (h : Lies w F lo) (ht : w.heap.size ≤ t) : F t = none := by
  cases e : F t with
  | none => rfl
  | some x => have := (h.under t x e).1; omega
theorem ok_leaf (p : List UInt8) (s : ByteArray) (h : s.size ≤ 281474976710656) : (lfN p s).step.size ≤ 281474976710656 ∧ Okr (rlOf (lfN p s)) := ⟨h, okr0⟩
/-- A node that is made. -/
theorem fresh {w : World} {F : Nat → Option Nd} {lo : Nat → Prop} (h : Lies w F lo) (hlo : Fr lo w.heap.size) (p : List UInt8) (s : ByteArray) (hs : s.size ≤ 281474976710656) :
    Lies (w.alloc (.cells #[.string s, .map none, .string ⟨#[]⟩, .int .u64 0, .int .u64 0, .int .u8 0, .bool false] 173)) (upd F w.heap.size (lfN p s)) lo ∧
    Below w.heap.size w (w.alloc (.cells #[.string s, .map none, .string ⟨#[]⟩, .int .u64 0, .int .u64 0, .int .u8 0, .bool false] 173)) ∧ (w.alloc (.cells #[.string s, .map none, .string ⟨#[]⟩, .int .u64 0, .int .u64 0, .int .u8 0, .bool false] 173)).heap.size = w.heap.size + 1 := by
  have g := (Below.refl _ w).alloc (Nat.le_refl _) (.cells #[.string s, .map none, .string ⟨#[]⟩, .int .u64 0, .int .u64 0, .int .u8 0, .bool false] 173)
  exact ⟨(h.below g).more (h.free (Nat.le_refl _)) (Blk.new w _ _) rfl rfl (hlo _ (Nat.le_refl _)) (ok_leaf p s hs), g, by simp⟩
/-- One node is put below another one. -/
theorem put_lies (n x : Nat) (lo : Nat → Prop) (nd xd : Nd) (F : Nat → Option Nd) (w : World) (h : Lies w F lo) (hn : F n = some nd) (hx : F x = some xd) (h0 : 0 < xd.step.size) (hne : x ≠ n) (hlo : Fr lo w.heap.size) :
    Calls Tryz.prog 217 #[.pointer (some ⟨n, 0, none⟩), .pointer (some ⟨x, 0, none⟩)] w fun e w' => e = .returned (.pointer (some ⟨x, 0, none⟩)) ∧
      ∃ m', Hid (Lies w' (upd F n { nd with mp := some m', dn := putD nd.dn (hdB xd.step) x }) lo) ∧ Tch lo w w' := by
  refine (pput_any n x nd xd.step w (h.node n nd hn) (fun m hm => h.map n nd m hn hm) (h.bare n nd hn) (h.nc hx).c0 h0 hne).mono ?_
  rintro e w' ⟨rfl, m', h1, h2, h3, h4⟩
  refine ⟨rfl, m', Lib.hid (h.change hn h1 h2 rfl h3 h4 hlo ⟨(h.small n nd hn).1, (h.small n nd hn).2⟩), h4.mono (fun k _ hk => ?_)⟩
  rcases hk with rfl | hk
  · exact (h.low _ nd hn).1
  · exact (h.low n nd hn).2 k hk
/-- What a call has made of the nodes. -/
def Grew (w' : World) (F G : Nat → Option Nd) (R : Nat) (lo : Nat → Prop) (b : Nat) (p : List UInt8) : Prop := Lies w' G lo ∧ Wood G R ∧ Ext F G ∧ ∃ nd', G b = some nd' ∧ nd'.path = p
set_option maxHeartbeats 2000000 in
theorem branch_any (n : Nat) (lo : Nat → Prop) (R : Nat) (rest : ByteArray) (nd : Nd) (F : Nat → Option Nd) (w : World) (hL : Lies w F lo) (hW : Wood F R) (hn : F n = some nd) (h0 : 0 < rest.size) (hsz : rest.size ≤ 281474976710656) (hend : Way F (look nd.dn (hdB rest)) rest []) (hlo : Fr lo w.heap.size) :
    Calls Tryz.prog 185 #[.pointer (some ⟨n, 0, none⟩), .string rest] w fun e w' => ∃ G b, e = .returned (.pointer (some ⟨b, 0, none⟩)) ∧ Hid (Grew w' F G R lo b (nd.path ++ lb rest)) ∧ Tch lo w w' := by
  have c1 := (hL.nc hn).c1
  have hi : rest[0] = hdB rest := hd_at h0
  have Ld : Lies w.drew F lo := hL.below (Below.refl _ _).drew
  have HL := Lib.hid hL
  have LD := Lib.hid Ld
  have HN := Lib.hid hn
  have hnl : n < w.heap.size := (hL.under n nd hn).1
  have hft : F w.heap.size = none := hL.free (Nat.le_refl _)
  cases e : look nd.dn (hdB rest) with
  | none =>
    have k0 : (Instr.lookup 171 (.map nd.mp) (.int .u8 ((hdB rest).toNat : Int)) true).run Tryz.prog w = .ok (.tuple #[.pointer none, .bool false]) w := by have := hL.down hn (hdB rest) true; rw [e] at this; exact this
    have k1 : (Instr.lookup 171 (.map nd.mp) (.int .u8 ((hdB rest).toNat : Int)) true).run Tryz.prog w.drew = .ok (.tuple #[.pointer none, .bool false]) w.drew := by have := Ld.down hn (hdB rest) true; rw [e] at this; exact this
    have HE := Lib.hid e
    clear hL Ld hn e hend
    go_enter Tryz.func185, Tryz.ntmps185
    go_wp2
    go_region
    go_wp2_with fail
    obtain ⟨L1, g1, s1⟩ := fresh HL.out hlo (nd.path ++ lb rest) rest hsz
    have L1' := L1.below (Below.refl _ _).drew
    have g1' := Lib.hid (Tch.of (S := lo) g1.drew)
    have hnt : n ≠ w.heap.size := Nat.ne_of_lt hnl
    go_at_call 217
    refine (put_lies n w.heap.size lo nd (lfN (nd.path ++ lb rest) rest) _ _ L1' ((upd_other _ _ hnt).trans HN.out) (upd_same _ _ _) h0 (Ne.symm hnt) (hlo.up (by show w.heap.size ≤ (w.alloc _).heap.size; rw [s1]; omega))).mono ?_
    rintro e2 w2 ⟨rfl, m', L2, g2⟩
    clear L1 L1' k0 k1 c1 LD g1 s1
    go_wp2
    go_ret
    refine ⟨_, w.heap.size, rfl, Lib.hid ⟨L2.out, ?_, ?_, ?_⟩, g1'.out.trans g2⟩
    · rw [upd_comm _ _ _ (Ne.symm hnt)]
      exact hW.leaf HN.out hft HE.out h0
    · rw [upd_comm _ _ _ (Ne.symm hnt)]
      exact ext_leaf HN.out hft rfl rfl rfl
    · exact ⟨lfN (nd.path ++ lb rest) rest, by rw [upd_other _ _ (Ne.symm hnt)]; exact upd_same _ _ _, rfl⟩
  | some b =>
    rw [e] at hend
    obtain ⟨bd, hb, hpre⟩ : ∃ bd, F b = some bd ∧ ¬ lb bd.step <+: lb rest := by
      cases hend with
      | off h1 h2 => exact ⟨_, h1, h2⟩
    obtain ⟨hbp, hbh, hbl⟩ := hW.longer hn e hb
    obtain ⟨k, hk, hk1, hk2, hk3, hxy, hxs, hxh, hy0, hrr, hun⟩ := part_step (hd_some h0) hbh hpre
    have hbn : b ≠ n := fun g => by rw [g, hn] at hb; cases hb; omega
    have k0 : (Instr.lookup 171 (.map nd.mp) (.int .u8 ((hdB rest).toNat : Int)) true).run Tryz.prog w = .ok (.tuple #[.pointer (some ⟨b, 0, none⟩), .bool true]) w := by have := hL.down hn (hdB rest) true; rw [e] at this; exact this
    have k1 : (Instr.lookup 171 (.map nd.mp) (.int .u8 ((hdB rest).toNat : Int)) true).run Tryz.prog w.drew = .ok (.tuple #[.pointer (some ⟨b, 0, none⟩), .bool true]) w.drew := by have := Ld.down hn (hdB rest) true; rw [e] at this; exact this
    have d0 := (hL.nc hb).c0
    have hbs := (hL.small b bd hb).1
    have HE := Lib.hid e
    have HB := Lib.hid hb
    have C := Lib.hid (fun V => common_any rest bd.step V (by omega) (by omega))
    rw [hk] at C
    have HH := Lib.hid (And.intro hxy (And.intro hxh (And.intro hrr hun)))
    have HK := Lib.hid hk
    clear hL Ld hn e hend hpre hbp hbh hbl hb hxy hxh hrr hun hk
    go_enter Tryz.func185, Tryz.ntmps185
    go_wp2
    go_region
    go_wp2_with (go_at_call 218; refine (C.out _).mono ?_; rintro e1 w1 ⟨rfl, g1⟩; refine stopHere ?_)
    unfold Stop
    have q1 := sl_front rest k hk3
    have L1 := Lib.hid (LD.out.below g1)
    have b1 := Lib.hid ((Below.refl w.heap.size w).drew.trans g1)
    clear k0 k1 c1 d0 g1 LD C
    go_wp2_with fail
    obtain ⟨x, hxd⟩ : ∃ x, x = rest.extract 0 k := ⟨_, rfl⟩
    obtain ⟨y, hyd⟩ : ∃ y, y = cutB bd.step k := ⟨_, rfl⟩
    have hlo1 : Fr lo w1.heap.size := hlo.up b1.out.size
    obtain ⟨L2, g2, s2⟩ := fresh L1.out hlo1 (nd.path ++ lb x) x (by rw [hxd, hxs]; omega)
    have hft1 : F w1.heap.size = none := L1.out.free (Nat.le_refl _)
    have hnt : n ≠ w1.heap.size := fun g => by rw [g] at HN; rw [HN.out] at hft1; cases hft1
    have hbt : b ≠ w1.heap.size := fun g => by rw [g] at HB; rw [HB.out] at hft1; cases hft1
    have hx0 : 0 < x.size := by rw [hxd, hxs]; omega
    have HX := Lib.hid hxd
    rw [← hxd]
    go_at_call 217
    refine (put_lies n w1.heap.size lo nd (lfN (nd.path ++ lb x) x) _ _ L2 ((upd_other _ _ hnt).trans HN.out) (upd_same _ _ _) hx0 (Ne.symm hnt) (hlo1.up (by rw [s2]; omega))).mono ?_
    rintro e3 w3 ⟨rfl, m', L3, g3⟩
    have b3 := Lib.hid ((Tch.of (S := lo) b1.out).trans ((Tch.of g2).trans g3))
    have hb3 := Lib.hid (show (upd (upd F w1.heap.size (lfN (nd.path ++ lb x) x)) n { nd with mp := some m', dn := putD nd.dn (hdB x) w1.heap.size }) b = some bd by rw [upd_other _ _ hbn, upd_other _ _ hbt]; exact HB.out)
    have BK := Lib.hid (show Blk w3 b (cellsN bd) _ from L3.out.node b bd hb3.out)
    have d0 := (L3.out.nc hb3.out).c0
    have f0 := BK.out.fz 0
    have q2 := sl_back bd.step k (by omega)
    rw [← hyd] at q2
    have HY := Lib.hid hyd
    clear q1 L2 g2 g3 s2 b1 L1 hyd hxd
    go_wp2_with fail
    have BS := BK.out.set 0 (.string y)
    have L4 := L3.out.store (n' := { bd with step := y }) hb3.out rfl rfl BS (Tch.set w3 b 0 _ rfl) ⟨by show y.size ≤ _; rw [HY.out, cut_size]; omega, (L3.out.small b bd hb3.out).2⟩
    have hy0' : 0 < y.size := by rw [HY.out]; exact hy0
    have g4 : Tch lo w3 (w3.setCell ⟨b, 0, none⟩ (.string y)) := Tch.set w3 b 0 _ (L3.out.low b bd hb3.out).1
    go_at_call 217
    refine (put_lies w1.heap.size b lo (lfN (nd.path ++ lb x) x) { bd with step := y } _ _ L4 (by rw [upd_other _ _ (Ne.symm hbt), upd_other _ _ (Ne.symm hnt)]; exact upd_same _ _ _) (upd_same _ _ _) hy0' hbt (hlo.up (Nat.le_trans b3.out.size g4.size))).mono ?_
    rintro e5 w5 ⟨rfl, m2, L5, g5⟩
    have b5 := Lib.hid (b3.out.trans (g4.trans g5))
    -- what the wood is now
    have hxy' : lb bd.step = lb x ++ lb y := by rw [HX.out, HY.out]; exact HH.out.1
    have hxh' : hdB x = hdB rest := by rw [HX.out]; exact HH.out.2.1
    obtain ⟨G, hG⟩ : ∃ G, G = upd (upd (upd F n { nd with mp := some m', dn := putD nd.dn (hdB x) w1.heap.size }) b { bd with step := y }) w1.heap.size ⟨nd.path ++ lb x, x, some m2, [(hdB y, b)], none⟩ := ⟨_, rfl⟩
    have L6 : Lies w5 G lo := by
      have := L5.out
      rw [upd_four _ _ _ _ _ hnt hbt] at this
      rw [hG]; exact this
    have W6 : Wood G R := by rw [hG]; exact hW.split HN.out hft1 HB.out (by rw [hxh']; exact HE.out) hxy' hx0 hy0'
    have E6 : Ext F G := by rw [hG]; exact ext_split HN.out HB.out hbn hft1 rfl rfl rfl rfl rfl
    have N6 : G w1.heap.size = some ⟨nd.path ++ lb x, x, some m2, [(hdB y, b)], none⟩ := by rw [hG]; exact upd_same _ _ _
    have ALL := Lib.hid (And.intro L6 (And.intro W6 (And.intro E6 N6)))
    clear hG L6 W6 E6 N6 L4 L5 g4 g5 d0 f0 q2 BS BK L3 hb3 b3 hxy' hxh'
    by_cases hkr : k = rest.size
    · have hc : ((k : Int) == (rest.size : Int)) = true := by rw [hkr]; simp
      have hxr : lb x = lb rest := by rw [HX.out, lb_front, hkr, ← plb_len, List.take_length]
      have HXR := Lib.hid hxr
      clear hkr hxr
      go_wp2
      go_ret
      exact ⟨G, w1.heap.size, rfl, Lib.hid ⟨ALL.out.1, ALL.out.2.1, ALL.out.2.2.1, _, ALL.out.2.2.2, by rw [HXR.out]⟩, b5.out⟩
    · have hc : ((k : Int) == (rest.size : Int)) = false := by rw [beq_eq_false_iff_ne]; omega
      have q3 := sl_back rest k hk3
      have hlo5 : Fr lo w5.heap.size := hlo.up b5.out.size
      obtain ⟨L7, g7, s7⟩ := fresh ALL.out.1 hlo5 ((nd.path ++ lb x) ++ lb (cutB rest k)) (cutB rest k) (by rw [cut_size]; omega)
      have hft5 : G w5.heap.size = none := ALL.out.1.free (Nat.le_refl _)
      have htt : w1.heap.size ≠ w5.heap.size := fun g => by rw [← g, ALL.out.2.2.2] at hft5; cases hft5
      have hz0 : 0 < (cutB rest k).size := by rw [cut_size]; omega
      have hun' : hdB y ≠ hdB (cutB rest k) := by rw [HY.out]; exact HH.out.2.2.2 (by omega)
      have hpath : (nd.path ++ lb x) ++ lb (cutB rest k) = nd.path ++ lb rest := by rw [List.append_assoc, HX.out, ← HH.out.2.2.1]
      have FR := Lib.hid (And.intro L7 (And.intro g7 (And.intro hun' hpath)))
      have S7 := Lib.hid s7
      clear hkr L7 g7 s7 hun' hpath
      go_wp2_with fail
      go_at_call 217
      refine (put_lies w1.heap.size w5.heap.size lo ⟨nd.path ++ lb x, x, some m2, [(hdB y, b)], none⟩ (lfN ((nd.path ++ lb x) ++ lb (cutB rest k)) (cutB rest k)) _ _ FR.out.1 ((upd_other _ _ htt).trans ALL.out.2.2.2) (upd_same _ _ _) hz0 (Ne.symm htt) (hlo5.up (by rw [S7.out]; omega))).mono ?_
      rintro e8 w8 ⟨rfl, m3, L8, g8⟩
      have g9 := Lib.hid (b5.out.trans ((Tch.of FR.out.2.1).trans g8))
      clear g8 q3 hc
      go_wp2
      go_ret
      refine ⟨_, w5.heap.size, rfl, Lib.hid ⟨L8.out, ?_, ?_, ?_⟩, g9.out⟩
      · rw [upd_comm _ _ _ (Ne.symm htt)]
        refine ALL.out.2.1.leaf ALL.out.2.2.2 hft5 ?_ hz0
        show look [(hdB y, b)] (hdB (cutB rest k)) = none
        simp [look, FR.out.2.2.1]
      · rw [upd_comm _ _ _ (Ne.symm htt)]
        exact ALL.out.2.2.1.trans (ext_leaf ALL.out.2.2.2 hft5 rfl rfl rfl)
      · exact ⟨_, (upd_other _ _ (Ne.symm htt)).trans (upd_same _ _ _), FR.out.2.2.2⟩
/-- The blocks of a wood, and all from n on. -/
def ownB (F : Nat → Option Nd) (n : Nat) (k : Nat) : Prop := (∃ b nd, F b = some nd ∧ (k = b ∨ nd.mp = some k)) ∨ n ≤ k
theorem Lies.kind {w : World} {F : Nat → Option Nd} {P Q : Nat → Prop} (h : Lies w F P) (hq : ∀ b nd, F b = some nd → Q b ∧ ∀ m, nd.mp = some m → Q m) : Lies w F Q := ⟨h.node, h.map, h.bare, h.apart, hq, h.small⟩
theorem Lies.own {w : World} {F : Nat → Option Nd} {P : Nat → Prop} (h : Lies w F P) (n : Nat) : Lies w F (ownB F n) := h.kind (fun b nd hb => ⟨.inl ⟨b, nd, hb, .inl rfl⟩, fun m hm => .inl ⟨b, nd, hb, .inr hm⟩⟩)
theorem Lies.putD {w : World} {F : Nat → Option Nd} {P : Nat → Prop} {D : Nat} {x : Option (List Deferred)} (h : Lies w F P) (hD : w.heap[D]? = some (.deferred x)) (o : Obj) : Lies (w.putObj D o) F P :=
  ⟨fun b nd hb => (World.putObj_heap_other (fun e => by have := h.node b nd hb; rw [e, hD] at this; cases this)).trans (h.node b nd hb),
   fun b nd m hb hm => (World.putObj_heap_other (fun e => by have := h.map b nd m hb hm; rw [e, hD] at this; cases this)).trans (h.map b nd m hb hm), h.bare, h.apart, h.low, h.small⟩
theorem Lies.notOwn {w : World} {F : Nat → Option Nd} {P : Nat → Prop} {D : Nat} {o : Obj} (h : Lies w F P) (hD : w.heap[D]? = some o) (h1 : ∀ cs, o ≠ .cells cs 173) (h2 : ∀ es c, o ≠ .map es c) : ¬ ownB F w.heap.size D := by
  rintro (⟨b, nd, hb, rfl | hm⟩ | hk)
  · have := h.node _ nd hb; rw [hD] at this; exact h1 _ (Option.some.inj this)
  · have := h.map b nd _ hb hm; rw [hD] at this; exact h2 _ _ (Option.some.inj this)
  · have := heap_lt hD; omega
def endR (l : List (Nat × ByteArray)) : Option Nat := l.getLast?.map (·.1)
def restR (l : List (Nat × ByteArray)) : ByteArray := (l.getLast?.map (·.2)).getD ⟨#[]⟩
theorem end_snoc (l : List (Nat × ByteArray)) (x : Nat × ByteArray) : endR (l ++ [x]) = some x.1 := by simp [endR]
theorem rest_snoc (l : List (Nat × ByteArray)) (x : Nat × ByteArray) : restR (l ++ [x]) = x.2 := by simp [restR]
set_option maxHeartbeats 2000000 in
theorem reach_in (n : Nat) (hn : 6 ≤ n) (t : Nat) (lo : Nat → Prop) (R : Nat) (c : Int) (K : ByteArray) (F : Nat → Option Nd) (w : World) (hK : K.size ≤ 281474976710656) (hT : w.heap[t]? = some (.cells #[ndp (some R), .int .i64 c] 175)) (hL : Lies w F lo) (hW : Wood F R) (hlo : Fr lo w.heap.size) :
    CallsIn Fence.wide n Tryz.prog 152 #[.pointer (some ⟨t, 0, none⟩), .string K] w fun e w' => ∃ G b, e = .returned (.pointer (some ⟨b, 0, none⟩)) ∧ Hid (Grew w' F G R lo b (lb K)) ∧ Tch lo w w' := by
  have h1 : 1 ≤ n := by omega
  have c0 : w.cell? ⟨t, 0, none⟩ = some (.pointer (some ⟨R, 0, none⟩)) := Blk.cell hT 0
  have htl := heap_lt hT
  have HL := Lib.hid hL
  have HW := Lib.hid hW
  have HLO := Lib.hid hlo
  clear hT hL hW hlo
  refine callsIn_of_wp_marks Tryz.func152 rfl trivial ?_ rfl
  simp only [Tryz.ntmps152, List.size_toArray, List.length_cons, List.length_nil, Nat.reduceAdd, Nat.reduceSub, Array.replicate_succ, Array.replicate_zero, List.push_toArray, List.append_toArray, List.nil_append, List.cons_append]
  gi_wp2_with (refine ⟨trivial, ?_⟩; gi_at_call 162; refine (way_in (n - 1) (some R) K _).mono ?_; rintro e w' ⟨rfl, rfl⟩)
  have bE := ((Boxed.new w 170 (.pointer none)).alloc (.cells #[.string ⟨#[]⟩] 9)).alloc (.cells #[ndp (some R)] 170) |>.alloc (.cells #[.string K] 9)
  have bS := ((Boxed.new (w.alloc (.cells #[.pointer none] 170)) 9 (.string ⟨#[]⟩)).alloc (.cells #[ndp (some R)] 170)).alloc (.cells #[.string K] 9)
  have bA := (Boxed.new ((w.alloc (.cells #[.pointer none] 170)).alloc (.cells #[.string ⟨#[]⟩] 9)) 170 (ndp (some R))).alloc (.cells #[.string K] 9)
  have bB := Boxed.new (((w.alloc (.cells #[.pointer none] 170)).alloc (.cells #[.string ⟨#[]⟩] 9)).alloc (.cells #[ndp (some R)] 170)) 9 (.string K)
  simp only [World.size_alloc] at bS bA bB
  have hB1 : Below w.heap.size w ((((w.alloc (.cells #[.pointer none] 170)).alloc (.cells #[.string ⟨#[]⟩] 9)).alloc (.cells #[ndp (some R)] 170)).alloc (.cells #[.string K] 9)) := ((((Below.refl _ _).alloc (Nat.le_refl _) _).alloc (by simp) _).alloc (by simp; omega) _).alloc (by simp; omega) _
  have hsz : ((((w.alloc (.cells #[.pointer none] 170)).alloc (.cells #[.string ⟨#[]⟩] 9)).alloc (.cells #[ndp (some R)] 170)).alloc (.cells #[.string K] 9)).heap.size = w.heap.size + 4 := by simp
  obtain ⟨W0, hW0⟩ : ∃ W0, ((((w.alloc (.cells #[.pointer none] 170)).alloc (.cells #[.string ⟨#[]⟩] 9)).alloc (.cells #[ndp (some R)] 170)).alloc (.cells #[.string K] 9)) = W0 := ⟨_, rfl⟩
  rw [hW0] at bE bS bA bB hB1 hsz ⊢
  clear hW0
  have hu := HL.out.under
  have L0 := HL.out.below hB1
  clear c0
  refine wpIn_rangeFunc_ownF rfl h1 (gf := 195) (lb := #[.pointer (some ⟨w.heap.size + 1 + 1, 0, none⟩), .pointer (some ⟨w.heap.size + 1 + 1 + 1, 0, none⟩)]) rfl trivial (enters_of Tryz.func195 (by kernel_rfl) rfl)
    (way1_stops (n - 1) (by omega) (w.heap.size + 1 + 1) w.heap.size lo R K F HW.out hK W0 L0 hu (by omega) bA bB) belowK_t (belowK_b (by omega)) (Below.refl _ _) (fun _ => rfl)
    (fun pre W => (W.cell? ⟨w.heap.size, 0, none⟩ = some (ndp (endR (rawW pre))) ∧ W.frozen? ⟨w.heap.size, 0, none⟩ = false ∧ W.cell? ⟨w.heap.size + 1, 0, none⟩ = some (.string (restR (rawW pre))) ∧ W.frozen? ⟨w.heap.size + 1, 0, none⟩ = false) ∧ Below w.heap.size w W)
    (fun c pre W => False ∧ Below w.heap.size w W)
    (OwnFrom.and (Own.from (fun s A B row hs hg hr => ⟨cell_kept hs.1 hg hr, (frozen_kept hs.1 hg hr).trans hs.2.1, cell_kept hs.2.2.1 hg hr, (frozen_kept hs.2.2.1 hg hr).trans hs.2.2.2⟩) _) (ownFrom_below (Nat.le_refl _) (by omega)))
    (fun c => OwnFrom.and (Own.from (fun s A B row hs hg hr => hs) _) (ownFrom_below (Nat.le_refl _) (by omega)))
    ⟨⟨bE.cell, bE.frozen, bS.cell, bS.frozen⟩, hB1⟩
    (fun x => { tmps := #[.pointer (some ⟨t, 0, none⟩), .string K, undef, undef, .pointer none, .pointer (some ⟨w.heap.size, 0, none⟩), .pointer (some ⟨w.heap.size + 1, 0, none⟩), .pointer (some ⟨x.1.1, 0, none⟩), .string x.1.2, .pointer (some ⟨t, 0, none⟩), .pointer (some ⟨t, 0, none⟩), .pointer (some ⟨t, 0, none⟩), .pointer (some ⟨R, 0, none⟩), .string K, .func (.func 195) #[] #[.pointer (some ⟨w.heap.size + 1 + 1, 0, none⟩), .pointer (some ⟨w.heap.size + 1 + 1 + 1, 0, none⟩)], .pointer (some ⟨x.1.1, 0, none⟩), .string x.1.2, undef, undef, undef, undef, undef, undef, undef, undef], defers := [] }) ?assign ?body ?done ?stop
  case assign =>
    intro l x W K hK
    gi_wp2
    exact hK
  case body =>
    rintro l pre x W ⟨⟨hc, hf, hc2, hf2⟩, hB⟩ hlen
    have E1 : Hid (endR (rawW (pre ++ [x])) = some x.1.1) := Lib.hid (by have := end_snoc (rawW pre) x.1; rw [← this]; simp [rawW])
    have E2 : Hid (restR (rawW (pre ++ [x])) = x.1.2) := Lib.hid (by have := rest_snoc (rawW pre) x.1; rw [← this]; simp [rawW])
    gi_wp2
    refine ⟨(KeepsOthers.setCell _ _ _).trans (KeepsOthers.setCell _ _ _), ((Below.refl _ _).setCell (p := ⟨w.heap.size, 0, none⟩) (Nat.le_refl _) _).setCell (p := ⟨w.heap.size + 1, 0, none⟩) (Nat.le_succ _) _, ⟨?_, by rw [World.frozen?_setCell, World.frozen?_setCell]; exact hf, ?_, by rw [World.frozen?_setCell, World.frozen?_setCell]; exact hf2⟩, (hB.setCell (p := ⟨w.heap.size, 0, none⟩) (Nat.le_refl _) _).setCell (p := ⟨w.heap.size + 1, 0, none⟩) (Nat.le_succ _) _⟩
    · rw [E1.out, cs_other _ _ _ _ _ _ (.inl (by omega))]
      exact World.cell?_setCell_same' _ _ _ (by rw [hc]; rfl)
    · rw [E2.out]
      exact World.cell?_setCell_same' _ _ _ (by rw [cs_other _ _ _ _ _ _ (.inl (by omega)), hc2]; rfl)
  case done =>
    rintro D ys W hD hw ⟨⟨hc, hf, hc2, hf2⟩, hB⟩ hK
    have LW := Lib.hid (HL.out.below hB)
    have hne : rawW ys ≠ [] := fun e => by have := hw.head HW.out; rw [e] at this; cases this
    obtain ⟨us, ⟨p, l1⟩, he⟩ : ∃ us x, rawW ys = us ++ [x] := ⟨_, _, (List.dropLast_concat_getLast hne).symm⟩
    obtain ⟨nd, hp, hKp⟩ := hw.ofRoot HW.out (p, l1) (by rw [he]; simp)
    have hen := hw.ends he hp
    rw [he, end_snoc] at hc
    rw [he, rest_snoc] at hc2
    replace hc : W.cell? ⟨w.heap.size, 0, none⟩ = some (.pointer (some ⟨p, 0, none⟩)) := hc
    replace hc2 : W.cell? ⟨w.heap.size + 1, 0, none⟩ = some (.string l1) := hc2
    have HP := Lib.hid hp
    have HKP := Lib.hid hKp
    have HEN := Lib.hid hen
    have HK := Lib.hid hK
    have TB := Lib.hid (Tch.of (S := lo) hB)
    have hl1 : l1.size ≤ K.size := by
      have := congrArg List.length hKp
      rw [plb_len, List.length_append] at this
      have g := plb_len l1
      show l1.size ≤ K.size
      simp only at this
      omega
    have hloD : lo D := HLO.out D (by omega)
    clear hp hKp hen hK he hne hw L0 bE bS bA bB hB1 hu hB
    by_cases hz : l1.size = 0
    · have ht := toList_none l1 hz
      have hl0 : lb l1 = [] := List.eq_nil_of_length_eq_zero (by rw [plb_len]; exact hz)
      have HZ := Lib.hid hl0
      clear hz hl0
      gi_wp2
      refine ⟨by simp, .inl ⟨_, _, rfl, run_takeDeferred HK.out, ?_⟩⟩
      exact ⟨_, results_tmp rfl _ _ _, F, p, rfl, Lib.hid ⟨LW.out.putD HK.out _, HW.out, Ext.refl F, nd, HP.out, by rw [HKP.out, HZ.out, List.append_nil]⟩, TB.out.trans (Tch.put W D _ hloD)⟩
    · have ht := toList_ne l1 (by omega)
      have C := Lib.hid (branch_any p (ownB F W.heap.size) R l1 nd F W (LW.out.own _) HW.out HP.out (by omega) (by omega) (HEN.out.elim (fun g => absurd g hz) id) (fun k hk => .inr hk))
      clear hz
      gi_wp2_with (refine ⟨trivial, ?_⟩; gi_at_call 185; refine (callsIn_wide.2 C.out).mono ?_; rintro e w5 ⟨G, b, rfl, g5, t5⟩)
      have hD5 : w5.heap[D]? = some (.deferred (some [])) := (t5.block D (heap_lt HK.out) (LW.out.notOwn HK.out (fun _ h => by cases h) (fun _ _ h => by cases h))).trans HK.out
      have hown : ∀ k, ownB F W.heap.size k → lo k := fun k hk => by
        rcases hk with ⟨b, nd, hb, rfl | hm⟩ | hk
        · exact (LW.out.low _ nd hb).1
        · exact (LW.out.low b nd hb).2 k hm
        · exact HLO.out k (Nat.le_trans TB.out.size hk)
      obtain ⟨a1, a2, a3, a4, a5, a6⟩ := g5.out
      refine ⟨by simp, .inl ⟨_, _, rfl, run_takeDeferred hD5, ?_⟩⟩
      exact ⟨_, results_tmp rfl _ _ _, G, b, rfl, Lib.hid ⟨(a1.kind (fun x y hx => ⟨hown _ (a1.low x y hx).1, fun m hm => hown _ ((a1.low x y hx).2 m hm)⟩)).putD hD5 _, a2, a3, a4, a5, by rw [a6, HKP.out]⟩, (TB.out.trans (t5.mono (fun k _ hk => hown k hk))).trans (Tch.put w5 D _ hloD)⟩
  case stop =>
    rintro D c pre W hD hpre ⟨h, _⟩ hK
    exact h.elim
/-- One rule more. -/
def one1 (rs : List Rl) (r : Rl) : Nat := if (fstR rs (lb r.p)).isNone then 1 else 0
set_option maxHeartbeats 2000000 in
theorem padd_any (t : Nat) (lo : Nat → Prop) (R : Nat) (c : Int) (r : Rl) (rs : List Rl) (F : Nat → Option Nd) (w : World) (hr : Okr r) (hc : 0 ≤ c ∧ c + 1 ≤ 9223372036854775807) (hT : Blk w t #[ndp (some R), .int .i64 c] 175) (hL : Lies w F lo) (hG : Grove F R rs) (hlo : Fr lo w.heap.size) (hlt : lo t) :
    Calls Tryz.prog 102 #[.pointer (some ⟨t, 0, none⟩), r.v] w fun e w' => (∃ v, e = .returned v) ∧ ∃ G, Hid (Blk w' t #[ndp (some R), .int .i64 (c + one1 rs r)] 175 ∧ Lies w' G lo ∧ Grove G R (rs ++ [r])) ∧ Tch lo w w' := by
  have htl := hT.lt
  have C := Lib.hid (fun V => pown_any r V hr)
  have HT := Lib.hid hT
  have HL := Lib.hid hL
  have HG := Lib.hid hG
  have HLO := Lib.hid hlo
  clear hT hL hG hlo
  go_enter Tryz.func102, Tryz.ntmps102
  go_wp2_with (go_at_call 151; refine (C.out _).mono ?_; rintro e w1 ⟨rfl, g1⟩; refine stopHere ?_)
  unfold Stop
  have b0 := Lib.hid ((Blk.new w #[.string r.p, .int .u64 r.e, .int .u64 r.b, .int .u8 r.k] 79).below g1)
  have k1 := Lib.hid (kbq ((Below.refl _ w).alloc (Nat.le_refl _) (.cells #[.string r.p, .int .u64 r.e, .int .u64 r.b, .int .u8 r.k] 79)) g1)
  have c0 := b0.out.cell 0
  have c1 := b0.out.cell 1
  have c2 := b0.out.cell 2
  have c3 := b0.out.cell 3
  have f0 := b0.out.fz 0
  have f1 := b0.out.fz 1
  have f2 := b0.out.fz 2
  have f3 := b0.out.fz 3
  simp at c0 c1 c2 c3
  clear g1 C
  go_wp2_with fail
  have b2 : Blk ((((w1.setCell ⟨w.heap.size, 0, none⟩ (.string r.p)).setCell ⟨w.heap.size, 1, none⟩ (.int .u64 r.e)).setCell ⟨w.heap.size, 2, none⟩ (.int .u64 r.b)).setCell ⟨w.heap.size, 3, none⟩ (.int .u8 r.k)) w.heap.size #[.string r.p, .int .u64 r.e, .int .u64 r.b, .int .u8 r.k] 79 := (((b0.out.set 0 (.string r.p)).set 1 (.int .u64 r.e)).set 2 (.int .u64 r.b)).set 3 (.int .u8 r.k)
  have k2 : Below w.heap.size w ((((w1.setCell ⟨w.heap.size, 0, none⟩ (.string r.p)).setCell ⟨w.heap.size, 1, none⟩ (.int .u64 r.e)).setCell ⟨w.heap.size, 2, none⟩ (.int .u64 r.b)).setCell ⟨w.heap.size, 3, none⟩ (.int .u8 r.k)) := (((k1.out.setCell (p := ⟨w.heap.size, 0, none⟩) (Nat.le_refl _) _).setCell (p := ⟨w.heap.size, 1, none⟩) (Nat.le_refl _) _).setCell (p := ⟨w.heap.size, 2, none⟩) (Nat.le_refl _) _).setCell (p := ⟨w.heap.size, 3, none⟩) (Nat.le_refl _) _
  generalize ((((w1.setCell ⟨w.heap.size, 0, none⟩ (.string r.p)).setCell ⟨w.heap.size, 1, none⟩ (.int .u64 r.e)).setCell ⟨w.heap.size, 2, none⟩ (.int .u64 r.b)).setCell ⟨w.heap.size, 3, none⟩ (.int .u8 r.k)) = W at *
  have B2 := Lib.hid b2
  have K2 := Lib.hid k2
  have LW := Lib.hid (HL.out.below K2.out)
  have TW := Lib.hid (HT.out.under K2.out htl)
  have hXt : t ≠ w.heap.size := Nat.ne_of_lt htl
  clear c0 c1 c2 c3 f0 f1 f2 f3 b0 k1 b2 k2
  go_at_call 152
  refine (callsIn_wide.1 (reach_in 6 (Nat.le_refl _) t (ownB F W.heap.size) R c r.p F W hr.p TW.out (LW.out.own _) HG.out.wood (fun k hk => .inr hk))).mono ?_
  rintro e3 w3 ⟨G, b, rfl, g3, t3⟩
  obtain ⟨a1, a2, a3, nd, a5, a6⟩ := g3.out
  have hown : ∀ k, ownB F W.heap.size k → lo k := fun k hk => by
    rcases hk with ⟨b, nd, hb, rfl | hm⟩ | hk
    · exact (LW.out.low _ nd hb).1
    · exact (LW.out.low b nd hb).2 k hm
    · exact HLO.out k (Nat.le_trans K2.out.size hk)
  have T3 := Lib.hid (t3.blk TW.out (LW.out.notOwn TW.out (fun _ h => by cases h) (fun _ _ h => by cases h)))
  have X3 := Lib.hid (t3.blk B2.out (LW.out.notOwn B2.out (fun _ h => by cases h) (fun _ _ h => by cases h)))
  have L3 := Lib.hid (a1.kind (Q := lo) (fun x y hx => ⟨hown _ (a1.low x y hx).1, fun m hm => hown _ ((a1.low x y hx).2 m hm)⟩))
  have G3 := Lib.hid (HG.out.ext a2 a3)
  have t3' := Lib.hid ((Tch.of (S := lo) K2.out).trans (t3.mono (fun k _ hk => hown k hk)))
  have N3 := Lib.hid (And.intro a5 a6)
  have BK := Lib.hid (show Blk w3 b (cellsN nd) _ from a1.node b nd a5)
  have c6 := (nc_of BK.out).c6
  have hbt : b ≠ t := fun g => by
    have h1 := BK.out
    rw [g] at h1
    have := (show w3.heap[t]? = _ from h1).symm.trans T3.out
    cases this
  have hrl := Lib.hid (G3.out.rule b nd a5)
  clear g3 t3 a1 a2 a3 a5 a6 hown
  cases hq : nd.rule with
  | some r0 =>
    rw [hq] at c6
    simp only [Option.isSome_some] at c6
    have HQ := Lib.hid hq
    clear hq
    go_wp2
    refine bodyPost_ret (results_none rfl _ _ _) rfl ?_
    refine ⟨⟨_, rfl⟩, G, Lib.hid ⟨?_, L3.out, G3.out.not N3.out.1 N3.out.2 HQ.out⟩, t3'.out⟩
    have : one1 rs r = 0 := by
      unfold one1
      rw [← N3.out.2, ← hrl.out, HQ.out]; rfl
    rw [this]
    simpa using T3.out
  | none =>
    rw [hq] at c6
    simp only [Option.isSome_none] at c6
    have HQ := Lib.hid hq
    have hw1 : IntKind.i64.wrap (c + 1) = c + 1 := by rw [IntKind.wrap_i64]; omega
    have n2 := BK.out.cell 2
    have n3 := BK.out.cell 3
    have n4 := BK.out.cell 4
    have n5 := BK.out.cell 5
    have f2 := BK.out.fz 2
    have f3 := BK.out.fz 3
    have f4 := BK.out.fz 4
    have f5 := BK.out.fz 5
    have f6 := BK.out.fz 6
    have x0 := X3.out.cell 0
    have x1 := X3.out.cell 1
    have x2 := X3.out.cell 2
    have x3 := X3.out.cell 3
    have y1 := T3.out.cell 1
    have g1 := T3.out.fz 1
    simp [cellsN] at n2 n3 n4 n5 x0 x1 x2 x3 y1
    have hXb : b ≠ w.heap.size := fun g => by
      have h1 := BK.out
      rw [g] at h1
      have h2 := (show w3.heap[w.heap.size]? = _ from h1).symm.trans X3.out
      have h3 := congrArg (fun o : Option Obj => match o with | some (.cells _ ty _) => ty | _ => 0) h2
      exact absurd (show (173 : Nat) = 79 from h3) (by decide)
    clear hq
    go_wp2
    refine bodyPost_end (results_none rfl _ _ _) rfl ?_
    have Bb := ((((BK.out.set 2 (.string r.p)).set 3 (.int .u64 r.e)).set 4 (.int .u64 r.b)).set 5 (.int .u8 r.k)).set 6 (.bool true)
    have Bt := ((((T3.out.other (c := b) 2 (.string r.p) (Ne.symm hbt)).other (c := b) 3 (.int .u64 r.e) (Ne.symm hbt)).other (c := b) 4 (.int .u64 r.b) (Ne.symm hbt)).other (c := b) 5 (.int .u8 r.k) (Ne.symm hbt)).other (c := b) 6 (.bool true) (Ne.symm hbt)
    have tb : Tch (fun k => k = b) w3 (((((w3.setCell ⟨b, 2, none⟩ (.string r.p)).setCell ⟨b, 3, none⟩ (.int .u64 r.e)).setCell ⟨b, 4, none⟩ (.int .u64 r.b)).setCell ⟨b, 5, none⟩ (.int .u8 r.k)).setCell ⟨b, 6, none⟩ (.bool true)) :=
      ((((Tch.set (S := fun k => k = b) w3 b 2 (.string r.p) rfl).trans (Tch.set (S := fun k => k = b) _ b 3 (.int .u64 r.e) rfl)).trans (Tch.set (S := fun k => k = b) _ b 4 (.int .u64 r.b) rfl)).trans (Tch.set (S := fun k => k = b) _ b 5 (.int .u8 r.k) rfl)).trans (Tch.set (S := fun k => k = b) _ b 6 (.bool true) rfl)
    have ln : Lies (((((w3.setCell ⟨b, 2, none⟩ (.string r.p)).setCell ⟨b, 3, none⟩ (.int .u64 r.e)).setCell ⟨b, 4, none⟩ (.int .u64 r.b)).setCell ⟨b, 5, none⟩ (.int .u8 r.k)).setCell ⟨b, 6, none⟩ (.bool true)) (upd G b { nd with rule := some r }) lo :=
      L3.out.store N3.out.1 rfl rfl Bb tb ⟨(L3.out.small b nd N3.out.1).1, hr⟩
    have lob : lo b := (L3.out.low b nd N3.out.1).1
    generalize (((((w3.setCell ⟨b, 2, none⟩ (.string r.p)).setCell ⟨b, 3, none⟩ (.int .u64 r.e)).setCell ⟨b, 4, none⟩ (.int .u64 r.b)).setCell ⟨b, 5, none⟩ (.int .u8 r.k)).setCell ⟨b, 6, none⟩ (.bool true)) = W6 at *
    have h1 : one1 rs r = 1 := by
      unfold one1
      rw [← N3.out.2, ← hrl.out, HQ.out]; rfl
    have e1 : Blk (W6.setCell ⟨t, 1, none⟩ (.int .i64 (c + 1))) t #[ndp (some R), .int .i64 (c + 1)] 175 := Bt.set 1 (.int .i64 (c + 1))
    refine ⟨⟨_, rfl⟩, upd G b { nd with rule := some r }, Lib.hid ⟨?_, ?_, G3.out.add N3.out.1 N3.out.2 HQ.out⟩, (t3'.out.trans (tb.mono (fun k _ e => by rw [e]; exact lob))).trans (Tch.set W6 t 1 _ hlt)⟩
    · rw [h1]; exact e1
    · refine ⟨fun x y hx => ?_, fun x y m hx hm => ?_, ln.bare, ln.apart, ln.low, ln.small⟩
      · refine (Below.heap_setCell _ _ _ _ (fun g => ?_)).trans (ln.node x y hx)
        have h2 := ln.node x y hx
        rw [g] at h2
        have h3 := congrArg (fun o : Option Obj => match o with | some (.cells _ ty _) => ty | _ => 0) (h2.symm.trans (show W6.heap[t]? = _ from Bt))
        exact absurd (show (173 : Nat) = 175 from h3) (by decide)
      · refine (Below.heap_setCell _ _ _ _ (fun g => ?_)).trans (ln.map x y m hx hm)
        have h2 := ln.map x y m hx hm
        rw [g, show W6.heap[t]? = _ from Bt] at h2
        cases h2
theorem take_succ (rs : List Rl) (k : Nat) (h : k < rs.length) : rs.take (k + 1) = rs.take k ++ [fnOf rs k] := by rw [fn_at h, List.take_succ_eq_append_getElem h]
set_option maxHeartbeats 2000000 in
theorem pnew_any (A : Option Addr) (n cap : Nat) (rs : List Rl) (w : World) (h : Rls w A n rs) (hn : n ≤ 9223372036854775806) :
    Calls Tryz.prog 58 #[.slice A n cap] w fun e w' => ∃ t, e = .returned (.pointer (some ⟨t, 0, none⟩)) ∧ Hid (TreeAt w' t rs) ∧ Below w.heap.size w w' := by
  have H := Lib.hid h
  have hl := Lib.hid h.1
  clear h
  go_enter Tryz.func58, Tryz.ntmps58
  go_wp2
  have b0 := (Blk.new w #[.string ⟨#[]⟩, .map none, .string ⟨#[]⟩, .int .u64 0, .int .u64 0, .int .u8 0, .bool false] 173).alloc (.cells #[.pointer (some ⟨w.heap.size, 0, none⟩), .int .i64 0] 175)
  have b1 := Blk.new (w.alloc (.cells #[.string ⟨#[]⟩, .map none, .string ⟨#[]⟩, .int .u64 0, .int .u64 0, .int .u8 0, .bool false] 173)) #[.pointer (some ⟨w.heap.size, 0, none⟩), .int .i64 0] 175
  rw [World.size_alloc] at b1
  have k0 := ((Below.refl _ w).alloc (Nat.le_refl _) (.cells #[.string ⟨#[]⟩, .map none, .string ⟨#[]⟩, .int .u64 0, .int .u64 0, .int .u8 0, .bool false] 173)).alloc (by simp) (.cells #[.pointer (some ⟨w.heap.size, 0, none⟩), .int .i64 0] 175)
  generalize (w.alloc (.cells #[.string ⟨#[]⟩, .map none, .string ⟨#[]⟩, .int .u64 0, .int .u64 0, .int .u8 0, .bool false] 173)).alloc (.cells #[.pointer (some ⟨w.heap.size, 0, none⟩), .int .i64 0] 175) = W0 at *
  have L0 : Lies W0 (upd (fun _ => none) w.heap.size ⟨[], ⟨#[]⟩, none, [], none⟩) (fun k => w.heap.size ≤ k) := by
    have bw : ∀ x nx, upd (fun _ => none) w.heap.size (⟨[], ⟨#[]⟩, none, [], none⟩ : Nd) x = some nx → x = w.heap.size ∧ nx = ⟨[], ⟨#[]⟩, none, [], none⟩ := fun x nx h => by
      by_cases e : x = w.heap.size
      · subst e; rw [upd_same] at h; cases h; exact ⟨rfl, rfl⟩
      · rw [upd_other _ _ e] at h; cases h
    refine ⟨fun x y hx => ?_, fun x y m hx hm => ?_, fun x y hx hm => ?_, fun x y c z m hx hz hm _ => ?_, fun x y hx => ?_, fun x y hx => ?_⟩
    · obtain ⟨rfl, rfl⟩ := bw x y hx; exact b0
    · obtain ⟨rfl, rfl⟩ := bw x y hx; cases hm
    · obtain ⟨rfl, rfl⟩ := bw x y hx; rfl
    · obtain ⟨rfl, rfl⟩ := bw x y hx; cases hm
    · obtain ⟨rfl, rfl⟩ := bw x y hx; exact ⟨Nat.le_refl _, fun m hm => by cases hm⟩
    · obtain ⟨rfl, rfl⟩ := bw x y hx; exact ⟨Nat.zero_le _, okr0⟩
  have ST := Lib.hid (And.intro (show Blk W0 (w.heap.size + 1) #[ndp (some w.heap.size), .int .i64 ((cntT rs 0 : Nat) : Int)] 175 from b1) (And.intro L0 (show Grove _ w.heap.size (rs.take 0) from grove_new w.heap.size)))
  clear b0 b1 L0
  go_loopw [12] (fun i wr => ∃ (k : Nat) (F : Nat → Option Nd), i = .int .i64 (k : Int) ∧ k ≤ n ∧ Hid (Blk wr (w.heap.size + 1) #[ndp (some w.heap.size), .int .i64 ((cntT rs k : Nat) : Int)] 175 ∧ Lies wr F (fun j => w.heap.size ≤ j) ∧ Grove F w.heap.size (rs.take k)) ∧ Below w.heap.size w wr) (fun i _ => n - (intOf i).toNat)
  case atStart => exact ⟨0, _, rfl, Nat.zero_le _, ST, k0⟩
  case round =>
    obtain ⟨k, F, rfl, hk, HS, hB⟩ := hrel
    by_cases hlt : k < n
    · obtain ⟨b, off, rfl, hb, hc⟩ := (H.out.below hB).2.2 (by omega)
      obtain ⟨r0, r1, r2, r3⟩ := hc k hlt
      have hok := H.out.ok k
      have hcl := cnt_le rs k
      have HB := Lib.hid hB
      clear hc
      have hrw : Hid ((fnOf rs k) = fnOf rs k) := Lib.hid rfl
      obtain ⟨r, hr⟩ : ∃ r, r = fnOf rs k := ⟨_, rfl⟩
      rw [← hr] at r0 r1 r2 r3 hok
      have HR := Lib.hid hr
      clear hr hrw hB
      go_wp2_with fail
      have ka := (Below.refl _ wr).alloc (Nat.le_refl _) (.cells #[.string r.p, .int .u64 r.e, .int .u64 r.b, .int .u8 r.k] 79)
      have hB1 := HB.out.trans (ka.mono HB.out.size)
      generalize (wr.alloc (.cells #[.string r.p, .int .u64 r.e, .int .u64 r.b, .int .u8 r.k] 79)) = W1 at *
      have HKA := Lib.hid ka
      have HB1 := Lib.hid hB1
      have hw1 : IntKind.i64.wrap ((k : Int) + 1) = (k : Int) + 1 := by rw [IntKind.wrap_i64]; omega
      clear ka hB1 r0 r1 r2 r3
      go_at_call 102
      refine (padd_any (w.heap.size + 1) (fun j => w.heap.size ≤ j) w.heap.size _ r (rs.take k) F W1 hok (by omega) (HS.out.1.below HKA.out) (HS.out.2.1.below HKA.out) HS.out.2.2 (fun j hj => Nat.le_trans HB1.out.size hj) (Nat.le_succ _)).mono ?_
      rintro e w2 ⟨⟨v, rfl⟩, G, g2, t2⟩
      have S2 : Hid (Blk w2 (w.heap.size + 1) #[ndp (some w.heap.size), .int .i64 ((cntT rs (k + 1) : Nat) : Int)] 175 ∧ Lies w2 G (fun j => w.heap.size ≤ j) ∧ Grove G w.heap.size (rs.take (k + 1))) := Lib.hid (by
        obtain ⟨p1, p2, p3⟩ := g2.out
        refine ⟨?_, p2, ?_⟩
        · have : ((cntT rs (k + 1) : Nat) : Int) = ((cntT rs k : Nat) : Int) + (one1 (rs.take k) r : Nat) := by
            rw [cntT, Int.natCast_add, HR.out]; rfl
          rw [this]; exact p1
        · rw [take_succ rs k (by rw [hl.out]; exact hlt), ← HR.out]; exact p3)
      have B2 := Lib.hid (HB1.out.trans (t2.below HB1.out.size (fun j hj => hj)))
      clear g2 t2
      go_wp2
      go_roundw
      case rel => exact ⟨k + 1, G, rfl, hlt, S2, B2.out⟩
      case measure => simp [intOf]; omega
    · obtain rfl : k = n := by omega
      go_wp2
      go_ret
      refine ⟨w.heap.size + 1, rfl, Lib.hid ⟨F, w.heap.size, _, ?_, HS.out.2.1, ?_⟩, hB⟩
      · rw [hl.out]; exact HS.out.1
      · have := HS.out.2.2
        rwa [List.take_of_length_le (by rw [hl.out]; exact Nat.le_refl _)] at this
theorem four_sets {W u : World} {H D N : Nat} {z0 z1 z2 z3 : Value} {T : TypeId} {x : Rl} (b : Blk W H #[z0, z1, z2, z3] T) (hK : W.heap[D]? = some (.deferred (some []))) (hD : D ≠ H) (hN : N ≤ H) (hND : N ≤ D) (g : Below N u W) :
    ((((W.setCell ⟨H, 0, none⟩ (.string x.p)).setCell ⟨H, 1, none⟩ (.int .u64 x.e)).setCell ⟨H, 2, none⟩ (.int .u64 x.b)).setCell ⟨H, 3, none⟩ (.int .u8 x.k)).heap[D]? = some (.deferred (some [])) ∧
    ∀ o, Blk (((((W.setCell ⟨H, 0, none⟩ (.string x.p)).setCell ⟨H, 1, none⟩ (.int .u64 x.e)).setCell ⟨H, 2, none⟩ (.int .u64 x.b)).setCell ⟨H, 3, none⟩ (.int .u8 x.k)).putObj D o) H #[.string x.p, .int .u64 x.e, .int .u64 x.b, .int .u8 x.k] T ∧
      Below N u (((((W.setCell ⟨H, 0, none⟩ (.string x.p)).setCell ⟨H, 1, none⟩ (.int .u64 x.e)).setCell ⟨H, 2, none⟩ (.int .u64 x.b)).setCell ⟨H, 3, none⟩ (.int .u8 x.k)).putObj D o) := by
  have e := (((b.set 0 (.string x.p)).set 1 (.int .u64 x.e)).set 2 (.int .u64 x.b)).set 3 (.int .u8 x.k)
  have k := (((g.setCell (p := ⟨H, 0, none⟩) hN (.string x.p)).setCell (p := ⟨H, 1, none⟩) hN (.int .u64 x.e)).setCell (p := ⟨H, 2, none⟩) hN (.int .u64 x.b)).setCell (p := ⟨H, 3, none⟩) hN (.int .u8 x.k)
  have d : ((((W.setCell ⟨H, 0, none⟩ (.string x.p)).setCell ⟨H, 1, none⟩ (.int .u64 x.e)).setCell ⟨H, 2, none⟩ (.int .u64 x.b)).setCell ⟨H, 3, none⟩ (.int .u8 x.k)).heap[D]? = some (.deferred (some [])) :=
    (Below.heap_setCell _ _ _ _ hD).trans ((Below.heap_setCell _ _ _ _ hD).trans ((Below.heap_setCell _ _ _ _ hD).trans ((Below.heap_setCell _ _ _ _ hD).trans hK)))
  refine ⟨d, fun o => ⟨(World.putObj_heap_other (Ne.symm hD)).trans e, k.trans ⟨rfl, rfl, rfl, by simp, fun i hi => World.putObj_heap_other (by omega)⟩⟩⟩
set_option maxHeartbeats 2000000 in
theorem find_in (n : Nat) (hn : 6 ≤ n) (t : Nat) (lo : Nat → Prop) (R : Nat) (c : Int) (K : ByteArray) (rs : List Rl) (F : Nat → Option Nd) (w : World) (hK : K.size ≤ 281474976710656) (hT : w.heap[t]? = some (.cells #[ndp (some R), .int .i64 c] 175)) (hL : Lies w F lo) (hG : Grove F R rs) :
    CallsIn Fence.wide n Tryz.prog 113 #[.pointer (some ⟨t, 0, none⟩), .string K] w fun e w' => (e = .returned (.tuple #[((findR rs K).getD rl0).v, .bool (findR rs K).isSome])) ∧ Below w.heap.size w w' := by
  have h1 : 1 ≤ n := by omega
  have c0 : w.cell? ⟨t, 0, none⟩ = some (.pointer (some ⟨R, 0, none⟩)) := Blk.cell hT 0
  have htl := heap_lt hT
  have HL := Lib.hid hL
  have HG := Lib.hid hG
  clear hT hL hG
  refine callsIn_of_wp_marks Tryz.func113 rfl trivial ?_ rfl
  simp only [Tryz.ntmps113, List.size_toArray, List.length_cons, List.length_nil, Nat.reduceAdd, Nat.reduceSub, Array.replicate_succ, Array.replicate_zero, List.push_toArray, List.append_toArray, List.nil_append, List.cons_append]
  gi_wp2_with (refine ⟨trivial, ?_⟩; gi_at_call 162; refine (way_in (n - 1) (some R) K _).mono ?_; rintro e w' ⟨rfl, rfl⟩)
  have bH := Blk.new w #[.string ⟨#[]⟩, .int .u64 0, .int .u64 0, .int .u8 0] 79
  have bL := ((Boxed.new (w.alloc (.cells #[.string ⟨#[]⟩, .int .u64 0, .int .u64 0, .int .u8 0] 79)) 170 (.pointer none)).alloc (.cells #[ndp (some R)] 170)).alloc (.cells #[.string K] 9)
  have bA := (Boxed.new ((w.alloc (.cells #[.string ⟨#[]⟩, .int .u64 0, .int .u64 0, .int .u8 0] 79)).alloc (.cells #[.pointer none] 170)) 170 (ndp (some R))).alloc (.cells #[.string K] 9)
  have bB := Boxed.new (((w.alloc (.cells #[.string ⟨#[]⟩, .int .u64 0, .int .u64 0, .int .u8 0] 79)).alloc (.cells #[.pointer none] 170)).alloc (.cells #[ndp (some R)] 170)) 9 (.string K)
  simp only [World.size_alloc] at bL bA bB
  have hw1 : (w.alloc (.cells #[.string ⟨#[]⟩, .int .u64 0, .int .u64 0, .int .u8 0] 79)).heap.size = w.heap.size + 1 := by simp
  have hB0 : Below w.heap.size w (w.alloc (.cells #[.string ⟨#[]⟩, .int .u64 0, .int .u64 0, .int .u8 0] 79)) := (Below.refl _ w).alloc (Nat.le_refl _) _
  have hB1 : Below (w.heap.size + 1) (w.alloc (.cells #[.string ⟨#[]⟩, .int .u64 0, .int .u64 0, .int .u8 0] 79)) ((((w.alloc (.cells #[.string ⟨#[]⟩, .int .u64 0, .int .u64 0, .int .u8 0] 79)).alloc (.cells #[.pointer none] 170)).alloc (.cells #[ndp (some R)] 170)).alloc (.cells #[.string K] 9)) := (((Below.refl _ _).alloc (by simp) _).alloc (by simp) _).alloc (by simp) _
  have hsz : ((((w.alloc (.cells #[.string ⟨#[]⟩, .int .u64 0, .int .u64 0, .int .u8 0] 79)).alloc (.cells #[.pointer none] 170)).alloc (.cells #[ndp (some R)] 170)).alloc (.cells #[.string K] 9)).heap.size = w.heap.size + 4 := by simp
  obtain ⟨W0, hW0⟩ : ∃ W0, ((((w.alloc (.cells #[.string ⟨#[]⟩, .int .u64 0, .int .u64 0, .int .u8 0] 79)).alloc (.cells #[.pointer none] 170)).alloc (.cells #[ndp (some R)] 170)).alloc (.cells #[.string K] 9)) = W0 := ⟨_, rfl⟩
  rw [hW0] at bL bA bB hB1 hsz ⊢
  clear hW0
  generalize (w.alloc (.cells #[.string ⟨#[]⟩, .int .u64 0, .int .u64 0, .int .u8 0] 79)) = w1 at hw1 hB0 hB1 bH
  have hu := HL.out.under
  have L1 := HL.out.below hB0
  have L0 := L1.keep (N := w.heap.size + 1) (fun b nd hb => by have := hu b nd hb; exact ⟨by omega, fun m hm => by have := this.2 m hm; omega⟩) hB1
  have hu1 : Under F (w.heap.size + 1) := fun b nd hb => by have := hu b nd hb; exact ⟨by omega, fun m hm => by have := this.2 m hm; omega⟩
  clear c0
  refine wpIn_rangeFunc_ownF rfl h1 (gf := 195) (lb := #[.pointer (some ⟨w.heap.size + 1 + 1, 0, none⟩), .pointer (some ⟨w.heap.size + 1 + 1 + 1, 0, none⟩)]) rfl trivial (enters_of Tryz.func195 (by kernel_rfl) rfl)
    (way1_stops (n - 1) (by omega) (w.heap.size + 1 + 1) w.heap.size lo R K F HG.out.wood hK W0 L0 hu (by omega) bA bB) belowK_t (belowK_b (by omega)) (Below.refl _ _) (fun _ => rfl)
    (fun pre W => (W.cell? ⟨w.heap.size + 1, 0, none⟩ = some (ndp (lastR F (rawW pre))) ∧ W.frozen? ⟨w.heap.size + 1, 0, none⟩ = false) ∧ Below (w.heap.size + 1) w1 W)
    (fun c pre W => False ∧ Below (w.heap.size + 1) w1 W)
    (OwnFrom.and (Own.from (fun s A B row hs hg hr => ⟨cell_kept hs.1 hg hr, (frozen_kept hs.1 hg hr).trans hs.2⟩) _) (ownFrom_below (by omega) (by omega)))
    (fun c => OwnFrom.and (Own.from (fun s A B row hs hg hr => hs) _) (ownFrom_below (by omega) (by omega)))
    ⟨⟨bL.cell, bL.frozen⟩, hB1⟩
    (fun x => { tmps := #[.pointer (some ⟨t, 0, none⟩), .string K, undef, undef, .pointer (some ⟨w.heap.size, 0, none⟩), .bool false, .pointer (some ⟨w.heap.size + 1, 0, none⟩), .pointer (some ⟨x.1.1, 0, none⟩), .pointer (some ⟨t, 0, none⟩), .bool false, undef, .pointer (some ⟨t, 0, none⟩), .pointer (some ⟨t, 0, none⟩), .pointer (some ⟨t, 0, none⟩), .pointer (some ⟨R, 0, none⟩), .string K, .func (.func 195) #[] #[.pointer (some ⟨w.heap.size + 1 + 1, 0, none⟩), .pointer (some ⟨w.heap.size + 1 + 1 + 1, 0, none⟩)], .pointer (some ⟨x.1.1, 0, none⟩), .string x.1.2, undef, undef, undef, undef, undef, undef, undef, undef, undef, undef, undef, undef, undef], defers := [] }) ?assign ?body ?done ?stop
  case assign =>
    intro l x W K hK
    gi_wp2
    exact hK
  case body =>
    rintro l pre x W ⟨⟨hc, hf⟩, hB⟩ hlen
    obtain ⟨nd, hx⟩ := x.2
    have c6 := ((L1.keep hu1 hB).nc hx).c6
    have hh : hasF F x.1.1 = nd.rule.isSome := by unfold hasF; rw [hx]
    have HN : Hid (lastR F (rawW (pre ++ [x])) = if nd.rule.isSome then some x.1.1 else lastR F (rawW pre)) := Lib.hid (by
      have := last_snoc F (rawW pre) x.1
      rw [hh] at this
      rw [← this]; simp [rawW])
    clear hh hx
    generalize nd.rule.isSome = q at *
    cases q
    · gi_wp2
      exact ⟨KeepsOthers.refl _, Below.refl _ _, ⟨by rw [HN.out]; exact hc, hf⟩, hB⟩
    · gi_wp2
      refine ⟨KeepsOthers.setCell _ _ _, (Below.refl _ _).setCell (p := ⟨w.heap.size + 1, 0, none⟩) (Nat.le_succ _) _, ⟨?_, by rw [World.frozen?_setCell]; exact hf⟩, hB.setCell (p := ⟨w.heap.size + 1, 0, none⟩) (Nat.le_refl _) _⟩
      rw [HN.out]
      exact World.cell?_setCell_same' _ _ _ (by rw [hc]; rfl)
  case done =>
    rintro D ys W hD hw ⟨⟨hc, hf⟩, hB⟩ hK
    have LW := Lib.hid (L1.keep hu1 hB)
    have bZ := Lib.hid (bH.under hB (Nat.lt_succ_self _))
    have z0 := bZ.out.cell 0
    have z1 := bZ.out.cell 1
    have z2 := bZ.out.cell 2
    have z3 := bZ.out.cell 3
    have f0 := bZ.out.fz 0
    have f1 := bZ.out.fz 1
    have f2 := bZ.out.fz 2
    have f3 := bZ.out.fz 3
    simp at z0 z1 z2 z3
    have HB := Lib.hid hB
    have HB0 := Lib.hid hB0
    have HK := Lib.hid hK
    have hDH : D ≠ w.heap.size := by omega
    rcases HG.out.find hw with ⟨e1, e2⟩ | ⟨b, nd, r, e1, e2, e3, e4⟩
    · rw [e1] at hc
      have E := Lib.hid e2
      replace hc : W.cell? ⟨w.heap.size + 1, 0, none⟩ = some (.pointer none) := hc
      clear e1 e2 bH bL bA bB HL L1 L0 hB1 hB0 hB hw hK hu hu1 HG
      gi_wp2
      obtain ⟨y1, y2⟩ := four_sets (x := rl0) (N := w.heap.size) (u := w) bZ.out HK.out hDH (Nat.le_refl _) (by omega) (HB0.out.trans (HB.out.mono (Nat.le_succ _)))
      refine ⟨by simp, .inl ⟨_, _, rfl, run_takeDeferred y1, ?_⟩⟩
      obtain ⟨y3, y4⟩ := y2 (.deferred none)
      have q0 := y3.cell 0
      have q1 := y3.cell 1
      have q2 := y3.cell 2
      have q3 := y3.cell 3
      simp at q0 q1 q2 q3
      refine ⟨.tuple #[rl0.v, .bool false], ?_, by rw [E.out]; rfl, y4⟩
      simp [results, Tryz.f113, go_sem, q0, q1, q2, q3]
    · rw [e1] at hc
      have E := Lib.hid e4
      replace hc : W.cell? ⟨w.heap.size + 1, 0, none⟩ = some (.pointer (some ⟨b, 0, none⟩)) := hc
      have hn := (LW.out.nc e2)
      have hok := (LW.out.small b nd e2).2
      have hr0 : rlOf nd = r := by unfold rlOf; rw [e3]; rfl
      rw [hr0] at hok
      obtain ⟨r0, r1, r2, r3⟩ := hn.c2
      rw [hr0] at r0 r1 r2 r3
      have C := Lib.hid (fun V => pown_any r V hok)
      clear e1 e2 e3 e4 bH bL bA bB HL L1 L0 hB1 hB0 hB hw hK hu hu1 HG hn hok hr0 LW
      gi_wp2_with (refine ⟨trivial, ?_⟩; gi_at_call 151; refine (callsIn_wide.2 (C.out _)).mono ?_; rintro e w5 ⟨rfl, g5⟩; refine stopHere ?_)
      unfold Stop
      have bY := Lib.hid (bZ.out.below g5)
      have HK5 := Lib.hid ((g5.block D (heap_lt HK.out)).trans HK.out)
      have HB5 := Lib.hid ((HB0.out.trans (HB.out.mono (Nat.le_succ _))).trans (g5.mono (Nat.le_trans (Nat.le_of_lt bZ.out.lt) (Nat.le_refl _))))
      clear z0 z1 z2 z3 f0 f1 f2 f3 hc hf g5
      have z0 := bY.out.cell 0
      have z1 := bY.out.cell 1
      have z2 := bY.out.cell 2
      have z3 := bY.out.cell 3
      have f0 := bY.out.fz 0
      have f1 := bY.out.fz 1
      have f2 := bY.out.fz 2
      have f3 := bY.out.fz 3
      simp at z0 z1 z2 z3
      gi_wp2
      obtain ⟨y1, y2⟩ := four_sets (x := r) (N := w.heap.size) (u := w) bY.out HK5.out hDH (Nat.le_refl _) (by omega) HB5.out
      refine ⟨by simp, .inl ⟨_, _, rfl, run_takeDeferred y1, ?_⟩⟩
      obtain ⟨y3, y4⟩ := y2 (.deferred none)
      have q0 := y3.cell 0
      have q1 := y3.cell 1
      have q2 := y3.cell 2
      have q3 := y3.cell 3
      simp at q0 q1 q2 q3
      refine ⟨.tuple #[r.v, .bool true], ?_, by rw [E.out]; rfl, y4⟩
      simp [results, Tryz.f113, go_sem, q0, q1, q2, q3]
  case stop =>
    rintro D c pre W hD hpre ⟨h, _⟩ hK
    exact h.elim
theorem find_any (t : Nat) (K : ByteArray) (rs : List Rl) (w : World) (hK : K.size ≤ 281474976710656) (hT : TreeAt w t rs) :
    Calls Tryz.prog 113 #[.pointer (some ⟨t, 0, none⟩), .string K] w fun e w' => (e = .returned (.tuple #[((findR rs K).getD rl0).v, .bool (findR rs K).isSome])) ∧ Below w.heap.size w w' := by
  obtain ⟨F, R, lo, h1, h2, h3⟩ := hT
  exact callsIn_wide.1 (find_in 6 (Nat.le_refl _) t lo R _ K rs F w hK h1 h2 h3)
theorem rhas_any (k p : ByteArray) (w : World) (hk : k.size ≤ 9223372036854775807) (hp : p.size ≤ 9223372036854775807) :
    Calls Tryz.prog 141 #[.string k, .string p] w fun e w' => e = .returned (.bool (decide (cm (lb k) (lb p) = p.size))) ∧ Drew w w' := by
  have c1 := fun W => rcommon_any k p W hk hp
  generalize hm : cm (lb k) (lb p) = m at *
  have e : ((m : Int) == (p.size : Int)) = decide (m = p.size) := by
    rw [Bool.eq_iff_iff, beq_iff_eq, decide_eq_true_eq]; omega
  go_enter Tryz.func141, Tryz.ntmps141
  go_wp2_with (go_at_call 84; refine (c1 _).mono ?_; rintro e w1 ⟨rfl, b1⟩)
  go_ret
  exact ⟨rfl, b1⟩
theorem dbel {w w' : World} (h : Drew w w') : Below w.heap.size w w' := h.kept.2
def atI : Option Nat → Int
  | none => -1
  | some j => (j : Int)
theorem best_lt {rs : List Rl} {K : ByteArray} {n j : Nat} (h : bestT rs K n = some j) : j < n := by
  rcases best_is rs K n with ⟨e, _⟩ | ⟨k, e, B⟩
  · rw [e] at h; cases h
  · rw [e] at h; cases h; exact B.lt
set_option maxHeartbeats 2000000 in
theorem prfind_any (A : Option Addr) (n cap : Nat) (rs : List Rl) (K : ByteArray) (w : World) (h : Rls w A n rs) (hn : n ≤ 9223372036854775806) (hK : K.size ≤ 9223372036854775807) :
    Calls Tryz.prog 85 #[.slice A n cap, .string K] w fun e w' => e = .returned (.tuple #[((findR rs K).getD rl0).v, .bool (findR rs K).isSome]) ∧ Below w.heap.size w w' := by
  have H := Lib.hid h
  have hl := Lib.hid h.1
  clear h
  go_enter Tryz.func85, Tryz.ntmps85
  go_wp2
  have b0 := Blk.new w #[.string ⟨#[]⟩, .int .u64 0, .int .u64 0, .int .u8 0] 79
  have k0 := (Below.refl _ w).alloc (Nat.le_refl _) (.cells #[.string ⟨#[]⟩, .int .u64 0, .int .u64 0, .int .u8 0] 79)
  have hs0 : (w.alloc (.cells #[.string ⟨#[]⟩, .int .u64 0, .int .u64 0, .int .u8 0] 79)).heap.size = w.heap.size + 1 := by simp
  generalize hW0 : w.alloc (.cells #[.string ⟨#[]⟩, .int .u64 0, .int .u64 0, .int .u8 0] 79) = W0 at *
  clear hW0
  have HB0 := Lib.hid b0
  have HK0 := Lib.hid k0
  clear b0 k0
  go_loopw [6, 7] (fun at_ i wr => ∃ (k : Nat) (o : Option Nat), at_ = .int .i64 (atI o) ∧ i = .int .i64 (k : Int) ∧ k ≤ n ∧ Hid (bestT rs K k = o) ∧ Below W0.heap.size W0 wr) (fun _ i _ => n - (intOf i).toNat)
  case atStart => exact ⟨0, none, rfl, rfl, Nat.zero_le _, Lib.hid rfl, Below.refl _ _⟩
  case round =>
    obtain ⟨k, o, rfl, rfl, hk, HO, hB⟩ := hrel
    have kk := Lib.hid (HK0.out.trans (hB.mono (by omega)))
    have HB := Lib.hid hB
    clear hB
    by_cases hlt : k < n
    · obtain ⟨b, off, rfl, hb, hc⟩ := (H.out.below kk.out).2.2 (by omega)
      have z0 := cell_regrown (hc k hlt).1
      have hpk := (H.out.ok k).p
      have HST := Lib.hid (show bestT rs K (k + 1) = if hsK K (fnOf rs k).p && (match bestT rs K k with | none => true | some j => decide ((fnOf rs j).p.size < (fnOf rs k).p.size)) then some k else bestT rs K k from rfl)
      rw [HO.out] at HST
      have C := fun d os => Calls.regrown_of (d := d) (os := os) (w := wr) ((rhas_any K (fnOf rs k).p (grow (redrawn wr d) os) hK (by omega)).mono (fun e w' h => ⟨h.1, dbel h.2⟩))
      have hq : Hid (decide (cm (lb K) (lb (fnOf rs k).p) = (fnOf rs k).p.size) = hsK K (fnOf rs k).p) := Lib.hid rfl
      generalize decide (cm (lb K) (lb (fnOf rs k).p) = (fnOf rs k).p.size) = q at C hq
      have hw1 : IntKind.i64.wrap ((k : Int) + 1) = (k : Int) + 1 := by rw [IntKind.wrap_i64]; omega
      cases o with
      | none =>
        have a0 : (atI none : Int) = -1 := rfl
        generalize (fnOf rs k).p = pk at *
        clear hc
        simp only [a0]
        clear a0
        cases q
        · have HE : Hid (bestT rs K (k + 1) = none) := Lib.hid (by rw [HST.out, ← hq.out]; rfl)
          go_wp2_with fail
          refine wp_region_quiet_below (by kernel_rfl) (by kernel_rfl) ?_
          repeat (go_big_quiet_step (with_reducible exact C _ _))
          refine wpQuiet_nil ?_
          intro _ hw'
          obtain ⟨⟨dq, osq⟩, hw''⟩ := hw'
          subst hw''
          have kB := Lib.hid (kbq HB.out (below_regrown wr dq osq))
          go_wp2
          go_roundw
          case rel => exact ⟨k + 1, none, rfl, rfl, hlt, Lib.hid (HE.out), kB.out⟩
          case measure => simp [intOf]; omega
        · have HE : Hid (bestT rs K (k + 1) = some k) := Lib.hid (by rw [HST.out, ← hq.out]; rfl)
          go_wp2_with fail
          refine wp_region_quiet_below (by kernel_rfl) (by kernel_rfl) ?_
          repeat (go_big_quiet_step (with_reducible exact C _ _))
          refine wpQuiet_nil ?_
          intro _ hw'
          obtain ⟨⟨dq, osq⟩, hw''⟩ := hw'
          subst hw''
          have kB := Lib.hid (kbq HB.out (below_regrown wr dq osq))
          go_wp2
          go_roundw
          case rel => exact ⟨k + 1, some k, rfl, rfl, hlt, Lib.hid (HE.out), kB.out⟩
          case measure => simp [intOf]; omega
      | some j =>
        have hjk : j < k := best_lt HO.out
        have z1 := cell_regrown (hc j (by omega)).1
        have hpj := (H.out.ok j).p
        have a0 : (atI (some j) : Int) = (j : Int) := rfl
        replace HST : Hid (bestT rs K (k + 1) = if hsK K (fnOf rs k).p && decide ((fnOf rs j).p.size < (fnOf rs k).p.size) then some k else some j) := HST
        generalize (fnOf rs k).p = pk at *
        generalize (fnOf rs j).p = pj at *
        clear hc
        simp only [a0]
        clear a0
        have j0 : (0 : Int) ≤ (j : Int) := Int.natCast_nonneg _
        have j1 : j < n := by omega
        have j2 : decide ((j : Int) < 0) = false := decide_eq_false (by omega)
        cases q
        · have HE : Hid (bestT rs K (k + 1) = some j) := Lib.hid (by rw [HST.out, ← hq.out]; rfl)
          go_wp2_with fail
          refine wp_region_quiet_below (by kernel_rfl) (by kernel_rfl) ?_
          repeat (go_big_quiet_step (with_reducible exact C _ _))
          refine wpQuiet_nil ?_
          intro _ hw'
          obtain ⟨⟨dq, osq⟩, hw''⟩ := hw'
          subst hw''
          have kB := Lib.hid (kbq HB.out (below_regrown wr dq osq))
          go_wp2
          go_roundw
          case rel => exact ⟨k + 1, some j, rfl, rfl, hlt, Lib.hid (HE.out), kB.out⟩
          case measure => simp [intOf]; omega
        · by_cases cs : pj.size < pk.size
          · have HE : Hid (bestT rs K (k + 1) = some k) := Lib.hid (by rw [HST.out, ← hq.out]; simp [cs])
            go_wp2_with fail
            refine wp_region_quiet_below (by kernel_rfl) (by kernel_rfl) ?_
            repeat (go_big_quiet_step (with_reducible exact C _ _))
            refine wpQuiet_nil ?_
            intro _ hw'
            obtain ⟨⟨dq, osq⟩, hw''⟩ := hw'
            subst hw''
            have kB := Lib.hid (kbq HB.out (below_regrown wr dq osq))
            go_wp2
            go_roundw
            case rel => exact ⟨k + 1, some k, rfl, rfl, hlt, Lib.hid (HE.out), kB.out⟩
            case measure => simp [intOf]; omega
          · have HE : Hid (bestT rs K (k + 1) = some j) := Lib.hid (by rw [HST.out, ← hq.out]; simp [cs])
            go_wp2_with fail
            refine wp_region_quiet_below (by kernel_rfl) (by kernel_rfl) ?_
            repeat (go_big_quiet_step (with_reducible exact C _ _))
            refine wpQuiet_nil ?_
            intro _ hw'
            obtain ⟨⟨dq, osq⟩, hw''⟩ := hw'
            subst hw''
            have kB := Lib.hid (kbq HB.out (below_regrown wr dq osq))
            go_wp2
            go_roundw
            case rel => exact ⟨k + 1, some j, rfl, rfl, hlt, Lib.hid (HE.out), kB.out⟩
            case measure => simp [intOf]; omega
    · obtain rfl : k = n := by omega
      have bZ := Lib.hid (HB0.out.below HB.out)
      have hfe : findR rs K = o.map (fnOf rs) := by unfold findR; rw [hl.out, HO.out]
      have HF := Lib.hid hfe
      have z0 := bZ.out.cell 0
      have z1 := bZ.out.cell 1
      have z2 := bZ.out.cell 2
      have z3 := bZ.out.cell 3
      have f0 := bZ.out.fz 0
      have f1 := bZ.out.fz 1
      have f2 := bZ.out.fz 2
      have f3 := bZ.out.fz 3
      simp at z0 z1 z2 z3
      clear hfe
      cases o with
      | none =>
        have a0 : (atI none : Int) = -1 := rfl
        simp only [a0]
        clear a0
        go_wp2
        have y := (((bZ.out.set 0 (.string ⟨#[]⟩)).set 1 (.int .u64 0)).set 2 (.int .u64 0)).set 3 (.int .u8 0)
        have yk := (((kk.out.setCell (p := ⟨w.heap.size, 0, none⟩) (Nat.le_refl _) (.string ⟨#[]⟩)).setCell (p := ⟨w.heap.size, 1, none⟩) (Nat.le_refl _) (.int .u64 0)).setCell (p := ⟨w.heap.size, 2, none⟩) (Nat.le_refl _) (.int .u64 0)).setCell (p := ⟨w.heap.size, 3, none⟩) (Nat.le_refl _) (.int .u8 0)
        have q0 := y.cell 0
        have q1 := y.cell 1
        have q2 := y.cell 2
        have q3 := y.cell 3
        simp at q0 q1 q2 q3
        refine bodyPost_ret (v := .tuple #[rl0.v, .bool false]) ?_ rfl ⟨by rw [HF.out]; rfl, yk⟩
        simp [results, Tryz.f85, go_sem, q0, q1, q2, q3]
      | some j =>
        have hjk : j < k := best_lt HO.out
        obtain ⟨b, off, rfl, hb, hc⟩ := (H.out.below kk.out).2.2 (by omega)
        obtain ⟨r0, r1, r2, r3⟩ := hc j hjk
        have a0 : (atI (some j) : Int) = (j : Int) := rfl
        have j0 : (0 : Int) ≤ (j : Int) := Int.natCast_nonneg _
        have j2 : decide ((j : Int) < 0) = false := decide_eq_false (by omega)
        have HF2 : Hid (findR rs K = some (fnOf rs j)) := Lib.hid HF.out
        generalize fnOf rs j = r at *
        simp only [a0]
        clear a0 hc
        go_wp2
        have y := (((bZ.out.set 0 (.string r.p)).set 1 (.int .u64 r.e)).set 2 (.int .u64 r.b)).set 3 (.int .u8 r.k)
        have yk := (((kk.out.setCell (p := ⟨w.heap.size, 0, none⟩) (Nat.le_refl _) (.string r.p)).setCell (p := ⟨w.heap.size, 1, none⟩) (Nat.le_refl _) (.int .u64 r.e)).setCell (p := ⟨w.heap.size, 2, none⟩) (Nat.le_refl _) (.int .u64 r.b)).setCell (p := ⟨w.heap.size, 3, none⟩) (Nat.le_refl _) (.int .u8 r.k)
        have q0 := y.cell 0
        have q1 := y.cell 1
        have q2 := y.cell 2
        have q3 := y.cell 3
        simp at q0 q1 q2 q3
        refine bodyPost_ret (v := .tuple #[r.v, .bool true]) ?_ rfl ⟨by rw [HF2.out]; rfl, yk⟩
        simp [results, Tryz.f85, go_sem, q0, q1, q2, q3]
end Go.Proofs.YtbejkcdaefkibaaGreat.Wd
