/- What TableMoves calls: Entries and its keys, when entries are the same, what a deed costs; two tables, one of which goes over; no conditions but those that each names. -/
import Derived.Test.YtkfncanfgpmgaaaGreatTabTa
import Derived.Test.YtkfncanfgpmgaaaGreatTabMa
import Derived.Laws.StructEq
namespace Go.Proofs.YtkfncanfgpmgaaaGreat.Wd
open Go Go.RowKit Go.Deep Go.Shelf
set_option linter.unusedVariables false
set_option maxRecDepth 100000

theorem cell_drew {w w' : World} (g : Drew w w') (p : Addr) : w'.cell? p = w.cell? p := by obtain ⟨n, rfl⟩ := g; rfl
theorem entries_all (o : Option Addr) (QT B : Nat → Prop) (m c : Int) (S : List Sl) (w : World) (h : Ent o w QT B m c S) (hsort : SortC S.length) :
    Calls Tryz.prog 27 #[.pointer o] w fun e w' => ∃ v, ∃ xs : List Sl, e = .returned v ∧ OwE w' w.heap.size v (xs.map (entS c)) ∧ (∀ x ∈ xs, x ∈ S) ∧ Allk S (xs.map (fun x => x.key)) ∧ Below w.heap.size w w' := by
  have CO := Lib.hid h.go
  have b0 := Boxed.new w Ttp (.pointer o)
  have k0 := (Below.refl _ w).alloc (Nat.le_refl _) (.cells #[.pointer o] Ttp)
  have HS := Lib.hid hsort
  clear h hsort
  go_enter Tryz.func27, Tryz.ntmps27
  go_wp2_with (go_at_call 39; refine (CO.out _ k0).mono ?_; rintro e w2 ⟨T, rfl, g2, hQ, hT⟩; refine stopHere ?_)
  unfold Stop
  obtain ⟨M, hM⟩ := hT.tbm
  have b2 : Boxed w2 w.heap.size Ttp (.pointer o) := (g2.block _ (heap_lt b0)).trans b0
  have k2 := kbq k0 g2
  have hs2 := k2.size
  have hM3 := hM.setBox b2 (by decide) (ptr T)
  have b3 := box_put b2 (ptr T)
  have k3 := k2.setCell (p := ⟨w.heap.size, 0, none⟩) (Nat.le_refl _) (ptr T)
  have C := callsIn_wide.1 (eall_in 8 (by omega) w.heap.size T M B m c S _ hM3 HS.out b3.cell)
  have c2 := b2.cell
  have f2 := b2.frozen
  clear hM hM3 hT b2 g2 k0 b0 HS CO
  have c3 := b3.cell
  have hs3 : (w2.setCell ⟨w.heap.size, 0, none⟩ (ptr T)).heap.size = w2.heap.size := by simp
  clear b3
  go_wp2_with (go_at_call 48; refine C.mono ?_; rintro e w4 ⟨v, xs, rfl, h1, h2, h3, h4⟩)
  go_ret
  exact ⟨_, _, rfl, own_base (by omega) h1, h2, h3, k3.trans (h4.mono (by omega))⟩
/-- Entries that are the same are told so. -/
theorem entry_same (v1 v2 : Value) (b1 b2 : Nat) (xs : List En) (w : World) (h1 : OwE w b1 v1 xs) (h2 : OwE w b2 v2 xs) (hn : xs.length ≤ 1099511627776) :
    Calls Tryz.prog 26 #[v1, v2] w fun e w' => e = .returned (.bool true) ∧ Drew w w' := by
  obtain ⟨A1, c1, rfl, _, _, hf1⟩ := h1.form
  obtain ⟨A2, c2, rfl, _, _, hf2⟩ := h2.form
  have HF1 := Lib.hid hf1
  have HF2 := Lib.hid hf2
  clear hf1 hf2 h1 h2
  go_enter Tryz.func26, Tryz.ntmps26
  go_wp2
  go_loopw [5] (fun i wr => ∃ q : Nat, i = .int .i64 (q : Int) ∧ q ≤ xs.length ∧ Drew w wr) (fun i _ => xs.length - (intOf i).toNat)
  case atStart => exact ⟨0, rfl, Nat.zero_le _, Drew.refl _⟩
  case round =>
    obtain ⟨q, rfl, hq, hd⟩ := hrel
    by_cases hlt : q < xs.length
    · obtain ⟨a, rfl, _, _, hr1⟩ := HF1.out (by omega)
      obtain ⟨b, rfl, _, _, hr2⟩ := HF2.out (by omega)
      obtain ⟨y0, y1⟩ := hr1 q hlt
      obtain ⟨z0, z1⟩ := hr2 q hlt
      have HD := Lib.hid hd
      rw [← cell_drew hd] at y0 y1 z0 z1
      generalize atE xs q = y at *
      clear hr1 hr2 hd
      go_wp2_with fail
      go_quiet (fail)
      go_wp2
      go_roundw
      case rel => exact ⟨q + 1, by go_num, by omega, HD.out.trans (Drew.of _ _)⟩
      case measure => simp [intOf]; omega
    · go_wp2
      go_ret
      exact ⟨rfl, hd⟩
/-- What a deed costs. -/
def costI (d : Dd) : Int := if 60000 ≤ d.n then 18446744073709551615 - d.n else d.n % 6
theorem costI_U {d : Dd} (h : 0 ≤ d.n ∧ d.n ≤ 65535) : U (costI d) := by unfold costI U; split <;> omega
theorem cost_any (d : Dd) (ka : Option Addr) (kn kc : Nat) (w : World) (hn : 0 ≤ d.n ∧ d.n ≤ 65535) :
    Calls Tryz.prog 25 #[d.v ka kn kc] w fun e w' => e = .returned (.int .u64 (costI d)) ∧ Below w.heap.size w w' := by
  have kr := (Below.refl _ w).alloc (Nat.le_refl _) (.cells #[.int .u8 d.kind, .int .u32 d.wait, .int .u8 d.big, .slice ka kn kc, .int .u8 d.rule, .int .u16 d.n, .int .u8 d.dest] 40)
  have tm6 : d.n.tmod 6 = d.n % 6 := Int.tmod_eq_emod_of_nonneg hn.1
  have w1 : IntKind.u64.wrap (d.n % 6) = d.n % 6 := by rw [IntKind.wrap_u64]; omega
  have w2 : IntKind.u64.wrap d.n = d.n := by rw [IntKind.wrap_u64]; omega
  have w3 : IntKind.u64.wrap (18446744073709551615 - d.n) = 18446744073709551615 - d.n := by rw [IntKind.wrap_u64]; omega
  unfold costI
  by_cases h : 60000 ≤ d.n
  · have hq := decide_eq_true h
    rw [if_pos h]
    go_enter Tryz.func25, Tryz.ntmps25
    go_wp2
    go_ret
    exact ⟨rfl, kr⟩
  · have hq := decide_eq_false h
    rw [if_neg h]
    go_enter Tryz.func25, Tryz.ntmps25
    go_wp2
    go_ret
    exact ⟨rfl, kr⟩
/-! ### Two tables, one of which goes over -/
section
variable {w w' : World} {n0 T Y : Nat} {m1 c1 m2 c2 : Int} {S1 S2 : List Sl}
theorem Pr.perm2 {S3 : List Sl} (h : Pr w n0 T Y m1 c1 S1 m2 c2 S2) (p : S2.Perm S3) : Pr w n0 T Y m1 c1 S1 m2 c2 S3 := by
  obtain ⟨h0, B1, B2, h1, h2, r⟩ := h
  exact ⟨h0, B1, B2, h1, h2.perm p, r⟩
theorem Pr.move1 (h : Pr w n0 T Y m1 c1 S1 m2 c2 S2) (k : ByteArray) (k2 : Int) (hk : k.size ≤ 9223372036854775807) (h3 : Is3 k2) :
    Calls Tryz.prog 22 #[ptr T, .string k, .int .u8 k2] w fun e w' => e = .returned (.int .u16 (mvE S1 k)) ∧ Hid (Pr w' n0 T Y m1 c1 (mvN c1 k2 S1 k) m2 c2 S2) ∧ Tch (fun k => n0 ≤ k) w w' := by
  obtain ⟨h0, B1, B2, h1, h2, h4, h5, h6⟩ := h
  refine (move_of (some ⟨T, 0, none⟩) (fun x => x = T) B1 m1 c1 S1 k k2 w (Ent.yes h1) hk h3).mono ?_
  rintro e w' ⟨rfl, g, _, rfl, t⟩
  exact ⟨rfl, pr_turn h0 h2 h4 h5 h6 g t⟩
theorem Pr.mvall1 (h : Pr w n0 T Y m1 c1 S1 m2 c2 S2) (k2 : Int) (h3 : Is3 k2) (hfl : ∀ s ∈ S1, flS c1 (mvS c1 k2 s) ≠ 0) (hsort : SortC S1.length) :
    Calls Tryz.prog 23 #[ptr T, .int .u8 k2] w fun e w' => e = .returned (.tuple #[.int .i64 (S1.length : Int), .int .u16 0]) ∧ Hid (Pr w' n0 T Y m1 c1 (S1.map (mvS c1 k2)) m2 c2 S2) ∧ Tch (fun k => n0 ≤ k) w w' := by
  obtain ⟨h0, B1, B2, h1, h2, h4, h5, h6⟩ := h
  refine (mvall_of (some ⟨T, 0, none⟩) (fun x => x = T) B1 m1 c1 k2 S1 w (Ent.yes h1) h3 hfl hsort).mono ?_
  rintro e w' ⟨rfl, g, _, rfl, t⟩
  exact ⟨rfl, pr_turn h0 h2 h4 h5 h6 g t⟩
theorem Pr.entries1 (h : Pr w n0 T Y m1 c1 S1 m2 c2 S2) (hsort : SortC S1.length) :
    Calls Tryz.prog 27 #[ptr T] w fun e w' => ∃ v, ∃ xs : List Sl, e = .returned v ∧ OwE w' w.heap.size v (xs.map (entS c1)) ∧ (∀ x ∈ xs, x ∈ S1) ∧ Allk S1 (xs.map (fun x => x.key)) ∧ Below w.heap.size w w' := by
  obtain ⟨h0, B1, B2, h1, _⟩ := h
  exact entries_all _ _ B1 m1 c1 S1 w (Ent.yes h1) hsort
end
end Go.Proofs.YtkfncanfgpmgaaaGreat.Wd
