/- What pack.lay, number.value and put answer; no conditions but those that each names. -/
import Derived.Test.YtbejkcdaefkibaaPacM
import Derived.Laws.Rows
import Derived.Laws.Tables
import Derived.Laws.ResultCell
import Derived.Laws.BitsLemmas
import Derived.Laws.CopyRow
import Derived.Laws.IdiomCopy
import Derived.Lib.AppendStr
import Derived.Laws.MakeOwn
import Derived.Deep.WholeRow
import Derived.Deep.AppendLies
import Derived.Laws.IdiomStrings
import Derived.Laws.IdiomArrays
namespace Go.Proofs.Ytbejkcdaefkibaa.Wd
open Go Go.RowKit Go.Shelf Go.Deep
set_option linter.unusedVariables false
set_option maxRecDepth 100000

abbrev Tnb : TypeId := 68
/-- The last i bytes of a number, at the end of eight. -/
def row8 (n i : Nat) : Array Value := (List.replicate (8 - i) (Value.int .u8 0) ++ bvs (be i n)).toArray
theorem row8_size (n i : Nat) (h : i ≤ 8) : (row8 n i).size = 8 := by simp [row8, bvs_length, be_len]; omega
theorem row8_set (n i : Nat) (h : i < 8) : (row8 n i).setIfInBounds (7 - i) (.int .u8 ((UInt8.ofNat (n / 256 ^ i)).toNat : Int)) = row8 n (i + 1) := by
  obtain ⟨k, hk⟩ : ∃ k, 8 - i = k + 1 := ⟨7 - i, by omega⟩
  unfold row8
  rw [hk, show 7 - i = k by omega, show 8 - (i + 1) = k by omega, List.setIfInBounds_toArray, List.set_append_left _ _ (by simp), be_cons]
  congr 1
  rw [List.replicate_succ', List.set_append_right _ _ (by simp)]
  simp [bvs]
theorem row8_get (n i : Nat) (h : i < 8) : (row8 n i)[7 - i]? = some (.int .u8 0) := by
  unfold row8
  rw [List.getElem?_toArray, List.getElem?_append_left (by simp; omega), List.getElem?_replicate, if_pos (by omega)]
theorem row8_zero (n : Nat) : row8 n 0 = #[.int .u8 0, .int .u8 0, .int .u8 0, .int .u8 0, .int .u8 0, .int .u8 0, .int .u8 0, .int .u8 0] := by
  simp [row8, List.replicate, be, bvs]
theorem row8_all (n : Nat) : row8 n 8 = (bvs (be 8 n)).toArray := by simp [row8]
theorem row8_info (n i : Nat) (h : i ≤ 8) : (Try.prog.info? Tnb).map (·.size) = some (row8 n i).size := by
  rw [row8_size n i h]; kernel_rfl
theorem row8_one (n i : Nat) : (row8 n i).all (·.oneCell') = true := by
  rw [Array.all_eq_true_iff_forall_mem]
  intro v hv
  simp only [row8, List.mem_toArray, List.mem_append, List.mem_replicate] at hv
  rcases hv with ⟨_, rfl⟩ | hv
  · rfl
  · exact bvs_one _ v hv
theorem Blk.setRow {w : World} {b : Nat} {cs : Array Value} {t : TypeId} (h : Blk w b cs t) (c : Array Value) : Blk (w.setRow b c) b c t := setRow_heap w b cs c t _ h
theorem below_setRow {w0 w : World} {N b : Nat} (h : Below N w0 w) (hb : N ≤ b) (c : Array Value) : Below N w0 (w.setRow b c) :=
  ⟨h.os, h.tape, h.output, by simpa [World.setRow] using h.size, fun k hk => (setRow_other w b k c (by omega)).trans (h.block k hk)⟩

set_option maxHeartbeats 1000000 in
theorem lay_any (n : Nat) (w : World) (hn : n < 18446744073709551616) :
    Calls Try.prog 30 #[.int .u64 (n : Int)] w fun e w' => e = .returned (.agg (row8 n 8)) ∧ Below w.heap.size w w' := by
  have b0 := Lib.hid ((Blk.new w (row8 n 0) Tnb).alloc (.cells (row8 n 0) Tnb))
  have b1 := Lib.hid (Blk.new (w.alloc (.cells (row8 n 0) Tnb)) (row8 n 0) Tnb)
  have k0 := Lib.hid (((Below.refl _ w).alloc (Nat.le_refl _) (.cells (row8 n 0) Tnb)).alloc (by simp) (.cells (row8 n 0) Tnb))
  rw [show (w.alloc (.cells (row8 n 0) Tnb)).heap.size = w.heap.size + 1 by simp] at b1
  rw [row8_zero] at b0 b1 k0
  go_enter Try.func30, Try.ntmps30
  go_wp2_with fail
  generalize ((w.alloc (.cells #[.int .u8 0, .int .u8 0, .int .u8 0, .int .u8 0, .int .u8 0, .int .u8 0, .int .u8 0, .int .u8 0] Tnb)).alloc (.cells #[.int .u8 0, .int .u8 0, .int .u8 0, .int .u8 0, .int .u8 0, .int .u8 0, .int .u8 0, .int .u8 0] Tnb)) = W at *
  rw [← row8_zero n] at b0 b1
  go_loopw [0, 4, 5] (fun s0 s4 s5 wr => ∃ (k m : Nat) (v : Value), s0 = .int .u64 (m : Int) ∧ s4 = v ∧ s5 = .int .i64 (k : Int) ∧ k ≤ 8 ∧ m < 18446744073709551616 ∧ Hid (m = n / 256 ^ k) ∧ Blk wr w.heap.size (row8 n 0) Tnb ∧ Blk wr (w.heap.size + 1) (row8 n k) Tnb ∧ Below w.heap.size w wr) (fun _ _ s5 _ => 8 - (intOf s5).toNat)
  case atStart => exact ⟨0, n, _, rfl, rfl, rfl, by omega, hn, Lib.hid (by simp), b0.out, b1.out, k0.out⟩
  case round =>
    obtain ⟨k, m, v, rfl, rfl, rfl, hk, hm, E, bb, br, kb⟩ := hrel
    by_cases hlt : k < 8
    · obtain ⟨j, hj⟩ : ∃ j : Nat, (7 : Int) - (k : Int) = (j : Int) := ⟨7 - k, by omega⟩
      have hj2 : j = 7 - k := by omega
      have hj8 : j < 8 := by omega
      have c1 : wr.cell? ⟨w.heap.size + 1, j, none⟩ = some (.int .u8 0) := by rw [br.cell j, hj2]; exact row8_get n k hlt
      have f1 := br.fz j
      obtain ⟨B, hB⟩ : ∃ B : Int, IntKind.u8.wrap (m : Int) = B := ⟨_, rfl⟩
      have hB2 : B = ((UInt8.ofNat (n / 256 ^ k)).toNat : Int) := by
        rw [← hB, ← E.out, IntKind.wrap_u8]; show _ = ((m % 256 : Nat) : Int); omega
      have HB2 := Lib.hid hB2
      have HJ := Lib.hid hj2
      have BB := Lib.hid bb
      have BR := Lib.hid br
      have KB := Lib.hid kb
      clear hB2 hj2 bb br kb b0 b1 k0
      go_wp2
      go_roundw
      case rel =>
        refine ⟨k + 1, m / 256, _, by go_num, rfl, by go_num, by omega, by omega, Lib.hid (by rw [E.out, Nat.div_div_eq_div_mul, pow_s]), BB.out.other _ _ (by omega), ?_, KB.out.setCell (p := ⟨w.heap.size + 1, j, none⟩) (Nat.le_succ _) _⟩
        have z := BR.out.set j (.int .u8 B)
        rwa [HJ.out, HB2.out, row8_set n k hlt, ← HB2.out, ← HJ.out] at z
      case measure => simp [intOf]; omega
    · obtain rfl : k = 8 := by omega
      go_wp2_with (first
        | (refine wpList_load_row rfl Tnb _ rfl (w.heap.size + 1) rfl Tnb (row8 n 8) (0, 0) _ br Try.underlying68 rfl (row8_info n 8 (by omega)) ?_)
        | (refine wpList_store_row rfl Tnb _ _ rfl w.heap.size (row8 n 8) rfl rfl Tnb (row8 n 0) bb (row8_info n 8 (by omega)) (by rw [row8_size _ _ (by omega), row8_size _ _ (by omega)]) (row8_one _ _) ?_))
      have z := bb.setRow (row8 n 8)
      refine bodyPost_ret (v := .agg (row8 n 8)) (results_cell_row Try.results30 _ _ w.heap.size Tnb (row8 n 8) (0, 0) _ rfl z Try.underlying68 rfl (row8_info n 8 (by omega))) rfl ⟨rfl, below_setRow kb (Nat.le_refl _) _⟩

/-- Eight bytes as values. -/
abbrev agB (l : List UInt8) : Array Value := (bvs l).toArray
theorem agB_size (l : List UInt8) : (agB l).size = l.length := by simp [bvs_length]
theorem agB_info (l : List UInt8) (h : l.length = 8) : (Try.prog.info? Tnb).map (·.size) = some (agB l).size := by
  rw [agB_size, h]; kernel_rfl
theorem agB_one (l : List UInt8) : (agB l).all (·.oneCell') = true := by
  rw [Array.all_eq_true_iff_forall_mem]
  intro v hv
  exact bvs_one l v (by simpa using hv)
theorem agB_at (l : List UInt8) (k : Nat) (h : k < l.length) : (agB l)[k]? = some (.int .u8 (l[k].toNat : Int)) := by
  simp [bvs, h]
theorem index8 (l : List UInt8) (k : Nat) (hl : l.length = 8) (h : k < l.length) (W : World) : (Instr.index Tnb (.agg (agB l)) (.int .i64 (k : Int))).run Try.prog W = .ok (.int .u8 (l[k].toNat : Int)) W := by
  have e := agB_at l k h
  have g : k < 8 := by omega
  simp [Instr.index, run_underlying Try.underlying68, asIntOf, g]
  simp [part, isAgg, run_underlying Try.underlying5, e]
theorem wraps64 (n : Int) (h0 : 0 ≤ n) (h1 : n < 2 ^ 64) : IntKind.u64.wrap n = n := by rw [IntKind.wrap_u64]; omega
theorem vl_take (l : List UInt8) (k : Nat) (h : k < l.length) : vl (l.take (k + 1)) = vl (l.take k) * 256 + l[k].toNat := by
  rw [List.take_add_one, List.getElem?_eq_getElem h]
  exact vl_app _ _
theorem vl_zeros (l : List UInt8) : ∀ k, vl (List.replicate k 0 ++ l) = vl l := by
  intro k
  unfold vl
  rw [List.foldl_append]
  congr 1
  induction k with
  | zero => rfl
  | succ k ih => rw [List.replicate_succ, List.foldl_cons]; exact ih

set_option maxHeartbeats 1000000 in
theorem value_any (l : List UInt8) (w : World) (hl : l.length = 8) :
    Calls Try.prog 37 #[.agg (agB l)] w fun e w' => e = .returned (.int .u64 (vl l : Int)) ∧ Below w.heap.size w w' := by
  have b0 := Blk.new w (agB l) Tnb
  have k0 := Lib.hid ((Below.refl _ w).alloc (Nat.le_refl _) (.cells (agB l) Tnb))
  have E0 := Lib.hid (agB_info l hl)
  go_enter Try.func37, Try.ntmps37
  go_wp2_with (first
    | (refine wpList_load_row rfl Tnb _ rfl w.heap.size rfl Tnb (agB l) (0, 0) _ b0 Try.underlying68 rfl E0.out ?_))
  replace b0 := Lib.hid b0
  have IX := Lib.hid (fun (k : Nat) (h : k < l.length) W => index8 l k hl h W)
  generalize (w.alloc (.cells (agB l) Tnb)) = W at *
  generalize agB l = G at *
  go_loopw [3, 5, 7] (fun s3 s5 s7 wr => ∃ (k m : Nat) (v : Value), s3 = .int .u64 (m : Int) ∧ s5 = v ∧ s7 = .int .i64 (k : Int) ∧ k ≤ 8 ∧ Hid (m = vl (l.take k)) ∧ wr = W) (fun _ _ s7 _ => 8 - (intOf s7).toNat)
  case atStart => exact ⟨0, 0, _, rfl, rfl, rfl, by omega, Lib.hid rfl, rfl⟩
  case round =>
    obtain ⟨k, m, v, rfl, rfl, rfl, hk, E, rfl⟩ := hrel
    by_cases hlt : k < 8
    · have hkl : k < l.length := by omega
      have ix := IX.out k hkl wr
      obtain ⟨c, hc⟩ : ∃ c : Nat, l[k].toNat = c := ⟨_, rfl⟩
      have hc2 : c < 256 := by rw [← hc]; exact l[k].toNat_lt
      rw [hc] at ix
      have hm : m < 72057594037927936 := by
        rw [E.out]
        have h := vl_lt k (l.take k) (by rw [List.length_take]; omega)
        have h2 : 256 ^ k ≤ 256 ^ 7 := Nat.pow_le_pow_right (by decide) (by omega)
        exact Nat.lt_of_lt_of_le h h2
      have hw : IntKind.u64.wrap ((m : Int) * 256) = (m : Int) * 256 := by rw [IntKind.wrap_u64]; omega
      have ho : bits .or .u64 ((m : Int) * 256) (c : Int) = ((m * 256 + c : Nat) : Int) := by
        rw [Go.bits_join .u64 64 (by decide) wraps64 8 _ _ (by omega) (by omega) (by omega) (by omega) (by omega) (by omega)]
        omega
      have HC := Lib.hid hc
      have K0 := k0
      clear hc
      go_wp2
      go_roundw
      case rel => exact ⟨k + 1, m * 256 + c, _, by go_num, rfl, by go_num, by omega, Lib.hid (by rw [vl_take l k hkl, HC.out, E.out]), by first | rfl | trivial⟩
      case measure => simp [intOf]; omega
    · obtain rfl : k = 8 := by omega
      have e : m = vl l := by rw [E.out, List.take_of_length_le (by omega)]
      subst e
      go_wp2
      go_ret
      exact ⟨rfl, k0.out⟩

/-- What a row owns is no block of another kind. -/
theorem BRow.far {w : World} {base : Nat} {v : Value} {l : List UInt8} (h : BRow w base v l) {b : Nat} {cs : Array Value} {t : TypeId} (hb : Blk w b cs t) (ht : t ≠ 5) : v.ownBlock = none ∨ some b ≠ v.ownBlock := by
  rcases h.2 with ⟨rfl, _⟩ | ⟨g, cap, cur, rfl, _, hg, _⟩
  · exact .inl rfl
  · right
    intro e
    simp only [Value.ownBlock, Option.some.injEq] at e
    subst e
    have h1 : w.heap[b]? = some (.cells cs t) := hb
    rw [hg] at h1
    simp only [Option.some.injEq, Obj.cells.injEq] at h1
    exact ht h1.2.1.symm
/-- Blocks of other kinds are as they were, and all below is. -/
structure Gr (base : Nat) (w w' : World) : Prop where
  below : Below base w w'
  blk : ∀ {b : Nat} {cs : Array Value} {t : TypeId}, t ≠ 5 → Blk w b cs t → Blk w' b cs t
theorem Gr.refl (base : Nat) (w : World) : Gr base w w := ⟨Below.refl _ _, fun _ h => h⟩
theorem Gr.trans {base : Nat} {a b c : World} (h : Gr base a b) (g : Gr base b c) : Gr base a c := ⟨h.below.trans g.below, fun ht hb => g.blk ht (h.blk ht hb)⟩
theorem Gr.of {base : Nat} {a b : World} (h : Below a.heap.size a b) (hb : base ≤ a.heap.size) : Gr base a b := ⟨h.mono hb, fun _ x => x.below h⟩
theorem Gr.row {base : Nat} {w w' : World} {v : Value} {l : List UInt8} (h : BRow w base v l) (hb : base ≤ w.heap.size) (g : w.grownBy w' v.ownBlock) : Gr base w w' :=
  ⟨(Below.refl base w).grown g hb (fun k hk => (World.ownsRow.lt h k hk).1), fun {b cs t} ht x => by
    rcases h.far x ht with e | e
    · exact (g.block b x.lt (by rw [e]; simp)).trans x
    · exact (g.block b x.lt e).trans x⟩
theorem Gr.size {base : Nat} {a b : World} (h : Gr base a b) : a.heap.size ≤ b.heap.size := h.below.size

theorem row8_txt (n k b : Nat) (W : World) (hb : Blk W b (row8 n 8) Tnb) (hk : k ≤ 8) : Txt W (some ⟨b, 8 - k, none⟩) k (be k n) := by
  refine ⟨be_len k n, fun _ => ⟨b, 8 - k, rfl, hb.lt, fun j hj => ?_⟩⟩
  have hd : be k n = (be 8 n).drop (8 - k) := by
    have : ∀ d m, be m n = (be (m + d) n).drop d := by
      intro d
      induction d with
      | zero => intro m; rfl
      | succ d ih => intro m; rw [show m + (d + 1) = (m + d) + 1 by omega, be_cons, List.drop_succ_cons]; exact ih m
    have := this (8 - k) k
    rwa [show k + (8 - k) = 8 by omega] at this
  rw [hb.cell, row8_all, List.getElem?_toArray, bvs, List.getElem?_map, hd, List.getD_eq_getElem?_getD, List.getElem?_drop]
  rw [List.getElem?_eq_getElem (by rw [be_len]; omega)]
  rfl
theorem wpList_store_new {P : Program} {ops : Array Oper} {rest : List Oper} {o : Oper} {a : Act} {w : World} {Q : Exit → Act → World → Prop} (hgd : o.guard = none) (ty : TypeId) (x y : Operand) (ho : o.op = .store ty x y)
    (cells old : Array Value) (t : TypeId) (hx : a.eval x = .pointer (some ⟨w.heap.size, 0, none⟩)) (hy : a.eval y = .agg cells)
    (hi : (P.info? ty).map (·.size) = some cells.size) (hold : old.size = cells.size) (h1 : cells.all (·.oneCell') = true)
    (h : wpList P ops Q rest (a.put o.dst undef) (w.alloc (.cells cells t))) : wpList P ops Q (o :: rest) a (w.alloc (.cells old t)) :=
  wpList_store_row hgd ty x y ho w.heap.size cells hx hy t old (heap_alloc_new _ _) hi hold h1 (by rw [World.setRow_alloc_new]; exact h)
set_option maxHeartbeats 1000000 in
theorem put_any (base : Nat) (v : Value) (acc : List UInt8) (n k : Nat) (w : World) (h : BRow w base v acc) (hn : n < 18446744073709551616) (hk : k ≤ 8) (hk0 : 0 < k) (hl : acc.length ≤ 100000000) (hb : base ≤ w.heap.size) :
    Calls Try.prog 22 #[v, .int .u64 (n : Int), .int .i64 (k : Int)] w fun e w' => ∃ v', e = .returned v' ∧ BRow w' base v' (acc ++ be k n) ∧ Gr base w w' := by
  have C := Lib.hid (fun W => lay_any n W hn)
  have hsl : ∀ (b : Nat) (W : World), (Instr.sliceAt Tnb (.pointer (some ⟨b, 0, none⟩)) (some (.int .i64 ((8 - k : Nat) : Int))) none none).run Try.prog W = .ok (.slice (some ⟨b, 8 - k, none⟩) k k) W := fun b W => by
    have hal : Try.prog.arrayLen Tnb = 8 := by kernel_rfl
    rw [run_sliceAt_array_l W Tnb ⟨b, 0, none⟩ (by kernel_rfl) .i64 _ (by omega) (by rw [hal]; omega)]
    rw [hal]
    go_simp
    omega
  have hk8 : (8 : Int) - (k : Int) = ((8 - k : Nat) : Int) := by omega
  go_enter Try.func22, Try.ntmps22
  go_wp2_with (first
    | (go_at_call 30; refine (C.out _).mono ?_; rintro e w1 ⟨rfl, g1⟩)
    | (refine wpList_store_new rfl Tnb _ _ rfl (row8 n 8) _ _ rfl rfl (row8_info n 8 (by omega)) (by rw [row8_size _ _ (by omega)]; rfl) (row8_one _ _) ?_)
    | (have g2 := g1.alloc g1.size (.cells (row8 n 8) Tnb); have hh := h.below g2; refine wpList_app_bytes _ rfl _ _ rfl base v acc rfl hh (some ⟨w1.heap.size, 8 - k, none⟩) k k (be k n) rfl (row8_txt n k _ _ (Blk.new w1 _ _) hk) (fun e => by cases e) (fun ad e => by cases e; rfl) (by omega) (Nat.le_trans hb g2.size) ?_; intro v' w' o' gr'))
  go_ret
  exact ⟨v', rfl, o', (Gr.of g2 hb).trans (Gr.row hh (Nat.le_trans hb g2.size) gr')⟩
end Go.Proofs.Ytbejkcdaefkibaa.Wd
