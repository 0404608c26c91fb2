/- What digit's calls answer, for any numbers and texts; no conditions. -/
import Derived.Test.YtpkpmbigljkneaaDoorMath
import Derived.Test.YtpkpmbigljkneaaDoorDigMath
import Derived.Test.YtpkpmbigljkneaaDoorRows
import Derived.WalkKit
import Derived.ProofKit
import Derived.OpenShut
import Derived.Handy
import Derived.Lib.Hide
import Derived.Lib.BufferWrite
import Derived.Laws.IdiomStrings
import Derived.Laws.ResultCell
import Derived.Laws.Rows
import Derived.ScopeJumps
import Derived.WalkMore
import Derived.WalkLawsBesides
import Derived.WalkSpells
import Derived.Deep.RegionHeld3
import Derived.Deep.WholeRow
namespace Go.Proofs.YtpkpmbigljkneaaDoor.Wd
open Go.RowKit Go.Lib

/-- A loop of goto, its body walked once: whoever comes to the label comes as one who jumps there. -/
theorem wp_scope_once {P : Program} {a : Act} {w : World} {Q : Exit → Act → World → Prop} {c rest : Code} (l : Nat) (J : Act → World → Prop) (μ : Act → World → Nat) (hf : findLabel c l = some (Code.skip.seq rest))
    (pass : ∀ a w, J a w → rest.wp P (Exit.jump l (fun a' w' => J a' w' ∧ μ a' w' < μ a w) Q) a w)
    (first : (∀ a w, J a w → rest.wp P (Exit.jump l J Q) a w) → c.wp P (Exit.jump l J Q) a w) : (Code.scope c).wp P Q a w := by
  refine wp_scope_jumps l J μ hf (first fun a w h => Code.wp_mono ?_ (pass a w h)) (fun a w h => wp_seq (wp_skip (pass a w h)))
  intro e a' w' h'
  cases e <;> first | exact h' | exact ⟨h'.1, h'.2.1⟩

/-- The digits that there are, at the end of twenty bytes. -/
def rowOf (l : List UInt8) : Array Value := (List.replicate (20 - l.length) (Value.int .u8 0) ++ l.map fun b => Value.int .u8 (b.toNat : Int)).toArray
theorem rowOf_nil : rowOf [] = #[.int .u8 0, .int .u8 0, .int .u8 0, .int .u8 0, .int .u8 0, .int .u8 0, .int .u8 0, .int .u8 0, .int .u8 0, .int .u8 0, .int .u8 0, .int .u8 0, .int .u8 0, .int .u8 0, .int .u8 0, .int .u8 0, .int .u8 0, .int .u8 0, .int .u8 0, .int .u8 0] := by
  simp [rowOf, List.replicate]
theorem rowOf_size (l : List UInt8) (h : l.length ≤ 20) : (rowOf l).size = 20 := by simp [rowOf]; omega
theorem rowOf_at (l : List UInt8) (j : Nat) (_h : l.length ≤ 20) (hj : j < l.length) : (rowOf l)[20 - l.length + j]? = some (.int .u8 (l[j].toNat : Int)) := by
  unfold rowOf
  rw [List.getElem?_toArray, List.getElem?_append_right (by simp)]
  simp [hj]
theorem rowOf_set (l : List UInt8) (b : UInt8) (i : Nat) (h : l.length < 20) (hi : i = 19 - l.length) : (rowOf l).setIfInBounds i (.int .u8 (b.toNat : Int)) = rowOf (b :: l) := by
  subst hi
  obtain ⟨k, hk⟩ : ∃ k, 20 - l.length = k + 1 := ⟨19 - l.length, by omega⟩
  have hk2 : 19 - l.length = k := by omega
  have hk3 : 20 - (b :: l).length = k := by simp; omega
  unfold rowOf
  rw [hk, hk2, hk3, List.setIfInBounds_toArray, List.set_append_left _ _ (by simp)]
  congr 1
  rw [List.replicate_succ', List.set_append_right _ _ (by simp)]
  simp

theorem setRow_alloc_past (w : World) (o : Obj) (n : Nat) (c : Array Value) (h : n < w.heap.size) : (w.alloc o).setRow n c = (w.setRow n c).alloc o := by
  simp only [World.setRow, World.alloc]
  congr 1
  apply Array.ext_getElem?
  intro i
  rw [Array.getElem?_modify, Array.getElem?_push, Array.getElem?_push, Array.getElem?_modify]
  by_cases e : n = i
  · subst e
    have e' : ¬ n = w.heap.size := by omega
    simp [e']
  · simp [e]
theorem rowOf_info (l : List UInt8) (h : l.length ≤ 20) : (Tryd.prog.info? 81).map (·.size) = some (rowOf l).size := by
  rw [rowOf_size l h]; kernel_rfl
theorem rowOf_one (l : List UInt8) : (rowOf l).all (·.oneCell') = true := by
  rw [Array.all_eq_true_iff_forall_mem]
  intro v hv
  simp only [rowOf, List.mem_toArray, List.mem_append, List.mem_replicate, List.mem_map] at hv
  rcases hv with ⟨_, rfl⟩ | ⟨b, _, rfl⟩ <;> rfl

theorem lay_any (n : Nat) (w : World) (hn : n < 18446744073709551616) :
    Calls Tryd.prog 46 #[.int .u64 n] w fun e w' => e = .returned (.tuple #[.agg (rowOf (decDigits n)), .int .i64 ((20 - (decDigits n).length : Nat) : Int)]) ∧ Kept w w' := by
  have hL := dec_len20 n hn
  go_enter Tryd.func46, Tryd.ntmps46
  go_wp2
  refine wp_scope_once 0 (fun a' w' => ∃ (m : Nat) (suf : List UInt8) (u0 u1 u2 u3 u4 u5 u6 u7 u8 u9 u10 u11 u12 u13 : Value), w' = (w.alloc (.cells (rowOf []) 81)).alloc (.cells (rowOf suf) 81) ∧ decDigits n = decDigits m ++ suf ∧ m ≤ 18446744073709551615 ∧
    a' = { tmps := #[.int .u64 m, undef, .pointer (some { block := w.heap.size, off := 0 }), .int .i64 0, .pointer (some { block := w.heap.size + 1, off := 0 }), .int .i64 ((20 - suf.length : Nat) : Int), u0, u1, u2, u3, u4, u5, u6, u7, u8, u9, u10, u11, u12, u13], defers := [] })
    (fun a' _ => (intOf (a'.tmps.getD 0 undef)).toNat) rfl ?_ ?_
  · rintro a' w' ⟨m, suf, u0, u1, u2, u3, u4, u5, u6, u7, u8, u9, u10, u11, u12, u13, rfl, hd, hm, rfl⟩
    have hl : suf.length < 20 := by
      have := congrArg List.length hd
      have := dec_len1 m
      simp at *; omega
    obtain ⟨k, hk⟩ : ∃ k, 20 - suf.length = k + 1 := ⟨19 - suf.length, by omega⟩
    obtain ⟨B, hB⟩ : ∃ B, B = UInt8.ofNat (48 + m % 10) := ⟨_, rfl⟩
    have hch : (B.toNat : Int) = 48 + (m : Int) % 10 := by rw [hB, ch_toNat (m % 10) (by omega)]; omega
    have hset := rowOf_set suf B k hl (by omega)
    rw [hch] at hset
    have hl2 : (B :: suf).length ≤ 20 := by simp; omega
    have hk2 : 20 - (B :: suf).length = k := by simp; omega
    have hget : (rowOf suf)[k]? = some (.int .u8 0) := by
      unfold rowOf
      rw [List.getElem?_toArray, List.getElem?_append_left (by simp; omega), List.getElem?_replicate, if_pos (by omega)]
    have hk20 : k < 20 := by omega
    rw [hk]
    have hbig := @dec_big m
    have hsm := @dec_small m
    generalize hS : B :: suf = S at *
    have D := Lib.hid hd
    have DB := Lib.hid hB
    have DS := Lib.hid hS
    have DK := Lib.hid hk2
    have DG := Lib.hid hbig
    have DM := Lib.hid hsm
    clear hd hB hch hS hk hl hk2 hbig hsm
    by_cases hm10 : m < 10
    · have hz : (m : Int) / 10 = 0 := by omega
      go_wp2_with (first
        | (refine wpList_load_row rfl 81 _ rfl (w.heap.size + 1) rfl 81 (rowOf S) (0, 0) _ (heap_alloc2_new _ _ _) Tryd.underlying81 rfl (rowOf_info _ hl2) ?_)
        | (refine wpList_store_row rfl 81 _ _ rfl w.heap.size (rowOf S) rfl rfl 81 (rowOf []) (heap_alloc2_old _ _ _) (rowOf_info _ hl2) (by rw [rowOf_size _ hl2]; rfl) (rowOf_one _) ?_))
      simp only [Exit.jump]
      rw [setRow_alloc_past _ _ _ _ (by simp), World.setRow_alloc_new]
      refine bodyPost_ret (v := .tuple #[.agg (rowOf S), .int .i64 k]) ?_ rfl ⟨?_, ?_⟩
      · rw [results_cell_tmp Tryd.results46]
        have e := run_loadVar_row (P := Tryd.prog) ((w.alloc (.cells (rowOf S) 81)).alloc (.cells (rowOf S) 81)) w.heap.size 81 81 (rowOf S) (0, 0) _ (heap_alloc2_old _ _ _) Tryd.underlying81 rfl (rowOf_info _ hl2)
        show (Result.andThen (.ok (⟨w.heap.size, 0, none⟩ : Addr) _) _) = _
        simp only [Result.andThen_ok]
        rw [e]
        rfl
      · have e : decDigits n = S := by rw [D.out, DM.out hm10, ← DS.out, DB.out, Nat.mod_eq_of_lt hm10]; rfl
        rw [e, DK.out]
      · exact (Kept.refl w).alloc _ _ |>.alloc _ _
    · go_wp2
      go_step3
      have e0 : (m : Int) / 10 = ((m / 10 : Nat) : Int) := by omega
      rw [e0]
      refine ⟨rfl, ⟨m / 10, S, _, _, _, _, _, _, _, _, _, _, _, _, _, _, rfl, ?_, by omega, by rw [DK.out]⟩, ?_⟩
      · rw [D.out, DG.out hm10, ← DS.out, DB.out, List.append_assoc]; rfl
      · simp [intOf]; omega
  · intro H
    go_wp2
    rename_i hK
    go_step3
    rw [← rowOf_nil]
    exact hK _ _ (H _ _ ⟨n, [], _, _, _, _, _, _, _, _, _, _, _, _, _, _, rfl, by simp, by omega, rfl⟩)
end Go.Proofs.YtpkpmbigljkneaaDoor.Wd
