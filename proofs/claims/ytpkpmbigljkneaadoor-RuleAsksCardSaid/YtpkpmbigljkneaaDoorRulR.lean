/- What digit.read and digit.Parse answer, for any text; no conditions. -/
import Derived.Test.YtpkpmbigljkneaaDoorRulP
namespace Go.Proofs.YtpkpmbigljkneaaDoor.Wd
open Go.RowKit Go.Lib

theorem val_take_succ (l : List UInt8) (k : Nat) (h : k < l.length) : val (l.take (k + 1)) = val (l.take k) * 10 + (l[k].toNat - 48) := by
  rw [List.take_add_one, List.getElem?_eq_getElem h]; exact val_snoc _ _
theorem val_take_le (l : List UInt8) (k : Nat) : val (l.take k) ≤ val l := by
  have := val_front (l.take k) (l.drop k)
  rwa [List.take_append_drop] at this

theorem read_any (l : List UInt8) (w : World) (h1 : 1 ≤ l.length) (hL : l.length ≤ 20) (hd : l.all digB = true) (ok : Bool) (n : Int) (hok : ok = decide (val l < 18446744073709551616)) (hn : n = if val l < 18446744073709551616 then (val l : Int) else 0) :
    Calls Tryd.prog 63 #[.agg (rowOf l), .int .i64 ((20 - l.length : Nat) : Int)] w fun e w' => e = .returned (.tuple #[.int .u64 n, .bool ok]) ∧ Kept w w' := by
  rw [List.all_eq_true] at hd
  go_enter Tryd.func63, Tryd.ntmps63
  go_wp2
  refine wp_scope_once 0 (fun a' w' => w' = w.alloc (.cells (rowOf l) 81) ∧ ∃ (k m : Nat) (u0 u1 u2 u3 u4 u5 u6 u7 u8 u9 u10 u11 u12 u13 u14 u15 u16 u17 u18 u19 : Value), k < l.length ∧ m = val (l.take k) ∧ m < 18446744073709551616 ∧
    a' = { tmps := #[.agg (rowOf l), .int .i64 ((20 - l.length + k : Nat) : Int), .pointer (some { block := w.heap.size, off := 0 }), undef, .int .u64 0, .bool false, .int .u64 (m : Int), u0, u1, u2, u3, u4, u5, u6, u7, u8, u9, u10, u11, u12, u13, u14, u15, u16, u17, u18, u19], defers := [] })
    (fun a' _ => 20 - (intOf (a'.tmps.getD 1 undef)).toNat) rfl ?_ ?_
  · rintro a' w' ⟨rfl, k, m, u0, u1, u2, u3, u4, u5, u6, u7, u8, u9, u10, u11, u12, u13, u14, u15, u16, u17, u18, u19, hk, hm, hm64, rfl⟩
    obtain ⟨p, hp⟩ : ∃ p, p = 20 - l.length + k := ⟨_, rfl⟩
    have hcell := rowOf_at l k hL hk
    have hdk := (digB_iff _).1 (hd l[k] (List.getElem_mem hk))
    have hv := val_take_succ l k hk
    have hle := val_take_le l (k + 1)
    have hend : k + 1 = l.length → val (l.take (k + 1)) = val l := fun e => by rw [e, List.take_length]
    rw [← hm] at hv
    rw [← hp] at hcell ⊢
    generalize hx : l[k].toNat = x at *
    have hp20 : p < 20 := by omega
    have hpe : p + 1 < 20 ↔ k + 1 < l.length := by omega
    have hpp : p + 1 = 20 - l.length + (k + 1) := by omega
    have P1 := Lib.hid hpe
    have P2 := Lib.hid hpp
    have E := Lib.hid hend
    have V := Lib.hid hv
    have LE := Lib.hid hle
    have OK := Lib.hid hok
    have N := Lib.hid hn
    clear hpe hpp hend hv hle hok hn hd hp hx hm
    have ex : IntKind.u8.wrap ((x : Int) - 48) = ((x - 48 : Nat) : Int) := by rw [IntKind.wrap_u8]; omega
    have ex0 : (x : Int) - 48 = ((x - 48 : Nat) : Int) := by omega
    by_cases hbig : (18446744073709551615 - ((x - 48 : Nat) : Int)) / 10 < (m : Int)
    · have hge : ¬ val l < 18446744073709551616 := by have := LE.out; have := V.out; omega
      have e1 := OK.out
      have e2 := N.out
      rw [if_neg hge] at e2
      rw [decide_eq_false hge] at e1
      subst e1 e2
      go_wp2
      simp only [Exit.jump]
      go_ret2
      exact ⟨rfl, (Kept.refl w).alloc _ _⟩
    · have hm' : m * 10 + (x - 48) < 18446744073709551616 := by omega
      by_cases hlast : p + 1 < 20
      · go_wp2
        go_step3
        have e0 : (m : Int) * 10 + ((x - 48 : Nat) : Int) = ((m * 10 + (x - 48) : Nat) : Int) := by omega
        have e1 : (p : Int) + 1 = ((p + 1 : Nat) : Int) := by omega
        rw [e0, e1, P2.out]
        refine ⟨rfl, ⟨rfl, k + 1, _, _, _, _, _, _, _, _, _, _, _, _, _, _, _, _, _, _, _, _, _, P1.out.1 hlast, V.out.symm, hm', rfl⟩, ?_⟩
        have := P2.out
        simp [intOf]; omega
      · go_wp2
        simp only [Exit.jump]
        have e0 : (m : Int) * 10 + ((x - 48 : Nat) : Int) = ((m * 10 + (x - 48) : Nat) : Int) := by omega
        have e1 : (p : Int) + 1 = ((p + 1 : Nat) : Int) := by omega
        rw [e0, e1]
        have hk1 : k + 1 = l.length := by have := P1.out; omega
        have e2 := E.out hk1
        rw [V.out] at e2
        have hlt : val l < 18446744073709551616 := by rw [← e2]; exact hm'
        have e3 := OK.out
        have e4 := N.out
        rw [if_pos hlt, ← e2] at e4
        rw [decide_eq_true hlt] at e3
        subst e3 e4
        go_ret2
        exact ⟨rfl, (Kept.refl w).alloc _ _⟩
  · intro H
    have HH := Lib.hid H
    clear H
    go_wp2
    rename_i hK
    go_step3
    exact hK _ _ (HH.out _ _ ⟨rfl, 0, 0, _, _, _, _, _, _, _, _, _, _, _, _, _, _, _, _, _, _, _, _, by omega, rfl, by omega, rfl⟩)

set_option maxRecDepth 100000 in
theorem parse_any (s : ByteArray) (w : World) (hs : s.size ≤ 9223372036854775807) :
    Calls Tryd.prog 51 #[.string s] w fun e w' => e = .returned (.tuple #[.int .u64 (paN s.data.toList), .int .u16 (paE s.data.toList)]) ∧ Kept w w' := by
  have hz := list_size s
  have hpl := plain_any s w hs
  by_cases hp : plainB s.data.toList = true
  · rw [hp] at hpl
    by_cases h20 : s.size ≤ 20
    · have hL : s.data.toList.length ≤ 20 := by omega
      have hn0 : s.data.toList ≠ [] := ((plainB_iff _).1 hp).1
      have h1 : 1 ≤ s.size := by rw [← hz]; exact List.length_pos_iff.2 hn0
      have hall : s.data.toList.all digB = true := ((plainB_iff _).1 hp).2.2
      have hal : Tryd.prog.arrayLen 81 = 20 := by kernel_rfl
      have hsl : ∀ (b : Nat) (W : World), (Instr.sliceAt 81 (.pointer (some ⟨b, 0, none⟩)) (some (.int .i64 (20 - (s.size : Int)))) none none).run Tryd.prog W = .ok (.slice (some ⟨b, 20 - s.size, none⟩) s.size s.size) W := fun b W => by
        rw [run_sliceAt_array_l W 81 ⟨b, 0, none⟩ (by kernel_rfl) .i64 _ (by omega) (by rw [hal]; omega)]
        rw [hal]
        go_simp
        omega
      clear hal
      have hcp : (Builtin.copy_ #[26, 9] 3 #[.slice (some ⟨w.heap.size, 20 - s.size, none⟩) s.size s.size, .string s]).run Tryd.prog (w.alloc (.cells (rowOf []) 81)) = .ok (goInt s.size) (w.alloc (.cells (rowOf s.data.toList) 81)) := by
        rw [run_copy_row_string (w.alloc (.cells (rowOf []) 81)) 26 9 3 5 w.heap.size (20 - s.size) s.size s.size s (rowOf []) 81 Tryd.underlying26 (by kernel_rfl) (heap_alloc_new _ _) (Nat.le_refl _) (by rw [rowOf_size _ (by simp)]; omega), World.setRow_alloc_new]
        congr 4
        unfold rowOf byteCells
        rw [hz, List.length_nil, List.map_nil, List.append_nil, List.toList_toArray, List.take_replicate, List.drop_replicate, show min (20 - s.size) (20 - 0) = 20 - s.size by omega, show 20 - 0 - (20 - s.size + s.size) = 0 by omega, List.replicate_zero, List.append_nil]
      rw [rowOf_nil] at hcp
      obtain ⟨ok, hok⟩ : ∃ ok, ok = decide (val s.data.toList < 18446744073709551616) := ⟨_, rfl⟩
      obtain ⟨n, hn⟩ : ∃ n, n = if val s.data.toList < 18446744073709551616 then (val s.data.toList : Int) else 0 := ⟨_, rfl⟩
      have hread := fun W => read_any s.data.toList W (by omega) hL hall ok n hok hn
      rw [hz, show ((20 - s.size : Nat) : Int) = 20 - (s.size : Int) by omega] at hread
      have hinf := rowOf_info _ hL
      by_cases hv : val s.data.toList < 18446744073709551616
      · obtain ⟨e1, e2⟩ := pa_yes hp hv
        rw [if_pos hv] at hn
        rw [decide_eq_true hv] at hok
        rw [e1, e2, ← hn]
        subst hok
        generalize hR : rowOf s.data.toList = R at *
        clear e1 e2 hn hv hp hz hall hn0 hL hR
        go_enter Tryd.func51, Tryd.ntmps51
        go_wp2_with (first
          | (go_at_call 62; refine hpl.mono ?_; rintro e w' ⟨rfl, rfl⟩)
          | (refine wpList_load_row rfl 81 _ rfl w.heap.size rfl 81 R (0, 0) _ (heap_alloc_new _ _) Tryd.underlying81 rfl hinf ?_)
          | (go_at_call 63; refine (hread _).mono ?_; rintro e w' ⟨rfl, gw⟩))
        go_ret2
        exact ⟨rfl, ((Kept.refl w).alloc _ _).trans gw⟩
      · obtain ⟨e1, e2⟩ := pa_big hp (by omega)
        rw [if_neg hv] at hn
        rw [decide_eq_false hv] at hok
        rw [e1, e2]
        subst hok hn
        generalize hR : rowOf s.data.toList = R at *
        clear e1 e2 hv hp hz hall hn0 hL hR
        go_enter Tryd.func51, Tryd.ntmps51
        go_wp2_with (first
          | (go_at_call 62; refine hpl.mono ?_; rintro e w' ⟨rfl, rfl⟩)
          | (refine wpList_load_row rfl 81 _ rfl w.heap.size rfl 81 R (0, 0) _ (heap_alloc_new _ _) Tryd.underlying81 rfl hinf ?_)
          | (go_at_call 63; refine (hread _).mono ?_; rintro e w' ⟨rfl, gw⟩))
        go_ret2
        exact ⟨rfl, ((Kept.refl w).alloc _ _).trans gw⟩
    · have hv := plain_long _ hp (by omega)
      obtain ⟨e1, e2⟩ := pa_big hp hv
      rw [e1, e2]
      clear e1 e2 hv hp hz
      go_enter Tryd.func51, Tryd.ntmps51
      go_wp2_with (go_at_call 62; refine hpl.mono ?_; rintro e w' ⟨rfl, rfl⟩)
      go_ret2
      exact ⟨rfl, Kept.refl _⟩
  · have hp' : plainB s.data.toList = false := by simpa using hp
    rw [hp'] at hpl
    obtain ⟨e1, e2⟩ := pa_not hp'
    rw [e1, e2]
    clear e1 e2 hp hp' hz
    go_enter Tryd.func51, Tryd.ntmps51
    go_wp2_with (go_at_call 62; refine hpl.mono ?_; rintro e w' ⟨rfl, rfl⟩)
    go_ret2
    exact ⟨rfl, Kept.refl _⟩
end Go.Proofs.YtpkpmbigljkneaaDoor.Wd
