/- The law NumSums answers true, for any row of numbers of 64 bits and any number of 8; no conditions. -/
import Derived.Test.YtpnhhihddlpokaaNumK
import Derived.OwnWalk
import Derived.Laws.OwnMore
import Derived.Deep.AppendLies
import Derived.Deep.RegionHeld3
namespace Go.Proofs.Ytpnhhihddlpokaa.Wd
open Go.RowKit

theorem Nums.below {w w' : World} {A : Option Addr} {n : Nat} {xs : List Int} (h : Nums w A n xs) (k : Below w.heap.size w w') : Nums w' A n xs :=
  ⟨h.1, h.2.1, fun hn => by
    obtain ⟨b, off, e, hb, hc⟩ := h.2.2 hn
    exact ⟨b, off, e, Nat.lt_of_lt_of_le hb k.size, fun j hj => (k.cell (p := ⟨b, off + j, none⟩) hb).trans (hc j hj)⟩⟩

theorem Nums.front {w : World} {A : Option Addr} {n k : Nat} {xs : List Int} (h : Nums w A n xs) (hk : k ≤ n) : Nums w A k (xs.take k) :=
  ⟨by rw [List.length_take, h.1]; omega, fun x hx => h.2.1 x (List.mem_of_mem_take hx), fun hn => by
    obtain ⟨b, off, e, hb, hc⟩ := h.2.2 (by omega)
    refine ⟨b, off, e, hb, fun j hj => (hc j (by omega)).trans ?_⟩
    simp only [List.getD_eq_getElem?_getD, List.getElem?_take, if_pos hj]⟩

theorem map_add (b off k : Nat) : Option.map (·.add k) (some (⟨b, off, none⟩ : Addr)) = some ⟨b, off + k, none⟩ := by
  simp only [Option.map_some, Addr.add]
  split
  · subst_vars; rfl
  · rfl

theorem Nums.cut {w : World} {A : Option Addr} {n k cap : Nat} {xs : List Int} (h : Nums w A n xs) (hk : k ≤ n) (hc : n ≤ cap) :
    Nums w (if cap = k then A else A.map (·.add k)) (n - k) (xs.drop k) :=
  ⟨by rw [List.length_drop, h.1], fun x hx => h.2.1 x (List.mem_of_mem_drop hx), fun hn => by
    obtain ⟨b, off, rfl, hb, hcell⟩ := h.2.2 (by omega)
    rw [if_neg (by omega)]
    refine ⟨b, off + k, map_add b off k, hb, fun j hj => ?_⟩
    have := hcell (k + j) (by omega)
    rw [Nat.add_assoc, this]
    simp only [List.getD_eq_getElem?_getD, List.getElem?_drop]⟩

theorem own_nums {w : World} {base : Nat} {e : TypeId} {v : Value} {n : Nat} {ys : List Int} (h : w.ownsRow base e 1 v n (ys.map (Value.int .u64))) (hy : ∀ y ∈ ys, U y) :
    ∃ A c, v = .slice A n c ∧ Nums w A n ys := by
  have hl : ys.length = n := by have := h.1; simpa using this
  by_cases z : n = 0
  · subst z
    rcases h.2 with ⟨rfl, _⟩ | ⟨g, cap, cur, rfl, _⟩
    · exact ⟨none, 0, rfl, hl, hy, fun hn => absurd hn (by omega)⟩
    · exact ⟨_, _, rfl, hl, hy, fun hn => absurd hn (by omega)⟩
  · obtain ⟨g, cap, rfl, _, hlt⟩ := h.form (by omega)
    refine ⟨_, _, rfl, hl, hy, fun _ => ⟨g, 0, rfl, hlt, fun k hk => ?_⟩⟩
    have hc := h.cells (g := g) rfl k (.int .u64 (ys.getD k 0)) (by
      rw [List.getElem?_map, List.getD_eq_getElem?_getD]
      have hk' : k < ys.length := by omega
      rw [List.getElem?_eq_getElem hk']; rfl)
    have e2 : (⟨g, 0, none⟩ : Addr).add k = ⟨g, 0 + k, none⟩ := by
      unfold Addr.add
      split
      · subst_vars; rfl
      · rfl
    rw [e2] at hc
    exact hc

theorem sums_long (at_ : Int) (A : Option Addr) (n cap : Nat) (w : World) (hn : 80 < n) (hm : n ≤ 9223372036854775807) :
    Calls Try.prog 7 #[.slice A n cap, .int .u8 at_] w fun e w' => e = .returned (.bool true) ∧ Below w.heap.size w w' := by
  have kn (w : World) := known2_any w
  have K := Lib.hid kn
  clear kn
  go_enter Try.func7, Try.ntmps7
  go_wp2_with (go_at_call 10; ((with_reducible refine (K.out _).mono ?_); rintro e w' ⟨rfl, gw⟩))
  go_ret
  exact ⟨rfl, gw.2⟩

theorem u64_info : (Try.prog.info? 22).map (fun i => (i.zero, i.size, i.bytes)) = some (some (.int .u64 0), 1, 8) := by kernel_rfl

theorem back_step (xs : List Int) (k : Nat) (h : k < xs.length) : (xs.drop k).reverse.map (Value.int .u64) = (xs.drop (k + 1)).reverse.map (Value.int .u64) ++ [.int .u64 (xs.getD k 0)] := by
  rw [List.drop_eq_getElem_cons h, List.reverse_cons, List.map_append]
  simp only [List.map_cons, List.map_nil, List.getD, List.getElem?_eq_getElem h, Option.getD_some]

set_option maxHeartbeats 1000000 in
theorem sums_short (at_ : Int) (b0 o0 n cap : Nat) (xs : List Int) (w : World) (hn : n ≤ 80) (hc0 : 0 < cap) (hcap : n ≤ cap) (hcm : cap ≤ 9223372036854775807) (hat : 0 ≤ at_ ∧ at_ ≤ 255) (hx : Nums w (some ⟨b0, o0, none⟩) n xs) :
    Calls Try.prog 7 #[.slice (some ⟨b0, o0, none⟩) n cap, .int .u8 at_] w fun e w' => e = .returned (.bool true) ∧ Below w.heap.size w w' := by
  have kn (w : World) := known2_any w
  have K := Lib.hid kn
  have HX := Lib.hid hx
  clear kn hx
  obtain ⟨i0, hi, hz0, hz1, hz2⟩ := info_parts u64_info
  go_enter Try.func7, Try.ntmps7
  go_wp2_with fail
  go_loopw [5, 6] (fun v i wr => ∃ k : Nat, k ≤ n ∧ i = .int .i64 ((k : Int) - 1) ∧ wr.ownsRow w.heap.size 22 1 v (n - k) ((xs.drop k).reverse.map (Value.int .u64)) ∧ Below w.heap.size w wr) (fun _ i _ => (intOf i + 1).toNat)
  case atStart =>
    refine ⟨n, Nat.le_refl _, rfl, ?_, Below.refl _ _⟩
    have e : xs.drop n = [] := List.drop_of_length_le (by rw [HX.out.1]; exact Nat.le_refl _)
    rw [e, Nat.sub_self]
    exact World.ownsRow_nil _ _ _ _
  case round =>
    obtain ⟨k, hk, rfl, hown, hbel⟩ := hrel
    obtain _ | k := k
    · have hrev : ∀ y ∈ xs.reverse, U y := fun y hy => HX.out.2.1 y (by simpa using hy)
      rw [List.drop_zero, Nat.sub_zero] at hown
      obtain ⟨B, c, rfl, hB⟩ := own_nums hown hrev
      clear hrev hown
      have z : (((0 : Nat) : Int) - 1) = -1 := rfl
      rw [z]
      clear z
      have hA : Nums wr (some ⟨b0, o0, none⟩) n xs := HX.out.below hbel
      obtain ⟨kk, hkk⟩ : ∃ kk : Nat, at_ % ((n : Int) + 1) = (kk : Int) := ⟨(at_ % ((n : Int) + 1)).toNat, by have := Int.emod_nonneg at_ (b := (n : Int) + 1) (by omega); omega⟩
      have hk2 : kk ≤ n := by have := Int.emod_lt_of_pos at_ (b := (n : Int) + 1) (by omega); omega
      have d0 (w' : World) (hb : Below wr.heap.size wr w') := num_add (some ⟨b0, o0, none⟩) n cap xs w' (hA.below hb) (by omega)
      have d1 (w' : World) (hb : Below wr.heap.size wr w') := num_add B n c _ w' (hB.below hb) (by omega)
      rw [addAll_rev xs HX.out.2.1] at d1
      have d2 (w' : World) (hb : Below wr.heap.size wr w') := num_add (some ⟨b0, o0, none⟩) kk cap _ w' ((hA.below hb).front hk2) (by omega)
      have d3 (w' : World) (hb : Below wr.heap.size wr w') := num_add _ (n - kk) (cap - kk) _ w' ((hA.below hb).cut (cap := cap) hk2 hcap) (by omega)
      have d4 (g c : Nat) (w : World) := num_add_two g c (addAll (xs.take kk)) (addAll (xs.drop kk)) w (addAll_U _ (fun x h => HX.out.2.1 x (List.mem_of_mem_take h))) (addAll_U _ (fun x h => HX.out.2.1 x (List.mem_of_mem_drop h)))
      have e4 : sat (addAll (xs.take kk) + addAll (xs.drop kk)) = addAll xs := by
        rw [← addAll_two _ _ (addAll_U _ (fun x h => HX.out.2.1 x (List.mem_of_mem_take h)))]
        exact addAll_parts xs HX.out.2.1 kk
      rw [e4] at d4
      have hle (k : Nat) (hk : k < n) : xs.getD k 0 ≤ addAll xs := by
        have hh : k < xs.length := by rw [HX.out.1]; exact hk
        refine le_addAll xs HX.out.2.1 _ ?_
        simp only [List.getD, List.getElem?_eq_getElem hh, Option.getD_some]
        exact List.getElem_mem hh
      have HA := Lib.hid hA
      have HLE := Lib.hid hle
      have D0 := Lib.hid d0
      have D1 := Lib.hid d1
      have D2 := Lib.hid d2
      have D3 := Lib.hid d3
      have D4 := Lib.hid d4
      have HBEL := Lib.hid hbel
      clear hA hB hle d0 d1 d2 d3 d4 e4 hbel hk HX
      generalize addAll (xs.take kk) = p at *
      generalize addAll (xs.drop kk) = q at *
      generalize addAll xs = s at *
      go_wp2_with (go_at_call 14; ((with_reducible refine (D0.out _ (Below.refl _ _)).mono ?_); rintro e w' ⟨rfl, rfl⟩))
      go_loop [9] (fun i => ∃ k : Nat, k ≤ n ∧ i = .int .i64 k) (fun i => n - (intOf i).toNat)
      case atStart => exact ⟨0, Nat.zero_le _, rfl⟩
      case round =>
        obtain ⟨k, hk, rfl⟩ := hrel
        by_cases hlt : k < n
        · obtain ⟨b, off, eb, hb, hc⟩ := HA.out.2.2 (by omega)
          obtain ⟨rfl, rfl⟩ : b = b0 ∧ off = o0 := by injection eb with eb; injection eb with e1 e2; exact ⟨e1.symm, e2.symm⟩
          clear eb
          have hcx := hc k hlt
          have hls := HLE.out k hlt
          clear hc
          generalize xs.getD k 0 = x at *
          go_wp2
          go_round
          case rel => exact ⟨k + 1, by omega, by go_num⟩
          case measure => simp [intOf]; omega
        · obtain rfl : n = k := by omega
          go_wp2_with fail
          have gw := Below.refl wr.heap.size wr
          by_cases ck : cap = kk
          · have d3 := D3.out
            rw [if_pos ck] at d3
            have e1 : n - kk = 0 := by omega
            have e2 : cap - kk = 0 := by omega
            rw [e1, e2] at d3
            clear D3 e1 e2
            obtain rfl : cap = n := by omega
            subst ck
            have D3 := Lib.hid d3
            clear d3
            have i0 : 0 < cap := by omega
            have i1 : ¬ cap = 0 := by omega
            go_region_held3 (fun w' => Below wr.heap.size wr w')
              (first | exact gw | exact gw.drew | exact (gw.alloc (by exact gw.size) _))
              (first
              | (go_at_call 10; ((refine (K.out _).mono ?_); rintro e w' ⟨rfl, gm⟩; replace gw := gw.drew.trans gm.2; clear gm))
              | (go_at_call 14; (first | (with_reducible refine (D1.out _ gw).mono ?_) | (with_reducible refine (D2.out _ gw).mono ?_) | (with_reducible refine (D3.out _ gw).mono ?_) | (with_reducible refine (D4.out _ _ _ (by simp) (by simp)).mono ?_)); rintro e w' ⟨rfl, rfl⟩))
            rename_i hH
            have hF : Below w.heap.size w _ := HBEL.out.trans (hH.mono HBEL.out.size)
            clear hH gw
            go_wp2
            go_ret
            exact ⟨rfl, hF⟩
          · have d3 := D3.out
            rw [if_neg ck, map_add] at d3
            have D3 := Lib.hid d3
            clear d3
            have i0 : (0 : Int) ≤ (kk : Int) := by omega
            have i1 : (kk : Int) ≤ (n : Int) := by omega
            have i2 : (kk : Int) ≤ (cap : Int) := by omega
            have i3 : ¬ cap = 0 := by omega
            go_region_held3 (fun w' => Below wr.heap.size wr w')
              (first | exact gw | exact gw.drew | exact (gw.alloc (by exact gw.size) _))
              (first
              | (go_at_call 10; ((refine (K.out _).mono ?_); rintro e w' ⟨rfl, gm⟩; replace gw := gw.drew.trans gm.2; clear gm))
              | (go_at_call 14; (first | (with_reducible refine (D1.out _ gw).mono ?_) | (with_reducible refine (D2.out _ gw).mono ?_) | (with_reducible refine (D3.out _ gw).mono ?_) | (with_reducible refine (D4.out _ _ _ (by simp) (by simp)).mono ?_)); rintro e w' ⟨rfl, rfl⟩))
            rename_i hH
            have hF : Below w.heap.size w _ := HBEL.out.trans (hH.mono HBEL.out.size)
            clear hH gw
            go_wp2
            go_ret
            exact ⟨rfl, hF⟩
    · obtain ⟨b, off, eb, hb, hc⟩ := HX.out.2.2 (by omega)
      obtain ⟨rfl, rfl⟩ : b = b0 ∧ off = o0 := by injection eb with eb; injection eb with e1 e2; exact ⟨e1.symm, e2.symm⟩
      clear eb
      have hcx : wr.cell? ⟨b, off + k, none⟩ = some (.int .u64 (xs.getD k 0)) := (hbel.cell (p := ⟨b, off + k, none⟩) hb).trans (hc k (by omega))
      have hbs := back_step xs k (by rw [HX.out.1]; omega)
      have HBS := Lib.hid hbs
      clear hbs hc
      have e : (((k + 1 : Nat) : Int) - 1) = (k : Int) := by omega
      rw [e]
      clear e
      generalize xs.getD k 0 = x at *
      go_wp2_with ((at_builtin; refine wpList_append_own _ rfl (.tmp 21) (.tmp 26) 23 rfl w.heap.size 22 i0 (.int .u64 0) 1 8 Try.underlying23 hi hz0 hz1 hz2 rfl (by decide) _ _ _ rfl (hown.alloc _) ⟨wr.heap.size, 0, none⟩ 1 1 [.int .u64 x] rfl rfl ?c1 ?c2 ?c3 ?c4 ?c5 ?_))
      case c1 =>
        intro j u hj
        match j, hj with
        | 0, hj => simp at hj; subst hj; simp [Addr.add]
      case c2 => intro u hu; simp at hu; subst hu; rfl
      case c3 => unfold maxLen; omega
      case c4 => omega
      case c5 => have := hbel.size; simp; omega
      · intro v' w1 hown' hgrow _
        have hs := hbel.size
        have hb2 : Below w.heap.size w w1 := (hbel.alloc hs _).grown hgrow (by simp; omega) (fun j hj => (hown.lt j hj).1)
        have hown2 : w1.ownsRow w.heap.size 22 1 v' (n - k) ((xs.drop k).reverse.map (Value.int .u64)) := by
          rw [HBS.out]
          have e : n - k = n - (k + 1) + 1 := by omega
          rw [e]; simpa using hown'
        clear hown' hgrow hown hcx
        go_wp2
        go_roundw
        case rel => exact ⟨k, by omega, rfl, hown2, hb2⟩
        case measure => simp [intOf]

set_option maxHeartbeats 1000000 in
theorem sums_nil (at_ : Int) (A : Option Addr) (w : World) (hat : 0 ≤ at_ ∧ at_ ≤ 255) :
    Calls Try.prog 7 #[.slice A 0 0, .int .u8 at_] w fun e w' => e = .returned (.bool true) ∧ Below w.heap.size w w' := by
  have kn (w : World) := known2_any w
  have K := Lib.hid kn
  have d4 (g c : Nat) (w : World) := num_add_two g c 0 0 w U_zero U_zero
  have e4 : sat (0 + 0) = 0 := by decide
  rw [e4] at d4
  have D4 := Lib.hid d4
  clear kn d4 e4
  have hr : at_ % 1 = 0 := by omega
  go_enter Try.func7, Try.ntmps7
  go_wp2_with fail
  go_loop [5, 6] (fun v i => v = .slice none 0 0 ∧ i = .int .i64 (-1)) (fun _ _ => 0)
  case atStart => exact ⟨rfl, rfl⟩
  case round =>
    obtain ⟨rfl, rfl⟩ := hrel
    go_wp2_with (go_at_call 14; ((with_reducible refine (num_add_nil _ _ _).mono ?_); rintro e w' ⟨rfl, rfl⟩))
    go_loop [9] (fun i => i = .int .i64 0) (fun _ => 0)
    case atStart => rfl
    case round =>
      obtain rfl := hrel
      go_wp2_with fail
      have gw := Below.refl w.heap.size w
      go_region_held3 (fun w' => Below w.heap.size w w')
        (first | exact gw | exact gw.drew | exact (gw.alloc (by exact gw.size) _))
        (first
        | (go_at_call 10; ((refine (K.out _).mono ?_); rintro e w' ⟨rfl, gm⟩; replace gw := gw.drew.trans gm.2; clear gm))
        | (go_at_call 14; (first | (with_reducible refine (num_add_nil _ _ _).mono ?_) | (with_reducible refine (D4.out _ _ _ (by simp) (by simp)).mono ?_)); rintro e w' ⟨rfl, rfl⟩))
      rename_i hH
      clear gw
      go_wp2
      go_ret
      exact ⟨rfl, hH⟩

theorem sums_walk (at_ : Int) (A : Option Addr) (n cap : Nat) (xs : List Int) (w : World) (hat : 0 ≤ at_ ∧ at_ ≤ 255) (hcap : n ≤ cap) (hcm : cap ≤ 9223372036854775807) (hx : Nums w A n xs) (h0 : cap = 0 ∨ ∃ b off, A = some ⟨b, off, none⟩) :
    Calls Try.prog 7 #[.slice A n cap, .int .u8 at_] w fun e w' => e = .returned (.bool true) ∧ Below w.heap.size w w' := by
  by_cases hn : 80 < n
  · exact sums_long at_ A n cap w hn (by omega)
  by_cases hc : cap = 0
  · subst hc
    obtain rfl : n = 0 := by omega
    exact sums_nil at_ A w hat
  · rcases h0 with h0 | ⟨b, off, rfl⟩
    · exact absurd h0 hc
    · exact sums_short at_ b off n cap xs w (by omega) (by omega) hcap hcm hat hx
end Go.Proofs.Ytpnhhihddlpokaa.Wd
