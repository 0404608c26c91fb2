/- tollerlaw09.KeySorted answers true, for any row of texts, any row of rows of bytes, and any number of 8 bits; no conditions. -/
import Derived.Test.YtndipebpccdlfaaKeyW4
import Derived.Laws.AppendOwn
import Derived.Deep.AppendLies
namespace Go.Proofs.Ytndipebpccdlfaa.Wd
open Go Go.RowKit Go.Sort
set_option linter.unusedVariables false

theorem infoString : (Try.prog.info? 9).map (fun i => (i.zero, i.size, i.bytes)) = some (some (.string nob), 1, 16) := by kernel_rfl

theorem own_sts {w : World} {base : Nat} {e : TypeId} {v : Value} {n : Nat} {ys : List ByteArray} (h : w.ownsRow base e 1 v n (ys.map Value.string)) (hy : ∀ y ∈ ys, y.size ≤ 9223372036854775807) :
    ∃ A c, v = .slice A n c ∧ Sts w A n ys := by
  have hl : ys.length = n := by have := h.1; simpa using this
  by_cases z : n = 0
  · subst z
    rcases h.2 with ⟨rfl, _⟩ | ⟨g, cap, cur, rfl, _⟩
    · exact ⟨none, 0, rfl, hl, hy, fun hn => absurd hn (by omega)⟩
    · exact ⟨_, _, rfl, hl, hy, fun hn => absurd hn (by omega)⟩
  · obtain ⟨g, cap, rfl, _, hlt⟩ := h.form (by omega)
    refine ⟨_, _, rfl, hl, hy, fun _ => ⟨g, 0, rfl, hlt, fun k hk => ?_⟩⟩
    have hc := h.cells (g := g) rfl k (.string (ys.getD k nob)) (by
      rw [List.getElem?_map, List.getD_eq_getElem?_getD]
      have hk' : k < ys.length := by omega
      rw [List.getElem?_eq_getElem hk']; rfl)
    have e2 : (⟨g, 0, none⟩ : Addr).add k = ⟨g, 0 + k, none⟩ := by
      unfold Addr.add
      split
      · subst_vars; rfl
      · rfl
    rw [e2] at hc
    exact hc

theorem own_caps {w : World} {base : Nat} {e : TypeId} {size : Nat} {A : Option Addr} {n c m : Nat} {xs : List Value} (h : w.ownsRow base e size (.slice A n c) m xs) : n ≤ c ∧ c ≤ 9223372036854775807 := by
  rcases h.2 with ⟨h1, _⟩ | ⟨g, cap, cur, h1, _, _, h2, h3, _⟩
  · simp only [Value.slice.injEq] at h1
    omega
  · simp only [Value.slice.injEq] at h1
    unfold maxLen at h3
    omega

theorem sts_news {w : World} {b off n : Nat} {xs : List ByteArray} (h : Sts w (some ⟨b, off, none⟩) n xs) : ∀ j u, (xs.map Value.string)[j]? = some u → w.cell? ((⟨b, off, none⟩ : Addr).add j) = some u := by
  intro j u hu
  rw [List.getElem?_map] at hu
  have hj : j < xs.length := by
    by_cases hj : j < xs.length
    · exact hj
    · rw [List.getElem?_eq_none (by omega)] at hu; cases hu
  rw [List.getElem?_eq_getElem hj] at hu
  have hn : 0 < n := by rw [← h.1]; omega
  obtain ⟨b', off', e, _, hc⟩ := h.2.2 hn
  simp only [Option.some.injEq, Addr.mk.injEq] at e
  obtain ⟨rfl, rfl, _⟩ := e
  have := hc j (by rw [← h.1]; exact hj)
  rw [List.getD_eq_getElem?_getD, List.getElem?_eq_getElem hj] at this
  have e2 : (⟨b, off, none⟩ : Addr).add j = ⟨b, off + j, none⟩ := by
    unfold Addr.add
    split
    · subst_vars; rfl
    · rfl
  rw [e2, this]
  exact hu
theorem own_below {w w' : World} {base : Nat} {e : TypeId} {size : Nat} {v : Value} {n : Nat} {xs : List Value} (h : w.ownsRow base e size v n xs) (g : Below w.heap.size w w') : w'.ownsRow base e size v n xs := by
  refine ⟨h.1, ?_⟩
  rcases h.2 with h0 | ⟨b, cap, cur, h1, h2, h3, h4⟩
  · exact .inl h0
  · exact .inr ⟨b, cap, cur, h1, h2, (g.block b (Array.getElem?_eq_some_iff.1 h3).1).trans h3, h4⟩
theorem own_mono {w : World} {base base' : Nat} {e : TypeId} {size : Nat} {v : Value} {n : Nat} {xs : List Value} (h : w.ownsRow base e size v n xs) (g : base' ≤ base) : w.ownsRow base' e size v n xs := by
  refine ⟨h.1, ?_⟩
  rcases h.2 with h0 | ⟨b, cap, cur, h1, h2, h3, h4⟩
  · exact .inl h0
  · exact .inr ⟨b, cap, cur, h1, Nat.le_trans g h2, h3, h4⟩
theorem own_block {w : World} {base : Nat} {e : TypeId} {size : Nat} {v : Value} {n : Nat} {xs : List Value} (h : w.ownsRow base e size v n xs) : ∀ k, v.ownBlock = some k → base ≤ k := by
  intro k hk
  rcases h.2 with ⟨rfl, _⟩ | ⟨g, cap, cur, rfl, hb, _⟩
  · simp [Value.ownBlock] at hk
  · simp [Value.ownBlock] at hk; omega
theorem sts_one (xs : List ByteArray) : ∀ u ∈ xs.map Value.string, u.oneCell' = true := by
  intro u hu
  obtain ⟨x, _, rfl⟩ := List.mem_map.1 hu
  rfl

set_option maxHeartbeats 2000000 in
theorem sortedLaw_some (b off n cap : Nat) (at_ : Int) (xs : List ByteArray) (w : World) (h : Sts w (some ⟨b, off, none⟩) n xs) (h0 : 0 < n) (hn : n ≤ 30) (hcap : n ≤ cap) (hcm : cap ≤ 9223372036854775807) (hat : 0 ≤ at_ ∧ at_ ≤ 255) :
    Calls Try.prog 17 #[.slice (some ⟨b, off, none⟩) n cap, .int .u8 at_] w fun e w' => e = .returned (.bool true) ∧ Below w.heap.size w w' := by
  have H := Lib.hid h
  have hxl := h.1
  obtain ⟨i, hi⟩ : ∃ i : Nat, at_ % (n : Int) = (i : Int) := ⟨(at_ % (n : Int)).toNat, by have := Int.emod_nonneg at_ (b := (n : Int)) (by omega); omega⟩
  have hin : i < n := by have := Int.emod_lt_of_pos at_ (b := (n : Int)) (by omega); omega
  obtain ⟨i0, hinf, hz0, hz1, hz2⟩ := info_parts infoString
  have s0 := fun W (hW : Below w.heap.size w W) => sorted_any (some ⟨b, off, none⟩) n cap xs W (h.below hW) (by omega)
  obtain ⟨o, ho⟩ : ∃ o, soB xs = o := ⟨_, rfl⟩
  rw [ho] at s0
  have HO := Lib.hid ho
  have S0 := Lib.hid s0
  have hw1 : IntKind.i64.wrap ((i : Int) + 1) = (i : Int) + 1 := by rw [IntKind.wrap_i64]; omega
  have hn0 : ((n : Int) == 0) = false := beq_eq_false_iff_ne.2 (by omega)
  have hne : ¬ cap = i := by omega
  have N1 := Lib.hid (fun (W : World) (hW : Below w.heap.size w W) => sts_news ((h.below hW).front (k := i + 1) (by omega)))
  have N2 := Lib.hid (fun (W : World) (hW : Below w.heap.size w W) => sts_news ((h.below hW).cut (k := i) (by omega)))
  have L1 : Hid (((xs.take (i + 1)).map Value.string).length = (i + 1) * 1) := Lib.hid (by rw [List.length_map, List.length_take]; omega)
  have L2 : Hid (((xs.drop i).map Value.string).length = (n - i) * 1) := Lib.hid (by rw [List.length_map, List.length_drop]; omega)
  clear h s0 ho hxl
  go_enter Try.func17, Try.ntmps17
  go_wp2_with (first
    | (go_at_call 12; (with_reducible refine (S0.out _ (Below.refl _ _)).mono ?_); rintro e w1 ⟨rfl, g1⟩)
    | (at_builtin; refine wpList_append_own _ rfl _ _ 22 rfl w.heap.size 9 i0 (.string nob) 1 16 Try.underlying22 hinf hz0 hz1 hz2 rfl (by decide) (.slice none 0 0) 0 [] rfl (World.ownsRow_nil _ _ _ _) ⟨b, off, none⟩ (i + 1) cap ((xs.take (i + 1)).map Value.string) rfl L1.out (N1.out _ g1) (sts_one _) (by unfold maxLen; omega) (by omega) g1.size ?_; intro v2 w2 own2 grow2 _; have g2 : Below w.heap.size w w2 := g1.grown grow2 g1.size (fun k e => by simp [Value.ownBlock] at e); clear grow2)
    | (at_builtin; refine stopHere ?_))
  unfold Stop
  refine wpList_append_own _ rfl _ _ 22 rfl w.heap.size 9 i0 (.string nob) 1 16 Try.underlying22 hinf hz0 hz1 hz2 rfl (by decide) v2 _ _ rfl own2 ⟨b, off + i, none⟩ (n - i) (cap - i) ((xs.drop i).map Value.string) rfl L2.out (N2.out _ g2) (sts_one _) (by unfold maxLen; omega) (by omega) g2.size ?_
  intro v3 w3 own3 grow3 _
  have g3 : Below w.heap.size w w3 := g2.grown grow3 g2.size (own_block own2)
  rw [List.nil_append, ← List.map_append, show 0 + (i + 1) + (n - i) = n + 1 by omega] at own3
  obtain ⟨A3, cap3, rfl, hS3⟩ := own_sts own3 (fun y hy => by
    rcases List.mem_append.1 hy with hy | hy
    · exact H.out.2.1 y (List.mem_of_mem_take hy)
    · exact H.out.2.1 y (List.mem_of_mem_drop hy))
  clear own2 own3 grow3 N1 N2 L1 L2 g1 g2
  have T1 := Lib.hid (fun (W : World) (hW : Below w3.heap.size w3 W) => sorted_any A3 (n + 1) cap3 _ W (hS3.below hW) (by omega))
  rw [so_twice xs i (by rw [H.out.1]; exact hin)] at T1
  clear hS3
  go_wp2_with fail
  cases o
  · go_loopw [8] (fun k wr => k = .int .i64 0 ∧ wr = w3) (fun _ _ => 0)
    case atStart => exact ⟨rfl, rfl⟩
    case round =>
      obtain ⟨rfl, rfl⟩ := hrel
      go_wp2_with ((go_at_call 12; (with_reducible refine (T1.out _ (Below.refl _ _)).mono ?_); rintro e w4 ⟨rfl, g4⟩))
      go_ret
      exact ⟨rfl, kbq g3 g4⟩
  · have SL := Lib.hid (fun j k (hjk : j < k) (hk : k < n) => so_less HO.out hjk (by rw [H.out.1]; exact hk))
    have P1 := Lib.hid (fun (W : World) (hW : Below w.heap.size w W) => sorted_any (some ⟨b, off, none⟩) i cap _ W ((H.out.below hW).front (by omega)) (by omega))
    have P2 := Lib.hid (fun (W : World) (hW : Below w.heap.size w W) => sorted_any (some ⟨b, off + i, none⟩) (n - i) (cap - i) _ W ((H.out.below hW).cut (by omega)) (by omega))
    rw [so_take HO.out i] at P1
    rw [so_drop HO.out i] at P2
    go_loopw [8] (fun k wr => ∃ m : Nat, m ≤ n ∧ k = .int .i64 (m : Int) ∧ Below w3.heap.size w3 wr) (fun k _ => n - (intOf k).toNat)
    case atStart => exact ⟨0, Nat.zero_le _, rfl, Below.refl _ _⟩
    case round =>
      obtain ⟨m, hm, rfl, hB⟩ := hrel
      by_cases hlt : m < n
      · go_wp2_with fail
        go_loopw [9] (fun k wr => ∃ j : Nat, j ≤ m ∧ k = .int .i64 (j : Int) ∧ Below w3.heap.size w3 wr) (fun k _ => m - (intOf k).toNat)
        case atStart => exact ⟨0, Nat.zero_le _, rfl, hB⟩
        case round =>
          obtain ⟨j, hj, rfl, hB2⟩ := hrel
          by_cases hjm : j < m
          · have hS := H.out.below (kbq g3 hB2)
            obtain ⟨b', off', e, hb, hc⟩ := hS.2.2 h0
            simp only [Option.some.injEq, Addr.mk.injEq] at e
            obtain ⟨rfl, rfl, _⟩ := e
            have k0 := cell_regrown (hc j (by omega))
            have k1 := cell_regrown (hc m hlt)
            have hl := SL.out j m hjm hlt
            have z1 := hS.at j
            have z2 := hS.at m
            generalize xs.getD j nob = xa at *
            generalize xs.getD m nob = xb at *
            have C := fun d os => Calls.regrown_of (less_any xa xb (Sort.grow (redrawn wr d) os) z1 z2)
            rw [hl] at C
            have hjn : j < n := by omega
            clear hc hS hl z1 z2
            go_wp2_with fail
            refine wp_region_quiet_below (by kernel_rfl) (by kernel_rfl) ?_
            repeat (go_big_quiet_step (with_reducible exact C _ _))
            refine wpQuiet_nil ?_
            intro _ hw'
            obtain ⟨⟨dq, osq⟩, hw''⟩ := hw'
            subst hw''
            go_wp2
            go_roundw
            case rel => exact ⟨j + 1, by omega, by go_num, kbq hB2 (below_regrown wr dq osq)⟩
            case measure => simp [intOf]; omega
          · obtain rfl : j = m := by omega
            go_wp2
            go_roundw
            case rel => exact ⟨j + 1, by omega, by go_num, hB2⟩
            case measure => simp [intOf]; omega
      · obtain rfl : m = n := by omega
        have g5 := kbq g3 hB
        go_wp2_with ((go_at_call 12; first
          | ((with_reducible refine (T1.out _ hB).mono ?_); rintro e w4 ⟨rfl, g4⟩; replace g5 := kbq g5 g4)
          | ((with_reducible refine (P1.out _ g5).mono ?_); rintro e w5 ⟨rfl, g⟩; replace g5 := kbq g5 g; clear g)
          | ((with_reducible refine (P2.out _ g5).mono ?_); rintro e w6 ⟨rfl, g⟩; replace g5 := kbq g5 g; clear g)))
        go_ret
        exact ⟨rfl, g5⟩

theorem sortedLaw_any (A : Option Addr) (n cap : Nat) (at_ : Int) (xs : List ByteArray) (w : World) (h : Sts w A n xs) (hn : n ≤ 30) (hcap : n ≤ cap) (hcm : cap ≤ 9223372036854775807) (hat : 0 ≤ at_ ∧ at_ ≤ 255) :
    Calls Try.prog 17 #[.slice A n cap, .int .u8 at_] w fun e w' => e = .returned (.bool true) ∧ Below w.heap.size w w' := by
  by_cases h0 : 0 < n
  · obtain ⟨b, off, rfl, _⟩ := h.2.2 h0
    exact sortedLaw_some b off n cap at_ xs w h h0 hn hcap hcm hat
  · obtain rfl : n = 0 := by omega
    have s0 := sorted_any A 0 cap xs w h (by omega)
    rw [List.eq_nil_of_length_eq_zero h.1] at s0
    have S0 : Hid _ := Lib.hid s0
    clear s0 h
    go_enter Try.func17, Try.ntmps17
    go_wp2_with ((go_at_call 12; refine S0.out.mono ?_; rintro e w1 ⟨rfl, g1⟩))
    go_ret
    exact ⟨rfl, g1⟩

/-- A row of rows of bytes that lies in memory. -/
def Rws (w : World) (A : Option Addr) (n : Nat) : Prop :=
  ∀ i, i < n → ∃ b off A' n' c', A = some ⟨b, off, none⟩ ∧ w.cell? ⟨b, off + i, none⟩ = some (.slice A' n' c') ∧ n' ≤ 9223372036854775807 ∧ Byts w A' n'
theorem Rws.below {w w' : World} {A : Option Addr} {n : Nat} (h : Rws w A n) (k : Below w.heap.size w w') : Rws w' A n := fun i hi => by
  obtain ⟨b, off, A', n', c', e, hc, hn, hb⟩ := h i hi
  exact ⟨b, off, A', n', c', e, celln k hc, hn, hb.below k⟩

theorem one_str (W : World) (s : ByteArray) : ∀ j u, [Value.string s][j]? = some u → (W.alloc (.cells #[.string s] 9)).cell? ((⟨W.heap.size, 0, none⟩ : Addr).add j) = some u := by
  intro j u hu
  obtain rfl : j = 0 := by
    cases j with
    | zero => rfl
    | succ j => simp at hu
  simp at hu
  subst hu
  simp [Addr.add]

set_option maxHeartbeats 2000000 in
theorem keySorted_any (A : Option Addr) (n cap : Nat) (xs : List ByteArray) (B : Option Addr) (n2 cap2 : Nat) (at_ : Int) (w : World) (h : Sts w A n xs) (hcap : n ≤ cap) (hcm : cap ≤ 9223372036854775807) (hB : Rws w B n2) (hn2 : n2 ≤ 9223372036854775807) (hat : 0 ≤ at_ ∧ at_ ≤ 255) :
    Calls Try.prog 7 #[.slice A n cap, .slice B n2 cap2, .int .u8 at_] w fun e w' => e = .returned (.bool true) ∧ Below w.heap.size w w' := by
  have K0 := Lib.hid known_any
  by_cases h30 : 30 < n
  · go_enter Try.func7, Try.ntmps7
    go_wp2_with (go_at_call 9; refine (K0.out _).mono ?_; rintro e w3 ⟨rfl, g3⟩)
    go_ret
    exact ⟨rfl, g3⟩
  · by_cases h20 : 20 < n2
    · go_enter Try.func7, Try.ntmps7
      go_wp2_with (go_at_call 9; refine (K0.out _).mono ?_; rintro e w3 ⟨rfl, g3⟩)
      go_ret
      exact ⟨rfl, g3⟩
    · obtain ⟨i0, hinf, hz0, hz1, hz2⟩ := info_parts infoString
      have S1 := Lib.hid (fun (W : World) (hW : Below w.heap.size w W) => sortedLaw_any A n cap at_ xs W (h.below hW) (by omega) hcap hcm hat)
      have HB := Lib.hid hB
      clear h hB
      go_enter Try.func7, Try.ntmps7
      go_wp2
      go_loopw [7, 8] (fun v i wr => ∃ (k : Nat) (ys : List ByteArray), k ≤ n2 ∧ i = .int .i64 (k : Int) ∧ wr.ownsRow w.heap.size 9 1 v k (ys.map Value.string) ∧ (∀ y ∈ ys, y.size ≤ 12) ∧ Below w.heap.size w wr) (fun _ i _ => n2 - (intOf i).toNat)
      case atStart => exact ⟨0, [], Nat.zero_le _, rfl, World.ownsRow_nil _ _ _ _, (fun _ h => nomatch h), Below.refl _ _⟩
      case round =>
        obtain ⟨k, ys, hk, rfl, own, hy, hB⟩ := hrel
        by_cases hlt : k < n2
        · obtain ⟨b, off, A', n', c', rfl, hc, hn', hb⟩ := (HB.out.below hB) k hlt
          by_cases h' : 20 < n'
          · go_wp2_with (go_at_call 9; refine (K0.out _).mono ?_; rintro e w3 ⟨rfl, g3⟩)
            go_ret
            exact ⟨rfl, kbq hB g3⟩
          · have KX := Lib.hid (key_any A' n' c' wr hb hn')
            have HO := Lib.hid own
            have HY := Lib.hid hy
            clear own hy hb
            go_wp2_with (first
              | (go_at_call 10; (with_reducible refine KX.out.mono ?_); rintro e w2 ⟨s, rfl, _, zs, g2⟩)
              | (at_builtin; refine stopHere ?_))
            unfold Stop
            have hB2 := kbq hB g2
            refine wpList_append_own _ rfl _ _ 22 rfl w.heap.size 9 i0 (.string nob) 1 16 Try.underlying22 hinf hz0 hz1 hz2 rfl (by decide) _ k _ rfl (own_below (own_below HO.out g2) ((Below.refl _ w2).alloc (Nat.le_refl _) _)) ⟨w2.heap.size, 0, none⟩ 1 1 [.string s] rfl rfl (one_str w2 s) (by simp [Value.oneCell']) (by unfold maxLen; omega) (by omega) (by have := hB2.size; simp; omega) ?_
            intro v3 w3 own3 grow3 _
            have hB3 : Below w.heap.size w w3 := (hB2.alloc hB2.size _).grown grow3 (by have := hB2.size; simp; omega) (own_block HO.out)
            rw [show ys.map Value.string ++ [Value.string s] = (ys ++ [s]).map Value.string by simp] at own3
            clear grow3
            go_wp2
            go_roundw
            case rel =>
              refine ⟨k + 1, ys ++ [s], by omega, by go_num, own3, fun y hy => ?_, hB3⟩
              rcases List.mem_append.1 hy with hy | hy
              · exact HY.out y hy
              · simp at hy; subst hy; exact zs
            case measure => simp [intOf]; omega
        · obtain rfl : k = n2 := by omega
          obtain ⟨A3, cap3, rfl, hS3⟩ := own_sts own (fun y h => Nat.le_trans (hy y h) (by omega))
          have hcap3 := own_caps own
          have S2 := Lib.hid (fun (W : World) (hW : Below wr.heap.size wr W) => sortedLaw_any A3 k cap3 at_ ys W (hS3.below hW) (by omega) hcap3.1 hcap3.2 hat)
          clear hS3 own hy
          go_wp2_with (first
            | (go_at_call 9; refine (K0.out _).mono ?_; rintro e w3 ⟨rfl, g3⟩; have kW := g3; clear g3)
            | (go_at_call 17; (with_reducible refine (S2.out _ kW).mono ?_); rintro e w5 ⟨rfl, g5⟩; replace kW := kbq kW g5)
            | (go_at_call 17; (with_reducible refine (S1.out _ (kbq hB kW)).mono ?_); rintro e w4 ⟨rfl, g4⟩; replace kW := kbq kW g4))
          go_ret
          exact ⟨rfl, kbq hB kW⟩
end Go.Proofs.Ytndipebpccdlfaa.Wd
