/- The document's answer of chapter 11 on printing (tollerref11.Print), for any rule; no conditions but those that each names. -/
import Derived.Test.YtpkpmbigljkneaaDoorRulK2
import Derived.Deep.AppendLies
namespace Go.Proofs.YtpkpmbigljkneaaDoor.Wd
open Go Go.RowKit
set_option linter.unusedVariables false

theorem infoStr : (Tryd.prog.info? 9).map (fun i => (i.zero, i.size, i.bytes)) = some (some (.string ⟨#[]⟩), 1, 16) := by kernel_rfl
/-- Texts, as cells. -/
abbrev tvs (xs : List ByteArray) : List Value := xs.map Value.string
/-- A row of texts that a call owns. -/
def ORow (w : World) (base : Nat) (v : Value) (xs : List ByteArray) : Prop := w.ownsRow base 9 1 v xs.length (tvs xs)
theorem ORow.nil (w : World) (base : Nat) : ORow w base (.slice none 0 0) [] := World.ownsRow_nil _ _ _ _
theorem ORow.lit (w : World) (base : Nat) (xs : List ByteArray) (hb : base ≤ w.heap.size) (hl : xs.length ≤ 1000) :
    ORow (w.alloc (.cells (tvs xs).toArray 9)) base (.slice (some ⟨w.heap.size, 0, none⟩) xs.length xs.length) xs := by
  have h := World.ownsRow_lit (base := base) (e := 9) (size := 1) w (tvs xs).toArray xs.length hb (by unfold maxLen; omega) (by simp)
  simpa [ORow] using h
theorem ORow.sts {w : World} {base : Nat} {v : Value} {xs : List ByteArray} (h : ORow w base v xs) (hx : ∀ x ∈ xs, x.size ≤ 9223372036854775807) :
    ∃ A c, v = .slice A xs.length c ∧ xs.length ≤ c ∧ c ≤ 9223372036854775807 ∧ Sts w A xs.length xs := by
  obtain ⟨h1, h2⟩ := h
  rcases h2 with ⟨rfl, h0⟩ | ⟨g, cap, cur, rfl, hb, hg, hc1, hc2, hsz, htk⟩
  · have : xs = [] := List.eq_nil_of_length_eq_zero h0
    subst this
    exact ⟨none, 0, rfl, by simp, by omega, Sts.nil _ _⟩
  · refine ⟨_, cap, rfl, hc1, hc2, rfl, hx, fun hn => ⟨g, 0, rfl, lt_heap hg, fun k hk => ?_⟩⟩
    rw [Nat.zero_add, cell_of_row w g k cur 9 (0, 0) hg]
    have e : (cur.toList.take (xs.length * 1))[k]? = (tvs xs)[k]? := by rw [htk]
    rw [List.getElem?_take, if_pos (by omega)] at e
    rw [List.getD_eq_getElem?_getD, List.getElem?_eq_getElem hk]
    simpa [List.getElem?_map, List.getElem?_eq_getElem hk] using e

theorem own_low {w : World} {base base' : Nat} {e : TypeId} {size n : Nat} {v : Value} {xs : List Value} (h : w.ownsRow base e size v n xs) (hb : base' ≤ base) : w.ownsRow base' e size v n xs := by
  obtain ⟨h1, h2⟩ := h
  rcases h2 with h2 | ⟨g, cap, cur, hv, hg, h3⟩
  · exact ⟨h1, .inl h2⟩
  · exact ⟨h1, .inr ⟨g, cap, cur, hv, Nat.le_trans hb hg, h3⟩⟩
theorem news3 (W : World) (a b c : Value) (t : TypeId) : ∀ j u, [a, b, c][j]? = some u → (W.alloc (.cells #[a, b, c] t)).cell? ((⟨W.heap.size, 0, none⟩ : Addr).add j) = some u := World.news_of_block (MapKept.heap_alloc W _).1
theorem pr_ok (p : ByteArray) (e b : Nat) (k : Int) (hs : p.size ≤ 281474976710656) (he : e < 18446744073709551616) (hb : b < 18446744073709551616) : Lim (prW p e b k) := by
  have dz1 := dig_size e he
  have dz2 := dig_size b hb
  have dz3 := nam_size k
  intro x hx
  unfold prW at hx
  split at hx
  · cases hx
  · split at hx
    · simp only [List.mem_cons, List.not_mem_nil, or_false] at hx
      rcases hx with rfl | rfl | rfl | rfl
      · decide
      · omega
      · omega
      · omega
    · simp only [List.mem_cons, List.not_mem_nil, or_false] at hx
      rcases hx with rfl | rfl | rfl | rfl | rfl
      · decide
      · omega
      · omega
      · omega
      · omega
theorem own_lt {w : World} {base : Nat} {v : Value} {xs : List ByteArray} (h : ORow w base v xs) : ∀ k, v.ownBlock = some k → base ≤ k := fun k hk => (h.lt k hk).1

set_option maxRecDepth 100000 in
set_option maxHeartbeats 2000000 in
theorem refprint_any (p : ByteArray) (e b : Nat) (k : Int) (w : World) (hs : p.size ≤ 281474976710656) (he : e < 18446744073709551616) (hb : b < 18446744073709551616) (hk : 0 ≤ k ∧ k ≤ 255) :
    Calls Tryd.prog 11 #[rul p e b k] w fun r w' => (∃ v, r = .returned v ∧ ORow w' w.heap.size v (prW p e b k)) ∧ Below w.heap.size w w' := by
  have RA := fun W => refRight_any p e b k W (by omega) (UN e he) (UN b hb) hk
  obtain ⟨i0, hi, hy0, hy1, hy2⟩ := info_parts infoStr
  by_cases h : ruE p e b k = 0
  · have e0 : prW p e b k = if p.size = 0 then [defS, dig e, dig b, namS k] else [rulS, p, dig e, dig b, namS k] := by unfold prW; rw [if_neg (by simp [h])]
    rw [h] at RA
    by_cases hp : p.size = 0
    · have hz := toList_none p hp
      rw [if_pos hp] at e0
      rw [e0]
      clear e0 h hp
      go_enter Tryd.func11, Tryd.ntmps11
      go_wp2_with (go_at_call 26; refine (RA _).mono ?_; rintro r w1 ⟨rfl, k1⟩; have q0 : w1.cell? ⟨w.heap.size, 0, none⟩ = some (.string p) := k1.cell (by simp); have hq0 := lt_of_cell q0; have hq1 := Nat.ne_of_lt hq0)
      have kW : Kept w w1 := ((Kept.refl w).alloc _ _).trans k1
      have b1 : w1.cell? ⟨w.heap.size, 1, none⟩ = some (.int .u64 e) := k1.cell (by simp)
      have b2 : w1.cell? ⟨w.heap.size, 2, none⟩ = some (.int .u64 b) := k1.cell (by simp)
      have b3 : w1.cell? ⟨w.heap.size, 3, none⟩ = some (.int .u8 k) := k1.cell (by simp)
      have hz1 : w.heap.size < w1.heap.size := lt_of_cell b1
      obtain ⟨G, hG⟩ : ∃ G, G = w1.heap.size := ⟨_, rfl⟩
      have HO := ORow.lit w1 w1.heap.size [defS] (Nat.le_refl _) (by decide)
      have kF : Kept w (w1.alloc (.cells (tvs [defS]).toArray 9)) := kW.alloc _ _
      have kk : Kept w1 (w1.alloc (.cells (tvs [defS]).toArray 9)) := (Kept.refl w1).alloc _ _
      have d1 := kk.cell b1
      have d2 := kk.cell b2
      have d3 := kk.cell b3
      have hgW : w1.heap.size ≤ (w1.alloc (.cells (tvs [defS]).toArray 9)).heap.size := kk.size
      rw [← hG] at HO hgW hz1 ⊢
      clear kk
      generalize hW : World.alloc _ _ = W
      replace HO : ORow W G (.slice (some ⟨G, 0, none⟩) 1 1) [defS] := by rw [← hW]; exact HO
      replace kF : Kept w W := by rw [← hW]; exact kF
      replace d1 : W.cell? ⟨w.heap.size, 1, none⟩ = some (.int .u64 e) := by rw [← hW]; exact d1
      replace d2 : W.cell? ⟨w.heap.size, 2, none⟩ = some (.int .u64 b) := by rw [← hW]; exact d2
      replace d3 : W.cell? ⟨w.heap.size, 3, none⟩ = some (.int .u8 k) := by rw [← hW]; exact d3
      replace hgW : G ≤ W.heap.size := by rw [← hW]; exact hgW
      clear hW b1 b2 b3 k1 kW
      have hGb : w.heap.size < G := by omega
      clear hG
      have MK : Hid (∀ w', Below G W w' → Below G W w' ∧ w'.cell? ⟨w.heap.size, 1, none⟩ = some (.int .u64 e) ∧ w'.cell? ⟨w.heap.size, 2, none⟩ = some (.int .u64 b) ∧ w'.cell? ⟨w.heap.size, 3, none⟩ = some (.int .u8 k)) := Lib.hid (fun w' h => ⟨h, (h.cell (p := ⟨w.heap.size, 1, none⟩) hGb).trans d1, (h.cell (p := ⟨w.heap.size, 2, none⟩) hGb).trans d2, (h.cell (p := ⟨w.heap.size, 3, none⟩) hGb).trans d3⟩)
      have HOW := Lib.hid HO
      clear HO
      have hbW : Below G W W := Below.refl _ _
      go_region_held3 (fun w' => Below G W w' ∧ w'.cell? ⟨w.heap.size, 1, none⟩ = some (.int .u64 e) ∧ w'.cell? ⟨w.heap.size, 2, none⟩ = some (.int .u64 b) ∧ w'.cell? ⟨w.heap.size, 3, none⟩ = some (.int .u8 k))
        (exact MK.out _ (by first | with_reducible exact hbW | with_reducible exact hbW.drew | with_reducible exact hbW.alloc hgW _ | with_reducible exact (hbW.alloc hgW _).drew | with_reducible exact hbW.drew.alloc hgW _ | with_reducible exact hb3))
        (first
        | (go_at_call 12; ((with_reducible refine (refPrint_any _ _ (by first | exact he | exact hb)).mono ?_); rintro r w2 ⟨rfl, rfl⟩))
        | (go_at_call 18; ((with_reducible refine (refName_any _ _).mono ?_); rintro r w2 ⟨rfl, rfl⟩))
        | (refine step_append_lies _ (by rfl) _ _ 25 (by rfl) G 9 i0 (.string ⟨#[]⟩) 1 16 Tryd.underlying25 hi hy0 hy1 hy2 rfl (by decide) (.slice (some ⟨G, 0, none⟩) 1 1) 1 (tvs [defS]) (by rfl) (by first | exact HOW.out.alloc _ | exact (HOW.out.alloc _).drew) ⟨W.heap.size, 0, none⟩ 3 3 [.string (dig e), .string (dig b), .string (namS k)] (by rfl) (by rfl) (by first | exact news3 _ _ _ _ _ | exact fun j u hu => news3 W _ _ _ _ j u hu) (by simp [Value.oneCell']) (by decide) (by unfold maxLen; omega) (by omega) (by simp; omega) (W.heap.size + 1) (by simp) ?_; intro g cp w3 own3 grow3 at3 lt3; have hb3 : Below G W w3 := (by first | with_reducible exact (hbW.alloc hgW _).grown grow3 (by simp; omega) (own_lt HOW.out) | with_reducible exact (hbW.alloc hgW _).drew.grown grow3 (by simp; omega) (own_lt HOW.out))))
      all_goals
        go_wp2
        go_ret
        exact ⟨⟨_, rfl, own_low own3 (Nat.le_of_lt hGb)⟩, kF.2.trans (hb3.mono (Nat.le_of_lt hGb))⟩
    · have hz := toList_ne p (by omega)
      rw [if_neg hp] at e0
      rw [e0]
      clear e0 h hp
      go_enter Tryd.func11, Tryd.ntmps11
      go_wp2_with (go_at_call 26; refine (RA _).mono ?_; rintro r w1 ⟨rfl, k1⟩; have q0 : w1.cell? ⟨w.heap.size, 0, none⟩ = some (.string p) := k1.cell (by simp); have hq0 := lt_of_cell q0; have hq1 := Nat.ne_of_lt hq0)
      have kW : Kept w w1 := ((Kept.refl w).alloc _ _).trans k1
      have b1 : w1.cell? ⟨w.heap.size, 1, none⟩ = some (.int .u64 e) := k1.cell (by simp)
      have b2 : w1.cell? ⟨w.heap.size, 2, none⟩ = some (.int .u64 b) := k1.cell (by simp)
      have b3 : w1.cell? ⟨w.heap.size, 3, none⟩ = some (.int .u8 k) := k1.cell (by simp)
      have hz1 : w.heap.size < w1.heap.size := lt_of_cell b1
      obtain ⟨V, hV⟩ : ∃ V, V = w1.alloc (.cells (tvs [defS]).toArray 9) := ⟨_, rfl⟩
      obtain ⟨G, hG⟩ : ∃ G, G = V.heap.size := ⟨_, rfl⟩
      have hGs : G = w1.heap.size + 1 := by rw [hG, hV]; simp
      have HO := ORow.lit V V.heap.size [rulS, p] (Nat.le_refl _) (by simp)
      have kk : Kept w1 (V.alloc (.cells (tvs [rulS, p]).toArray 9)) := by rw [hV]; exact ((Kept.refl w1).alloc _ _).alloc _ _
      have kF := kW.trans kk
      have d1 := kk.cell b1
      have d2 := kk.cell b2
      have d3 := kk.cell b3
      have hgW : V.heap.size ≤ (V.alloc (.cells (tvs [rulS, p]).toArray 9)).heap.size := by simp
      rw [← hG] at HO hgW
      clear kk
      generalize hW : World.alloc _ _ = W
      replace HO : ORow W G (.slice (some ⟨G, 0, none⟩) 2 2) [rulS, p] := by rw [← hW]; subst hV; exact HO
      replace kF : Kept w W := by rw [← hW]; subst hV; exact kF
      replace d1 : W.cell? ⟨w.heap.size, 1, none⟩ = some (.int .u64 e) := by rw [← hW]; subst hV; exact d1
      replace d2 : W.cell? ⟨w.heap.size, 2, none⟩ = some (.int .u64 b) := by rw [← hW]; subst hV; exact d2
      replace d3 : W.cell? ⟨w.heap.size, 3, none⟩ = some (.int .u8 k) := by rw [← hW]; subst hV; exact d3
      replace hgW : G ≤ W.heap.size := by rw [← hW]; subst hV; exact hgW
      clear hW b1 b2 b3 k1 kW
      have hGb : w.heap.size < G := by omega
      rw [← hGs]
      clear hG hGs hV
      have MK : Hid (∀ w', Below G W w' → Below G W w' ∧ w'.cell? ⟨w.heap.size, 1, none⟩ = some (.int .u64 e) ∧ w'.cell? ⟨w.heap.size, 2, none⟩ = some (.int .u64 b) ∧ w'.cell? ⟨w.heap.size, 3, none⟩ = some (.int .u8 k)) := Lib.hid (fun w' h => ⟨h, (h.cell (p := ⟨w.heap.size, 1, none⟩) hGb).trans d1, (h.cell (p := ⟨w.heap.size, 2, none⟩) hGb).trans d2, (h.cell (p := ⟨w.heap.size, 3, none⟩) hGb).trans d3⟩)
      have HOW := Lib.hid HO
      clear HO
      have hbW : Below G W W := Below.refl _ _
      go_region_held3 (fun w' => Below G W w' ∧ w'.cell? ⟨w.heap.size, 1, none⟩ = some (.int .u64 e) ∧ w'.cell? ⟨w.heap.size, 2, none⟩ = some (.int .u64 b) ∧ w'.cell? ⟨w.heap.size, 3, none⟩ = some (.int .u8 k))
        (exact MK.out _ (by first | with_reducible exact hbW | with_reducible exact hbW.drew | with_reducible exact hbW.alloc hgW _ | with_reducible exact (hbW.alloc hgW _).drew | with_reducible exact hbW.drew.alloc hgW _ | with_reducible exact hb3))
        (first
        | (go_at_call 12; ((with_reducible refine (refPrint_any _ _ (by first | exact he | exact hb)).mono ?_); rintro r w2 ⟨rfl, rfl⟩))
        | (go_at_call 18; ((with_reducible refine (refName_any _ _).mono ?_); rintro r w2 ⟨rfl, rfl⟩))
        | (refine step_append_lies _ (by rfl) _ _ 25 (by rfl) G 9 i0 (.string ⟨#[]⟩) 1 16 Tryd.underlying25 hi hy0 hy1 hy2 rfl (by decide) (.slice (some ⟨G, 0, none⟩) 2 2) 2 (tvs [rulS, p]) (by rfl) (by first | exact HOW.out.alloc _ | exact (HOW.out.alloc _).drew) ⟨W.heap.size, 0, none⟩ 3 3 [.string (dig e), .string (dig b), .string (namS k)] (by rfl) (by rfl) (by first | exact news3 _ _ _ _ _ | exact fun j u hu => news3 W _ _ _ _ j u hu) (by simp [Value.oneCell']) (by decide) (by unfold maxLen; omega) (by omega) (by simp; omega) (W.heap.size + 1) (by simp) ?_; intro g cp w3 own3 grow3 at3 lt3; have hb3 : Below G W w3 := (by first | with_reducible exact (hbW.alloc hgW _).grown grow3 (by simp; omega) (own_lt HOW.out) | with_reducible exact (hbW.alloc hgW _).drew.grown grow3 (by simp; omega) (own_lt HOW.out))))
      all_goals
        go_wp2
        go_ret
        exact ⟨⟨_, rfl, own_low own3 (Nat.le_of_lt hGb)⟩, kF.2.trans (hb3.mono (Nat.le_of_lt hGb))⟩
  · have e0 : prW p e b k = [] := by unfold prW; rw [if_pos (by simpa using h)]
    rw [e0]
    have c1 : (ruE p e b k != 0) = true := by simpa using h
    have c2 : (ruE p e b k == 0) = false := by simpa using h
    generalize ruE p e b k = E at *
    clear e0 h
    go_enter Tryd.func11, Tryd.ntmps11
    go_wp2_with (go_at_call 26; refine (RA _).mono ?_; rintro r w1 ⟨rfl, k1⟩)
    go_ret
    exact ⟨⟨_, rfl, ORow.nil _ _⟩, (((Kept.refl w).alloc _ _).trans k1).2⟩
end Go.Proofs.YtpkpmbigljkneaaDoor.Wd
