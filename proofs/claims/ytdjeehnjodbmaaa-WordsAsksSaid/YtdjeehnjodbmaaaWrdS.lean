/- What words.Split answers: rows of words in memory; no conditions but those that each names. -/
import Derived.Test.YtdjeehnjodbmaaaWrdB
namespace Go.Proofs.Ytdjeehnjodbmaaa.Wd
open Go Go.RowKit
set_option linter.unusedVariables false

theorem infoWord : (Try.prog.info? 39).map (fun i => (i.zero, i.size, i.bytes)) = some (some (.agg #[.string ⟨#[]⟩, .int .i64 0, .int .i64 0]), 3, 32) := by kernel_rfl
theorem infoRow : (Try.prog.info? 37).map (fun i => (i.zero, i.size, i.bytes)) = some (some (.slice none 0 0), 1, 24) := by kernel_rfl

/-! ### Rows of words in memory -/
/-- The cells of a word. -/
def wcl (x : Wo) : List Value := [.string (str x.1), .int .i64 (x.2.1 : Int), .int .i64 (x.2.2 : Int)]
def flatW : List Wo → List Value
  | [] => []
  | x :: ws => wcl x ++ flatW ws
theorem flatW_append (a b : List Wo) : flatW (a ++ b) = flatW a ++ flatW b := by
  induction a with
  | nil => rfl
  | cons x a ih => simp [flatW, ih]
theorem flatW_length (a : List Wo) : (flatW a).length = a.length * 3 := by
  induction a with
  | nil => rfl
  | cons x a ih => simp [flatW, wcl, ih]; omega
theorem flatW_at : ∀ (ws : List Wo) (k : Nat) (x : Wo), ws[k]? = some x → (flatW ws)[k * 3]? = some (.string (str x.1)) ∧ (flatW ws)[k * 3 + 1]? = some (.int .i64 (x.2.1 : Int)) ∧ (flatW ws)[k * 3 + 2]? = some (.int .i64 (x.2.2 : Int))
  | [], k, x, h => by simp at h
  | y :: ws, 0, x, h => by
    simp at h
    subst h
    exact ⟨rfl, rfl, rfl⟩
  | y :: ws, k + 1, x, h => by
    have := flatW_at ws k x (by simpa using h)
    have e (j : Nat) : (flatW (y :: ws))[(k + 1) * 3 + j]? = (flatW ws)[k * 3 + j]? := by
      rw [flatW, List.getElem?_append_right (by simp [wcl]; omega)]
      congr 1
      simp [wcl]; omega
    exact ⟨(e 0).trans this.1, (e 1).trans this.2.1, (e 2).trans this.2.2⟩
theorem flatW_one (ws : List Wo) : ∀ u ∈ flatW ws, u.oneCell' = true := by
  induction ws with
  | nil => intro u hu; cases hu
  | cons x ws ih =>
    intro u hu
    rcases List.mem_append.1 hu with h | h
    · simp only [wcl, List.mem_cons, List.not_mem_nil, or_false] at h
      rcases h with rfl | rfl | rfl <;> rfl
    · exact ih u h

/-- A row of words. -/
def WRow (w : World) (base : Nat) (v : Value) (ws : List Wo) : Prop := w.ownsRow base 39 3 v ws.length (flatW ws)
theorem WRow.nil (w : World) (base : Nat) : WRow w base (.slice none 0 0) [] := World.ownsRow_nil _ _ _ _
theorem own_mono {w : World} {base base' : Nat} {e : TypeId} {size : Nat} {v : Value} {n : Nat} {xs : List Value} (h : w.ownsRow base e size v n xs) (g : base' ≤ base) : w.ownsRow base' e size v n xs := by
  refine ⟨h.1, ?_⟩
  rcases h.2 with h0 | ⟨b, cap, cur, h1, h2, h3, h4⟩
  · exact .inl h0
  · exact .inr ⟨b, cap, cur, h1, Nat.le_trans g h2, h3, h4⟩
theorem own_below {w w' : World} {base : Nat} {e : TypeId} {size : Nat} {v : Value} {n : Nat} {xs : List Value} (h : w.ownsRow base e size v n xs) (g : Below w.heap.size w w') : w'.ownsRow base e size v n xs := by
  refine ⟨h.1, ?_⟩
  rcases h.2 with h0 | ⟨b, cap, cur, h1, h2, h3, h4⟩
  · exact .inl h0
  · exact .inr ⟨b, cap, cur, h1, h2, (g.block b (Array.getElem?_eq_some_iff.1 h3).1).trans h3, h4⟩
theorem own_block {w : World} {base : Nat} {e : TypeId} {size : Nat} {v : Value} {n : Nat} {xs : List Value} (h : w.ownsRow base e size v n xs) : ∀ k, v.ownBlock = some k → base ≤ k := fun k hk => (h.lt k hk).1
/-- A row as it was, behind what changes one block below it. -/
theorem own_but {w w' : World} {base B : Nat} {e : TypeId} {size : Nat} {v : Value} {n : Nat} {xs : List Value} (h : w.ownsRow base e size v n xs) (g : w.grownBy w' (some B)) (hB : B < base) : w'.ownsRow base e size v n xs := by
  refine h.kept g ?_
  cases hb : v.ownBlock with
  | none => exact .inl rfl
  | some k => exact .inr (fun e => by have := own_block h k hb; injection e; omega)
/-- Rows of unlike kinds lie apart. -/
theorem own_apart {w : World} {b1 b2 : Nat} {e1 e2 : TypeId} {s1 s2 : Nat} {v1 v2 : Value} {n1 n2 : Nat} {x1 x2 : List Value} (h1 : w.ownsRow b1 e1 s1 v1 n1 x1) (h2 : w.ownsRow b2 e2 s2 v2 n2 x2) (hne : e1 ≠ e2) : v1.ownBlock = none ∨ v1.ownBlock ≠ v2.ownBlock := by
  rcases h1.2 with ⟨rfl, _⟩ | ⟨g, cap, cur, rfl, _, hg, _⟩
  · exact .inl rfl
  · refine .inr fun e => ?_
    rcases h2.2 with ⟨rfl, _⟩ | ⟨g', cap', cur', rfl, _, hg', _⟩
    · simp [Value.ownBlock] at e
    · simp [Value.ownBlock] at e
      subst e
      rw [hg] at hg'
      simp at hg'
      exact hne hg'.2
theorem own_caps {w : World} {base : Nat} {e : TypeId} {size : Nat} {A : Option Addr} {n c m : Nat} {xs : List Value} (h : w.ownsRow base e size (.slice A n c) m xs) : n ≤ c ∧ c ≤ 9223372036854775807 := by
  rcases h.2 with ⟨h1, _⟩ | ⟨g, cap, cur, h1, _, _, h2, h3, _⟩
  · simp only [Value.slice.injEq] at h1
    omega
  · simp only [Value.slice.injEq] at h1
    unfold maxLen at h3
    omega
theorem own_slice {w : World} {base : Nat} {e : TypeId} {size : Nat} {v : Value} {n : Nat} {xs : List Value} (h : w.ownsRow base e size v n xs) : ∃ A c, v = .slice A n c := by
  rcases h.2 with ⟨rfl, rfl⟩ | ⟨g, cap, cur, rfl, _⟩
  · exact ⟨_, _, rfl⟩
  · exact ⟨_, _, rfl⟩

/-- Rows of words, each with its value, below a bound. -/
def Each (w : World) (lo top : Nat) : List Value → List (List Wo) → Prop
  | [], [] => True
  | u :: us, ws :: wss => (WRow w lo u ws ∧ u.oneCell' = true ∧ ∀ k, u.ownBlock = some k → k < top) ∧ Each w lo top us wss
  | _, _ => False
theorem Each.len {w : World} {lo top : Nat} : ∀ {us : List Value} {wss : List (List Wo)}, Each w lo top us wss → us.length = wss.length
  | [], [], _ => rfl
  | u :: us, ws :: wss, h => by simp [Each.len h.2]
  | [], _ :: _, h => h.elim
  | _ :: _, [], h => h.elim
theorem Each.push {w : World} {lo top : Nat} : ∀ {us : List Value} {wss : List (List Wo)} {u : Value} {ws : List Wo}, Each w lo top us wss → (WRow w lo u ws ∧ u.oneCell' = true ∧ ∀ k, u.ownBlock = some k → k < top) → Each w lo top (us ++ [u]) (wss ++ [ws])
  | [], [], _, _, _, h => ⟨h, trivial⟩
  | u :: us, ws :: wss, _, _, g, h => ⟨g.1, Each.push g.2 h⟩
  | [], _ :: _, _, _, g, _ => g.elim
  | _ :: _, [], _, _, g, _ => g.elim
theorem Each.imp {w w' : World} {lo lo' top top' : Nat} (f : ∀ u ws, WRow w lo u ws → (∀ k, u.ownBlock = some k → k < top) → WRow w' lo' u ws ∧ ∀ k, u.ownBlock = some k → k < top') : ∀ {us : List Value} {wss : List (List Wo)}, Each w lo top us wss → Each w' lo' top' us wss
  | [], [], _ => trivial
  | u :: us, ws :: wss, h => ⟨⟨(f u ws h.1.1 h.1.2.2).1, h.1.2.1, (f u ws h.1.1 h.1.2.2).2⟩, Each.imp f h.2⟩
  | [], _ :: _, h => h.elim
  | _ :: _, [], h => h.elim
theorem Each.at {w : World} {lo top : Nat} : ∀ {us : List Value} {wss : List (List Wo)} (k : Nat) (ws : List Wo), Each w lo top us wss → wss[k]? = some ws → ∃ u, us[k]? = some u ∧ WRow w lo u ws
  | [], [], k, ws, _, h => by simp at h
  | u :: us, y :: wss, 0, ws, g, h => by simp at h; subst h; exact ⟨u, rfl, g.1.1⟩
  | u :: us, y :: wss, k + 1, ws, g, h => by
    obtain ⟨u', h1, h2⟩ := Each.at k ws g.2 (by simpa using h)
    exact ⟨u', by simpa using h1, h2⟩
  | [], _ :: _, _, _, h, _ => h.elim
  | _ :: _, [], _, _, h, _ => h.elim
theorem Each.one {w : World} {lo top : Nat} : ∀ {us : List Value} {wss : List (List Wo)}, Each w lo top us wss → ∀ u ∈ us, u.oneCell' = true
  | [], [], _, u, h => by cases h
  | v :: us, ws :: wss, g, u, h => by
    rcases List.mem_cons.1 h with rfl | h
    · exact g.1.2.1
    · exact Each.one g.2 u h
  | [], _ :: _, h, _, _ => h.elim
  | _ :: _, [], h, _, _ => h.elim
/-- Rows of rows of words. -/
def WRows (w : World) (v : Value) (wss : List (List Wo)) : Prop := ∃ us, w.ownsRow 0 37 1 v wss.length us ∧ Each w 0 w.heap.size us wss
theorem WRows.nil (w : World) : WRows w (.slice none 0 0) [] := ⟨[], World.ownsRow_nil _ _ _ _, trivial⟩
theorem WRows.below {w w' : World} {v : Value} {wss : List (List Wo)} (h : WRows w v wss) (g : Below w.heap.size w w') : WRows w' v wss := by
  obtain ⟨us, h1, h2⟩ := h
  exact ⟨us, own_below h1 g, h2.imp fun u ws hu hk => ⟨own_below hu g, fun k e => Nat.lt_of_lt_of_le (hk k e) g.size⟩⟩

/-! ### What holds at every label -/
def R2 (w : World) (B : Nat) (x y : Value) : Prop := (w.cell? ⟨B, 0, none⟩ = some x ∧ w.cell? ⟨B, 1, none⟩ = some y) ∧ w.frozen? ⟨B, 0, none⟩ = false ∧ w.frozen? ⟨B, 1, none⟩ = false
theorem R2.below {w w' : World} {N B : Nat} {x y : Value} (h : R2 w B x y) (g : Below N w w') (hB : B < N) : R2 w' B x y :=
  ⟨⟨(g.cell (p := ⟨B, 0, none⟩) hB).trans h.1.1, (g.cell (p := ⟨B, 1, none⟩) hB).trans h.1.2⟩, (g.frozen (p := ⟨B, 0, none⟩) hB).trans h.2.1, (g.frozen (p := ⟨B, 1, none⟩) hB).trans h.2.2⟩
theorem but_below' {w W : World} {B : Nat} (h : w.grownBy W (some B)) (hB : B ≤ w.heap.size) : Below B w W := ⟨h.os, h.tape, h.output, h.size, fun k hk => h.block k (by omega) (fun e => by injection e; omega)⟩

/-- What holds at every label of Split. -/
structure Inv (w0 W : World) (T : Value) (i n c : Nat) (line : List Wo) (lines : List (List Wo)) (vL vLs : Value) : Prop where
  below : Below w0.heap.size w0 W
  walk : Wlk W (w0.heap.size + 1) T i n c
  place : R2 W w0.heap.size (.int .i64 0) (.int .i64 0)
  bounds : (1 ≤ n ∧ n ≤ i + 1) ∧ (1 ≤ c ∧ c ≤ i + 1) ∧ lines.length + line.length ≤ i
  rows : ∃ top us, (w0.heap.size + 2 ≤ top ∧ top ≤ W.heap.size) ∧ WRow W top vL line ∧ W.ownsRow (w0.heap.size + 2) 37 1 vLs lines.length us ∧ (∀ k, vLs.ownBlock = some k → k < top) ∧ Each W (w0.heap.size + 2) top us lines

theorem Inv.grow {w0 W W' : World} {T : Value} {i n c : Nat} {line : List Wo} {lines : List (List Wo)} {vL vLs : Value} (h : Inv w0 W T i n c line lines vL vLs) (g : Below W.heap.size W W') : Inv w0 W' T i n c line lines vL vLs := by
  obtain ⟨top, us, h1, h2, h3, h4, h5⟩ := h.rows
  have hlt := h.walk.lt
  exact ⟨kbq h.below g, h.walk.below g hlt, h.place.below g (by omega), h.bounds, top, us, ⟨h1.1, Nat.le_trans h1.2 g.size⟩, own_below h2 g, own_below h3 g, h4, h5.imp fun u ws hu hk => ⟨own_below hu g, hk⟩⟩
theorem Inv.moved {w0 W W' : World} {T : Value} {i n c i' n' c' : Nat} {line : List Wo} {lines : List (List Wo)} {vL vLs : Value} (h : Inv w0 W T i n c line lines vL vLs) (g : W.grownBy W' (some (w0.heap.size + 1))) (hw : Wlk W' (w0.heap.size + 1) T i' n' c')
    (hi : i ≤ i') (hn : 1 ≤ n' ∧ n' ≤ i' + 1) (hc : 1 ≤ c' ∧ c' ≤ i' + 1) : Inv w0 W' T i' n' c' line lines vL vLs := by
  obtain ⟨top, us, h1, h2, h3, h4, h5⟩ := h.rows
  have hlt := h.walk.lt
  have gb := but_below' g (by omega)
  have hb := h.bounds.2.2
  refine ⟨h.below.trans (gb.mono (by omega)), hw, h.place.below gb (by omega), ⟨hn, hc, by omega⟩, top, us, ⟨h1.1, Nat.le_trans h1.2 g.size⟩, own_but h2 g (by omega), own_but h3 g (by omega), h4, h5.imp fun u ws hu hk => ⟨own_but hu g (by omega), hk⟩⟩
/-- A word behind a line. -/
theorem Inv.word {w0 W W' : World} {T : Value} {i n c : Nat} {line : List Wo} {lines : List (List Wo)} {vL vLs vL' : Value} {x : Wo} {i0 : Nat} (h : Inv w0 W T i n c line lines vL vLs) (hlen : lines.length + line.length < i) (top : Nat) (us : List Value)
    (h1 : w0.heap.size + 2 ≤ top ∧ top ≤ W.heap.size) (h2 : WRow W top vL line) (h3 : W.ownsRow (w0.heap.size + 2) 37 1 vLs lines.length us) (h4 : ∀ k, vLs.ownBlock = some k → k < top) (h5 : Each W (w0.heap.size + 2) top us lines)
    (own : W'.ownsRow top 39 3 vL' (line.length + 1) (flatW line ++ wcl x)) (g : W.grownBy W' vL.ownBlock) : Inv w0 W' T i n c (line ++ [x]) lines vL' vLs := by
  have hb : Below top W W' := (Below.refl _ W).grown g h1.2 (own_block h2)
  have hlt := h.walk.lt
  refine ⟨h.below.trans (hb.mono (by omega)), h.walk.below hb (by omega), h.place.below hb (by omega), ⟨h.bounds.1, h.bounds.2.1, by simp; omega⟩, top, us, ⟨h1.1, Nat.le_trans h1.2 g.size⟩, ?_, h3.kept g ?_, h4, h5.imp fun u ws hu hk => ⟨hu.kept g ?_, hk⟩⟩
  · unfold WRow
    rw [flatW_append, List.length_append]
    exact own
  · cases e : vLs.ownBlock with
    | none => exact .inl rfl
    | some k => exact .inr fun e2 => by have := own_block h2 k e2.symm; have := h4 k e; omega
  · cases e : u.ownBlock with
    | none => exact .inl rfl
    | some k => exact .inr fun e2 => by have := own_block h2 k e2.symm; have := hk k e; omega
/-- A line behind the lines. -/
theorem Inv.stop {w0 W W' : World} {T : Value} {i n c : Nat} {line : List Wo} {lines : List (List Wo)} {vL vLs vLs' : Value} (h : Inv w0 W T i n c line lines vL vLs) (hne : line ≠ []) (top : Nat) (us : List Value)
    (h1 : w0.heap.size + 2 ≤ top ∧ top ≤ W.heap.size) (h2 : WRow W top vL line) (h3 : W.ownsRow (w0.heap.size + 2) 37 1 vLs lines.length us) (h4 : ∀ k, vLs.ownBlock = some k → k < top) (h5 : Each W (w0.heap.size + 2) top us lines)
    (own : W'.ownsRow (w0.heap.size + 2) 37 1 vLs' (lines.length + 1) (us ++ [vL])) (g : W.grownBy W' vLs.ownBlock) : Inv w0 W' T i n c [] (lines ++ [line]) (.slice none 0 0) vLs' := by
  have hlt := h.walk.lt
  have hb : Below (w0.heap.size + 2) W W' := (Below.refl _ W).grown g (by omega) (own_block h3)
  have hl : 0 < line.length := List.length_pos_iff.2 hne
  have hbd := h.bounds.2.2
  have hsz := g.size
  have hvL := h2.kept g (own_apart h2 h3 (by decide))
  refine ⟨h.below.trans (hb.mono (by omega)), h.walk.below hb (by omega), h.place.below hb (by omega), ⟨h.bounds.1, h.bounds.2.1, by simp; omega⟩, W'.heap.size, us ++ [vL], ⟨by omega, Nat.le_refl _⟩, WRow.nil _ _, ?_, fun k e => (own.lt k e).2, ?_⟩
  · rw [List.length_append]; exact own
  · refine Each.push (h5.imp fun u ws hu hk => ⟨hu.kept g (own_apart hu h3 (by decide)), fun k e => by have := hk k e; omega⟩) ⟨own_mono hvL h1.1, ?_, fun k e => ?_⟩
    · obtain ⟨A, c', e⟩ := own_slice h2; rw [e]; rfl
    · exact (hvL.lt k e).2
end Go.Proofs.Ytdjeehnjodbmaaa.Wd
