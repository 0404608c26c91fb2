/- A queue of slots in memory: how they lie, and what its methods Len, Less and Swap do; no conditions but those that each names. -/
import Derived.Test.YtkfncanfgpmgaaaGreatTabH
namespace Go.Proofs.YtkfncanfgpmgaaaGreat.Wd
open Go Go.RowKit Go.Shelf
set_option linter.unusedVariables false
set_option maxRecDepth 100000

/-- A slot, as data. -/
structure Sl where
  key : ByteArray
  r : Rl
  k : Int
  a : Int
  b : Int
abbrev Sl.cs (s : Sl) : Array Value := #[.string s.key, .string s.r.p, .int .u64 s.r.e, .int .u64 s.r.b, .int .u8 s.r.k, .int .u8 s.k, .int .u64 s.a, .int .u64 s.b]
abbrev Sl.v (s : Sl) : Value := .agg s.cs
/-- What the queue keeps of one: when it is due, and where it stands. -/
def kcs (x : Sl × Int) (i : Int) : Array Value := #[.string x.1.key, .string x.1.r.p, .int .u64 x.1.r.e, .int .u64 x.1.r.b, .int .u8 x.1.r.k, .int .u8 x.1.k, .int .u64 x.1.a, .int .u64 x.1.b, .int .u64 x.2, .int .i64 i]
abbrev ptr (b : Nat) : Value := .pointer (some ⟨b, 0, none⟩)
abbrev Tsl : TypeId := 94
abbrev Tps : TypeId := 91

/-- n slots stand in a queue whose variable is the fourth cell of block T; its row lies in block A. -/
structure Que (w : World) (T A n cap : Nat) (q : Nat → Nat) (F : Nat → Sl × Int) : Prop where
  var : w.cell? ⟨T, 3, none⟩ = some (.slice (some ⟨A, 0, none⟩) n cap)
  row : ∃ cur : Array Value, Blk w A cur Tps ∧ cur.size = cap ∧ n ≤ cap ∧ cap ≤ 9223372036854775807 ∧ ∀ i, i < n → cur[i]? = some (ptr (q i))
  few : n ≤ 1099511627776
  nd : ∀ i, i < n → Blk w (q i) (kcs (F (q i)) i) Tsl
  inj : ∀ i j, i < n → j < n → q i = q j → i = j
  one : A ≠ T
  two : ∀ i, i < n → q i ≠ A ∧ q i ≠ T

theorem kcs_set (x : Sl × Int) (i j : Int) : (kcs x i).setIfInBounds 9 (.int .i64 j) = kcs x j := rfl
theorem Que.cap {w : World} {T A n cap : Nat} {q : Nat → Nat} {F : Nat → Sl × Int} (h : Que w T A n cap q F) : n ≤ cap ∧ n ≤ 1099511627776 ∧ cap ≤ 9223372036854775807 := by
  obtain ⟨cur, _, _, h1, h2, _⟩ := h.row; exact ⟨h1, h.few, h2⟩
theorem Que.at {w : World} {T A n cap : Nat} {q : Nat → Nat} {F : Nat → Sl × Int} (h : Que w T A n cap q F) {i : Nat} (hi : i < n) : w.cell? ⟨A, i, none⟩ = some (ptr (q i)) ∧ w.frozen? ⟨A, i, none⟩ = false := by
  obtain ⟨cur, hb, _, _, _, h1⟩ := h.row; exact ⟨(hb.cell i).trans (h1 i hi), hb.fz i⟩
theorem Que.due {w : World} {T A n cap : Nat} {q : Nat → Nat} {F : Nat → Sl × Int} (h : Que w T A n cap q F) {i : Nat} (hi : i < n) : w.cell? ⟨q i, 8, none⟩ = some (.int .u64 (F (q i)).2) := (h.nd i hi).cell 8
theorem Que.place {w : World} {T A n cap : Nat} {q : Nat → Nat} {F : Nat → Sl × Int} (h : Que w T A n cap q F) {i : Nat} (hi : i < n) : w.cell? ⟨q i, 9, none⟩ = some (.int .i64 i) ∧ w.frozen? ⟨q i, 9, none⟩ = false := ⟨(h.nd i hi).cell 9, (h.nd i hi).fz 9⟩
/-- Which blocks it takes. -/
def QB (A n : Nat) (q : Nat → Nat) : Nat → Prop := fun k => k = A ∨ ∃ i, i < n ∧ k = q i
theorem QB.of_mv {A n : Nat} {q q' : Nat → Nat} (h : Mv 0 n q q') {k : Nat} (hk : QB A n q' k) : QB A n q k := by
  rcases hk with e | ⟨i, hi, e⟩
  · exact .inl e
  · obtain ⟨j, _, hj, e2⟩ := h.back i (Nat.zero_le _) hi
    exact .inr ⟨j, hj, e.trans e2⟩
theorem Que.drew {w w' : World} {T A n cap : Nat} {q : Nat → Nat} {F : Nat → Sl × Int} (h : Que w T A n cap q F) (g : Drew w w') : Que w' T A n cap q F := by
  obtain ⟨m, rfl⟩ := g
  exact ⟨h.var, h.row, h.few, h.nd, h.inj, h.one, h.two⟩
theorem Drew.tch {S : Nat → Prop} {w w' : World} (g : Drew w w') : Tch S w w' := by
  obtain ⟨m, rfl⟩ := g
  exact ⟨rfl, rfl, rfl, Nat.le_refl _, fun _ _ _ => rfl⟩
/-- Those who stand at i and j change places, and know it. -/
theorem Que.swap {w : World} {T A n cap : Nat} {q : Nat → Nat} {F : Nat → Sl × Int} (h : Que w T A n cap q F) {i j : Nat} (hi : i < n) (hj : j < n) (hij : i ≠ j) :
    Que ((((w.setCell ⟨A, i, none⟩ (ptr (q j))).setCell ⟨A, j, none⟩ (ptr (q i))).setCell ⟨q j, 9, none⟩ (.int .i64 i)).setCell ⟨q i, 9, none⟩ (.int .i64 j)) T A n cap (xch q i j) F ∧
    Tch (QB A n q) w ((((w.setCell ⟨A, i, none⟩ (ptr (q j))).setCell ⟨A, j, none⟩ (ptr (q i))).setCell ⟨q j, 9, none⟩ (.int .i64 i)).setCell ⟨q i, 9, none⟩ (.int .i64 j)) := by
  have ne : q i ≠ q j := fun e => hij (h.inj i j hi hj e)
  have ti := h.two i hi
  have tj := h.two j hj
  obtain ⟨cur, hb, h1, h2, h3, h4⟩ := h.row
  refine ⟨⟨?_, ?_, h.few, ?_, ?_, h.one, ?_⟩, ?_⟩
  · rw [cs_other _ _ _ _ _ _ (.inl (Ne.symm ti.2)), cs_other _ _ _ _ _ _ (.inl (Ne.symm tj.2)), cs_other _ _ _ _ _ _ (.inl (Ne.symm h.one)), cs_other _ _ _ _ _ _ (.inl (Ne.symm h.one))]
    exact h.var
  · refine ⟨_, (((hb.set i (ptr (q j))).set j (ptr (q i))).other 9 _ (Ne.symm tj.1)).other 9 _ (Ne.symm ti.1), by simp [h1], h2, h3, fun k hk => ?_⟩
    rw [xch_at]
    by_cases e : k = i
    · rw [if_pos e, e, Array.getElem?_setIfInBounds_ne (by omega), Array.getElem?_setIfInBounds_self_of_lt (by omega)]
    · rw [if_neg e]
      by_cases e2 : k = j
      · rw [if_pos e2, e2, Array.getElem?_setIfInBounds_self_of_lt (by simp; omega)]
      · rw [if_neg e2, Array.getElem?_setIfInBounds_ne (by omega), Array.getElem?_setIfInBounds_ne (by omega)]
        exact h4 k hk
  · intro k hk
    have tk := h.two k hk
    rw [xch_at]
    by_cases e : k = i
    · rw [if_pos e, e]
      have z := ((((h.nd j hj).other i (ptr (q j)) tj.1).other j (ptr (q i)) tj.1).set 9 (.int .i64 i)).other 9 (.int .i64 j) (Ne.symm ne)
      rw [kcs_set] at z; exact z
    · rw [if_neg e]
      by_cases e2 : k = j
      · rw [if_pos e2, e2]
        have z := ((((h.nd i hi).other i (ptr (q j)) ti.1).other j (ptr (q i)) ti.1).other 9 (.int .i64 i) ne).set 9 (.int .i64 j)
        rw [kcs_set] at z; exact z
      · rw [if_neg e2]
        exact ((((h.nd k hk).other i (ptr (q j)) tk.1).other j (ptr (q i)) tk.1).other 9 _ (fun x => e2 (h.inj k j hk hj x))).other 9 _ (fun x => e (h.inj k i hk hi x))
  · intro a b ha hb' e
    rw [xch_at, xch_at] at e
    by_cases a1 : a = i
    · rw [if_pos a1] at e
      by_cases b1 : b = i
      · omega
      · rw [if_neg b1] at e
        by_cases b2 : b = j
        · rw [if_pos b2] at e; exact absurd e.symm ne
        · rw [if_neg b2] at e; exact absurd (h.inj _ _ hj hb' e) (fun x => b2 x.symm)
    · rw [if_neg a1] at e
      by_cases a2 : a = j
      · rw [if_pos a2] at e
        by_cases b1 : b = i
        · rw [if_pos b1] at e; exact absurd e ne
        · rw [if_neg b1] at e
          by_cases b2 : b = j
          · omega
          · rw [if_neg b2] at e; exact absurd (h.inj _ _ hi hb' e) (fun x => b1 x.symm)
      · rw [if_neg a2] at e
        by_cases b1 : b = i
        · rw [if_pos b1] at e; exact absurd (h.inj _ _ ha hj e) a2
        · rw [if_neg b1] at e
          by_cases b2 : b = j
          · rw [if_pos b2] at e; exact absurd (h.inj _ _ ha hi e) a1
          · rw [if_neg b2] at e; exact h.inj _ _ ha hb' e
  · intro k hk
    rw [xch_at]
    by_cases e : k = i
    · rw [if_pos e]; exact tj
    · rw [if_neg e]
      by_cases e2 : k = j
      · rw [if_pos e2]; exact ti
      · rw [if_neg e2]; exact h.two k hk
  · exact (((Tch.set w A i _ (.inl rfl)).trans (Tch.set _ A j _ (.inl rfl))).trans (Tch.set _ (q j) 9 _ (.inr ⟨j, hj, rfl⟩))).trans (Tch.set _ (q i) 9 _ (.inr ⟨i, hi, rfl⟩))

/-- Of block T the fourth cell alone was written. -/
def Top3 (T : Nat) (w w' : World) : Prop := ∀ cs t, Blk w T cs t → ∃ v, Blk w' T (cs.setIfInBounds 3 v) t
theorem Top3.same {T : Nat} {w w' : World} (h : w'.heap[T]? = w.heap[T]?) : Top3 T w w' := fun cs t hb => by
  refine ⟨cs.getD 3 undef, ?_⟩
  have e : cs.setIfInBounds 3 (cs.getD 3 undef) = cs := by
    apply Array.ext_getElem?
    intro i
    by_cases hi : i = 3
    · subst hi
      by_cases h3 : 3 < cs.size
      · rw [Array.getElem?_setIfInBounds_self_of_lt h3]; simp [Array.getD, h3]
      · simp [h3]
    · rw [Array.getElem?_setIfInBounds_ne (by omega)]
  rw [e]; exact h.trans hb
theorem Top3.trans {T : Nat} {a b c : World} (h : Top3 T a b) (g : Top3 T b c) : Top3 T a c := fun cs t hb => by
  obtain ⟨v, hv⟩ := h cs t hb
  obtain ⟨u, hu⟩ := g _ t hv
  exact ⟨u, by rw [Array.setIfInBounds_setIfInBounds] at hu; exact hu⟩
theorem Top3.set (T : Nat) (w : World) (v : Value) : Top3 T w (w.setCell ⟨T, 3, none⟩ v) := fun cs t hb => ⟨v, hb.set 3 v⟩
theorem Top3.other {T A i : Nat} (w : World) (v : Value) (h : A ≠ T) : Top3 T w (w.setCell ⟨A, i, none⟩ v) := Top3.same (Below.heap_setCell _ _ _ _ (Ne.symm h))
theorem Top3.tch {S : Nat → Prop} {T : Nat} {w w' : World} (h : Tch S w w') (hT : ¬ S T) (hlt : T < w.heap.size) : Top3 T w w' := Top3.same (h.block T hlt hT)

theorem qlen_any (A : Option Addr) (n cap : Nat) (w : World) : Calls Tryz.prog 209 #[.slice A n cap] w fun e w' => e = .returned (.int .i64 n) ∧ w = w' := by
  go_enter Tryz.func209, Tryz.ntmps209
  go_wp2
  go_ret
  exact ⟨rfl, rfl⟩

theorem qless_any (T A n cap : Nat) (q : Nat → Nat) (F : Nat → Sl × Int) (i j : Nat) (w : World) (h : Que w T A n cap q F) (hi : i < n) (hj : j < n) :
    Calls Tryz.prog 210 #[.slice (some ⟨A, 0, none⟩) n cap, .int .i64 i, .int .i64 j] w fun e w' => e = .returned (.bool (decide ((F (q i)).2 < (F (q j)).2))) ∧ Drew w w' := by
  obtain ⟨a1, f1⟩ := h.at hi
  obtain ⟨a2, f2⟩ := h.at hj
  have d1 := h.due hi
  have d2 := h.due hj
  have i1 : (i : Int) < (n : Int) := by omega
  have j1 : (j : Int) < (n : Int) := by omega
  have i0 : (0 : Int) ≤ (i : Int) := by omega
  have j0 : (0 : Int) ≤ (j : Int) := by omega
  clear h
  generalize (F (q i)).2 = x at *
  generalize (F (q j)).2 = y at *
  generalize q i = B at *
  generalize q j = C at *
  go_enter Tryz.func210, Tryz.ntmps210
  go_wp2
  go_quiet (fail)
  go_wp2
  go_ret
  exact ⟨rfl, Drew.of _ _⟩

theorem qswap_any (T A n cap : Nat) (q : Nat → Nat) (F : Nat → Sl × Int) (i j : Nat) (w : World) (h : Que w T A n cap q F) (hi : i < n) (hj : j < n) (hij : i ≠ j) :
    Calls Tryz.prog 211 #[.slice (some ⟨A, 0, none⟩) n cap, .int .i64 i, .int .i64 j] w fun e w' => e = .returned (.tuple #[]) ∧ Que w' T A n cap (xch q i j) F ∧ Tch (QB A n q) w w' := by
  obtain ⟨a1, f1⟩ := h.at hi
  obtain ⟨a2, f2⟩ := h.at hj
  obtain ⟨p1, g1⟩ := h.place hi
  obtain ⟨p2, g2⟩ := h.place hj
  have i1 : (i : Int) < (n : Int) := by omega
  have j1 : (j : Int) < (n : Int) := by omega
  have i0 : (0 : Int) ≤ (i : Int) := by omega
  have j0 : (0 : Int) ≤ (j : Int) := by omega
  have HS := Lib.hid (h.swap hi hj hij)
  have n1 := (h.two i hi).1
  have n2 := (h.two j hj).1
  have ne : q i ≠ q j := fun e => hij (h.inj i j hi hj e)
  have H0 := Lib.hid h
  clear h
  generalize hB : q i = B at *
  generalize hC : q j = C at *
  go_enter Tryz.func211, Tryz.ntmps211
  go_wp2
  go_region
  have b1 : ((w.setCell ⟨A, i, none⟩ (ptr C)).setCell ⟨A, j, none⟩ (ptr B)).cell? ⟨A, i, none⟩ = some (ptr C) := by
    rw [cs_other _ _ _ _ _ _ (.inr hij)]; exact World.cell?_setCell_same _ _ _ a1
  have b2 : ((w.setCell ⟨A, i, none⟩ (ptr C)).setCell ⟨A, j, none⟩ (ptr B)).cell? ⟨A, j, none⟩ = some (ptr B) :=
    World.cell?_setCell_same _ _ _ ((cs_other _ _ _ _ _ _ (.inr (Ne.symm hij))).trans a2)
  have q1 : ((w.setCell ⟨A, i, none⟩ (ptr C)).setCell ⟨A, j, none⟩ (ptr B)).cell? ⟨B, 9, none⟩ = some (.int .i64 i) := by
    rw [cs_other _ _ _ _ _ _ (.inl n1), cs_other _ _ _ _ _ _ (.inl n1)]; exact p1
  have q2 : ((w.setCell ⟨A, i, none⟩ (ptr C)).setCell ⟨A, j, none⟩ (ptr B)).cell? ⟨C, 9, none⟩ = some (.int .i64 j) := by
    rw [cs_other _ _ _ _ _ _ (.inl n2), cs_other _ _ _ _ _ _ (.inl n2)]; exact p2
  have q3 : (((w.setCell ⟨A, i, none⟩ (ptr C)).setCell ⟨A, j, none⟩ (ptr B)).setCell ⟨C, 9, none⟩ (.int .i64 i)).cell? ⟨A, i, none⟩ = some (ptr C) := by
    rw [cs_other _ _ _ _ _ _ (.inl (Ne.symm n2))]; exact b1
  have q4 : (((w.setCell ⟨A, i, none⟩ (ptr C)).setCell ⟨A, j, none⟩ (ptr B)).setCell ⟨C, 9, none⟩ (.int .i64 i)).cell? ⟨A, j, none⟩ = some (ptr B) := by
    rw [cs_other _ _ _ _ _ _ (.inl (Ne.symm n2))]; exact b2
  have q5 : (((w.setCell ⟨A, i, none⟩ (ptr C)).setCell ⟨A, j, none⟩ (ptr B)).setCell ⟨C, 9, none⟩ (.int .i64 i)).cell? ⟨B, 9, none⟩ = some (.int .i64 i) := by
    rw [cs_other _ _ _ _ _ _ (.inl ne)]; exact q1
  have r1 : ((w.setCell ⟨A, i, none⟩ (ptr C)).setCell ⟨A, j, none⟩ (ptr B)).frozen? ⟨B, 9, none⟩ = false := by simp only [World.frozen?_setCell]; exact g1
  have r2 : ((w.setCell ⟨A, i, none⟩ (ptr C)).setCell ⟨A, j, none⟩ (ptr B)).frozen? ⟨C, 9, none⟩ = false := by simp only [World.frozen?_setCell]; exact g2
  generalize World.setCell (World.setCell w ⟨A, i, none⟩ (ptr C)) ⟨A, j, none⟩ (ptr B) = W at *
  clear a1 a2 p1 p2 f1 f2 g1 g2
  go_wp2
  go_region
  go_wp2
  go_end0
  exact ⟨rfl, HS.out.1.drew ⟨2, rfl⟩, HS.out.2.trans (Drew.tch ⟨2, rfl⟩)⟩
end Go.Proofs.YtkfncanfgpmgaaaGreat.Wd
