/- The reader of package config: what is wrong, what is needed; no conditions but those that each names. The reader of package config: a line of a rule; no conditions but those that each names. The reader of package config: a line, and the end of a text; no conditions but those that each names. The reader of package config: any line; no conditions but those that each names. What config.Parse answers, for any text: plain facts; no conditions but those that each names. What config.parse answers, for any text; no conditions but those that each names. config.Parse, for any text; no conditions but those that each names. -/
import Derived.Test.YtckaiejbgnhgcaaGreatDoorZL
import Derived.WalkLawsBesides
import Derived.Deep.CutRange
import Derived.Deep.RegionLaw
import Derived.Defers
import Derived.Recover
namespace Go.Proofs.YtckaiejbgnhgcaaGreatDoor.Wd
open Go Go.RowKit
set_option linter.unusedVariables false
set_option maxRecDepth 100000

/-- A fault, and where. -/
abbrev fltV (e l c : Int) : Value := .iface 70 (.agg #[.int .u16 e, .int .i64 l, .int .i64 c])
/-- The reader's three cells. -/
def Rd (w : World) (R : Nat) (m : Int) (v l : Value) : Prop := ∃ t, w.heap[R]? = some (.cells #[.int .i64 m, v, l] t (0, 0))
theorem Rd.lt {w : World} {R : Nat} {m : Int} {v l : Value} (h : Rd w R m v l) : R < w.heap.size := by obtain ⟨t, h⟩ := h; exact lt_heap h
theorem Rd.below {w w' : World} {R : Nat} {m : Int} {v l : Value} (h : Rd w R m v l) (g : Below w.heap.size w w') : Rd w' R m v l := by
  have hl := h.lt; obtain ⟨t, h⟩ := h; exact ⟨t, (g.block _ hl).trans h⟩
theorem Rd.cells {w : World} {R : Nat} {m : Int} {v l : Value} (h : Rd w R m v l) : w.cell? ⟨R, 0, none⟩ = some (.int .i64 m) ∧ w.cell? ⟨R, 1, none⟩ = some v ∧ w.cell? ⟨R, 2, none⟩ = some l := by
  obtain ⟨t, h⟩ := h
  refine ⟨?_, ?_, ?_⟩ <;> (unfold World.cell?; simp [h])
theorem Rd.soft {w : World} {R : Nat} {m : Int} {v l : Value} (h : Rd w R m v l) (o : Nat) : w.frozen? ⟨R, o, none⟩ = false := by
  obtain ⟨t, h⟩ := h
  unfold World.frozen?
  simp [h]
theorem Rd.put0 {w : World} {R : Nat} {m : Int} {v l : Value} (h : Rd w R m v l) (x : Int) : Rd (w.setCell ⟨R, 0, none⟩ (.int .i64 x)) R x v l := by
  obtain ⟨t, h⟩ := h; refine ⟨t, ?_⟩; simp [World.setCell, Array.getElem?_modify, h]
theorem Rd.put1 {w : World} {R : Nat} {m : Int} {v l : Value} (h : Rd w R m v l) (x : Value) : Rd (w.setCell ⟨R, 1, none⟩ x) R m x l := by
  obtain ⟨t, h⟩ := h; refine ⟨t, ?_⟩; simp [World.setCell, Array.getElem?_modify, h]
theorem Rd.put2 {w : World} {R : Nat} {m : Int} {v l : Value} (h : Rd w R m v l) (x : Value) : Rd (w.setCell ⟨R, 2, none⟩ x) R m v x := by
  obtain ⟨t, h⟩ := h; refine ⟨t, ?_⟩; simp [World.setCell, Array.getElem?_modify, h]

/-- Out by a fault. -/
def Flt (e l c : Int) (r : Ending) : Prop := r = .panicked [{ v := fltV e l c, recovered := false }]

theorem wrong_flt (R k n cap : Nat) (A : Option Addr) (ws : List Ws.Wo) (m : Int) (v : Value) (e : Int) (w : World) (h : Rd w R m v (.slice A n cap)) (hL : WLn w A n ws) (hk : k < n) :
    Calls Tryz.prog 79 #[.pointer (some ⟨R, 0, none⟩), .int .u16 e, .int .i64 (k : Int)] w fun r w' => Flt e (fnW ws k).2.1 (fnW ws k).2.2 r ∧ Below w.heap.size w w' := by
  obtain ⟨c0, c1, c2⟩ := h.cells
  obtain ⟨b, off, rfl, hb, hc⟩ := hL.2.2 (by omega)
  obtain ⟨x0, x1, x2⟩ := hc k hk
  have i0 : (0 : Int) ≤ (k : Int) := by omega
  have i1 : (k : Int) < (n : Int) := by omega
  generalize str (fnW ws k).1 = t at *
  generalize ((fnW ws k).2.1 : Int) = p at *
  generalize ((fnW ws k).2.2 : Int) = q at *
  clear hc hL h
  go_enter Tryz.func79, Tryz.ntmps79
  go_wp2
  exact ⟨rfl, rfl, (Below.refl _ w).alloc (Nat.le_refl _) _⟩
theorem need_yes (R : Nat) (e k : Int) (w : World) :
    Calls Tryz.prog 100 #[.pointer (some ⟨R, 0, none⟩), .bool true, .int .u16 e, .int .i64 k] w fun r w' => r = .returned (.tuple #[]) ∧ w = w' := by
  go_enter Tryz.func100, Tryz.ntmps100
  go_wp2
  go_end0
  exact ⟨rfl, rfl⟩
theorem need_no (R k n cap : Nat) (A : Option Addr) (ws : List Ws.Wo) (m : Int) (v : Value) (e : Int) (w : World) (h : Rd w R m v (.slice A n cap)) (hL : WLn w A n ws) (hk : k < n) :
    Calls Tryz.prog 100 #[.pointer (some ⟨R, 0, none⟩), .bool false, .int .u16 e, .int .i64 (k : Int)] w fun r w' => Flt e (fnW ws k).2.1 (fnW ws k).2.2 r ∧ Below w.heap.size w w' := by
  have C := wrong_flt R k n cap A ws m v e w h hL hk
  generalize ((fnW ws k).2.1 : Int) = p at *
  generalize ((fnW ws k).2.2 : Int) = q at *
  clear h hL
  go_enter Tryz.func100, Tryz.ntmps100
  go_wp2_with (go_at_call 79; refine C.mono ?_; rintro r w2 ⟨hF, kb⟩; unfold Flt at hF; subst hF)
  exact ⟨rfl, rfl, kb⟩

/-! ### What a line makes -/
structure LR where
  e : Int
  k : Nat
  m : Int
  rs : List Rl
abbrev LR.bad (e : Int) (k : Nat) : LR := ⟨e, k, 0, []⟩
abbrev LR.ok (m : Int) (rs : List Rl) : LR := ⟨0, 0, m, rs⟩
def lnS (m : Int) (rs : List Rl) (xs : List ByteArray) : LR :=
  if xs.length ≠ 2 then .bad 22 0 else if m ≠ 0 then .bad 28 0 else if paE (lb (xs.getD 1 nob)) ≠ 0 then .bad (paE (lb (xs.getD 1 nob))) 1
  else if ¬ (1 ≤ paN (lb (xs.getD 1 nob)) ∧ paN (lb (xs.getD 1 nob)) ≤ 1000000) then .bad 29 1 else .ok (paN (lb (xs.getD 1 nob))) rs
def lnR (m : Int) (rs : List Rl) (xs : List ByteArray) : LR :=
  if (ansA xs).err ≠ 0 then .bad (ansA xs).err (ansA xs).at_.toNat else if hasB rs (ansA xs).p = true then .bad 28 (if (ansA xs).p.size = 0 then 0 else 1)
  else if ¬ rs.length < 1000 then .bad 32 0 else .ok m (rs ++ [⟨(ansA xs).p, (ansA xs).e, (ansA xs).b, (ansA xs).k⟩])
/-- What is there behind a line. -/
def LPost (w : World) (R : Nat) (sl : Value) (ws : List Ws.Wo) (X : LR) (r : Ending) (w' : World) : Prop :=
  (if X.e = 0 then r = .returned (.tuple #[]) ∧ ∃ v', Rd w' R X.m v' sl ∧ ORls w' (R + 1) v' X.rs else Flt X.e (fnW ws X.k).2.1 (fnW ws X.k).2.2 r) ∧ Below R w w'
theorem lpost_bad {w w' : World} {R : Nat} {sl : Value} {ws : List Ws.Wo} {e : Int} {k : Nat} {r : Ending} (he : e ≠ 0) (h : Flt e (fnW ws k).2.1 (fnW ws k).2.2 r) (hb : Below R w w') : LPost w R sl ws (.bad e k) r w' :=
  ⟨by rw [if_neg he]; exact h, hb⟩
theorem lpost_ok {w w' : World} {R : Nat} {sl : Value} {ws : List Ws.Wo} {m : Int} {rs : List Rl} {v' : Value} (h : Rd w' R m v' sl) (g : ORls w' (R + 1) v' rs) (hb : Below R w w') : LPost w R sl ws (.ok m rs) (.returned (.tuple #[])) w' :=
  ⟨by rw [if_pos rfl]; exact ⟨rfl, v', h, g⟩, hb⟩

set_option maxHeartbeats 1000000 in
theorem readSize_any (R n cap : Nat) (A : Option Addr) (ws : List Ws.Wo) (m : Int) (v : Value) (rs : List Rl) (w : World) (h : Rd w R m v (.slice A n cap)) (hO : ORls w (R + 1) v rs) (hL : WLn w A n ws) (hn : 0 < n) :
    Calls Tryz.prog 77 #[.pointer (some ⟨R, 0, none⟩)] w (LPost w R (.slice A n cap) ws (lnS m rs (txs ws))) := by
  have hl : (txs ws).length = n := by rw [List.length_map]; exact hL.1
  have N0 : ∀ (e : Int) (W : World), Rd W R m v (.slice A n cap) → WLn W A n ws → Calls Tryz.prog 100 #[.pointer (some ⟨R, 0, none⟩), .bool false, .int .u16 e, .int .i64 0] W fun r w' => Flt e (fnW ws 0).2.1 (fnW ws 0).2.2 r ∧ Below W.heap.size W w' := fun e W hR g => need_no R 0 n cap A ws m v e W hR g hn
  obtain ⟨c0, c1, c2⟩ := h.cells
  have hlt := h.lt
  by_cases h1 : n = 2
  · subst h1
    have x1 : (txs ws).getD 1 nob = str (fnW ws 1).1 := txs_at ws 1 (by rw [hL.1]; omega)
    have hsz : (str (fnW ws 1).1).size ≤ 9223372036854775807 := by have := (hL.2.1 _ (fnW_mem (k := 1) (by rw [hL.1]; omega))).1; rw [str_size]; omega
    have N1 : ∀ (e : Int) (W : World), Rd W R m v (.slice A 2 cap) → WLn W A 2 ws → Calls Tryz.prog 100 #[.pointer (some ⟨R, 0, none⟩), .bool false, .int .u16 e, .int .i64 1] W fun r w' => Flt e (fnW ws 1).2.1 (fnW ws 1).2.2 r ∧ Below W.heap.size W w' := fun e W hR g => need_no R 1 2 cap A ws m v e W hR g (by omega)
    have e0 : lnS m rs (txs ws) = if m ≠ 0 then .bad 28 0 else if paE (lb (str (fnW ws 1).1)) ≠ 0 then .bad (paE (lb (str (fnW ws 1).1))) 1 else if ¬ (1 ≤ paN (lb (str (fnW ws 1).1)) ∧ paN (lb (str (fnW ws 1).1)) ≤ 1000000) then .bad 29 1 else .ok (paN (lb (str (fnW ws 1).1))) rs := by
      unfold lnS; rw [if_neg (by simp [hl]), x1]
    rw [e0]
    clear e0
    by_cases h2 : m = 0
    · subst h2
      rw [if_neg (by simp)]
      obtain ⟨b, off, rfl, hb, hc⟩ := hL.2.2 (by omega)
      have y1 := (hc 1 (by omega)).1
      have PA := fun W => parse_any (str (fnW ws 1).1) W hsz
      have hNU := paN_U (lb (str (fnW ws 1).1))
      have MA := fun W => may_any (paN (lb (str (fnW ws 1).1))) W hNU
      generalize hx : str (fnW ws 1).1 = x at *
      clear hc hsz x1 hx
      generalize paE (lb x) = E at *
      generalize paN (lb x) = N at *
      by_cases h3 : E = 0
      · subst h3
        rw [if_neg (by simp)]
        by_cases h4 : 1 ≤ N ∧ N ≤ 1000000
        · rw [if_neg (by simp [h4])]
          rw [decide_eq_true h4] at MA
          have hw : IntKind.i64.wrap N = N := by rw [IntKind.wrap_i64]; omega
          clear N0 N1
          go_enter Tryz.func77, Tryz.ntmps77
          go_wp2_with (first
            | (go_at_call 100; (with_reducible refine (need_yes _ _ _ _).mono ?_); rintro r w2 ⟨rfl, rfl⟩)
            | (go_at_call 101; (with_reducible refine (PA _).mono ?_); rintro r w2 ⟨rfl, kk⟩; have hR2 := h.below kk.2; have hO2 := ownR_below hO kk.2; obtain ⟨d0, d1, d2⟩ := hR2.cells; have s0 := hR2.soft 0)
            | (go_at_call 40; (with_reducible refine (MA _).mono ?_); rintro r w2 ⟨rfl, rfl⟩))
          go_end0
          exact lpost_ok (hR2.put0 N) (ownsRow_setCell_below hO2 (by show R < R + 1; omega) _) ((kk.2.mono (Nat.le_of_lt hlt)).setCell (Nat.le_refl _) _)
        · rw [if_pos h4]
          rw [decide_eq_false h4] at MA
          clear N0
          go_enter Tryz.func77, Tryz.ntmps77
          go_wp2_with (first
            | (go_at_call 100; (with_reducible refine (need_yes _ _ _ _).mono ?_); rintro r w2 ⟨rfl, rfl⟩)
            | (go_at_call 101; (with_reducible refine (PA _).mono ?_); rintro r w2 ⟨rfl, kk⟩; have hR2 := h.below kk.2; have hL2 := hL.below kk.2; obtain ⟨d0, d1, d2⟩ := hR2.cells; have NN := N1 29 w2 hR2 hL2)
            | (go_at_call 40; (with_reducible refine (MA _).mono ?_); rintro r w4 ⟨rfl, rfl⟩)
            | (go_at_call 100; (with_reducible refine NN.mono ?_); rintro r w3 ⟨hF, kb⟩; unfold Flt at hF; subst hF))
          exact ⟨rfl, lpost_bad (by decide) rfl ((kk.2.mono (Nat.le_of_lt hlt)).trans (kb.mono (by have := kk.2.size; omega)))⟩
      · have t1 : (E == 0) = false := by simpa using h3
        rw [if_pos h3]
        clear N0 MA
        go_enter Tryz.func77, Tryz.ntmps77
        go_wp2_with (first
          | (go_at_call 100; (with_reducible refine (need_yes _ _ _ _).mono ?_); rintro r w2 ⟨rfl, rfl⟩)
          | (go_at_call 101; (with_reducible refine (PA _).mono ?_); rintro r w2 ⟨rfl, kk⟩; have hR2 := h.below kk.2; have hL2 := hL.below kk.2; obtain ⟨d0, d1, d2⟩ := hR2.cells; have NN := N1 E w2 hR2 hL2)
          | (go_at_call 100; (with_reducible refine NN.mono ?_); rintro r w3 ⟨hF, kb⟩; unfold Flt at hF; subst hF))
        exact ⟨rfl, lpost_bad h3 rfl ((kk.2.mono (Nat.le_of_lt hlt)).trans (kb.mono (by have := kk.2.size; omega)))⟩
    · have t1 : (m == 0) = false := by simpa using h2
      rw [if_pos h2]
      have NN := N0 28 w h hL
      clear N0 N1
      go_enter Tryz.func77, Tryz.ntmps77
      go_wp2_with (first
        | (go_at_call 100; (with_reducible refine (need_yes _ _ _ _).mono ?_); rintro r w2 ⟨rfl, rfl⟩)
        | (go_at_call 100; (with_reducible refine NN.mono ?_); rintro r w3 ⟨hF, kb⟩; unfold Flt at hF; subst hF))
      exact ⟨rfl, lpost_bad (by decide) rfl (kb.mono (by omega))⟩
  · have e0 : lnS m rs (txs ws) = .bad 22 0 := by unfold lnS; rw [if_pos (by omega)]
    rw [e0]
    have t1 : ((n : Int) == 2) = false := by simp; omega
    have NN := N0 22 w h hL
    clear N0 e0
    go_enter Tryz.func77, Tryz.ntmps77
    go_wp2_with (first
      | (go_at_call 100; (with_reducible refine (need_yes _ _ _ _).mono ?_); rintro r w2 ⟨rfl, rfl⟩)
      | (go_at_call 100; (with_reducible refine NN.mono ?_); rintro r w3 ⟨hF, kb⟩; unfold Flt at hF; subst hF))
    exact ⟨rfl, lpost_bad (by decide) rfl (kb.mono (by omega))⟩
end Go.Proofs.YtckaiejbgnhgcaaGreatDoor.Wd
namespace Go.Proofs.YtckaiejbgnhgcaaGreatDoor.Wd
open Go Go.RowKit
set_option linter.unusedVariables false
set_option maxRecDepth 100000

theorem ans_at (xs : List ByteArray) (h0 : 0 < xs.length) (h : (ansA xs).err ≠ 0) : ∃ k : Nat, (ansA xs).at_ = (k : Int) ∧ k < xs.length := by
  rcases ans_read xs with ⟨err, at_, e, h1, h2, h3, h4⟩ | ⟨p, E, B, k, e, _⟩
  · refine ⟨at_.toNat, by rw [e]; show at_ = _; omega, by omega⟩
  · rw [e] at h; exact absurd rfl h
theorem ans_ok (xs : List ByteArray) (h : (ansA xs).err = 0) : Okr ⟨(ansA xs).p, (ansA xs).e, (ansA xs).b, (ansA xs).k⟩ := by
  rcases ans_read xs with ⟨err, at_, e, h1, h2, h3, h4⟩ | ⟨p, E, B, k, e, _, _, hp, hE, hB, h5, h6⟩
  · rw [e] at h; have : err = 0 := h; omega
  · rw [e]
    exact ⟨by show p.size ≤ _; omega, ⟨by show (0 : Int) ≤ (E : Int); omega, by show (E : Int) ≤ _; omega⟩, ⟨by show (0 : Int) ≤ (B : Int); omega, by show (B : Int) ≤ _; omega⟩, h5, h6⟩

theorem ans_len (xs : List ByteArray) (h : (ansA xs).err = 0) : 4 ≤ xs.length := by
  unfold ansA at h
  split at h
  · omega
  · split at h
    · omega
    · cases h
theorem new_four (W : World) (p : ByteArray) (e b k : Int) : ∀ j u, [Value.string p, .int .u64 e, .int .u64 b, .int .u8 k][j]? = some u → (W.alloc (.cells #[.string p, .int .u64 e, .int .u64 b, .int .u8 k] 37)).cell? ((⟨W.heap.size, 0, none⟩ : Addr).add j) = some u := World.news_of_block (MapKept.heap_alloc W _).1

theorem Rd.under {w w' : World} {R N : Nat} {m : Int} {v l : Value} (h : Rd w R m v l) (g : Below N w w') (hN : R < N) : Rd w' R m v l := by
  obtain ⟨t, h⟩ := h; exact ⟨t, (g.block _ hN).trans h⟩
theorem one_more {w : World} {base n : Nat} {v : Value} {rs : List Rl} {p : ByteArray} {e b k : Int} (h : w.ownsRow base 37 4 v n (flatR rs ++ [.string p, .int .u64 e, .int .u64 b, .int .u8 k])) (hn : n = rs.length + 1 := by rfl) : ORls w base v (rs ++ [⟨p, e, b, k⟩]) := by
  subst hn
  unfold ORls
  rw [flatR_append, List.length_append]
  exact h
theorem bodyPost_pan {P : Program} {fn : Func} {Q : Ending → World → Prop} {ch : List PanicEntry} {a : Act} {w : World} (ha : a.defers = []) (h : Q (.panicked ch) w) : bodyPost P fn Q (.panic ch) a w := ⟨ha, h⟩
/-- Out of a region that draws, by a panic: what is left is asked behind it. -/
theorem out_region {G : Prop} (h : wpAny Tryz.prog .text #[] (fun _ _ _ => G) 0 #[] { tmps := #[], defers := [] } default) : G := h.2
/-- What the last statement of a rule's line reads. -/
abbrev Sev (w : World) (R X : Nat) (V : Value) (p : ByteArray) (e b k : Int) (w' : World) : Prop := Below (R + 1) w w' ∧ w'.cell? ⟨R, 1, none⟩ = some V ∧ w'.frozen? ⟨R, 1, none⟩ = false ∧ w'.cell? ⟨X, 0, none⟩ = some (.string p) ∧ w'.cell? ⟨X, 1, none⟩ = some (.int .u64 e) ∧ w'.cell? ⟨X, 2, none⟩ = some (.int .u64 b) ∧ w'.cell? ⟨X, 3, none⟩ = some (.int .u8 k)
theorem sev_mk {w : World} {R X : Nat} {V : Value} {p : ByteArray} {e b k : Int} (h : R + 1 ≤ w.heap.size) (d : w.cell? ⟨R, 1, none⟩ = some V) (s : w.frozen? ⟨R, 1, none⟩ = false) (x0 : w.cell? ⟨X, 0, none⟩ = some (.string p)) (x1 : w.cell? ⟨X, 1, none⟩ = some (.int .u64 e)) (x2 : w.cell? ⟨X, 2, none⟩ = some (.int .u64 b)) (x3 : w.cell? ⟨X, 3, none⟩ = some (.int .u8 k)) :
    ∀ w', Below w.heap.size w w' → Sev w R X V p e b k w' := fun w' g =>
  ⟨g.mono h, celln g d, (g.frozen (p := ⟨R, 1, none⟩) (by show R < _; omega)).trans s, celln g x0, celln g x1, celln g x2, celln g x3⟩
theorem sev_grown {w : World} {R X : Nat} {V : Value} {p : ByteArray} {e b k : Int} (h : R + 1 ≤ w.heap.size) (d : w.cell? ⟨R, 1, none⟩ = some V) (s : w.frozen? ⟨R, 1, none⟩ = false) (x0 : w.cell? ⟨X, 0, none⟩ = some (.string p)) (x1 : w.cell? ⟨X, 1, none⟩ = some (.int .u64 e)) (x2 : w.cell? ⟨X, 2, none⟩ = some (.int .u64 b)) (x3 : w.cell? ⟨X, 3, none⟩ = some (.int .u8 k))
    {w0 w' : World} (k0 : Below w.heap.size w w0) (g : w0.grownBy w' V.ownBlock) (h1 : ∀ g, V.ownBlock = some g → R + 1 ≤ g) (h2 : ∀ g, V.ownBlock = some g → g ≠ X) : Sev w R X V p e b k w' := by
  obtain ⟨a0, a1, a2, a3, a4, a5, a6⟩ := sev_mk h d s x0 x1 x2 x3 w0 k0
  have eR : w'.heap[R]? = w0.heap[R]? := g.block R (cell_lt a1) (fun e => by have := h1 R e.symm; omega)
  have eX : w'.heap[X]? = w0.heap[X]? := g.block X (cell_lt a3) (fun e => h2 X e.symm rfl)
  exact ⟨a0.grown g (by have := k0.size; omega) h1, (World.cell?_of_block (w := w0) eR).trans a1, (World.frozen?_of_block (w := w0) eR).trans a2, (World.cell?_of_block (w := w0) eX).trans a3, (World.cell?_of_block (w := w0) eX).trans a4, (World.cell?_of_block (w := w0) eX).trans a5, (World.cell?_of_block (w := w0) eX).trans a6⟩

set_option maxHeartbeats 2000000 in
theorem readRule_any (R n cap : Nat) (A : Option Addr) (ws : List Ws.Wo) (m : Int) (v : Value) (rs : List Rl) (w : World) (hN : Nam w) (h : Rd w R m v (.slice A n cap)) (hO : ORls w (R + 1) v rs) (hok : ∀ r ∈ rs, Okr r) (hlen : rs.length ≤ 1000) (hL : WLn w A n ws) (hn : 0 < n) (hn2 : n ≤ 1099511627776) :
    Calls Tryz.prog 78 #[.pointer (some ⟨R, 0, none⟩)] w (LPost w R (.slice A n cap) ws (lnR m rs (txs ws))) := by
  have hl : (txs ws).length = n := by rw [List.length_map]; exact hL.1
  have hlim := txs_lim hL.2.1
  obtain ⟨c0, c1, c2⟩ := h.cells
  have hlt := h.lt
  have CT := texts_any A n cap ws w hL hn2
  obtain ⟨A3, c3, rfl, hq3, hq4, hRl⟩ := hO.rls hok
  by_cases hE : (ansA (txs ws)).err = 0
  · have okA := ans_ok _ hE
    have hn4 : 4 ≤ n := by have := ans_len _ hE; omega
    have e0 : lnR m rs (txs ws) = if hasB rs (ansA (txs ws)).p = true then .bad 28 (if (ansA (txs ws)).p.size = 0 then 0 else 1) else if ¬ rs.length < 1000 then .bad 32 0 else .ok m (rs ++ [⟨(ansA (txs ws)).p, (ansA (txs ws)).e, (ansA (txs ws)).b, (ansA (txs ws)).k⟩]) := by
      unfold lnR; rw [if_neg (by simp [hE])]
    have E1 := Lib.hid (fun (x : hasB rs (ansA (txs ws)).p = true) => e0.trans (if_pos x))
    have E2 := Lib.hid (fun (x : ¬ hasB rs (ansA (txs ws)).p = true) (y : ¬ rs.length < 1000) => (e0.trans (if_neg x)).trans (if_pos y))
    have E3 := Lib.hid (fun (x : ¬ hasB rs (ansA (txs ws)).p = true) (y : rs.length < 1000) => (e0.trans (if_neg x)).trans (if_neg (by simp [y])))
    generalize lnR m rs (txs ws) = X0 at *
    clear e0
    have CP := fun (A2 : Option Addr) (c2 : Nat) (W : World) (g : Below w.heap.size w W) (hs : Sts W A2 n (txs ws)) => rparse_any A2 n c2 (txs ws) W hs hlim (hN.below g)
    rw [hE] at CP
    simp only [Ans.rule] at CP
    have HL := Lib.hid (small_words hlim)
    generalize (ansA (txs ws)).at_ = at_ at *
    generalize hp : (ansA (txs ws)).p = p at *
    generalize he : (ansA (txs ws)).e = e at *
    generalize hb : (ansA (txs ws)).b = b at *
    generalize hk : (ansA (txs ws)).k = k at *
    clear hlim hp he hb hk hE
    go_enter Tryz.func78, Tryz.ntmps78
    go_upto_region 2 with (first
      | (go_at_call 103; (with_reducible refine CT.mono ?_); rintro r w2 ⟨⟨v2, rfl, hv2⟩, k2⟩; obtain ⟨A2, c2', rfl, hq1, hq2, hS2⟩ := hv2.sts HL.out; rw [hl] at hS2 ⊢; have CP2 := CP A2 c2' w2 k2 hS2)
      | (go_at_call 102; (with_reducible refine CP2.mono ?_); rintro r w3 ⟨rfl, k3⟩; have B3 := kbq k2 k3)
      | (go_at_call 100; (with_reducible refine (need_yes _ _ _ _).mono ?_); rintro r w4 ⟨rfl, rfl⟩))
    have B4 := (Below.refl _ w3).alloc (Nat.le_refl _) (.cells #[.string p, .int .u64 e, .int .u64 b, .int .u8 k] 37)
    have x0 : (w3.alloc (.cells #[.string p, .int .u64 e, .int .u64 b, .int .u8 k] 37)).cell? ⟨w3.heap.size, 0, none⟩ = some (.string p) := by simp
    have x1 : (w3.alloc (.cells #[.string p, .int .u64 e, .int .u64 b, .int .u8 k] 37)).cell? ⟨w3.heap.size, 1, none⟩ = some (.int .u64 e) := by simp
    have x2 : (w3.alloc (.cells #[.string p, .int .u64 e, .int .u64 b, .int .u8 k] 37)).cell? ⟨w3.heap.size, 2, none⟩ = some (.int .u64 b) := by simp
    have x3 : (w3.alloc (.cells #[.string p, .int .u64 e, .int .u64 b, .int .u8 k] 37)).cell? ⟨w3.heap.size, 3, none⟩ = some (.int .u8 k) := by simp
    have BW := kbq B3 B4
    have hX3 : w.heap.size ≤ w3.heap.size := B3.size
    have hX : R < w3.heap.size := Nat.lt_of_lt_of_le hlt B3.size
    generalize hW : w3.alloc (.cells #[.string p, .int .u64 e, .int .u64 b, .int .u8 k] 37) = W4 at *
    generalize w3.heap.size = X at *
    have hR4 := h.below BW
    have hO4 := ownR_below hO BW
    have hRl4 := hRl.below BW
    have hL4 := hL.below BW
    obtain ⟨d0, d1, d2⟩ := hR4.cells
    have CH := fun W (g : Below W4.heap.size W4 W) => has_any A3 rs.length c3 rs p W (hRl4.below g) (by omega)
    have CA := fun W => prefixAt_any p e b k W
    have hpa : ((if p.size = 0 then 0 else 1 : Nat) : Int) = (if p.size = 0 then 0 else 1 : Int) := by split <;> rfl
    rw [← hpa] at CA
    have hpn : (if p.size = 0 then 0 else 1 : Nat) ≤ 1 := by split <;> omega
    generalize (if p.size = 0 then 0 else 1 : Nat) = pa at *
    clear hpa
    have kW : Below W4.heap.size W4 W4 := Below.refl _ _
    clear CP CT c0 c1 c2 B4 hW
    by_cases hh : hasB rs p = true
    · have EE := E1.out hh
      subst EE
      rw [hh] at CH
      obtain ⟨q1, q2, NN⟩ : ∃ q1 q2 : Int, Hid (∀ W, Below W4.heap.size W4 W → Calls Tryz.prog 100 #[.pointer (some ⟨R, 0, none⟩), .bool false, .int .u16 28, .int .i64 (pa : Int)] W fun r w' => r = .panicked [{ v := fltV 28 q1 q2, recovered := false }] ∧ LPost w R (.slice A n cap) ws (.bad 28 pa) r w') :=
        ⟨_, _, Lib.hid (fun W g => (need_no R pa n cap A ws m _ 28 W (hR4.below g) (hL4.below g) (by omega)).mono fun r w' ⟨h1, h2⟩ => ⟨h1, lpost_bad (by decide) h1 ((kbq (kbq BW g) h2).mono (Nat.le_of_lt hlt))⟩)⟩
      clear hh E1 E2 E3
      go_region_with
        (first
          | (go_at_call 42; ((with_reducible refine (CH _ (by first | exact kW | exact kW.drew)).mono ?_); rintro r w5 ⟨rfl, g⟩; (first | with_reducible (replace kW := kbq kW.drew g; replace d1 := celln g (dcell d1); replace x0 := celln g (dcell x0); replace x1 := celln g (dcell x1); replace x2 := celln g (dcell x2); replace x3 := celln g (dcell x3)) | with_reducible (replace kW := kbq kW g; replace d1 := celln g d1; replace x0 := celln g x0; replace x1 := celln g x1; replace x2 := celln g x2; replace x3 := celln g x3))))
          | (go_at_call 104; ((with_reducible refine (CA _).mono ?_); rintro r w5 ⟨rfl, g⟩; (first | with_reducible (replace kW := kbq kW.drew g; replace d1 := celln g (dcell d1); replace x0 := celln g (dcell x0); replace x1 := celln g (dcell x1); replace x2 := celln g (dcell x2); replace x3 := celln g (dcell x3)) | with_reducible (replace kW := kbq kW g; replace d1 := celln g d1; replace x0 := celln g x0; replace x1 := celln g x1; replace x2 := celln g x2; replace x3 := celln g x3))))
          | (go_at_call 100; (with_reducible refine (NN.out _ (by first | with_reducible exact kW | with_reducible exact kW.drew)).mono ?_); rintro r w6 ⟨rfl, hp⟩; refine out_region ?_))
      all_goals
        exact bodyPost_pan rfl hp
    · have E2 := Lib.hid (E2.out hh)
      have E3 := Lib.hid (E3.out hh)
      have hh2 : hasB rs p = false := by simpa using hh
      rw [hh2] at CH
      clear hh hh2
      go_region_held3 (fun w' => Below W4.heap.size W4 w' ∧ w'.cell? ⟨R, 1, none⟩ = some (.slice A3 rs.length c3) ∧ w'.cell? ⟨X, 0, none⟩ = some (.string p) ∧ w'.cell? ⟨X, 1, none⟩ = some (.int .u64 e) ∧ w'.cell? ⟨X, 2, none⟩ = some (.int .u64 b) ∧ w'.cell? ⟨X, 3, none⟩ = some (.int .u8 k))
        (first | with_reducible exact ⟨kW.drew, dcell d1, dcell x0, dcell x1, dcell x2, dcell x3⟩ | with_reducible exact ⟨kW, d1, x0, x1, x2, x3⟩)
        (first
          | (go_at_call 42; ((with_reducible refine (CH _ (by first | exact kW | exact kW.drew)).mono ?_); rintro r w5 ⟨rfl, g⟩; (first | with_reducible (replace kW := kbq kW.drew g; replace d1 := celln g (dcell d1); replace x0 := celln g (dcell x0); replace x1 := celln g (dcell x1); replace x2 := celln g (dcell x2); replace x3 := celln g (dcell x3)) | with_reducible (replace kW := kbq kW g; replace d1 := celln g d1; replace x0 := celln g x0; replace x1 := celln g x1; replace x2 := celln g x2; replace x3 := celln g x3))))
          | (go_at_call 104; ((with_reducible refine (CA _).mono ?_); rintro r w5 ⟨rfl, g⟩; (first | with_reducible (replace kW := kbq kW.drew g; replace d1 := celln g (dcell d1); replace x0 := celln g (dcell x0); replace x1 := celln g (dcell x1); replace x2 := celln g (dcell x2); replace x3 := celln g (dcell x3)) | with_reducible (replace kW := kbq kW g; replace d1 := celln g d1; replace x0 := celln g x0; replace x1 := celln g x1; replace x2 := celln g x2; replace x3 := celln g x3))))
          | (go_at_call 100; (with_reducible refine (need_yes _ _ _ _).mono ?_); rintro r w4 ⟨rfl, rfl⟩))
      have R5 := hR4.below kW
      have O5 := ownR_below hO4 kW
      have L5 := hL4.below kW
      have B5 := kbq BW kW
      have hvX : ∀ g, (Value.slice A3 rs.length c3).ownBlock = some g → g ≠ X := fun g hg => by have := (World.ownsRow.lt hO g hg).2; omega
      have xlt := cell_lt x0
      generalize hV : Value.slice A3 rs.length c3 = V at *
      by_cases hq : rs.length < 1000
      · have EE := E3.out hq
        subst EE
        have t1 : (rs.length : Int) < 1000 := by omega
        subst hV
        go_upto_region 4 with (go_at_call 100; (with_reducible refine (need_yes _ _ _ _).mono ?_); rintro r w4 ⟨rfl, rfl⟩)
        obtain ⟨i0, hi, hy0, hy1, hy2⟩ := info_parts zeroRule
        have sR := R5.soft 1
        have OW := Lib.hid O5
        have sz5 : R + 1 ≤ w5.heap.size := R5.lt
        have MK := Lib.hid (sev_mk (R := R) sz5 d1 sR x0 x1 x2 x3)
        have MG := Lib.hid (fun (w0 w' : World) (k0 : Below w5.heap.size w5 w0) (g : w0.grownBy w' (Value.slice A3 rs.length c3).ownBlock) => sev_grown (R := R) sz5 d1 sR x0 x1 x2 x3 k0 g (fun g hg => by have := (World.ownsRow.lt hO g hg).1; omega) hvX)
        have k5 : Below w5.heap.size w5 w5 := Below.refl _ _
        clear E1 E2 E3 CH CA d0 d2
        have ltR : R < w5.heap.size := R5.lt
        go_region_law (refine step_append_lies _ (by rfl) _ _ 26 (by rfl) (R + 1) 37 i0 (.agg #[.string ⟨#[]⟩, .int .u64 0, .int .u64 0, .int .u8 0]) 4 40 Tryz.underlying26 hi hy0 hy1 hy2 rfl (by decide) (.slice A3 rs.length c3) rs.length (flatR rs) (by rfl) (by first | exact OW.out.alloc _ | exact (OW.out.alloc _).drew | exact OW.out.drew.alloc _) ⟨w5.heap.size, 0, none⟩ 1 1 [.string p, .int .u64 e, .int .u64 b, .int .u8 k] (by rfl) (by rfl) (by first | exact new_four _ _ _ _ _ | exact fun j u hu => new_four w5 _ _ _ _ j u hu) (by simp [Value.oneCell']) (by decide) (by unfold maxLen; omega) (by omega) (by simp; omega) (w5.heap.size + 1) (by simp) ?_; intro g cp w6 own6 grow6 at6 lt6; obtain ⟨q0, q1, q2, q3⟩ := MG.out _ _ (by first | with_reducible exact k5.alloc (Nat.le_refl _) _ | with_reducible exact (k5.alloc (Nat.le_refl _) _).drew | with_reducible exact k5.drew.alloc (Nat.le_refl _) _) grow6)
        all_goals
          go_end0
          exact lpost_ok ((R5.under q0 (by omega)).put1 _) (ownsRow_setCell_below (one_more own6) (by show R < R + 1; omega) _) (((B5.mono (Nat.le_of_lt hlt)).trans (q0.mono (by omega))).setCell (Nat.le_refl _) _)
      · have EE := E2.out hq
        subst EE
        have t1 : ¬ (rs.length : Int) < 1000 := by omega
        subst hV
        have NN : Calls Tryz.prog 100 #[.pointer (some ⟨R, 0, none⟩), .bool false, .int .u16 32, .int .i64 0] w5 fun r w' => Flt 32 (fnW ws 0).2.1 (fnW ws 0).2.2 r ∧ Below w5.heap.size w5 w' := need_no R 0 n cap A ws m _ 32 w5 R5 L5 hn
        clear E1 E2 E3 CH CA
        go_wp2_with (go_at_call 100; (with_reducible refine NN.mono ?_); rintro r w6 ⟨hF, kb⟩; unfold Flt at hF; subst hF)
        refine bodyPost_pan rfl ?_
        exact lpost_bad (by decide) rfl ((B5.mono (Nat.le_of_lt hlt)).trans (kb.mono (by have := B5.size; omega)))
  · have e0 : lnR m rs (txs ws) = .bad (ansA (txs ws)).err (ansA (txs ws)).at_.toNat := by unfold lnR; rw [if_pos hE]
    obtain ⟨k, hk, hkn⟩ := ans_at _ (by omega) hE
    rw [e0, hk]
    have CP := fun (A2 : Option Addr) (c2 : Nat) (W : World) (g : Below w.heap.size w W) (hs : Sts W A2 n (txs ws)) => rparse_any A2 n c2 (txs ws) W hs hlim (hN.below g)
    simp only [Ans.rule, hk] at CP
    have HL := Lib.hid (small_words hlim)
    have t1 : ((ansA (txs ws)).err == 0) = false := by simpa using hE
    have HE := Lib.hid hE
    generalize (ansA (txs ws)).err = E at *
    generalize (ansA (txs ws)).p = p at *
    generalize (ansA (txs ws)).e = e at *
    generalize (ansA (txs ws)).b = b at *
    generalize (ansA (txs ws)).k = kk at *
    rw [show (k : Int).toNat = k from rfl]
    clear hlim e0 hk hE
    go_enter Tryz.func78, Tryz.ntmps78
    go_wp2_with (first
      | (go_at_call 103; (with_reducible refine CT.mono ?_); rintro r w2 ⟨⟨v2, rfl, hv2⟩, k2⟩; obtain ⟨A2, c2', rfl, hq1, hq2, hS2⟩ := hv2.sts HL.out; rw [hl] at hS2 ⊢; have CP2 := CP A2 c2' w2 k2 hS2)
      | (go_at_call 102; (with_reducible refine CP2.mono ?_); rintro r w3 ⟨rfl, k3⟩; have B3 := kbq k2 k3; have B4 := kbq B3 ((Below.refl _ w3).alloc (Nat.le_refl _) (.cells #[.string p, .int .u64 e, .int .u64 b, .int .u8 kk] 37)); have NN := need_no R k n cap A ws m _ E _ (h.below B4) (hL.below B4) (by omega))
      | (go_at_call 100; (with_reducible refine NN.mono ?_); rintro r w6 ⟨hF, kb⟩; unfold Flt at hF; subst hF))
    refine bodyPost_pan rfl ?_
    exact lpost_bad HE.out rfl ((B4.mono (Nat.le_of_lt hlt)).trans (kb.mono (by have := B4.size; omega)))
end Go.Proofs.YtckaiejbgnhgcaaGreatDoor.Wd
namespace Go.Proofs.YtckaiejbgnhgcaaGreatDoor.Wd
open Go Go.RowKit
set_option linter.unusedVariables false
set_option maxRecDepth 100000

/-- What a line makes. -/
def lnA (m : Int) (rs : List Rl) (xs : List ByteArray) : LR := if xs.getD 0 nob = sizS then lnS m rs xs else lnR m rs xs
theorem lnR_none (m : Int) (rs : List Rl) (xs : List ByteArray) (h4 : ¬ (xs.getD 0 nob).toList = defL) (h5 : ¬ (xs.getD 0 nob).toList = rulL) : lnR m rs xs = .bad 22 0 := by
  have e : ansA xs = zeroA 22 0 := by
    unfold ansA
    rw [if_neg (fun h => h4 h.2), if_neg (fun h => h5 h.2)]
  unfold lnR
  rw [e, if_pos (by decide)]
  rfl
theorem WLn.under {w w' : World} {A : Option Addr} {n N : Nat} {ws : List Ws.Wo} (h : WLn w A n ws) (k : Below N w w') (hA : ∀ b off, A = some ⟨b, off, none⟩ → b < N) : WLn w' A n ws :=
  ⟨h.1, h.2.1, fun hn => by
    obtain ⟨b, off, e, hb, hc⟩ := h.2.2 hn
    have hbk := k.block b (hA b off e)
    exact ⟨b, off, e, Nat.lt_of_lt_of_le hb k.size, fun j hj => ⟨(World.cell?_of_block (w := w) hbk).trans (hc j hj).1, (World.cell?_of_block (w := w) hbk).trans (hc j hj).2.1, (World.cell?_of_block (w := w) hbk).trans (hc j hj).2.2⟩⟩⟩
theorem lpost_later {w w1 w' : World} {R : Nat} {sl : Value} {ws : List Ws.Wo} {X : LR} {r : Ending} (h : LPost w1 R sl ws X r w') (g : Below R w w1) : LPost w R sl ws X r w' := ⟨h.1, g.trans h.2⟩

/-- What is wrong at the end. -/
def enE (m : Int) (rs : List Rl) : Int := if m = 0 then 30 else if hasB rs nob = false then 31 else 0
def EPost (w : World) (e : Int) (r : Ending) (w' : World) : Prop := (if e = 0 then r = .returned (.tuple #[]) else Flt e 0 0 r) ∧ Below w.heap.size w w'
theorem bodyPost_pan3 {P : Program} {fn : Func} {Q : Ending → World → Prop} {ch : List PanicEntry} {a : Act} {w : World} (ha : a.defers = []) (h : Q (.panicked ch) w) : bodyPost P fn Q (.panic ch) a w := ⟨ha, h⟩
theorem end_any (R : Nat) (m : Int) (v sl : Value) (rs : List Rl) (w : World) (h : Rd w R m v sl) (hO : ORls w (R + 1) v rs) (hok : ∀ r ∈ rs, Okr r) (hlen : rs.length ≤ 1000) :
    Calls Tryz.prog 54 #[.pointer (some ⟨R, 0, none⟩)] w (EPost w (enE m rs)) := by
  obtain ⟨A3, c3, rfl, hq3, hq4, hRl⟩ := hO.rls hok
  obtain ⟨c0, c1, c2⟩ := h.cells
  have C := has_any A3 rs.length c3 rs nob w hRl (by omega)
  by_cases h1 : m = 0
  · have e0 : enE m rs = 30 := by unfold enE; rw [if_pos h1]
    rw [e0]
    subst h1
    clear C hRl hO e0
    go_enter Tryz.func54, Tryz.ntmps54
    go_wp2
    refine bodyPost_pan3 rfl ⟨?_, Below.refl _ _⟩
    rw [if_neg (by decide)]
    rfl
  · have t1 : (m == 0) = false := by simpa using h1
    by_cases h2 : hasB rs nob = false
    · have e0 : enE m rs = 31 := by unfold enE; rw [if_neg h1, if_pos h2]
      rw [e0]
      rw [h2] at C
      clear e0 hRl hO
      go_enter Tryz.func54, Tryz.ntmps54
      go_wp2_with (go_at_call 42; (with_reducible refine C.mono ?_); rintro r w2 ⟨rfl, kb⟩)
      refine bodyPost_pan3 rfl ⟨?_, kb⟩
      rw [if_neg (by decide)]
      rfl
    · have e0 : enE m rs = 0 := by unfold enE; rw [if_neg h1, if_neg h2]
      rw [e0]
      have h3 : hasB rs nob = true := by simpa using h2
      rw [h3] at C
      clear e0 hRl hO h2
      go_enter Tryz.func54, Tryz.ntmps54
      go_wp2_with (go_at_call 42; (with_reducible refine C.mono ?_); rintro r w2 ⟨rfl, kb⟩)
      go_end0
      exact ⟨by rw [if_pos rfl], kb⟩
end Go.Proofs.YtckaiejbgnhgcaaGreatDoor.Wd
namespace Go.Proofs.YtckaiejbgnhgcaaGreatDoor.Wd
open Go Go.RowKit
set_option linter.unusedVariables false
set_option maxRecDepth 100000

theorem lpost_flt {w w' : World} {R : Nat} {sl : Value} {ws : List Ws.Wo} {X : LR} {ch : List PanicEntry} {P : Program} {fn : Func} {a : Act} (ha : a.defers = []) (h : LPost w R sl ws X (.panicked ch) w') : bodyPost P fn (LPost w R sl ws X) (.panic ch) a w' := ⟨ha, h⟩

theorem lp_ok {P : Program} {f : FuncId} {args : Array Value} {w : World} {R : Nat} {sl : Value} {ws : List Ws.Wo} {X : LR} (C : Calls P f args w (LPost w R sl ws X)) (h : X.e = 0) : Calls P f args w fun r w' => r = .returned (.tuple #[]) ∧ LPost w R sl ws X r w' :=
  C.mono fun r w' hp => ⟨by have := hp.1; rw [if_pos h] at this; exact this.1, hp⟩
theorem lp_bad {P : Program} {f : FuncId} {args : Array Value} {w : World} {R : Nat} {sl : Value} {ws : List Ws.Wo} {X : LR} (C : Calls P f args w (LPost w R sl ws X)) (h : X.e ≠ 0) : ∃ q : PanicEntry, Calls P f args w fun r w' => r = .panicked [q] ∧ LPost w R sl ws X r w' :=
  ⟨_, C.mono fun r w' hp => ⟨by have := hp.1; rw [if_neg h] at this; exact this, hp⟩⟩

set_option maxHeartbeats 1000000 in
theorem rdline_any (R n cap : Nat) (A : Option Addr) (ws : List Ws.Wo) (m : Int) (v l0 : Value) (rs : List Rl) (w : World) (hN : Nam w) (hR0 : 0 < R) (h : Rd w R m v l0) (hO : ORls w (R + 1) v rs) (hok : ∀ r ∈ rs, Okr r) (hlen : rs.length ≤ 1000) (hL : WLn w A n ws) (hA : ∀ b off, A = some ⟨b, off, none⟩ → b < R) (hn : 0 < n) (hn2 : n ≤ 1099511627776) :
    Calls Tryz.prog 53 #[.pointer (some ⟨R, 0, none⟩), .slice A n cap] w (LPost w R (.slice A n cap) ws (lnA m rs (txs ws))) := by
  obtain ⟨c0, c1, c2⟩ := h.cells
  have s2 := h.soft 2
  have hltR := h.lt
  have B1 := (Below.refl R w).setCell (p := ⟨R, 2, none⟩) (Nat.le_refl _) (.slice A n cap)
  have hR1 := h.put2 (.slice A n cap)
  have hO1 : ORls (w.setCell ⟨R, 2, none⟩ (.slice A n cap)) (R + 1) v rs := ownsRow_setCell_below hO (by show R < R + 1; omega) _
  have hL1 := hL.under B1 hA
  have hN1 : Nam (w.setCell ⟨R, 2, none⟩ (.slice A n cap)) := by
    obtain ⟨n0, n1, n2, n3⟩ := hN
    exact ⟨(cs_other _ _ _ _ _ _ (.inl (by omega))).trans n0, (cs_other _ _ _ _ _ _ (.inl (by omega))).trans n1, (cs_other _ _ _ _ _ _ (.inl (by omega))).trans n2, (cs_other _ _ _ _ _ _ (.inl (by omega))).trans n3⟩
  have CS := readSize_any R n cap A ws m v rs _ hR1 hO1 hL1 hn
  have CR := readRule_any R n cap A ws m v rs _ hN1 hR1 hO1 hok hlen hL1 hn hn2
  have CW := wrong_flt R 0 n cap A ws m v 22 _ hR1 hL1 hn
  obtain ⟨b, off, rfl, hb, hc⟩ := hL1.2.2 hn
  have y0 := (hc 0 hn).1
  rw [Nat.zero_mul, Nat.add_zero] at y0
  have e0 : (txs ws).getD 0 nob = str (fnW ws 0).1 := txs_at ws 0 (by rw [hL.1]; omega)
  have bR := hA b off rfl
  have y0' : w.cell? ⟨b, off, none⟩ = some (.string (str (fnW ws 0).1)) := (cs_other _ _ _ _ _ _ (.inl (by omega))).symm.trans y0
  have i1 : (0 : Int) < (n : Int) := by omega
  by_cases h1 : (str (fnW ws 0).1).toList = [115, 105, 122, 101]
  · have e1 : lnA m rs (txs ws) = lnS m rs (txs ws) := by unfold lnA; rw [if_pos (by rw [e0]; exact (text_is h1.symm).symm)]
    rw [e1]
    generalize str (fnW ws 0).1 = x at *
    generalize lnS m rs (txs ws) = X at *
    clear CR CW hc hL1 hO1 hN1 hN h hL hO e1 hok
    by_cases hX : X.e = 0
    · have C := lp_ok CS hX
      clear CS
      go_enter Tryz.func53, Tryz.ntmps53
      go_wp2_with (go_at_call 77; (with_reducible refine C.mono ?_); rintro r w2 ⟨rfl, hp⟩)
      go_end0
      exact lpost_later hp B1
    · obtain ⟨q, C⟩ := lp_bad CS hX
      clear CS
      go_enter Tryz.func53, Tryz.ntmps53
      go_wp2_with (go_at_call 77; (with_reducible refine C.mono ?_); rintro r w2 ⟨rfl, hp⟩)
      exact lpost_flt rfl (lpost_later hp B1)
  · have t1 : ((str (fnW ws 0).1).toList == [115, 105, 122, 101]) = false := by rw [← Bool.not_eq_true, beq_iff_eq]; exact h1
    have e1 : lnA m rs (txs ws) = lnR m rs (txs ws) := by unfold lnA; rw [if_neg (by rw [e0]; exact fun g => h1 (by rw [g, ByteArray.toList_eq]))]
    rw [e1]
    have en := lnR_none m rs (txs ws)
    rw [e0] at en
    generalize str (fnW ws 0).1 = x at *
    generalize lnR m rs (txs ws) = X at *
    clear CS hc hL1 hO1 hN1 hN h hL hO e1 hok h1
    by_cases h2 : x.toList = [100, 101, 102, 97, 117, 108, 116]
    · clear en
      by_cases hX : X.e = 0
      · have C := lp_ok CR hX
        clear CR
        go_enter Tryz.func53, Tryz.ntmps53
        go_wp2_with (go_at_call 78; (with_reducible refine C.mono ?_); rintro r w2 ⟨rfl, hp⟩)
        go_end0
        exact lpost_later hp B1
      · obtain ⟨q, C⟩ := lp_bad CR hX
        clear CR
        go_enter Tryz.func53, Tryz.ntmps53
        go_wp2_with (go_at_call 78; (with_reducible refine C.mono ?_); rintro r w2 ⟨rfl, hp⟩)
        exact lpost_flt rfl (lpost_later hp B1)
    · have t2 : (x.toList == [100, 101, 102, 97, 117, 108, 116]) = false := by rw [← Bool.not_eq_true, beq_iff_eq]; exact h2
      by_cases h3 : x.toList = [114, 117, 108, 101]
      · clear en h2
        by_cases hX : X.e = 0
        · have C := lp_ok CR hX
          clear CR
          go_enter Tryz.func53, Tryz.ntmps53
          go_wp2_with (go_at_call 78; (with_reducible refine C.mono ?_); rintro r w2 ⟨rfl, hp⟩)
          go_end0
          exact lpost_later hp B1
        · obtain ⟨q, C⟩ := lp_bad CR hX
          clear CR
          go_enter Tryz.func53, Tryz.ntmps53
          go_wp2_with (go_at_call 78; (with_reducible refine C.mono ?_); rintro r w2 ⟨rfl, hp⟩)
          exact lpost_flt rfl (lpost_later hp B1)
      · have t3 : (x.toList == [114, 117, 108, 101]) = false := by rw [← Bool.not_eq_true, beq_iff_eq]; exact h3
        have eX := en h2 h3
        subst eX
        clear h2 h3 CR en
        have CW' : Calls Tryz.prog 79 #[.pointer (some ⟨R, 0, none⟩), .int .u16 22, .int .i64 0] (w.setCell ⟨R, 2, none⟩ (.slice (some ⟨b, off, none⟩) n cap)) fun r w' => (∃ q, r = .panicked [q]) ∧ LPost w R (.slice (some ⟨b, off, none⟩) n cap) ws (.bad 22 0) r w' :=
          CW.mono fun r w' ⟨h1, h2⟩ => ⟨⟨_, h1⟩, lpost_bad (by decide) h1 (B1.trans (h2.mono (by simp only [World.size_setCell]; omega)))⟩
        clear CW
        go_enter Tryz.func53, Tryz.ntmps53
        go_wp2_with (go_at_call 79; (with_reducible refine CW'.mono ?_); rintro r w2 ⟨⟨q, rfl⟩, hp⟩)
        exact lpost_flt rfl hp
end Go.Proofs.YtckaiejbgnhgcaaGreatDoor.Wd
namespace Go.Proofs.YtckaiejbgnhgcaaGreatDoor.Wd.Ws
set_option linter.unusedVariables false
/-- How many words there are in a line at most. -/
def wd : Mo → Nat
  | .wrd _ _ => 1
  | _ => 0
theorem shut_wide (m : Mo) (n : Nat) (line : List Wo) : (shutL m n line).length = line.length + wd m := by
  cases m <;> simp [shutL, wd]
theorem flush_wide {K : Nat} {line : List Wo} {lines : List (List Wo)} (h : line.length ≤ K) (hs : ∀ l ∈ lines, l.length ≤ K) : ∀ l ∈ flush line lines, l.length ≤ K := by
  unfold flush
  split
  · exact hs
  · intro l hm
    rcases List.mem_append.1 hm with hm | hm
    · exact hs l hm
    · simp at hm; subst hm; exact h
theorem aut_wide (K : Nat) : ∀ (q : List UInt8) (m : Mo) (n c : Nat) (line : List Wo) (lines : List (List Wo)), line.length + wd m + q.length ≤ K → (∀ l ∈ lines, l.length ≤ K) → ∀ l ∈ (aut q m n c line lines).rows, l.length ≤ K
  | [], m, n, c, line, lines, h1, h2 => by rw [aut_nil]; exact flush_wide (by rw [shut_wide]; simp at h1; omega) h2
  | b :: t, m, n, c, line, lines, h1, h2 => by
    simp only [List.length_cons] at h1
    rcases aut_ways b with h | h | h | h
    · rw [aut_1 h]; intro l hl; cases hl
    · rw [aut_2 h]
      refine aut_wide K t _ _ _ _ _ ?_ h2
      rw [shut_wide]
      cases m <;> simp [blanked, wd] at h1 ⊢ <;> omega
    · rw [aut_3 h]
      exact aut_wide K t _ _ _ _ _ (by simp [wd]; omega) (flush_wide (by rw [shut_wide]; omega) h2)
    · rw [aut_v h]
      refine aut_wide K t _ _ _ _ _ ?_ h2
      cases m with
      | gap =>
        by_cases hq : kd b = 4 ∧ line = []
        · have e : seen b .gap c line = .rem := if_pos hq
          rw [e]; simp [wd] at h1 ⊢; omega
        · have e : seen b .gap c line = .wrd [b] c := if_neg hq
          rw [e]; simp [wd] at h1 ⊢; omega
      | rem => simp [seen, wd] at h1 ⊢; omega
      | wrd x c0 => simp [seen, wd] at h1 ⊢; omega
theorem spl_wide (bs : List UInt8) : ∀ l ∈ (spl bs).rows, l.length ≤ 1048577 := by
  unfold spl
  split
  · intro l hl; cases hl
  · exact aut_wide 1048577 bs _ _ _ _ _ (by simp [wd]; omega) (by intro l hl; cases hl)
theorem aut_err : ∀ (q : List UInt8) (m : Mo) (n c : Nat) (line : List Wo) (lines : List (List Wo)), (aut q m n c line lines).er = 0 ∨ (aut q m n c line lines).er = 20
  | [], m, n, c, line, lines => by rw [aut_nil]; exact .inl rfl
  | b :: t, m, n, c, line, lines => by
    rcases aut_ways b with h | h | h | h
    · rw [aut_1 h]; exact .inr rfl
    · rw [aut_2 h]; exact aut_err t _ _ _ _ _
    · rw [aut_3 h]; exact aut_err t _ _ _ _ _
    · rw [aut_v h]; exact aut_err t _ _ _ _ _
theorem spl_err (bs : List UInt8) : (spl bs).er = 0 ∨ (spl bs).er = 20 ∨ (spl bs).er = 21 := by
  unfold spl
  split
  · exact .inr (.inr rfl)
  · rcases aut_err bs .gap 1 1 [] [] with h | h
    · exact .inl h
    · exact .inr (.inl h)
end Go.Proofs.YtckaiejbgnhgcaaGreatDoor.Wd.Ws
namespace Go.Proofs.YtckaiejbgnhgcaaGreatDoor.Wd
open Go Go.RowKit
set_option linter.unusedVariables false
set_option maxRecDepth 100000

/-- What is told of a text. -/
structure PR where
  e : Int
  ln : Int
  cl : Int
  m : Int
  rs : List Rl
abbrev PR.bad (e ln cl : Int) : PR := ⟨e, ln, cl, 0, []⟩
abbrev PR.ok (m : Int) (rs : List Rl) : PR := ⟨0, 0, 0, m, rs⟩
def psL (m : Int) (rs : List Rl) : List (List Ws.Wo) → PR
  | [] => if enE m rs ≠ 0 then .bad (enE m rs) 0 0 else .ok m (ordL rs)
  | ws :: rest => if (lnA m rs (txs ws)).e ≠ 0 then .bad (lnA m rs (txs ws)).e (fnW ws (lnA m rs (txs ws)).k).2.1 (fnW ws (lnA m rs (txs ws)).k).2.2 else psL (lnA m rs (txs ws)).m (lnA m rs (txs ws)).rs rest
def cfgP (bs : List UInt8) : PR := if (Ws.spl bs).er ≠ 0 then .bad ((Ws.spl bs).er : Int) ((Ws.spl bs).ln : Int) ((Ws.spl bs).cl : Int) else psL 0 [] (Ws.spl bs).rows
/-- What stands behind any line that is right. -/
structure Inv0 (m : Int) (rs : List Rl) : Prop where
  m : 0 ≤ m ∧ m ≤ 1000000
  len : rs.length ≤ 1000
  ok : ∀ r ∈ rs, Okr r
theorem inv0_start : Inv0 0 [] := ⟨by omega, by simp, fun r h => nomatch h⟩
theorem lnA_inv {m : Int} {rs : List Rl} {xs : List ByteArray} (h : Inv0 m rs) (he : (lnA m rs xs).e = 0) : Inv0 (lnA m rs xs).m (lnA m rs xs).rs := by
  unfold lnA at he ⊢
  by_cases c : xs.getD 0 nob = sizS
  · rw [if_pos c] at he ⊢
    unfold lnS at he ⊢
    by_cases c1 : xs.length ≠ 2
    · rw [if_pos c1] at he; cases he
    · rw [if_neg c1] at he ⊢
      by_cases c2 : m ≠ 0
      · rw [if_pos c2] at he; cases he
      · rw [if_neg c2] at he ⊢
        by_cases c3 : paE (lb (xs.getD 1 nob)) ≠ 0
        · rw [if_pos c3] at he; exact absurd he c3
        · rw [if_neg c3] at he ⊢
          by_cases c4 : ¬ (1 ≤ paN (lb (xs.getD 1 nob)) ∧ paN (lb (xs.getD 1 nob)) ≤ 1000000)
          · rw [if_pos c4] at he; cases he
          · rw [if_neg c4] at he ⊢
            exact ⟨by show 0 ≤ paN _ ∧ paN _ ≤ _; omega, h.len, h.ok⟩
  · rw [if_neg c] at he ⊢
    unfold lnR at he ⊢
    by_cases c1 : (ansA xs).err ≠ 0
    · rw [if_pos c1] at he; exact absurd he c1
    · rw [if_neg c1] at he ⊢
      by_cases c2 : hasB rs (ansA xs).p = true
      · rw [if_pos c2] at he; cases he
      · rw [if_neg c2] at he ⊢
        by_cases c3 : ¬ rs.length < 1000
        · rw [if_pos c3] at he; cases he
        · rw [if_neg c3] at he ⊢
          refine ⟨h.m, by show (rs ++ [_]).length ≤ 1000; simp; omega, fun r hr => ?_⟩
          rcases List.mem_append.1 hr with hr | hr
          · exact h.ok r hr
          · simp only [List.mem_cons, List.not_mem_nil, or_false] at hr
            subst hr
            exact ans_ok xs (by simpa using c1)
end Go.Proofs.YtckaiejbgnhgcaaGreatDoor.Wd
namespace Go.Proofs.YtckaiejbgnhgcaaGreatDoor.Wd
open Go Go.RowKit
set_option linter.unusedVariables false
set_option maxRecDepth 100000

/-- What is there behind a text. -/
def PPost (w : World) (X : PR) (r : Ending) (w' : World) : Prop :=
  (if X.e = 0 then (∃ B, r = .returned (.agg #[.int .i64 X.m, .slice (some ⟨B, 0, none⟩) X.rs.length X.rs.length]) ∧ w.heap.size ≤ B ∧ Rls w' (some ⟨B, 0, none⟩) X.rs.length X.rs) else Flt X.e X.ln X.cl r) ∧ Below w.heap.size w w'
theorem ppost_flt {w w' : World} {X : PR} {ch : List PanicEntry} {P : Program} {fn : Func} {a : Act} (ha : a.defers = []) (h : PPost w X (.panicked ch) w') : bodyPost P fn (PPost w X) (.panic ch) a w' := ⟨ha, h⟩
theorem ppost_bad {w w' : World} {e l c : Int} {r : Ending} (he : e ≠ 0) (h : Flt e l c r) (hb : Below w.heap.size w w') : PPost w (.bad e l c) r w' := ⟨by rw [if_neg he]; exact h, hb⟩

theorem Nam.under {w w' : World} {N : Nat} (h : Nam w) (k : Below N w w') (hN : 0 < N) : Nam w' :=
  ⟨(k.cell (p := ⟨0, 0, none⟩) hN).trans h.1, (k.cell (p := ⟨0, 1, none⟩) hN).trans h.2.1, (k.cell (p := ⟨0, 2, none⟩) hN).trans h.2.2.1, (k.cell (p := ⟨0, 3, none⟩) hN).trans h.2.2.2⟩

set_option maxHeartbeats 2000000 in
theorem pars_any (A : Option Addr) (N cap : Nat) (bs : List UInt8) (w : World) (hN : Nam w) (hT : Ws.Txt w A N bs) (hcap : N ≤ cap) (hcm : cap ≤ 9223372036854775807) :
    Calls Tryz.prog 33 #[.slice A N cap] w (PPost w (cfgP bs)) := by
  have B0 := (Below.refl _ w).alloc (Nat.le_refl _) (.cells #[.int .i64 0, .slice none 0 0] 28)
  have CS := Ws.split_any A N cap bs _ (hT.below B0) hcap hcm
  have hz := cell_lt hN.1
  by_cases he : (Ws.spl bs).er = 0
  · have e0 : cfgP bs = psL 0 [] (Ws.spl bs).rows := by unfold cfgP; rw [if_neg (by simp [he])]
    rw [e0]
    obtain ⟨X, hX⟩ : ∃ X, X = psL 0 [] (Ws.spl bs).rows := ⟨_, rfl⟩
    rw [← hX]
    have HX := Lib.hid hX.symm
    have HB := Lib.hid (Ws.spl_bd bs)
    have HW := Lib.hid (Ws.spl_wide bs)
    have HE := Lib.hid (Ws.spl_ne bs)
    have HC := Ws.spl_count bs
    unfold Ws.SplitPost at CS
    rw [he] at CS
    generalize (Ws.spl bs).rows = rows at *
    generalize ((Ws.spl bs).ln : Int) = ln at *
    generalize ((Ws.spl bs).cl : Int) = cl at *
    clear e0 he hT hX
    go_enter Tryz.func33, Tryz.ntmps33
    go_wp2_with (go_at_call 52; refine CS.mono ?_; rintro r w1 ⟨v1, rfl, hW1, k1⟩; refine stopHere ?_)
    unfold Stop
    obtain ⟨A1, c1, rfl⟩ := hW1.slice
    have hz1 := k1.size
    have r0 : w1.cell? ⟨w.heap.size, 0, none⟩ = some (.int .i64 0) := celln k1 (by simp)
    have r1 : w1.cell? ⟨w.heap.size, 1, none⟩ = some (.slice none 0 0) := celln k1 (by simp)
    have f0 : w1.frozen? ⟨w.heap.size, 0, none⟩ = false := (k1.frozen (p := ⟨w.heap.size, 0, none⟩) (by simp)).trans (by simp)
    have f1 : w1.frozen? ⟨w.heap.size, 1, none⟩ = false := (k1.frozen (p := ⟨w.heap.size, 1, none⟩) (by simp)).trans (by simp)
    have BW := kbq B0 k1
    have hlt := cell_lt r0
    have HW1 := Lib.hid hW1
    have t0 : ((0 : Nat) : Int) = 0 := rfl
    have ka := (Below.refl _ w1).alloc (Nat.le_refl _) (.cells #[.int .i64 ln, .int .i64 cl] 44)
    have kb := (Below.refl _ (w1.alloc (.cells #[.int .i64 ln, .int .i64 cl] 44))).alloc (Nat.le_refl _) (.cells #[.int .i64 0, .slice none 0 0, .slice none 0 0] 99)
    have hR : Rd ((w1.alloc (.cells #[.int .i64 ln, .int .i64 cl] 44)).alloc (.cells #[.int .i64 0, .slice none 0 0, .slice none 0 0] 99)) (w1.heap.size + 1) 0 (.slice none 0 0) (.slice none 0 0) := by
      refine ⟨99, ?_⟩
      have := (MapKept.heap_alloc (w1.alloc (.cells #[.int .i64 ln, .int .i64 cl] 44)) (.cells #[.int .i64 0, .slice none 0 0, .slice none 0 0] 99)).1
      simpa using this
    have k2 := kbq ka kb
    clear CS hW1 ka kb
    go_wp2
    generalize hR0 : w1.heap.size + 1 = R at *
    have hRw : w1.heap.size < R := by omega
    generalize hW2 : (w1.alloc (.cells #[.int .i64 ln, .int .i64 cl] 44)).alloc (.cells #[.int .i64 0, .slice none 0 0, .slice none 0 0] 99) = W2 at *
    clear hW2 t0
    replace r0 := celln k2 r0
    replace r1 := celln k2 r1
    replace f0 := (k2.frozen (p := ⟨w.heap.size, 0, none⟩) hlt).trans f0
    replace f1 := (k2.frozen (p := ⟨w.heap.size, 1, none⟩) hlt).trans f1
    have B2 := kbq BW k2
    have hNW := Lib.hid (hN.below B2)
    have hzR : 0 < R := by omega
    go_loopw [23] (fun i wr => ∃ (k : Nat) (m : Int) (rs : List Rl) (v l : Value), i = .int .i64 (k : Int) ∧ k ≤ rows.length ∧ Rd wr R m v l ∧ ORls wr (R + 1) v rs ∧ Hid (Inv0 m rs) ∧ Hid (psL m rs (rows.drop k) = X) ∧ Below R W2 wr) (fun i _ => rows.length - (intOf i).toNat)
    case atStart => exact ⟨0, 0, [], _, _, rfl, Nat.zero_le _, hR, ORls.nil _ _, Lib.hid inv0_start, HX, Below.refl _ _⟩
    case round =>
      obtain ⟨k, m, rs, v, l, rfl, hk, hRd, hO, hI, hP, hB⟩ := hrel
      have hRlt := hRd.lt
      by_cases hkn : k < rows.length
      · have hx : rows[k]? = some rows[k] := List.getElem?_eq_getElem hkn
        obtain ⟨g, cg, eg, hg, hcl⟩ := HW1.out.form (by omega)
        simp only [Value.slice.injEq, true_and] at eg
        obtain ⟨rfl, rfl⟩ := eg
        obtain ⟨u, hu, hru⟩ := hcl k _ hx
        have hmem := List.getElem_mem hkn
        obtain ⟨A5, c5, rfl, hL5⟩ := WLn.of hru (HB.out _ hmem)
        have hA5 : ∀ b off, A5 = some ⟨b, off, none⟩ → b < R := fun b off e => by
          have hpos : 0 < (rows[k]).length := List.length_pos_iff.2 (HE.out _ hmem)
          obtain ⟨b', off', e', hb', _⟩ := hL5.2.2 hpos
          rw [e] at e'
          injection e' with e'
          injection e' with e1
          omega
        have BR : Below w1.heap.size w1 wr := k2.trans (hB.mono (by omega))
        have hd : rows.drop k = rows[k] :: rows.drop (k + 1) := List.drop_eq_getElem_cons hkn
        have hP2 := hP.out
        rw [hd] at hP2
        unfold psL at hP2
        have hpos : 0 < (rows[k]).length := List.length_pos_iff.2 (HE.out _ hmem)
        have hw5 := HW.out _ hmem
        have CL := rdline_any R (rows[k]).length c5 A5 rows[k] m v l rs wr ((hNW.out).under hB hzR) hzR hRd hO hI.out.ok hI.out.len (hL5.below BR) hA5 hpos (by omega)
        have hu' := celln BR hu
        clear hru hL5 hA5 hw5 hmem hu hcl hg
        generalize hws : rows[k] = ws at *
        generalize hX0 : lnA m rs (txs ws) = Y at *
        generalize hlw : ws.length = lw at *
        have i0 : (0 : Int) ≤ (k : Int) := Int.natCast_nonneg _
        have i1 : (k : Int) < (rows.length : Int) := by omega
        have i2 : (k : Int).toNat = k := rfl
        by_cases hY : Y.e = 0
        · have C := lp_ok CL hY
          have hI2 := Lib.hid (lnA_inv hI.out (xs := txs ws) (by rw [hX0]; exact hY))
          rw [hX0] at hI2
          clear CL
          rw [if_neg (by simp [hY])] at hP2
          go_wp2_with (go_at_call 53; (with_reducible refine C.mono ?_); rintro r w2 ⟨rfl, hp⟩)
          obtain ⟨hp1, hp2⟩ := hp
          rw [if_pos hY] at hp1
          obtain ⟨_, v2, hR2, hO2⟩ := hp1
          have hBB := hB.trans hp2
          go_roundw
          case rel => exact ⟨k + 1, Y.m, Y.rs, v2, _, rfl, hkn, hR2, hO2, hI2, Lib.hid hP2, hBB⟩
          case measure => simp [intOf]; omega
        · obtain ⟨q, C⟩ := lp_bad CL hY
          clear CL
          rw [if_pos hY] at hP2
          go_wp2_with (go_at_call 53; (with_reducible refine C.mono ?_); rintro r w2 ⟨rfl, hp⟩)
          obtain ⟨hp1, hp2⟩ := hp
          rw [if_neg hY] at hp1
          subst hP2
          exact ppost_flt rfl (ppost_bad hY hp1 (B2.trans ((hB.trans hp2).mono (by omega))))
      · have hkk : k = rows.length := by omega
        subst hkk
        have t1 : ¬ ((rows.length : Int) < (rows.length : Int)) := by omega
        have hP2 := hP.out
        rw [List.drop_length] at hP2
        unfold psL at hP2
        have CE := end_any R m v l rs wr hRd hO hI.out.ok hI.out.len
        obtain ⟨A6, c6, rfl, hq3, hq4, hRl⟩ := hO.rls hI.out.ok
        obtain ⟨c0, c1, c2⟩ := hRd.cells
        generalize hE0 : enE m rs = E at *
        have hlen := hI.out.len
        unfold EPost at CE
        by_cases hE : E = 0
        · subst hE
          have C : Calls Tryz.prog 54 #[.pointer (some ⟨R, 0, none⟩)] wr fun r w' => r = .returned (.tuple #[]) ∧ Below wr.heap.size wr w' := CE.mono fun r w' h => ⟨by have := h.1; rwa [if_pos rfl] at this, h.2⟩
          clear CE
          rw [if_neg (by simp)] at hP2
          go_wp2_with (go_at_call 54; (with_reducible refine C.mono ?_); rintro r w2 ⟨rfl, kb⟩; refine stopHere ?_)
          unfold Stop
          have d0 := celln kb c0
          have d1 := celln kb c1
          have CO := order_new m A6 rs.length c6 rs w2 (hRl.below kb) (by omega)
          have BR : Below w.heap.size w w2 := B2.trans ((hB.trans (kb.mono (by omega))).mono (by omega))
          have hBR := hB.trans (kb.mono (by omega))
          replace r0 := (hBR.cell (p := ⟨w.heap.size, 0, none⟩) (by show w.heap.size < R; omega)).trans r0
          replace r1 := (hBR.cell (p := ⟨w.heap.size, 1, none⟩) (by show w.heap.size < R; omega)).trans r1
          replace f0 := (hBR.frozen (p := ⟨w.heap.size, 0, none⟩) (by show w.heap.size < R; omega)).trans f0
          replace f1 := (hBR.frozen (p := ⟨w.heap.size, 1, none⟩) (by show w.heap.size < R; omega)).trans f1
          subst hP2
          have hgt : w.heap.size < w2.heap.size := cell_lt r0
          generalize hrl : rs.length = rl at *
          clear hRl c0 c1 c2 hRd hB hBR kb B2 BW k2 B0 HW1
          go_wp2_with (go_at_call 19; (with_reducible refine CO.mono ?_); rintro r w3 ⟨⟨B, rfl, hBn, hR3⟩, kc⟩; refine stopHere ?_)
          unfold Stop
          replace r0 := celln kc r0
          replace r1 := celln kc r1
          replace f0 := (kc.frozen (p := ⟨w.heap.size, 0, none⟩) hgt).trans f0
          replace f1 := (kc.frozen (p := ⟨w.heap.size, 1, none⟩) hgt).trans f1
          have B3 := Lib.hid (((kbq BR kc).setCell (p := ⟨w.heap.size, 0, none⟩) (by simp) (.int .i64 m)).setCell (p := ⟨w.heap.size, 1, none⟩) (by simp) (.slice (some ⟨B, 0, none⟩) rl rl))
          have BG := Lib.hid (put_but w3 w.heap.size (.int .i64 m) (.slice (some ⟨B, 0, none⟩) rl rl))
          have lr : (ordL rs).length = rl := by rw [ordL_length]; exact hrl
          clear BR kc CO C
          go_wp2
          have q0 : ((w3.setCell ⟨w.heap.size, 0, none⟩ (.int .i64 m)).setCell ⟨w.heap.size, 1, none⟩ (.slice (some ⟨B, 0, none⟩) rl rl)).cell? ⟨w.heap.size, 0, none⟩ = some (.int .i64 m) :=
            (cs_other _ _ _ _ _ _ (.inr (by omega))).trans (World.cell?_setCell_same _ _ _ r0)
          have q1 : ((w3.setCell ⟨w.heap.size, 0, none⟩ (.int .i64 m)).setCell ⟨w.heap.size, 1, none⟩ (.slice (some ⟨B, 0, none⟩) rl rl)).cell? ⟨w.heap.size, 1, none⟩ = some (.slice (some ⟨B, 0, none⟩) rl rl) :=
            World.cell?_setCell_same _ _ _ ((cs_other _ _ _ _ _ _ (.inr (by omega))).trans r1)
          have hRl : Rls ((w3.setCell ⟨w.heap.size, 0, none⟩ (.int .i64 m)).setCell ⟨w.heap.size, 1, none⟩ (.slice (some ⟨B, 0, none⟩) rl rl)) (some ⟨B, 0, none⟩) rl (ordL rs) := by
            refine ⟨hR3.1, hR3.2.1, fun hp => ?_⟩
            obtain ⟨b, o, e, hlt, hc⟩ := hR3.2.2 hp
            injection e with e
            injection e with e1 e2
            subst e1
            subst e2
            have hb := BG.out.block B hlt (fun e => by injection e; omega)
            exact ⟨B, 0, rfl, Nat.lt_of_lt_of_le hlt BG.out.size, fun j hj => (hc j hj).of_block hb⟩
          have hB := B3.out
          generalize (w3.setCell ⟨w.heap.size, 0, none⟩ (.int .i64 m)).setCell ⟨w.heap.size, 1, none⟩ (.slice (some ⟨B, 0, none⟩) rl rl) = w9 at *
          refine bodyPost_ret (v := .agg #[.int .i64 m, .slice (some ⟨B, 0, none⟩) rl rl]) ?_ rfl ⟨?_, hB⟩
          · simp [results, Tryz.results33, go_sem, q0, q1]
          · rw [if_pos rfl]
            exact ⟨B, by rw [lr], by omega, by rw [lr]; exact hRl⟩
        · have C : ∃ q : PanicEntry, Calls Tryz.prog 54 #[.pointer (some ⟨R, 0, none⟩)] wr fun r w' => r = .panicked [q] ∧ Flt E 0 0 r ∧ Below wr.heap.size wr w' := ⟨_, CE.mono fun r w' h => by
            have := h.1
            rw [if_neg hE] at this
            exact ⟨this, this, h.2⟩⟩
          clear CE
          obtain ⟨q, C⟩ := C
          rw [if_pos (by simpa using hE)] at hP2
          subst hP2
          go_wp2_with (go_at_call 54; (with_reducible refine C.mono ?_); rintro r w2 ⟨rfl, hf, kb⟩)
          exact ppost_flt rfl (ppost_bad hE hf (B2.trans ((hB.trans (kb.mono (by omega))).mono (by omega))))
  · have e0 : cfgP bs = .bad ((Ws.spl bs).er : Int) ((Ws.spl bs).ln : Int) ((Ws.spl bs).cl : Int) := by unfold cfgP; rw [if_pos he]
    rw [e0]
    have hU := Ws.spl_err bs
    have he' : ((Ws.spl bs).er : Int) ≠ 0 := by omega
    unfold Ws.SplitPost at CS
    generalize ((Ws.spl bs).er : Int) = er at *
    generalize ((Ws.spl bs).ln : Int) = ln at *
    generalize ((Ws.spl bs).cl : Int) = cl at *
    generalize (Ws.spl bs).rows = rows at *
    have t1 : (er == 0) = false := by simpa using he'
    clear e0 he hT hU
    go_enter Tryz.func33, Tryz.ntmps33
    go_wp2_with (go_at_call 52; refine CS.mono ?_; rintro r w1 ⟨v1, rfl, hW1, k1⟩)
    have kw := k1.alloc k1.size (.cells #[.int .i64 ln, .int .i64 cl] 44)
    exact ppost_flt rfl (ppost_bad he' rfl (B0.trans (kw.mono (by simp))))
end Go.Proofs.YtckaiejbgnhgcaaGreatDoor.Wd
namespace Go.Proofs.YtckaiejbgnhgcaaGreatDoor.Wd
open Go Go.RowKit
set_option linter.unusedVariables false
set_option maxRecDepth 100000

theorem as_fault (v : Value) (w : World) : (Instr.typeAssert (.iface 70 v) 20 70 false).run Tryz.prog w = .ok v w := by kernel_rfl

set_option maxHeartbeats 1000000 in
theorem catch_idle (x y : Value) (w : World) :
    CallsD Tryz.prog 32 #[x, y] .returning w fun e u' w' => e = .returned (.tuple #[]) ∧ u' = .returning ∧ w' = w := by
  refine callsD_of_wpS Tryz.func32 rfl fun c₀ cs hu => ?_
  apply wpS_seq
  apply wpS_region
  simp [wpOpsS, go_sem, recoverD, hu, Tryz.ntmps32, Exit.thenS]
  refine wpS_of_wp ?_
  have et : (#[x, y] ++ ((Array.replicate 11 undef).setIfInBounds 2 Value.nilIface).setIfInBounds 0 Value.nilIface : Array Value) = #[x, y, .nilIface, undef, .nilIface, undef, undef, undef, undef, undef, undef, undef, undef] := rfl
  rw [et]
  clear et
  generalize hQ : bodyPostS Tryz.prog Tryz.f32 c₀ cs (fun e u' w' => e = Ending.returned (Value.tuple #[]) ∧ u' = FrameMode.returning ∧ w' = w) = Q
  go_wp2
  subst hQ
  cases c₀
  simp_all [bodyPostS, results, Tryz.results32]

set_option maxHeartbeats 1000000 in
theorem catch_fault (E T : Nat) (hET : E < T) (e l c : Int) (v0 v1 v2 : Value) (w : World) (c0 : w.cell? ⟨E, 0, none⟩ = some v0) (c1 : w.cell? ⟨T, 0, none⟩ = some v1) (c2 : w.cell? ⟨T, 1, none⟩ = some v2)
    (f0 : w.frozen? ⟨E, 0, none⟩ = false) (f1 : w.frozen? ⟨T, 0, none⟩ = false) (f2 : w.frozen? ⟨T, 1, none⟩ = false) :
    CallsD Tryz.prog 32 #[.pointer (some ⟨E, 0, none⟩), .pointer (some ⟨T, 0, none⟩)] (.panicking [{ v := fltV e l c, recovered := false }]) w fun r u' w' =>
      r = .returned (.tuple #[]) ∧ u' = .panicking [{ v := fltV e l c, recovered := true }] ∧ w'.cell? ⟨E, 0, none⟩ = some (.int .u16 e) ∧ w'.cell? ⟨T, 0, none⟩ = some (.int .i64 l) ∧ w'.cell? ⟨T, 1, none⟩ = some (.int .i64 c) ∧ Below E w w' := by
  unfold fltV
  refine callsD_of_wpS Tryz.func32 rfl fun c₀ cs hu => ?_
  apply wpS_seq
  apply wpS_region
  simp [wpOpsS, go_sem, recoverD, hu, Tryz.ntmps32, Exit.thenS]
  refine wpS_of_wp ?_
  generalize hV : Value.iface 70 (Value.agg #[Value.int IntKind.u16 e, Value.int IntKind.i64 l, Value.int IntKind.i64 c]) = V at *
  have et : (#[Value.pointer (some ⟨E, 0, none⟩), Value.pointer (some ⟨T, 0, none⟩)] ++ ((Array.replicate 11 undef).setIfInBounds 2 V).setIfInBounds 0 V : Array Value) = #[.pointer (some ⟨E, 0, none⟩), .pointer (some ⟨T, 0, none⟩), V, undef, V, undef, undef, undef, undef, undef, undef, undef, undef] := rfl
  rw [et]
  subst hV
  clear et
  generalize hQ : bodyPostS Tryz.prog Tryz.f32 c₀ cs _ = Q
  have ha := as_fault
  have z0 := cell_lt c0
  have z1 := cell_lt c1
  have n1 : ¬ w.heap.size = E := by omega
  have n2 : ¬ w.heap.size = T := by omega
  have n3 : ¬ E = w.heap.size := by omega
  have n4 : ¬ T = w.heap.size := by omega
  have n5 : ¬ E = T := by omega
  have n6 : ¬ T = E := by omega
  go_wp2
  go_region
  have B1 := Lib.hid ((((((Below.refl E w).setCell (p := ⟨E, 0, none⟩) (Nat.le_refl _) (.int .u16 e)).setCell (p := ⟨T, 0, none⟩) (by show E ≤ T; omega) (.int .i64 l)).setCell (p := ⟨T, 1, none⟩) (by show E ≤ T; omega) (.int .i64 c)).alloc (by simp only [World.size_setCell]; omega) (.cells #[.int .u16 e, .int .i64 l, .int .i64 c] 70)).drew)
  have q0 : ((((w.setCell ⟨E, 0, none⟩ (.int .u16 e)).setCell ⟨T, 0, none⟩ (.int .i64 l)).setCell ⟨T, 1, none⟩ (.int .i64 c)).alloc (.cells #[.int .u16 e, .int .i64 l, .int .i64 c] 70)).drew.cell? ⟨E, 0, none⟩ = some (.int .u16 e) := by
    rw [World.cell?_drew, World.cell?_alloc_past _ _ _ (by simp only [World.size_setCell]; omega), cs_other _ _ _ _ _ _ (.inl (by omega)), cs_other _ _ _ _ _ _ (.inl (by omega))]
    exact World.cell?_setCell_same _ _ _ c0
  have q1 : ((((w.setCell ⟨E, 0, none⟩ (.int .u16 e)).setCell ⟨T, 0, none⟩ (.int .i64 l)).setCell ⟨T, 1, none⟩ (.int .i64 c)).alloc (.cells #[.int .u16 e, .int .i64 l, .int .i64 c] 70)).drew.cell? ⟨T, 0, none⟩ = some (.int .i64 l) := by
    rw [World.cell?_drew, World.cell?_alloc_past _ _ _ (by simp only [World.size_setCell]; omega), cs_other _ _ _ _ _ _ (.inr (by omega))]
    exact World.cell?_setCell_same _ _ _ ((cs_other _ _ _ _ _ _ (.inl (by omega))).trans c1)
  have q2 : ((((w.setCell ⟨E, 0, none⟩ (.int .u16 e)).setCell ⟨T, 0, none⟩ (.int .i64 l)).setCell ⟨T, 1, none⟩ (.int .i64 c)).alloc (.cells #[.int .u16 e, .int .i64 l, .int .i64 c] 70)).drew.cell? ⟨T, 1, none⟩ = some (.int .i64 c) := by
    rw [World.cell?_drew, World.cell?_alloc_past _ _ _ (by simp only [World.size_setCell]; omega)]
    exact World.cell?_setCell_same _ _ _ ((cs_other _ _ _ _ _ _ (.inr (by omega))).trans ((cs_other _ _ _ _ _ _ (.inl (by omega))).trans c2))
  have hB := B1.out
  generalize ((((w.setCell ⟨E, 0, none⟩ (.int .u16 e)).setCell ⟨T, 0, none⟩ (.int .i64 l)).setCell ⟨T, 1, none⟩ (.int .i64 c)).alloc (.cells #[.int .u16 e, .int .i64 l, .int .i64 c] 70)).drew = w9 at *
  subst hQ
  show bodyPostS Tryz.prog Tryz.f32 c₀ cs _ _ _ _ _
  simp [bodyPostS, results, Tryz.results32, q0, q1, q2, hB]

theorem psL_ways : ∀ (l : List (List Ws.Wo)) (m : Int) (rs : List Rl), ((psL m rs l).e = 0 ∧ (psL m rs l).ln = 0 ∧ (psL m rs l).cl = 0) ∨ ((psL m rs l).e ≠ 0 ∧ (psL m rs l).m = 0 ∧ (psL m rs l).rs = [])
  | [], m, rs => by
    unfold psL
    by_cases c : enE m rs ≠ 0
    · rw [if_pos c]; exact .inr ⟨c, rfl, rfl⟩
    · rw [if_neg c]; exact .inl ⟨rfl, rfl, rfl⟩
  | ws :: rest, m, rs => by
    unfold psL
    by_cases c : (lnA m rs (txs ws)).e ≠ 0
    · rw [if_pos c]; exact .inr ⟨c, rfl, rfl⟩
    · rw [if_neg c]; exact psL_ways rest _ _
theorem cfgP_ways (bs : List UInt8) : ((cfgP bs).e = 0 ∧ (cfgP bs).ln = 0 ∧ (cfgP bs).cl = 0) ∨ ((cfgP bs).e ≠ 0 ∧ (cfgP bs).m = 0 ∧ (cfgP bs).rs = []) := by
  unfold cfgP
  by_cases c : (Ws.spl bs).er ≠ 0
  · rw [if_pos c]; exact .inr ⟨by show ((Ws.spl bs).er : Int) ≠ 0; omega, rfl, rfl⟩
  · rw [if_neg c]; exact psL_ways _ _ _

theorem rls_keep3 (W : World) (P B n : Nat) (rs : List Rl) (h : Rls W (some ⟨B, 0, none⟩) n rs) (hB : P + 1 + 1 < B) (a b c d e : Value) :
    Rls (((((W.setCell ⟨P, 0, none⟩ a).setCell ⟨P, 1, none⟩ b).setCell ⟨P + 1, 0, none⟩ c).setCell ⟨P + 1 + 1, 0, none⟩ d).setCell ⟨P + 1 + 1, 1, none⟩ e) (some ⟨B, 0, none⟩) n rs := by
  refine ⟨h.1, h.2.1, fun hp => ?_⟩
  obtain ⟨b1, o, e1, hlt, hc⟩ := h.2.2 hp
  injection e1 with e1
  injection e1 with e1 e2
  subst e1
  subst e2
  refine ⟨B, 0, rfl, by simpa using hlt, fun j hj => (hc j hj).of_block ?_⟩
  have n0 : B ≠ P := by omega
  have n1 : B ≠ P + 1 := by omega
  have n2 : B ≠ P + 1 + 1 := by omega
  rw [Below.heap_setCell _ _ _ _ (fun e => n2 e), Below.heap_setCell _ _ _ _ (fun e => n2 e), Below.heap_setCell _ _ _ _ (fun e => n1 e), Below.heap_setCell _ _ _ _ (fun e => n0 e), Below.heap_setCell _ _ _ _ (fun e => n0 e)]

theorem put5 (W : World) (P : Nat) (a b c d e : Value) {a0 b0 c0 d0 e0 : Value} (h0 : W.cell? ⟨P, 0, none⟩ = some a0) (h1 : W.cell? ⟨P, 1, none⟩ = some b0) (h2 : W.cell? ⟨P + 1, 0, none⟩ = some c0) (h3 : W.cell? ⟨P + 1 + 1, 0, none⟩ = some d0) (h4 : W.cell? ⟨P + 1 + 1, 1, none⟩ = some e0)
    {V : World} (hV : ((((W.setCell ⟨P, 0, none⟩ a).setCell ⟨P, 1, none⟩ b).setCell ⟨P + 1, 0, none⟩ c).setCell ⟨P + 1 + 1, 0, none⟩ d).setCell ⟨P + 1 + 1, 1, none⟩ e = V) :
    V.cell? ⟨P, 0, none⟩ = some a ∧ V.cell? ⟨P, 1, none⟩ = some b ∧ V.cell? ⟨P + 1, 0, none⟩ = some c ∧ V.cell? ⟨P + 1 + 1, 0, none⟩ = some d ∧ V.cell? ⟨P + 1 + 1, 1, none⟩ = some e := by
  subst hV
  refine ⟨?_, ?_, ?_, ?_, ?_⟩
  · rw [cs_other _ _ _ _ _ _ (.inl (by omega)), cs_other _ _ _ _ _ _ (.inl (by omega)), cs_other _ _ _ _ _ _ (.inl (by omega)), cs_other _ _ _ _ _ _ (.inr (by omega))]
    exact World.cell?_setCell_same _ _ _ h0
  · rw [cs_other _ _ _ _ _ _ (.inl (by omega)), cs_other _ _ _ _ _ _ (.inl (by omega)), cs_other _ _ _ _ _ _ (.inl (by omega))]
    exact World.cell?_setCell_same _ _ _ ((cs_other _ _ _ _ _ _ (.inr (by omega))).trans h1)
  · rw [cs_other _ _ _ _ _ _ (.inl (by omega)), cs_other _ _ _ _ _ _ (.inl (by omega))]
    exact World.cell?_setCell_same _ _ _ ((cs_other _ _ _ _ _ _ (.inl (by omega))).trans ((cs_other _ _ _ _ _ _ (.inl (by omega))).trans h2))
  · rw [cs_other _ _ _ _ _ _ (.inr (by omega))]
    exact World.cell?_setCell_same _ _ _ ((cs_other _ _ _ _ _ _ (.inl (by omega))).trans ((cs_other _ _ _ _ _ _ (.inl (by omega))).trans ((cs_other _ _ _ _ _ _ (.inl (by omega))).trans h3)))
  · exact World.cell?_setCell_same _ _ _ ((cs_other _ _ _ _ _ _ (.inr (by omega))).trans ((cs_other _ _ _ _ _ _ (.inl (by omega))).trans ((cs_other _ _ _ _ _ _ (.inl (by omega))).trans ((cs_other _ _ _ _ _ _ (.inl (by omega))).trans h4))))

theorem al3 (w : World) (c1 c2 c3 : Array Value) (t1 t2 t3 : TypeId) {W : World} (hW : ((w.alloc (.cells c1 t1)).alloc (.cells c2 t2)).alloc (.cells c3 t3) = W) :
    (∀ i, W.cell? ⟨w.heap.size, i, none⟩ = c1[i]?) ∧ (∀ i, W.cell? ⟨w.heap.size + 1, i, none⟩ = c2[i]?) ∧ (∀ i, W.cell? ⟨w.heap.size + 1 + 1, i, none⟩ = c3[i]?) ∧
    (∀ i, W.frozen? ⟨w.heap.size, i, none⟩ = false) ∧ (∀ i, W.frozen? ⟨w.heap.size + 1, i, none⟩ = false) ∧ (∀ i, W.frozen? ⟨w.heap.size + 1 + 1, i, none⟩ = false) ∧ W.heap.size = w.heap.size + 1 + 1 + 1 := by
  subst hW
  have s1 : (w.alloc (.cells c1 t1)).heap.size = w.heap.size + 1 := by simp
  have s2 : ((w.alloc (.cells c1 t1)).alloc (.cells c2 t2)).heap.size = w.heap.size + 1 + 1 := by simp
  refine ⟨fun i => ?_, fun i => ?_, fun i => ?_, fun i => ?_, fun i => ?_, fun i => ?_, by simp⟩
  · rw [World.cell?_alloc_past _ _ _ (by omega), World.cell?_alloc_past _ _ _ (by omega), World.cell?_alloc_at _ _ _ _ rfl]
  · rw [World.cell?_alloc_past _ _ _ (by omega), World.cell?_alloc_at _ _ _ _ s1.symm]
  · rw [World.cell?_alloc_at _ _ _ _ s2.symm]
  · rw [World.frozen?_alloc_past _ _ _ (by omega), World.frozen?_alloc_past _ _ _ (by omega), World.frozen?_alloc_at _ _ _ _ rfl]
  · rw [World.frozen?_alloc_past _ _ _ (by omega), World.frozen?_alloc_at _ _ _ _ s1.symm]
  · rw [World.frozen?_alloc_at _ _ _ _ s2.symm]

set_option maxHeartbeats 1000000 in
theorem cparse_any (A : Option Addr) (N cap : Nat) (bs : List UInt8) (w : World) (hN : Nam w) (hT : Ws.Txt w A N bs) (hcap : N ≤ cap) (hcm : cap ≤ 9223372036854775807) :
    Calls Tryz.prog 17 #[.slice A N cap] w fun r w' => (∃ A', r = .returned (.tuple #[.agg #[.int .i64 (cfgP bs).m, .slice A' (cfgP bs).rs.length (cfgP bs).rs.length], .int .u16 (cfgP bs).e, .agg #[.int .i64 (cfgP bs).ln, .int .i64 (cfgP bs).cl]]) ∧ Rls w' A' (cfgP bs).rs.length (cfgP bs).rs) ∧ Below w.heap.size w w' := by
  have hmf : ∀ (fn : Fn) (first cap : Array Value) (w : World), (Instr.makeFunc fn first cap).run Tryz.prog w = .ok (.func fn first cap) w := fun _ _ _ _ => rfl
  have hX := cfgP_ways bs
  have hz := cell_lt hN.1
  have B0 := (((Below.refl _ w).alloc (Nat.le_refl _) (.cells #[.int .i64 0, .slice none 0 0] 28)).alloc (by simp) (.cells #[.int .u16 0] 40)).alloc (by simp; omega) (.cells #[.int .i64 0, .int .i64 0] 44)
  have CP := pars_any A N cap bs _ (hN.below B0) (hT.below B0) hcap hcm
  obtain ⟨aP, aE, aT, gP, gE, gT, hs3⟩ := al3 w #[.int .i64 0, .slice none 0 0] #[.int .u16 0] #[.int .i64 0, .int .i64 0] 28 40 44 rfl
  generalize cfgP bs = X at *
  unfold PPost at CP
  by_cases hE : X.e = 0
  · simp only [if_pos hE] at CP
    obtain ⟨hl, hc⟩ : X.ln = 0 ∧ X.cl = 0 := by omega
    rw [hE, hl, hc]
    go_enter_defers Tryz.func17, Tryz.ntmps17
    go_wp2_with (go_at_call 33; (with_reducible refine CP.mono ?_); rintro r w2 ⟨⟨B, rfl, hBn, hR⟩, kb⟩; refine stopHere ?_)
    unfold Stop
    have BW := kbq B0 kb
    have p0 : w2.cell? ⟨w.heap.size, 0, none⟩ = some (.int .i64 0) := celln kb (aP 0)
    have p1 : w2.cell? ⟨w.heap.size, 1, none⟩ = some (.slice none 0 0) := celln kb (aP 1)
    have e0 : w2.cell? ⟨w.heap.size + 1, 0, none⟩ = some (.int .u16 0) := celln kb (aE 0)
    have t0 : w2.cell? ⟨w.heap.size + 1 + 1, 0, none⟩ = some (.int .i64 0) := celln kb (aT 0)
    have t1 : w2.cell? ⟨w.heap.size + 1 + 1, 1, none⟩ = some (.int .i64 0) := celln kb (aT 1)
    have fp0 : w2.frozen? ⟨w.heap.size, 0, none⟩ = false := (kb.frozen (p := ⟨w.heap.size, 0, none⟩) (by show w.heap.size < _; rw [hs3]; omega)).trans (gP 0)
    have fp1 : w2.frozen? ⟨w.heap.size, 1, none⟩ = false := (kb.frozen (p := ⟨w.heap.size, 1, none⟩) (by show w.heap.size < _; rw [hs3]; omega)).trans (gP 1)
    have fe0 : w2.frozen? ⟨w.heap.size + 1, 0, none⟩ = false := (kb.frozen (p := ⟨w.heap.size + 1, 0, none⟩) (by show w.heap.size + 1 < _; rw [hs3]; omega)).trans (gE 0)
    have ft0 : w2.frozen? ⟨w.heap.size + 1 + 1, 0, none⟩ = false := (kb.frozen (p := ⟨w.heap.size + 1 + 1, 0, none⟩) (by show w.heap.size + 1 + 1 < _; rw [hs3]; omega)).trans (gT 0)
    have ft1 : w2.frozen? ⟨w.heap.size + 1 + 1, 1, none⟩ = false := (kb.frozen (p := ⟨w.heap.size + 1 + 1, 1, none⟩) (by show w.heap.size + 1 + 1 < _; rw [hs3]; omega)).trans (gT 1)
    have hsz : w.heap.size + 1 + 1 + 1 ≤ w2.heap.size := by have := kb.size; simpa using this
    simp only [World.size_alloc] at hBn
    generalize hrl : X.rs.length = rl at *
    clear CP kb B0 hN hT
    clear aP aE aT gP gE gT hs3
    have BF := Lib.hid (((((BW.setCell (p := ⟨w.heap.size, 0, none⟩) (Nat.le_refl _) (.int .i64 X.m)).setCell (p := ⟨w.heap.size, 1, none⟩) (Nat.le_refl _) (.slice (some ⟨B, 0, none⟩) rl rl)).setCell (p := ⟨w.heap.size + 1, 0, none⟩) (by show w.heap.size ≤ w.heap.size + 1; omega) (.int .u16 0)).setCell (p := ⟨w.heap.size + 1 + 1, 0, none⟩) (by show w.heap.size ≤ w.heap.size + 1 + 1; omega) (.int .i64 0)).setCell (p := ⟨w.heap.size + 1 + 1, 1, none⟩) (by show w.heap.size ≤ w.heap.size + 1 + 1; omega) (.int .i64 0))
    have hRr := rls_keep3 w2 w.heap.size B rl X.rs hR (by omega) (.int .i64 X.m) (.slice (some ⟨B, 0, none⟩) rl rl) (.int .u16 0) (.int .i64 0) (.int .i64 0)
    have hRr' := Lib.hid hRr
    have hC := Lib.hid (put5 w2 w.heap.size (.int .i64 X.m) (.slice (some ⟨B, 0, none⟩) rl rl) (.int .u16 0) (.int .i64 0) (.int .i64 0) p0 p1 e0 t0 t1 rfl)
    clear hRr
    go_wp2
    refine leaves_cons (f := 32) (args := #[.pointer (some ⟨w.heap.size + 1, 0, none⟩), .pointer (some ⟨w.heap.size + 1 + 1, 0, none⟩)]) (by simp) (by simp [go_sem]) ?_
    refine (catch_idle _ _ _).mono ?_
    rintro r u' w3 ⟨rfl, rfl, rfl⟩
    obtain ⟨q0, q1, q2, q3, q4⟩ := hC.out
    have hRw := hRr'.out
    have hBw := BF.out
    clear hRr' BF hC
    generalize ((((w2.setCell ⟨w.heap.size, 0, none⟩ (.int .i64 X.m)).setCell ⟨w.heap.size, 1, none⟩ (.slice (some ⟨B, 0, none⟩) rl rl)).setCell ⟨w.heap.size + 1, 0, none⟩ (.int .u16 0)).setCell ⟨w.heap.size + 1 + 1, 0, none⟩ (.int .i64 0)).setCell ⟨w.heap.size + 1 + 1, 1, none⟩ (.int .i64 0) = w9 at *
    simp [Leaves, settle, results, Tryz.results17, go_sem, q0, q1, q2, q3, q4, hrl]
    exact ⟨hRw, hBw⟩
  · simp only [if_neg hE] at CP
    obtain ⟨hm, hrs⟩ : X.m = 0 ∧ X.rs = [] := by
      rcases hX with h | h
      · exact absurd h.1 hE
      · exact h.2
    rw [hm, hrs]
    go_enter_defers Tryz.func17, Tryz.ntmps17
    go_wp2_with (go_at_call 33; (with_reducible refine CP.mono ?_); rintro r w2 ⟨hf, kb⟩; unfold Flt at hf; subst hf)
    have BW := kbq B0 kb
    have p0 : w2.cell? ⟨w.heap.size, 0, none⟩ = some (.int .i64 0) := celln kb (aP 0)
    have p1 : w2.cell? ⟨w.heap.size, 1, none⟩ = some (.slice none 0 0) := celln kb (aP 1)
    have e0 : w2.cell? ⟨w.heap.size + 1, 0, none⟩ = some (.int .u16 0) := celln kb (aE 0)
    have t0 : w2.cell? ⟨w.heap.size + 1 + 1, 0, none⟩ = some (.int .i64 0) := celln kb (aT 0)
    have t1 : w2.cell? ⟨w.heap.size + 1 + 1, 1, none⟩ = some (.int .i64 0) := celln kb (aT 1)
    have fp0 : w2.frozen? ⟨w.heap.size, 0, none⟩ = false := (kb.frozen (p := ⟨w.heap.size, 0, none⟩) (by show w.heap.size < _; rw [hs3]; omega)).trans (gP 0)
    have fp1 : w2.frozen? ⟨w.heap.size, 1, none⟩ = false := (kb.frozen (p := ⟨w.heap.size, 1, none⟩) (by show w.heap.size < _; rw [hs3]; omega)).trans (gP 1)
    have fe0 : w2.frozen? ⟨w.heap.size + 1, 0, none⟩ = false := (kb.frozen (p := ⟨w.heap.size + 1, 0, none⟩) (by show w.heap.size + 1 < _; rw [hs3]; omega)).trans (gE 0)
    have ft0 : w2.frozen? ⟨w.heap.size + 1 + 1, 0, none⟩ = false := (kb.frozen (p := ⟨w.heap.size + 1 + 1, 0, none⟩) (by show w.heap.size + 1 + 1 < _; rw [hs3]; omega)).trans (gT 0)
    have ft1 : w2.frozen? ⟨w.heap.size + 1 + 1, 1, none⟩ = false := (kb.frozen (p := ⟨w.heap.size + 1 + 1, 1, none⟩) (by show w.heap.size + 1 + 1 < _; rw [hs3]; omega)).trans (gT 1)
    have hz0 : w2.cell? ⟨w.heap.size, 0, none⟩ = some (.int .i64 0) := p0
    clear aP aE aT gP gE gT
    refine leaves_cons (f := 32) (args := #[.pointer (some ⟨w.heap.size + 1, 0, none⟩), .pointer (some ⟨w.heap.size + 1 + 1, 0, none⟩)]) (by simp) (by simp [go_sem]) ?_
    refine (catch_fault (w.heap.size + 1) (w.heap.size + 1 + 1) (by omega) X.e X.ln X.cl _ _ _ w2 e0 t0 t1 fe0 ft0 ft1).mono ?_
    rintro r u' w3 ⟨rfl, rfl, q0, q1, q2, k3⟩
    have q3 : w3.cell? ⟨w.heap.size, 0, none⟩ = some (.int .i64 0) := (k3.cell (p := ⟨w.heap.size, 0, none⟩) (by show w.heap.size < w.heap.size + 1; omega)).trans p0
    have q4 : w3.cell? ⟨w.heap.size, 1, none⟩ = some (.slice none 0 0) := (k3.cell (p := ⟨w.heap.size, 1, none⟩) (by show w.heap.size < w.heap.size + 1; omega)).trans p1
    have B3 := BW.trans (k3.mono (by omega))
    simp [Leaves, settle, results, Tryz.results17, go_sem, q0, q1, q2, q3, q4]
    exact ⟨⟨rfl, fun r h => (nomatch h), fun h => absurd h (by omega)⟩, B3⟩
end Go.Proofs.YtckaiejbgnhgcaaGreatDoor.Wd
