/- What the call word of package words answers; no conditions but those that each names. -/
import Derived.Test.YtdjeehnjodbmaaaWrdA
namespace Go.Proofs.Ytdjeehnjodbmaaa.Wd
open Go Go.RowKit
set_option linter.unusedVariables false

/-- By a goto: what holds at that label. -/
def Exit.jumps (K : Nat → Act → World → Prop) (Q : Exit → Act → World → Prop) : Exit → Act → World → Prop
  | .goto l, a, w => K l a w
  | e, a, w => Q e a w

/-- Out of a scope: by a jump, to where that jump comes in the end; else as it is left. -/
theorem leave_scope {P : Program} {c : Code} {Q : Exit → Act → World → Prop} {K : Nat → Act → World → Prop} {b : Frame} {k : List Item} {cs : List Frame} {S : Machine} {e : Exit} {a₁ : Act} {w₁ : World}
    (hq : Exit.jumps K Q e a₁ w₁) (harr : Arrives P S b (.inScope c :: k) cs e a₁ w₁)
    (land : ∀ l a w, K l a w → ∃ rest, findLabel c l = some rest ∧ ∃ e' a' w', Q e' a' w' ∧ Arrives P (lone (b.at a (.code rest :: .inScope c :: k)) cs w) b k cs e' a' w') :
    ∃ e' a' w', Q e' a' w' ∧ Arrives P S b k cs e' a' w' := by
  cases e with
  | goto l =>
    obtain ⟨rest, hf, e', a', w', hq', harr'⟩ := land l a₁ w₁ hq
    refine ⟨e', a', w', hq', .of_steps (harr (.code rest :: .inScope c :: k) ?_) harr'⟩
    simp [gotoIn, hf]
  | normal => exact ⟨_, _, _, hq, Steps.trans harr (.one step_inScope)⟩
  | exit id => exact ⟨_, _, _, hq, fun k' hk => harr k' (by simp [exitTo, hk])⟩
  | ret => exact ⟨_, _, _, hq, harr⟩
  | panic ch => exact ⟨_, _, _, hq, harr⟩
  | outgrown => exact ⟨_, _, _, hq, harr⟩

/-- A scope of labels, each with what holds at it and how far it is from the end. -/
theorem wp_scope_many {P : Program} {a : Act} {w : World} {Q : Exit → Act → World → Prop} {c : Code} (J : Nat → Nat → Act → World → Prop)
    (pass : ∀ l m a w, J l m a w → ∃ rest, findLabel c l = some (Code.skip.seq rest) ∧ rest.wp P (Exit.jumps (fun l' a' w' => ∃ m', m' < m ∧ J l' m' a' w') Q) a w)
    (first : c.wp P (Exit.jumps (fun l a' w' => ∃ m, J l m a' w') Q) a w) : (Code.scope c).wp P Q a w := by
  intro b k cs
  have far : ∀ (n m : Nat), m < n → ∀ l a w, J l m a w → ∃ rest, findLabel c l = some rest ∧ ∃ e' a' w', Q e' a' w' ∧ Arrives P (lone (b.at a (.code rest :: .inScope c :: k)) cs w) b k cs e' a' w' := by
    intro n
    induction n with
    | zero => intro m hm; exact absurd hm (Nat.not_lt_zero _)
    | succ n ih =>
      intro m hm l a w hJ
      obtain ⟨rest, hf, hp⟩ := pass l m a w hJ
      have hp2 : (Code.skip.seq rest).wp P (Exit.jumps (fun l' a' w' => ∃ m', m' < m ∧ J l' m' a' w') Q) a w := wp_seq (wp_skip hp)
      obtain ⟨e, a₁, w₁, hq, harr⟩ := hp2 b (.inScope c :: k) cs
      exact ⟨_, hf, leave_scope hq harr fun l' a' w' ⟨m', hm', hJ'⟩ => ih m' (by omega) l' a' w' hJ'⟩
  obtain ⟨e, a₁, w₁, hq, harr⟩ := first b (.inScope c :: k) cs
  obtain ⟨e', a', w', hq', harr'⟩ := leave_scope hq harr fun l a' w' ⟨m, hJ⟩ => far (m + 1) m (Nat.lt_succ_self m) l a' w' hJ
  exact ⟨e', a', w', hq', .of_steps (.one step_scope) harr'⟩

/-- One label: whoever comes to it comes as one who jumps there. -/
theorem wp_scope_one {P : Program} {a : Act} {w : World} {Q : Exit → Act → World → Prop} {c r0 : Code} (h0 : findLabel c 0 = some (Code.skip.seq r0)) (J : Nat → Act → World → Prop)
    (pass : ∀ m a w, J m a w → r0.wp P (Exit.jumps (fun l a' w' => l = 0 ∧ ∃ m', m' < m ∧ J m' a' w') Q) a w)
    (first : (∀ m a w, J m a w → r0.wp P (Exit.jumps (fun l a' w' => l = 0 ∧ ∃ m', J m' a' w') Q) a w) → c.wp P (Exit.jumps (fun l a' w' => l = 0 ∧ ∃ m', J m' a' w') Q) a w) : (Code.scope c).wp P Q a w := by
  refine wp_scope_many (fun l m a w => l = 0 ∧ J m a w) ?_ ?_
  · rintro l m a w ⟨rfl, hJ⟩
    refine ⟨r0, h0, Code.wp_mono ?_ (pass m a w hJ)⟩
    intro e a' w' h'
    cases e <;> first | exact h' | (obtain ⟨hl, m', hm, hJ'⟩ := h'; exact ⟨m', hm, hl, hJ'⟩)
  · refine Code.wp_mono ?_ (first fun m a w hJ => Code.wp_mono ?_ (pass m a w hJ))
    · intro e a' w' h'
      cases e <;> first | exact h' | (obtain ⟨hl, m', hJ'⟩ := h'; exact ⟨m', hl, hJ'⟩)
    · intro e a' w' h'
      cases e <;> first | exact h' | (obtain ⟨hl, m', hm, hJ'⟩ := h'; exact ⟨hl, m', hJ'⟩)

/-- Four labels, the second one of which goes on to the fourth. -/
theorem wp_scope_four {P : Program} {a : Act} {w : World} {Q : Exit → Act → World → Prop} {c r0 r1 r2 r3 : Code} (h0 : findLabel c 0 = some (Code.skip.seq r0)) (h1 : findLabel c 1 = some (Code.skip.seq r1)) (h2 : findLabel c 2 = some (Code.skip.seq r2)) (h3 : findLabel c 3 = some (Code.skip.seq r3))
    (J : Nat → Nat → Act → World → Prop)
    (pass3 : ∀ m a w, J 3 m a w → r3.wp P (Exit.jumps (fun l a' w' => l < 4 ∧ ∃ m', m' < m ∧ J l m' a' w') Q) a w)
    (pass0 : ∀ m a w, J 0 m a w → r0.wp P (Exit.jumps (fun l a' w' => l < 4 ∧ ∃ m', m' < m ∧ J l m' a' w') Q) a w)
    (pass1 : ∀ m, (∀ a w, J 3 m a w → r3.wp P (Exit.jumps (fun l a' w' => l < 4 ∧ ∃ m', m' < m ∧ J l m' a' w') Q) a w) → ∀ a w, J 1 m a w → r1.wp P (Exit.jumps (fun l a' w' => l < 4 ∧ ∃ m', m' < m ∧ J l m' a' w') Q) a w)
    (pass2 : ∀ m a w, J 2 m a w → r2.wp P (Exit.jumps (fun l a' w' => l < 4 ∧ ∃ m', m' < m ∧ J l m' a' w') Q) a w)
    (first : (∀ m a w, J 0 m a w → r0.wp P (Exit.jumps (fun l a' w' => l < 4 ∧ ∃ m', J l m' a' w') Q) a w) → c.wp P (Exit.jumps (fun l a' w' => l < 4 ∧ ∃ m', J l m' a' w') Q) a w) : (Code.scope c).wp P Q a w := by
  refine wp_scope_many (fun l m a w => l < 4 ∧ J l m a w) ?_ ?_
  · rintro l m a w ⟨hl, hJ⟩
    have hm : ∀ (e : Exit) (a' : Act) (w' : World), Exit.jumps (fun l a' w' => l < 4 ∧ ∃ m', m' < m ∧ J l m' a' w') Q e a' w' → Exit.jumps (fun l' a' w' => ∃ m', m' < m ∧ l' < 4 ∧ J l' m' a' w') Q e a' w' := by
      intro e a' w' h'
      cases e <;> first | exact h' | (obtain ⟨hl, m', hm, hJ'⟩ := h'; exact ⟨m', hm, hl, hJ'⟩)
    match l, hl with
    | 0, _ => exact ⟨r0, h0, Code.wp_mono hm (pass0 m a w hJ)⟩
    | 1, _ => exact ⟨r1, h1, Code.wp_mono hm (pass1 m (pass3 m) a w hJ)⟩
    | 2, _ => exact ⟨r2, h2, Code.wp_mono hm (pass2 m a w hJ)⟩
    | 3, _ => exact ⟨r3, h3, Code.wp_mono hm (pass3 m a w hJ)⟩
  · refine Code.wp_mono ?_ (first fun m a w hJ => Code.wp_mono ?_ (pass0 m a w hJ))
    · intro e a' w' h'
      cases e <;> first | exact h' | (obtain ⟨hl, m', hJ'⟩ := h'; exact ⟨m', hl, hJ'⟩)
    · intro e a' w' h'
      cases e <;> first | exact h' | (obtain ⟨hl, m', hm, hJ'⟩ := h'; exact ⟨hl, m', hJ'⟩)

theorem fresh2 {W w2 : World} {x y : Value} {t : TypeId} (g : Below (W.alloc (.cells #[x, y] t)).drew.heap.size (W.alloc (.cells #[x, y] t)).drew w2) :
    (w2.cell? ⟨W.heap.size, 0, none⟩ = some x ∧ w2.cell? ⟨W.heap.size, 1, none⟩ = some y) ∧ w2.frozen? ⟨W.heap.size, 0, none⟩ = false ∧ w2.frozen? ⟨W.heap.size, 1, none⟩ = false := by
  have h : W.heap.size < (W.alloc (.cells #[x, y] t)).drew.heap.size := by simp
  refine ⟨⟨(g.cell (p := ⟨W.heap.size, 0, none⟩) h).trans (by simp), (g.cell (p := ⟨W.heap.size, 1, none⟩) h).trans (by simp)⟩, (g.frozen (p := ⟨W.heap.size, 0, none⟩) h).trans (by simp), (g.frozen (p := ⟨W.heap.size, 1, none⟩) h).trans (by simp)⟩
/-- The walk halts here. -/
def Stop (p : Prop) : Prop := p
theorem stopHere {p : Prop} (h : Stop p) : p := h
theorem keepB {w w' : World} {B o : Nat} {v : Value} (c : w.cell? ⟨B, o, none⟩ = some v) (k : Below w.heap.size w w') : Below w.heap.size w w' ∧ w'.cell? ⟨B, o, none⟩ = some v := ⟨k, celln k c⟩

/-! ### All but one block as it was -/
theorem but_of {w W : World} {B : Nat} (h : Below w.heap.size w W) : w.grownBy W (some B) := ⟨h.os, h.tape, h.output, h.size, fun k hk _ => h.block k hk⟩
theorem but_below {w W W' : World} {B : Nat} (h : w.grownBy W (some B)) (g : Below W.heap.size W W') : w.grownBy W' (some B) :=
  ⟨g.os.trans h.os, g.tape.trans h.tape, g.output.trans h.output, Nat.le_trans h.size g.size, fun k hk hn => (g.block k (Nat.lt_of_lt_of_le hk h.size)).trans (h.block k hk hn)⟩
theorem but_gon {w W : World} {B : Nat} (h : w.grownBy W (some B)) (i n c : Nat) : w.grownBy (gonT W B i n c) (some B) := by
  refine ⟨h.os, h.tape, h.output, ?_, fun k hk hn => ?_⟩
  · simp only [gonT, World.size_setCell]; exact h.size
  · have hk' : k ≠ B := fun e => hn (by rw [e])
    rw [gonT, Below.heap_setCell _ _ _ _ (fun e => hk' e), Below.heap_setCell _ _ _ _ (fun e => hk' e)]
    exact h.block k hk hn
theorem but_belowN {w W W' : World} {B : Nat} (h : w.grownBy W (some B)) (g : Below w.heap.size W W') : w.grownBy W' (some B) :=
  ⟨g.os.trans h.os, g.tape.trans h.tape, g.output.trans h.output, Nat.le_trans h.size g.size, fun k hk hn => (g.block k hk).trans (h.block k hk hn)⟩
theorem but_cell {w W : World} {B : Nat} (h : w.grownBy W (some B)) {b o : Nat} {v : Value} (hb : b ≠ B) (c : w.cell? ⟨b, o, none⟩ = some v) : W.cell? ⟨b, o, none⟩ = some v :=
  (World.cell?_of_block (w := w) (h.block b (lt_of_cell c) (fun e => hb (by injection e)))).trans c
theorem but_txt {w W : World} {B : Nat} (h : w.grownBy W (some B)) {A : Option Addr} {N : Nat} {bs : List UInt8} (hT : Txt w A N bs) (hb : ∀ b off, A = some ⟨b, off, none⟩ → b ≠ B) : Txt W A N bs :=
  ⟨hT.1, fun hn => by
    obtain ⟨b, off, e, hlt, hc⟩ := hT.2 hn
    exact ⟨b, off, e, Nat.lt_of_lt_of_le hlt h.size, fun j hj => but_cell h (hb b off e) (hc j hj)⟩⟩
theorem drew_below {w w' : World} (h : Drew w w') : Below w.heap.size w w' := h.kept.2

/-- The kind of what stands next. -/
def kat (bs : List UInt8) (j : Nat) : Nat := if j < bs.length then kd (bs.getD j 0) else 0
theorem met_any (B : Nat) (A : Option Addr) (N cap j n c : Nat) (bs : List UInt8) (w : World) (h : Wlk w B (.slice A N cap) j n c) (hT : Txt w A N bs) (hj : j ≤ N) :
    Calls Try.prog 20 #[.pointer (some ⟨B, 0, none⟩)] w fun e w' => e = .returned (.int .u8 ((kat bs j : Nat) : Int)) ∧ Drew w w' := by
  by_cases hlt : j < N
  · obtain ⟨b, off, rfl, hb, hc⟩ := hT.2 (by omega)
    have e : kat bs j = kd (bs.getD j 0) := if_pos (by rw [hT.1]; exact hlt)
    rw [e]
    exact met_at B b off N cap j n c _ w h hlt (hc j hlt)
  · obtain rfl : j = N := by omega
    have e : kat bs j = 0 := if_neg (by rw [hT.1]; exact hlt)
    rw [e]
    exact met_end B A j cap n c w h

/-- The text of some bytes. -/
abbrev str (l : List UInt8) : ByteArray := ⟨l.toArray⟩

theorem cut_str {w : World} {b off N : Nat} {bs : List UInt8} (hT : Txt w (some ⟨b, off, none⟩) N bs) (i L cap : Nat) (hL : i + L ≤ N) : (convert 22 9 (.slice (some ⟨b, off + i, none⟩) L cap)).run Try.prog w = .ok (.string (str ((bs.drop i).take L))) w := by
  have e : ((bs.drop i).take L).length = L := by rw [List.length_take, List.length_drop, hT.1]; omega
  have h := run_convert_bytes_back w 22 9 5 ⟨b, off + i, none⟩ cap ((bs.drop i).take L) Try.underlying22 Try.underlying5 Try.underlying9 (fun j hj => by
    rw [e] at hj
    obtain ⟨b', off', e', hb, hc⟩ := hT.2 (by omega)
    simp only [Option.some.injEq, Addr.mk.injEq] at e'
    obtain ⟨rfl, rfl, _⟩ := e'
    rw [Go.WideShapes.add_plain, Nat.add_assoc, hc (i + j) (by omega)]
    have hij : i + j < bs.length := by rw [hT.1]; omega
    simp [List.getD_eq_getElem?_getD, List.getElem?_eq_getElem hij])
  rw [e] at h
  exact h

set_option maxHeartbeats 1000000 in
theorem word_any (B : Nat) (b off N cap i n c L : Nat) (bs : List UInt8) (w : World) (h : Wlk w B (.slice (some ⟨b, off, none⟩) N cap) i n c) (hT : Txt w (some ⟨b, off, none⟩) N bs) (hbB : b ≠ B) (hN : N ≤ 1048576) (hcap : N ≤ cap) (hcm : cap ≤ 9223372036854775807) (hn : 0 < n) (hn2 : n ≤ 2097152) (hc : 0 < c) (hc2 : c ≤ 2097152)
    (hL : 0 < L) (hLN : i + L ≤ N) (hvis : ∀ k, 1 ≤ k → k < L → 4 ≤ kat bs (i + k)) (hend : kat bs (i + L) < 4) :
    Calls Try.prog 22 #[.pointer (some ⟨B, 0, none⟩)] w fun e w' => e = .returned (.agg #[.string (str ((bs.drop i).take L)), .int .i64 (n : Int), .int .i64 (c : Int)]) ∧ Wlk w' B (.slice (some ⟨b, off, none⟩) N cap) (i + L) n (c + L) ∧ w.grownBy w' (some B) := by
  have hB := h.lt
  have k1 : Below w.heap.size w (w.alloc (.cells #[Value.string ⟨#[]⟩, .int .i64 0, .int .i64 0] 39)) := (Below.refl w.heap.size w).alloc (Nat.le_refl _) _
  have hs1 : (w.alloc (.cells #[Value.string ⟨#[]⟩, .int .i64 0, .int .i64 0] 39)).heap.size = w.heap.size + 1 := by simp
  have hW0 : Wlk (w.alloc (.cells #[Value.string ⟨#[]⟩, .int .i64 0, .int .i64 0] 39)) B (.slice (some ⟨b, off, none⟩) N cap) i n c := h.below k1 hB
  have hR0 : R3 (w.alloc (.cells #[Value.string ⟨#[]⟩, .int .i64 0, .int .i64 0] 39)) w.heap.size 0 (.string ⟨#[]⟩) (.int .i64 0) (.int .i64 0) := ⟨⟨by simp, by simp, by simp⟩, by simp, by simp, by simp⟩
  have KK := Lib.hid (fun (W : World) (hW : Below (w.alloc (.cells #[Value.string ⟨#[]⟩, .int .i64 0, .int .i64 0] 39)).heap.size (w.alloc (.cells #[Value.string ⟨#[]⟩, .int .i64 0, .int .i64 0] 39)) W) => (⟨hW0.below hW (by rw [hs1]; omega), but_of (k1.trans (hW.mono (by rw [hs1]; omega))), hR0.below hW (by rw [hs1]; omega)⟩ : Wlk W B (.slice (some ⟨b, off, none⟩) N cap) i n c ∧ w.grownBy W (some B) ∧ R3 W w.heap.size 0 (.string ⟨#[]⟩) (.int .i64 0) (.int .i64 0)))
  have C1 := Lib.hid (fun (W : World) (hW : Below (w.alloc (.cells #[Value.string ⟨#[]⟩, .int .i64 0, .int .i64 0] 39)).heap.size (w.alloc (.cells #[Value.string ⟨#[]⟩, .int .i64 0, .int .i64 0] 39)) W) => place_any B _ i n c W (KK.out W hW).1 hn (by omega) hc (by omega))
  have C2 := Lib.hid (fun (W : World) (k : Nat) (hk : k < L) (hW : Wlk W B (.slice (some ⟨b, off, none⟩) N cap) (i + k) n (c + k)) => on_any B _ (i + k) n (c + k) W hW (by omega) hn (by omega) (by omega) (by omega))
  have C3 := Lib.hid (fun (W : World) (k : Nat) (hk : k ≤ L) (hW : Wlk W B (.slice (some ⟨b, off, none⟩) N cap) (i + k) n (c + k)) (hg : w.grownBy W (some B)) => met_any B _ N cap (i + k) n (c + k) bs W hW (but_txt hg hT (fun b' off' e => by simp only [Option.some.injEq, Addr.mk.injEq] at e; omega)) (by omega))
  have c1 := hW0.1.2.1
  have HT := Lib.hid hT
  have HV := Lib.hid hvis
  have HE := Lib.hid hend
  have kW := Below.refl (w.alloc (.cells #[Value.string ⟨#[]⟩, .int .i64 0, .int .i64 0] 39)).heap.size (w.alloc (.cells #[Value.string ⟨#[]⟩, .int .i64 0, .int .i64 0] 39))
  have hbw : b < w.heap.size := by obtain ⟨b', off', e, hlt, _⟩ := hT.2 (by omega); simp only [Option.some.injEq, Addr.mk.injEq] at e; omega
  clear hT hvis hend h hW0 hR0
  go_enter Try.func22, Try.ntmps22
  go_wp2
  refine wp_scope_one rfl (fun m a W => ∃ (k p : Nat) (u5 u6 u7 u8 u9 u10 u11 u12 u13 u14 u15 u16 u17 u18 u19 u20 u21 u22 u23 u24 u25 u26 u27 u28 u29 u30 u31 u32 u33 : Value), k < L ∧ m = L - k ∧
    a = { tmps := #[.pointer (some ⟨B, 0, none⟩), undef, .pointer (some ⟨w.heap.size, 0, none⟩), .int .i64 (i : Int), .pointer (some ⟨p, 0, none⟩), u5, u6, u7, u8, u9, u10, u11, u12, u13, u14, u15, u16, u17, u18, u19, u20, u21, u22, u23, u24, u25, u26, u27, u28, u29, u30, u31, u32, u33], defers := [] } ∧
    Wlk W B (.slice (some ⟨b, off, none⟩) N cap) (i + k) n (c + k) ∧ w.grownBy W (some B) ∧ (w.heap.size < p ∧ p < W.heap.size) ∧ (W.cell? ⟨p, 0, none⟩ = some (.int .i64 (n : Int)) ∧ W.cell? ⟨p, 1, none⟩ = some (.int .i64 (c : Int))) ∧ R3 W w.heap.size 0 (.string ⟨#[]⟩) (.int .i64 0) (.int .i64 0)) ?pass ?first
  case pass =>
    rintro m a W ⟨k, p, u5, u6, u7, u8, u9, u10, u11, u12, u13, u14, u15, u16, u17, u18, u19, u20, u21, u22, u23, u24, u25, u26, u27, u28, u29, u30, u31, u32, u33, hk, rfl, rfl, hW, hg, hp, hpc, hR⟩
    have hsz := hg.size
    have hW1 : Wlk (gonT W B (i + k + 1) n (c + k + 1)) B (.slice (some ⟨b, off, none⟩) N cap) (i + (k + 1)) n (c + (k + 1)) := hW.go (i + k + 1) n (c + k + 1)
    have hg1 := but_gon hg (i + k + 1) n (c + k + 1)
    have q0 : (gonT W B (i + k + 1) n (c + k + 1)).cell? ⟨p, 0, none⟩ = some (.int .i64 (n : Int)) := by rw [gonT, cell_set _ _ _ _ _ _ (by omega), cell_set _ _ _ _ _ _ (by omega)]; exact hpc.1
    have q1 : (gonT W B (i + k + 1) n (c + k + 1)).cell? ⟨p, 1, none⟩ = some (.int .i64 (c : Int)) := by rw [gonT, cell_set _ _ _ _ _ _ (by omega), cell_set _ _ _ _ _ _ (by omega)]; exact hpc.2
    have hR1 : R3 (gonT W B (i + k + 1) n (c + k + 1)) w.heap.size 0 (.string ⟨#[]⟩) (.int .i64 0) (.int .i64 0) := by
      refine ⟨⟨?_, ?_, ?_⟩, ?_, ?_, ?_⟩
      · rw [gonT, cell_set _ _ _ _ _ _ (by omega), cell_set _ _ _ _ _ _ (by omega)]; exact hR.1.1
      · rw [gonT, cell_set _ _ _ _ _ _ (by omega), cell_set _ _ _ _ _ _ (by omega)]; exact hR.1.2.1
      · rw [gonT, cell_set _ _ _ _ _ _ (by omega), cell_set _ _ _ _ _ _ (by omega)]; exact hR.1.2.2
      · simp only [gonT, World.frozen?_setCell]; exact hR.2.1
      · simp only [gonT, World.frozen?_setCell]; exact hR.2.2.1
      · simp only [gonT, World.frozen?_setCell]; exact hR.2.2.2
    have hps : p < (gonT W B (i + k + 1) n (c + k + 1)).heap.size := by simp only [gonT, World.size_setCell]; exact hp.2
    have kk := C3.out _ (k + 1) (by omega) hW1 hg1
    have KC := Lib.hid kk
    have KO := Lib.hid (C2.out _ k hk hW)
    clear kk hpc hR hg hW
    generalize gonT W B (i + k + 1) n (c + k + 1) = W1 at *
    go_wp2_with (first
      | (go_at_call 21; (with_reducible refine KO.out.mono ?_); rintro e w3 ⟨rfl, rfl⟩)
      | (go_at_call 20; (with_reducible refine KC.out.mono ?_); rintro e w4 ⟨rfl, g4⟩; refine stopHere ?_))
    have g5 := drew_below g4
    have hW2 := hW1.below g5 hW1.lt
    have hg2 := but_below hg1 g5
    have r0 := celln g5 q0
    have r1 := celln g5 q1
    have hR2 := hR1.below g5 hR1.lt
    have hps2 : p < w4.heap.size := Nat.lt_of_lt_of_le hps g5.size
    clear g4 g5 hW1 hg1 q0 q1 hR1 hps KC KO
    unfold Stop
    by_cases hkL : k + 1 < L
    · have hv := HV.out (k + 1) (by omega) hkL
      have hv' : kat bs (i + (k + 1)) = 4 ∨ kat bs (i + (k + 1)) = 5 := by
        unfold kat at hv ⊢
        split at hv
        · rename_i hlt; rw [if_pos hlt]; have := kd_cases (bs.getD (i + (k + 1)) 0); omega
        · omega
      generalize kat bs (i + (k + 1)) = kk at *
      rcases hv' with rfl | rfl
      all_goals
        go_wp2
        go_step3
        exact ⟨rfl, L - (k + 1), by omega, k + 1, p, _, _, _, _, _, _, _, _, _, _, _, _, _, _, _, _, _, _, _, _, _, _, _, _, _, _, _, _, _, hkL, rfl, rfl, hW2, hg2, ⟨hp.1, hps2⟩, ⟨r0, r1⟩, hR2⟩
    · obtain rfl : L = k + 1 := by omega
      have hv := HE.out
      generalize kat bs (i + (k + 1)) = kk at *
      have d4 : ((kk : Int) == 4) = false := beq_eq_false_iff_ne.2 (by omega)
      have d5 : ((kk : Int) == 5) = false := beq_eq_false_iff_ne.2 (by omega)
      have hcv := cut_str ((but_txt hg2 HT.out (fun b' off' e => by simp only [Option.some.injEq, Addr.mk.injEq] at e; omega)).below (Below.refl _ w4).drew) i (k + 1) (cap - i) hLN
      generalize hX : str ((bs.drop i).take (k + 1)) = X at hcv
      have HX := Lib.hid hX
      clear hX
      obtain ⟨⟨c0, c1, c2⟩, f0, f1, f2⟩ := id hW2
      obtain ⟨⟨x0, x1, x2⟩, y0, y1, y2⟩ := id hR2
      have HW2 := Lib.hid hW2
      have e1 : ((i + (k + 1) : Nat) : Int) - (i : Int) = (k : Int) + 1 := by omega
      clear hW2 hR2
      go_wp2
      go_region
      go_wp2
      simp only [Exit.jumps]
      have kz : Below w.heap.size w4 (((w4.setCell ⟨w.heap.size, 0, none⟩ (.string X)).setCell ⟨w.heap.size, 1, none⟩ (.int .i64 (n : Int))).setCell ⟨w.heap.size, 2, none⟩ (.int .i64 (c : Int))).drew := by go_grown
      show bodyPost _ _ _ _ _ _
      refine bodyPost_ret (v := .agg #[.string X, .int .i64 (n : Int), .int .i64 (c : Int)]) ?_ rfl ⟨by rw [HX.out], R3.below HW2.out kz hB, but_belowN hg2 kz⟩
      simp [results, Try.results22, go_sem, x0, x1, x2, cell_set]
  case first =>
    intro pass
    go_wp2
    go_region_held3 (fun w' => Below (w.alloc (.cells #[Value.string ⟨#[]⟩, .int .i64 0, .int .i64 0] 39)).heap.size (w.alloc (.cells #[Value.string ⟨#[]⟩, .int .i64 0, .int .i64 0] 39)) w' ∧ w'.cell? ⟨B, 1, none⟩ = some (.int .i64 (i : Int))) ((refine keepB c1 ?_; go_grown)) ((go_at_call 24; ((refine (C1.out _ (by go_grown)).mono ?_); rintro e w2 ⟨rfl, g2⟩; have kW2 := kbq (w := (w.alloc (.cells #[Value.string ⟨#[]⟩, .int .i64 0, .int .i64 0] 39))) (by go_grown) g2; have z2 := kW2.size; (try (obtain ⟨⟨q0, q1⟩, q2, q3⟩ := fresh2 g2; simp only [World.size_alloc] at q0 q1 q2 q3)); clear g2)))
    all_goals
      go_wp2
      go_step3
      rename_i hH Kx hK
      obtain ⟨j1, j2, j3⟩ := KK.out _ hH.1
      refine hK _ _ (pass L _ _ ⟨0, _, _, _, _, _, _, _, _, _, _, _, _, _, _, _, _, _, _, _, _, _, _, _, _, _, _, _, _, _, _, hL, rfl, rfl, j1, j2, ⟨?_, ?_⟩, ⟨?_, ?_⟩, j3⟩)
      all_goals clear KK C1 C2 C3 HT HV HE pass hK
      all_goals first
        | (simp only [World.size_alloc] at z2; omega)
        | (simp; done)
        | (simp; simp at z2; omega)
        | (simp [cell_set, World.cell?_setCell_same, q0, q1]; done)
        | (simp only [World.size_setCell]; exact lt_of_cell q0)
        | (rw [World.cell?_setCell_same _ _ _ (by rw [cell_set _ _ _ _ _ _ (by omega)]; exact q1)]; done)
end Go.Proofs.Ytdjeehnjodbmaaa.Wd
