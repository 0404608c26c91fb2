import Derived.Test.YtbejkcdaefkibaaGreatSlTA

namespace Go.Proofs.YtbejkcdaefkibaaGreat.Wd
open Go Go.RowKit Go.Shelf Go.Deep
set_option linter.unusedVariables false
set_option maxRecDepth 100000
attribute [local go_sem] Oper.semAt_some
theorem lb_append (a b : ByteArray) : lb (a ++ b) = lb a ++ lb b := by simp [lb]
def Byts (w : World) (A : Option Addr) (n : Nat) : Prop :=
  ∀ i, i < n → ∃ b off v, A = some ⟨b, off, none⟩ ∧ w.cell? ⟨b, off + i, none⟩ = some (.int .u8 v) ∧ 0 ≤ v ∧ v ≤ 255
theorem Byts.below {w w' : World} {A : Option Addr} {n : Nat} (h : Byts w A n) (k : Below w.heap.size w w') : Byts w' A n := fun i hi => by
  obtain ⟨b, off, v, e, hc, hv⟩ := h i hi
  exact ⟨b, off, v, e, celln k hc, hv⟩
set_option maxHeartbeats 1000000 in
theorem ckey_any (A : Option Addr) (n cap : Nat) (w : World) (h : Byts w A n) (hn : n ≤ 9223372036854775807) :
    Calls Tryz.prog 45 #[.slice A n cap] w fun e w' => ∃ s, e = .returned (.string s) ∧ Hid (Short s) ∧ s.size ≤ 12 ∧ Below w.heap.size w w' := by
  have H := Lib.hid h
  clear h
  go_enter Tryz.func45, Tryz.ntmps45
  go_wp2
  go_loopw [3, 4] (fun s i wr => ∃ (k : Nat) (t : ByteArray), i = .int .i64 (k : Int) ∧ s = .string t ∧ k ≤ 6 ∧ k ≤ t.size ∧ t.size ≤ 2 * k ∧ Hid ((lb t).all (fun c => visB (c.toNat : Int)) = true) ∧ Below w.heap.size w wr) (fun _ i _ => 6 - (intOf i).toNat)
  case atStart => exact ⟨0, ⟨#[]⟩, rfl, rfl, by omega, by decide, by decide, Lib.hid (by decide), Below.refl _ _⟩
  case round =>
    obtain ⟨k, t, rfl, rfl, hk, k1, k2, V, hB⟩ := hrel
    by_cases c1 : k < n
    · by_cases c2 : k < 6
      · obtain ⟨b, off, v, rfl, hc, hv⟩ := (H.out.below hB) k c1
        have hb := lt_of_cell hc
        have c3 : (k : Int) < 6 := by omega
        have hvm : v % 8 = 0 ∨ v % 8 = 1 ∨ v % 8 = 2 ∨ v % 8 = 3 ∨ v % 8 = 4 ∨ v % 8 = 5 ∨ v % 8 = 6 ∨ v % 8 = 7 := by omega
        have VA : Hid (∀ p : ByteArray, (lb p).all (fun c => visB (c.toNat : Int)) = true → (lb (t ++ p)).all (fun c => visB (c.toNat : Int)) = true) := Lib.hid (fun p hp => by rw [lb_append, List.all_append, V.out, hp]; rfl)
        have hs0 : t.size ≤ 12 := by omega
        have SZ : Hid (∀ p : ByteArray, 1 ≤ p.size → p.size ≤ 2 → k + 1 ≤ (t ++ p).size ∧ (t ++ p).size ≤ 2 * (k + 1)) := Lib.hid (fun p h1 h2 => by rw [ByteArray.size_append']; omega)
        rcases hvm with hm | hm | hm | hm | hm | hm | hm | hm
        all_goals
          go_wp2
          go_roundw
          case rel => exact ⟨k + 1, _, by go_num, rfl, by omega, (SZ.out _ (by decide) (by decide)).1, (SZ.out _ (by decide) (by decide)).2, Lib.hid (VA.out _ (by decide)), hB.alloc hB.size _⟩
          case measure => simp [intOf]; omega
      · have c3 : decide ((k : Int) < 6) = false := decide_eq_false (by omega)
        have hz : t.toList.isEmpty = false := toList_ne t (by omega)
        have F : Hid (Short t ∧ t.size ≤ 12) := Lib.hid ⟨⟨⟨by omega, by omega⟩, V.out⟩, by omega⟩
        clear c2 k1 k2 hk
        go_wp2
        go_ret
        exact ⟨t, rfl, Lib.hid F.out.1, F.out.2, hB⟩
    · by_cases c4 : t.size = 0
      · have hz : t.toList.isEmpty = true := toList_none t c4
        clear c4
        go_wp2
        go_ret
        exact ⟨⟨#[107]⟩, rfl, Lib.hid ⟨⟨by decide, by decide⟩, by decide⟩, by decide, hB⟩
      · have hz : t.toList.isEmpty = false := toList_ne t (by omega)
        have F : Hid (Short t ∧ t.size ≤ 12) := Lib.hid ⟨⟨⟨by omega, by omega⟩, V.out⟩, by omega⟩
        clear c4 k1 k2 hk
        go_wp2
        go_ret
        exact ⟨t, rfl, Lib.hid F.out.1, F.out.2, hB⟩
theorem own_low {w : World} {base base' : Nat} {e : TypeId} {size n : Nat} {v : Value} {xs : List Value} (h : w.ownsRow base e size v n xs) (hb : base' ≤ base) : w.ownsRow base' e size v n xs := by
  obtain ⟨h1, h2⟩ := h
  rcases h2 with h2 | ⟨g, cap, cur, hv, hg, h3⟩
  · exact ⟨h1, .inl h2⟩
  · exact ⟨h1, .inr ⟨g, cap, cur, hv, Nat.le_trans hb hg, h3⟩⟩
theorem short_pf {s : ByteArray} (h : Short s) : pfB s = true ∧ rtB (lb s) = true := by
  obtain ⟨⟨h1, h2⟩, h3⟩ := h
  have : rtB (lb s) = true := by unfold rtB; rw [list_size, decide_eq_true (by omega), h3]; rfl
  exact ⟨by unfold pfB; rw [this]; simp, this⟩
theorem own_mk (s : ByteArray) (hs : s.size = 0 ∨ Short s) (every burst kind : Int) (he : 0 ≤ every ∧ every ≤ 4294967295) (hb : 0 ≤ burst ∧ burst ≤ 65535) (hk : 0 ≤ kind ∧ kind ≤ 255) :
    ∃ E B : Nat, 1 + every = (E : Int) ∧ 1 + burst = (B : Int) ∧ Own s E B (1 + kind % 3) := by
  refine ⟨(1 + every).toNat, (1 + burst).toNat, by omega, by omega, ?_, ?_, by omega, by omega, by omega, by omega, by omega, by omega⟩
  · rcases hs with h | h
    · omega
    · exact h.1.2
  · rcases hs with h | h
    · unfold pfB; rw [decide_eq_true h]; rfl
    · exact (short_pf h).1
theorem ownR_low {w : World} {base base' : Nat} {v : Value} {rs : List Rl} (h : ORls w base v rs) (hb : base' ≤ base) : ORls w base' v rs := own_low h hb
theorem ownR_below {w w' : World} {base : Nat} {v : Value} {rs : List Rl} (h : ORls w base v rs) (g : Below w.heap.size w w') : ORls w' base v rs := by
  obtain ⟨h1, h2⟩ := h
  rcases h2 with h2 | ⟨b, cap, cur, hv, hb, hg, h3⟩
  · exact ⟨h1, .inl h2⟩
  · exact ⟨h1, .inr ⟨b, cap, cur, hv, hb, (g.block _ (lt_heap hg)).trans hg, h3⟩⟩
def Nmr (w : World) (A : Option Addr) (n : Nat) : Prop :=
  ∀ i, i < n → ∃ b off Ai ni ci e u k, A = some ⟨b, off, none⟩ ∧ w.cell? ⟨b, off + i * 4, none⟩ = some (.slice Ai ni ci) ∧ w.cell? ⟨b, off + i * 4 + 1, none⟩ = some (.int .u32 e) ∧ w.cell? ⟨b, off + i * 4 + 2, none⟩ = some (.int .u16 u) ∧ w.cell? ⟨b, off + i * 4 + 3, none⟩ = some (.int .u8 k) ∧
    Hid (Byts w Ai ni ∧ ni ≤ 9223372036854775807 ∧ (0 ≤ e ∧ e ≤ 4294967295) ∧ (0 ≤ u ∧ u ≤ 65535) ∧ (0 ≤ k ∧ k ≤ 255))
theorem Nmr.below {w w' : World} {A : Option Addr} {n : Nat} (h : Nmr w A n) (g : Below w.heap.size w w') : Nmr w' A n := fun i hi => by
  obtain ⟨b, off, Ai, ni, ci, e, u, k, e0, c0, c1, c2, c3, H⟩ := h i hi
  exact ⟨b, off, Ai, ni, ci, e, u, k, e0, celln g c0, celln g c1, celln g c2, celln g c3, Lib.hid ⟨H.out.1.below g, H.out.2⟩⟩
theorem polr_start (m k : Int) (h1 : 1 ≤ m) (h2 : m ≤ 50) (hk : 1 ≤ k ∧ k ≤ 3) : Polr m [⟨nob, 1000, 5, k⟩] := by
  refine ⟨h1, h2, ⟨k, [], rfl⟩, fun r hr => ?_, by simp⟩
  simp only [List.mem_cons, List.not_mem_nil, or_false] at hr
  subst hr
  exact ⟨⟨1000, 5, rfl, rfl, by show nob.size ≤ 12; decide, by show pfB nob = true; decide, by decide, by decide, by decide, by decide, hk.1, hk.2⟩, .inl rfl⟩
theorem polr_more {m : Int} {rs : List Rl} {r : Rl} (h : Polr m rs) (hr : OwnR r) (hn : hasB rs r.p = false) : Polr m (rs ++ [r]) := by
  obtain ⟨k, rest, e⟩ := h.hd
  refine ⟨h.m1, h.m2, ⟨k, rest ++ [r], by rw [e]; rfl⟩, fun x hx => ?_, ?_⟩
  · rcases List.mem_append.1 hx with hx | hx
    · exact h.own x hx
    · simp only [List.mem_cons, List.not_mem_nil, or_false] at hx
      subst hx; exact hr
  · rw [List.map_append, List.nodup_append]
    refine ⟨h.nd, by simp, fun a ha b hb => ?_⟩
    simp only [List.map_cons, List.map_nil, List.mem_cons, List.not_mem_nil, or_false] at hb
    subst hb
    intro e
    subst e
    obtain ⟨x, hx, e⟩ := List.mem_map.1 ha
    obtain ⟨j, hj, e2⟩ := List.getElem_of_mem hx
    rcases fd_ways rs r.p with ⟨k, _, _, _, g⟩ | ⟨g, _⟩
    · unfold hasB at hn
      rw [g] at hn
      have : (0 : Int) ≤ (k : Int) := Int.natCast_nonneg _
      rw [decide_eq_true this] at hn
      cases hn
    · exact g j hj (by rw [fn_at hj, e2]; exact e)
theorem zero4 {W w' : World} (g : Below (W.alloc (.cells #[.string ⟨#[]⟩, .int .u64 0, .int .u64 0, .int .u8 0] 79)).heap.size (W.alloc (.cells #[.string ⟨#[]⟩, .int .u64 0, .int .u64 0, .int .u8 0] 79)) w') :
    (w'.cell? ⟨W.heap.size, 0, none⟩ = some (.string ⟨#[]⟩) ∧ w'.cell? ⟨W.heap.size, 1, none⟩ = some (.int .u64 0) ∧ w'.cell? ⟨W.heap.size, 2, none⟩ = some (.int .u64 0) ∧ w'.cell? ⟨W.heap.size, 3, none⟩ = some (.int .u8 0)) ∧
    (w'.frozen? ⟨W.heap.size, 0, none⟩ = false ∧ w'.frozen? ⟨W.heap.size, 1, none⟩ = false ∧ w'.frozen? ⟨W.heap.size, 2, none⟩ = false ∧ w'.frozen? ⟨W.heap.size, 3, none⟩ = false) :=
  ⟨⟨celln g (by simp), celln g (by simp), celln g (by simp), celln g (by simp)⟩,
   (g.frozen (p := ⟨W.heap.size, 0, none⟩) (by simp)).trans (by simp), (g.frozen (p := ⟨W.heap.size, 1, none⟩) (by simp)).trans (by simp), (g.frozen (p := ⟨W.heap.size, 2, none⟩) (by simp)).trans (by simp), (g.frozen (p := ⟨W.heap.size, 3, none⟩) (by simp)).trans (by simp)⟩
theorem zero4d {W w' : World} (g : Below (W.alloc (.cells #[.string ⟨#[]⟩, .int .u64 0, .int .u64 0, .int .u8 0] 79)).drew.heap.size (W.alloc (.cells #[.string ⟨#[]⟩, .int .u64 0, .int .u64 0, .int .u8 0] 79)).drew w') :
    (w'.cell? ⟨W.heap.size, 0, none⟩ = some (.string ⟨#[]⟩) ∧ w'.cell? ⟨W.heap.size, 1, none⟩ = some (.int .u64 0) ∧ w'.cell? ⟨W.heap.size, 2, none⟩ = some (.int .u64 0) ∧ w'.cell? ⟨W.heap.size, 3, none⟩ = some (.int .u8 0)) ∧
    (w'.frozen? ⟨W.heap.size, 0, none⟩ = false ∧ w'.frozen? ⟨W.heap.size, 1, none⟩ = false ∧ w'.frozen? ⟨W.heap.size, 2, none⟩ = false ∧ w'.frozen? ⟨W.heap.size, 3, none⟩ = false) :=
  ⟨⟨celln g (dcell (by simp)), celln g (dcell (by simp)), celln g (dcell (by simp)), celln g (dcell (by simp))⟩,
   (g.frozen (p := ⟨W.heap.size, 0, none⟩) (by simp)).trans (by simp), (g.frozen (p := ⟨W.heap.size, 1, none⟩) (by simp)).trans (by simp), (g.frozen (p := ⟨W.heap.size, 2, none⟩) (by simp)).trans (by simp), (g.frozen (p := ⟨W.heap.size, 3, none⟩) (by simp)).trans (by simp)⟩
theorem scell {w : World} {X b i : Nat} {v p q r t : Value} (h : w.cell? ⟨b, i, none⟩ = some v) (hb : b < X) : ((((w.setCell ⟨X, 0, none⟩ p).setCell ⟨X, 1, none⟩ q).setCell ⟨X, 2, none⟩ r).setCell ⟨X, 3, none⟩ t).cell? ⟨b, i, none⟩ = some v :=
  (cs_other _ _ _ _ _ _ (.inl (by omega))).trans ((cs_other _ _ _ _ _ _ (.inl (by omega))).trans ((cs_other _ _ _ _ _ _ (.inl (by omega))).trans ((cs_other _ _ _ _ _ _ (.inl (by omega))).trans h)))
theorem sbel {N : Nat} {u w : World} {p q r t : Value} (h : Below N u w) : Below N u ((((w.setCell ⟨N, 0, none⟩ p).setCell ⟨N, 1, none⟩ q).setCell ⟨N, 2, none⟩ r).setCell ⟨N, 3, none⟩ t) :=
  (((h.setCell (p := ⟨N, 0, none⟩) (Nat.le_refl _) p).setCell (p := ⟨N, 1, none⟩) (Nat.le_refl _) q).setCell (p := ⟨N, 2, none⟩) (Nat.le_refl _) r).setCell (p := ⟨N, 3, none⟩) (Nat.le_refl _) t
theorem r4_new (W : World) (x : Rl) : R4 (W.alloc (.cells #[.string x.p, .int .u64 x.e, .int .u64 x.b, .int .u8 x.k] 79)) W.heap.size 0 x := by
  refine ⟨?_, ?_, ?_, ?_⟩ <;> simp
def XC (w : World) (X : Nat) (x : Rl) : Prop := R4 w X 0 x ∧ S4 w X 0
theorem xc_new (W : World) (p : ByteArray) (e b k : Int) : XC (W.alloc (.cells #[.string p, .int .u64 e, .int .u64 b, .int .u8 k] 79)) W.heap.size ⟨p, e, b, k⟩ := by
  refine ⟨r4_new W ⟨p, e, b, k⟩, ?_, ?_, ?_, ?_⟩ <;> simp
theorem xc_set {w : World} {X : Nat} {p : ByteArray} {e b k : Int} {p0 e0 b0 k0 : Value} (z0 : w.cell? ⟨X, 0, none⟩ = some p0) (z1 : w.cell? ⟨X, 1, none⟩ = some e0) (z2 : w.cell? ⟨X, 2, none⟩ = some b0) (z3 : w.cell? ⟨X, 3, none⟩ = some k0)
    (f0 : w.frozen? ⟨X, 0, none⟩ = false) (f1 : w.frozen? ⟨X, 1, none⟩ = false) (f2 : w.frozen? ⟨X, 2, none⟩ = false) (f3 : w.frozen? ⟨X, 3, none⟩ = false) :
    XC ((((w.setCell ⟨X, 0, none⟩ (.string p)).setCell ⟨X, 1, none⟩ (.int .u64 e)).setCell ⟨X, 2, none⟩ (.int .u64 b)).setCell ⟨X, 3, none⟩ (.int .u8 k)) X ⟨p, e, b, k⟩ := by
  refine ⟨⟨?_, ?_, ?_, ?_⟩, ?_, ?_, ?_, ?_⟩
  · rw [cs_other _ _ _ _ _ _ (.inr (by omega)), cs_other _ _ _ _ _ _ (.inr (by omega)), cs_other _ _ _ _ _ _ (.inr (by omega))]
    exact World.cell?_setCell_same _ _ _ z0
  · rw [cs_other _ _ _ _ _ _ (.inr (by omega)), cs_other _ _ _ _ _ _ (.inr (by omega))]
    exact World.cell?_setCell_same _ _ _ ((cs_other _ _ _ _ _ _ (.inr (by omega))).trans z1)
  · rw [cs_other _ _ _ _ _ _ (.inr (by omega))]
    exact World.cell?_setCell_same _ _ _ ((cs_other _ _ _ _ _ _ (.inr (by omega))).trans ((cs_other _ _ _ _ _ _ (.inr (by omega))).trans z2))
  · exact World.cell?_setCell_same _ _ _ ((cs_other _ _ _ _ _ _ (.inr (by omega))).trans ((cs_other _ _ _ _ _ _ (.inr (by omega))).trans ((cs_other _ _ _ _ _ _ (.inr (by omega))).trans z3)))
  · simp [f0]
  · simp [f1]
  · simp [f2]
  · simp [f3]
theorem xc_two {w : World} {X : Nat} {x : Rl} (h : XC w X x) (e b : Int) : XC ((w.setCell ⟨X, 1, none⟩ (.int .u64 e)).setCell ⟨X, 2, none⟩ (.int .u64 b)) X ⟨x.p, e, b, x.k⟩ := by
  obtain ⟨⟨z0, z1, z2, z3⟩, f0, f1, f2, f3⟩ := h
  refine ⟨⟨?_, ?_, ?_, ?_⟩, ?_, ?_, ?_, ?_⟩
  · rw [cs_other _ _ _ _ _ _ (.inr (by omega)), cs_other _ _ _ _ _ _ (.inr (by omega))]; exact z0
  · rw [cs_other _ _ _ _ _ _ (.inr (by omega))]
    exact World.cell?_setCell_same _ _ _ z1
  · exact World.cell?_setCell_same _ _ _ ((cs_other _ _ _ _ _ _ (.inr (by omega))).trans z2)
  · rw [cs_other _ _ _ _ _ _ (.inr (by omega)), cs_other _ _ _ _ _ _ (.inr (by omega))]; exact z3
  · simpa using f0
  · simpa using f1
  · simpa using f2
  · simpa using f3
theorem ownR_one {s : ByteArray} (hs : Hid (Short s)) {e u kd : Int} (he : 0 ≤ e ∧ e ≤ 4294967295) (hu : 0 ≤ u ∧ u ≤ 65535) (hk : 0 ≤ kd ∧ kd ≤ 255) : OwnR ⟨s, 1 + e, 1 + u, 1 + kd % 3⟩ := by
  obtain ⟨E, B, h1, h2, h3⟩ := own_mk s (.inr hs.out) e u kd he hu hk
  exact ⟨⟨E, B, h1, h2, h3⟩, .inr hs.out⟩
structure PCells (w : World) (H : Nat) (m : Int) (v : Value) : Prop where
  r0 : w.cell? ⟨H, 0, none⟩ = some (.int .i64 0)
  r1 : w.cell? ⟨H, 1, none⟩ = some (.slice none 0 0)
  p0 : w.cell? ⟨H + 1, 0, none⟩ = some (.int .i64 m)
  p1 : w.cell? ⟨H + 1, 1, none⟩ = some v
  fr0 : w.frozen? ⟨H, 0, none⟩ = false
  fr1 : w.frozen? ⟨H, 1, none⟩ = false
  fp0 : w.frozen? ⟨H + 1, 0, none⟩ = false
  fp1 : w.frozen? ⟨H + 1, 1, none⟩ = false
theorem PCells.under {w w' : World} {H N : Nat} {m : Int} {v : Value} (h : PCells w H m v) (g : Below N w w') (hN : H + 2 ≤ N) : PCells w' H m v :=
  ⟨(g.cell (p := ⟨H, 0, none⟩) (by show H < N; omega)).trans h.r0, (g.cell (p := ⟨H, 1, none⟩) (by show H < N; omega)).trans h.r1, (g.cell (p := ⟨H + 1, 0, none⟩) (by show H + 1 < N; omega)).trans h.p0, (g.cell (p := ⟨H + 1, 1, none⟩) (by show H + 1 < N; omega)).trans h.p1,
   (g.frozen (p := ⟨H, 0, none⟩) (by show H < N; omega)).trans h.fr0, (g.frozen (p := ⟨H, 1, none⟩) (by show H < N; omega)).trans h.fr1, (g.frozen (p := ⟨H + 1, 0, none⟩) (by show H + 1 < N; omega)).trans h.fp0, (g.frozen (p := ⟨H + 1, 1, none⟩) (by show H + 1 < N; omega)).trans h.fp1⟩
theorem PCells.put {w : World} {H : Nat} {m : Int} {v : Value} (h : PCells w H m v) (u : Value) : PCells (w.setCell ⟨H + 1, 1, none⟩ u) H m u :=
  ⟨(cs_other _ _ _ _ _ _ (.inl (by omega))).trans h.r0, (cs_other _ _ _ _ _ _ (.inl (by omega))).trans h.r1, (cs_other _ _ _ _ _ _ (.inr (by omega))).trans h.p0, World.cell?_setCell_same _ _ _ h.p1,
   (World.frozen?_setCell _ _ _ _).trans h.fr0, (World.frozen?_setCell _ _ _ _).trans h.fr1, (World.frozen?_setCell _ _ _ _).trans h.fp0, (World.frozen?_setCell _ _ _ _).trans h.fp1⟩
theorem pcells_new (w : World) (m : Int) {W : World} (hW : (w.alloc (.cells #[.int .i64 0, .slice none 0 0] 24)).alloc (.cells #[.int .i64 m, .slice none 0 0] 24) = W) : PCells W w.heap.size m (.slice none 0 0) := by
  subst hW
  have s1 : (w.alloc (.cells #[.int .i64 0, .slice none 0 0] 24)).heap.size = w.heap.size + 1 := by simp
  refine ⟨?_, ?_, ?_, ?_, ?_, ?_, ?_, ?_⟩
  · rw [World.cell?_alloc_past _ _ _ (by omega), World.cell?_alloc_at _ _ _ _ rfl]; rfl
  · rw [World.cell?_alloc_past _ _ _ (by omega), World.cell?_alloc_at _ _ _ _ rfl]; rfl
  · rw [World.cell?_alloc_at _ _ _ _ s1.symm]; rfl
  · rw [World.cell?_alloc_at _ _ _ _ s1.symm]; rfl
  · rw [World.frozen?_alloc_past _ _ _ (by omega), World.frozen?_alloc_at _ _ _ _ rfl]
  · rw [World.frozen?_alloc_past _ _ _ (by omega), World.frozen?_alloc_at _ _ _ _ rfl]
  · rw [World.frozen?_alloc_at _ _ _ _ s1.symm]
  · rw [World.frozen?_alloc_at _ _ _ _ s1.symm]
theorem has_step (rs : List Rl) (p : ByteArray) (j : Nat) (hj : j < rs.length) : (!hasB (rs.take (j + 1)) p) = (!hasB (rs.take j) p && decide ((fnOf rs j).p ≠ p)) := by
  have e : rs.take (j + 1) = rs.take j ++ [fnOf rs j] := by rw [fn_at hj, List.take_succ_eq_append_getElem hj]
  have hl : (rs.take j).length = j := by simp; omega
  have hat : ∀ i, i < j → fnOf (rs.take (j + 1)) i = fnOf (rs.take j) i := fun i hi => by rw [e]; simp [fnOf, List.getD_eq_getElem?_getD, List.getElem?_append_left, hl, hi]
  have hlast : fnOf (rs.take (j + 1)) j = fnOf rs j := by rw [e]; simp [fnOf, List.getD_eq_getElem?_getD, hl]
  have hl1 : (rs.take (j + 1)).length = j + 1 := by simp; omega
  unfold hasB
  rcases fd_ways (rs.take j) p with ⟨i, hi, he, _, g⟩ | ⟨h, g⟩
  · rw [hl] at hi
    rcases fd_ways (rs.take (j + 1)) p with ⟨i2, _, _, _, g2⟩ | ⟨h2, g2⟩
    · rw [g, g2, decide_eq_true (Int.natCast_nonneg _), decide_eq_true (Int.natCast_nonneg _)]; rfl
    · exact absurd ((hat i hi).symm ▸ he) (h2 i (by omega))
  · rw [hl] at h
    by_cases c : (fnOf rs j).p = p
    · rcases fd_ways (rs.take (j + 1)) p with ⟨i2, _, _, _, g2⟩ | ⟨h2, g2⟩
      · rw [g2, g, decide_eq_true (Int.natCast_nonneg _), show decide ((fnOf rs j).p ≠ p) = false from decide_eq_false (fun h => h c)]; simp
      · exact absurd (hlast.symm ▸ c) (h2 j (by omega))
    · rcases fd_ways (rs.take (j + 1)) p with ⟨i2, hi2, he2, _, g2⟩ | ⟨h2, g2⟩
      · rw [hl1] at hi2
        by_cases c2 : i2 = j
        · subst c2; rw [hlast] at he2; exact absurd he2 c
        · rw [hat i2 (by omega)] at he2; exact absurd he2 (h i2 (by omega))
      · rw [g2, g, show decide ((fnOf rs j).p ≠ p) = true from decide_eq_true c]; simp
theorem not_true {b : Bool} (h : true = !b) : b = false := by cases b <;> simp_all
theorem pol_end (w wr : World) (m : Int) (v : Value) (rs : List Rl) (hO : ORls wr (w.heap.size + 2) v rs) (hI : Hid (Polr m rs)) (hB : Below w.heap.size w wr) (hP : PCells wr w.heap.size m v) (hl : rs.length ≤ 13) :
    ((wr.setCell ⟨w.heap.size, 0, none⟩ (.int .i64 m)).setCell ⟨w.heap.size, 1, none⟩ v).cell? ⟨w.heap.size, 0, none⟩ = some (.int .i64 m) ∧ ((wr.setCell ⟨w.heap.size, 0, none⟩ (.int .i64 m)).setCell ⟨w.heap.size, 1, none⟩ v).cell? ⟨w.heap.size, 1, none⟩ = some v ∧
    ((∃ m' rs' v', Ending.returned (.agg #[.int .i64 m, v]) = .returned (.agg #[.int .i64 m', v']) ∧ ORls ((wr.setCell ⟨w.heap.size, 0, none⟩ (.int .i64 m)).setCell ⟨w.heap.size, 1, none⟩ v) w.heap.size v' rs' ∧ rs'.length ≤ 13 ∧ Hid (Polr m' rs')) ∧ Below w.heap.size w ((wr.setCell ⟨w.heap.size, 0, none⟩ (.int .i64 m)).setCell ⟨w.heap.size, 1, none⟩ v)) := by
  refine ⟨?_, ?_, ⟨m, rs, v, rfl, ?_, hl, hI⟩, (hB.setCell (p := ⟨w.heap.size, 0, none⟩) (Nat.le_refl _) _).setCell (p := ⟨w.heap.size, 1, none⟩) (Nat.le_refl _) _⟩
  · rw [cs_other _ _ _ _ _ _ (.inr (by omega))]
    exact World.cell?_setCell_same _ _ _ hP.r0
  · exact World.cell?_setCell_same _ _ _ ((cs_other _ _ _ _ _ _ (.inr (by omega))).trans hP.r1)
  · exact ownR_low (ownsRow_setCell_below (ownsRow_setCell_below hO (by show w.heap.size < w.heap.size + 2; omega) _) (by show w.heap.size < w.heap.size + 2; omega) _) (by omega)
set_option maxHeartbeats 2000000 in
theorem policy_any (most : Int) (A : Option Addr) (n cap : Nat) (w : World) (hm : 0 ≤ most ∧ most ≤ 65535) (h : Nmr w A n) (hn : n ≤ 9223372036854775807) :
    Calls Tryz.prog 16 #[.int .u16 most, .slice A n cap] w fun r w' => (∃ m rs v, r = .returned (.agg #[.int .i64 m, v]) ∧ ORls w' w.heap.size v rs ∧ rs.length ≤ 13 ∧ Hid (Polr m rs)) ∧ Below w.heap.size w w' := by
  have H := Lib.hid h
  clear h
  have hm1 : 1 ≤ 1 + most % 50 ∧ 1 + most % 50 ≤ 50 := by omega
  have hm3 : 1 ≤ 1 + most % 3 ∧ 1 + most % 3 ≤ 3 := by omega
  have HZ := Lib.hid (polr_start (1 + most % 50) (1 + most % 3) hm1.1 hm1.2 hm3)
  have PC0 := pcells_new w (1 + most % 50) rfl
  have ka := (Below.refl _ w).alloc (Nat.le_refl _) (.cells #[.int .i64 0, .slice none 0 0] 24)
  have kb := (Below.refl _ (w.alloc (.cells #[.int .i64 0, .slice none 0 0] 24))).alloc (Nat.le_refl _) (.cells #[.int .i64 (1 + most % 50), .slice none 0 0] 24)
  have k2 := kbq ka kb
  have hs2 : ((w.alloc (.cells #[.int .i64 0, .slice none 0 0] 24)).alloc (.cells #[.int .i64 (1 + most % 50), .slice none 0 0] 24)).heap.size = w.heap.size + 2 := by simp
  have kc := (Below.refl _ ((w.alloc (.cells #[.int .i64 0, .slice none 0 0] 24)).alloc (.cells #[.int .i64 (1 + most % 50), .slice none 0 0] 24))).alloc (Nat.le_refl _) (.cells #[.string ⟨#[]⟩, .int .u64 1000, .int .u64 5, .int .u8 (1 + most % 3)] 79)
  have RN := r4_new ((w.alloc (.cells #[.int .i64 0, .slice none 0 0] 24)).alloc (.cells #[.int .i64 (1 + most % 50), .slice none 0 0] 24)) ⟨nob, 1000, 5, 1 + most % 3⟩
  rw [hs2] at RN kc
  have PC1 := PC0.under kc (Nat.le_refl _)
  have k3 := Lib.hid (k2.trans (kc.mono (by omega)))
  have RN := Lib.hid RN
  clear ka kb k2 kc PC0 hs2
  go_enter Tryz.func16, Tryz.ntmps16
  go_wp2_with (at_builtin; refine wpList_app_rl _ rfl _ _ rfl (w.heap.size + 2) (.slice none 0 0) [] rfl (ORls.nil _ _) (w.heap.size + 2) 0 1 1 [⟨nob, 1000, 5, 1 + most % 3⟩] rfl rfl (by omega) (fun j hj => by obtain rfl : j = 0 := (by simp at hj; exact hj); exact RN.out) (by simp) (by simp) ?_; intro g cp w2 hO2 b2 gw gg; have P2 := PC1.under b2 (Nat.le_refl _); obtain ⟨r0, r1, p0, p1, fr0, fr1, fp0, fp1⟩ := P2; refine stopHere ?_)
  unfold Stop
  have P2 := Lib.hid ((PC1.under b2 (Nat.le_refl _)).put (.slice (some ⟨g, 0, none⟩) 1 cp))
  have hltP := cell_lt p0
  have O2 : ORls (w2.setCell ⟨w.heap.size + 1, 1, none⟩ (.slice (some ⟨g, 0, none⟩) 1 cp)) (w.heap.size + 2) (.slice (some ⟨g, 0, none⟩) 1 cp) [⟨nob, 1000, 5, 1 + most % 3⟩] := ownsRow_setCell_below hO2 (by show w.heap.size + 1 < w.heap.size + 2; omega) _
  have B2 := (k3.out.trans (b2.mono (by omega))).setCell (p := ⟨w.heap.size + 1, 1, none⟩) (by show w.heap.size ≤ w.heap.size + 1; omega) (.slice (some ⟨g, 0, none⟩) 1 cp)
  clear hO2 b2 gw gg PC1 RN k3
  have O2 := Lib.hid O2
  have B2 := Lib.hid B2
  go_wp2
  generalize hW2 : w2.setCell ⟨w.heap.size + 1, 1, none⟩ (.slice (some ⟨g, 0, none⟩) 1 cp) = W2 at *
  clear r0 r1 p0 p1 fr0 fr1 fp0 fp1 hltP hW2
  generalize hm0 : 1 + most % 50 = m at *
  generalize hH : w.heap.size = H0 at *
  clear hm0 hm1 hm3 hm
  go_loopw [6] (fun i wr => ∃ (k : Nat) (rs : List Rl) (v : Value), i = .int .i64 (k : Int) ∧ k ≤ 12 ∧ k ≤ n ∧ PCells wr H0 m v ∧ ORls wr (H0 + 2) v rs ∧ rs.length ≤ k + 1 ∧ Hid (Polr m rs) ∧ Below H0 w wr) (fun i _ => 12 - (intOf i).toNat)
  case atStart => exact ⟨0, _, _, rfl, by omega, by omega, P2.out, O2.out, by simp, HZ, B2.out⟩
  case round =>
    obtain ⟨k, rs, v, rfl, hk, hkn, hP, hO, hl, hI, hB⟩ := hrel
    obtain ⟨r0, r1, p0, p1, fr0, fr1, fp0, fp1⟩ := hP
    have i0 : (0 : Int) ≤ (k : Int) := Int.natCast_nonneg _
    by_cases c1 : k < n
    · have i1 : (k : Int) < (n : Int) := by omega
      by_cases c2 : k < 12
      · have i2 : (k : Int) < 12 := by omega
        subst hH
        obtain ⟨b, off, Ai, ni, ci, e, u, kd, rfl, y0, y1, y2, y3, HH⟩ := (H.out.below hB) k c1
        have KA := ckey_any Ai ni ci
        obtain ⟨hby, hni, he, hu, hk8⟩ := HH.out
        have HBy := Lib.hid hby
        have hbl := cell_lt y0
        have kr := Below.refl wr.heap.size wr
        have eK : ∀ W, Below wr.heap.size wr W → Calls Tryz.prog 45 #[.slice Ai ni ci] W fun e w' => ∃ s, e = .returned (.string s) ∧ Hid (Short s) ∧ Below W.heap.size W w' := fun W g => (KA W (HBy.out.below g) hni).mono fun r w' ⟨s, h1, h2, _, h4⟩ => ⟨s, h1, h2, h4⟩
        clear HH hby KA
        have ee : IntKind.u64.wrap e = e := IntWalk.u64_in _ (by omega)
        have ee1 : IntKind.u64.wrap (1 + e) = 1 + e := IntWalk.u64_in _ (by omega)
        have eu : IntKind.u64.wrap u = u := IntWalk.u64_in _ (by omega)
        have eu1 : IntKind.u64.wrap (1 + u) = 1 + u := IntWalk.u64_in _ (by omega)
        have e3 : kd.tmod 3 = kd % 3 := Int.tmod_eq_emod_of_nonneg hk8.1
        have e31 : IntKind.u8.wrap (1 + kd % 3) = 1 + kd % 3 := IntWalk.u8_in _ (by omega)
        have e32 : IntKind.u8.wrap (kd % 3) = kd % 3 := IntWalk.u8_in _ (by omega)
        go_upto_region 6 with fail
        go_cut [7] from 35 to 62 (fun c wx => ∃ (X : Nat) (s : ByteArray), c = .pointer (some ⟨X, 0, none⟩) ∧ wr.heap.size ≤ X ∧ XC wx X ⟨s, 1 + e, 1 + u, 1 + kd % 3⟩ ∧ Hid (Short s) ∧ Below wr.heap.size wr wx)
        case first =>
          go_region_held3 (fun w' => Below wr.heap.size wr w' ∧ w'.cell? ⟨b, off + k * 4, none⟩ = some (.slice Ai ni ci) ∧ w'.cell? ⟨b, off + k * 4 + 1, none⟩ = some (.int .u32 e) ∧ w'.cell? ⟨b, off + k * 4 + 2, none⟩ = some (.int .u16 u) ∧ w'.cell? ⟨b, off + k * 4 + 3, none⟩ = some (.int .u8 kd))
            (first | with_reducible exact ⟨kr, y0, y1, y2, y3⟩ | with_reducible exact ⟨kr.drew, (dcell y0), (dcell y1), (dcell y2), (dcell y3)⟩ | with_reducible exact ⟨(kr.alloc kr.size _), (acell y0), (acell y1), (acell y2), (acell y3)⟩ | with_reducible exact ⟨(kr.alloc kr.size _).drew, (dcell (acell y0)), (dcell (acell y1)), (dcell (acell y2)), (dcell (acell y3))⟩ | with_reducible exact ⟨(sbel kr), scell y0 hbl, scell y1 hbl, scell y2 hbl, scell y3 hbl⟩ | with_reducible exact ⟨(sbel kr).drew, dcell (scell y0 hbl), dcell (scell y1 hbl), dcell (scell y2 hbl), dcell (scell y3 hbl)⟩)
            (first | (go_at_call 45; ((with_reducible refine (eK _ (by first | with_reducible exact kr | with_reducible exact kr.drew | with_reducible exact (kr.alloc kr.size _) | with_reducible exact (kr.alloc kr.size _).drew)).mono ?_); rintro r w4 ⟨s, rfl, hs, g⟩; (first | with_reducible (replace kr := kbq kr g; replace y0 := celln g y0; replace y1 := celln g y1; replace y2 := celln g y2; replace y3 := celln g y3) | with_reducible (replace kr := kbq kr.drew g; replace y0 := celln g (dcell y0); replace y1 := celln g (dcell y1); replace y2 := celln g (dcell y2); replace y3 := celln g (dcell y3)) | with_reducible (obtain ⟨⟨z0, z1, z2, z3⟩, ⟨zf0, zf1, zf2, zf3⟩⟩ := zero4 g; replace kr := kbq (kr.alloc kr.size _) g; replace y0 := celln g (acell y0); replace y1 := celln g (acell y1); replace y2 := celln g (acell y2); replace y3 := celln g (acell y3)) | with_reducible (obtain ⟨⟨z0, z1, z2, z3⟩, ⟨zf0, zf1, zf2, zf3⟩⟩ := zero4d g; replace kr := kbq (kr.alloc kr.size _).drew g; replace y0 := celln g (dcell (acell y0)); replace y1 := celln g (dcell (acell y1)); replace y2 := celln g (dcell (acell y2)); replace y3 := celln g (dcell (acell y3)))))))
          all_goals
            rename_i hH
            obtain ⟨k5, y0, y1, y2, y3⟩ := hH
            first
            | (have hXC := xc_set (p := s) (e := 1 + e) (b := 1 + u) (k := 1 + kd % 3) z0 z1 z2 z3 zf0 zf1 zf2 zf3; have hX : wr.heap.size ≤ wr.heap.size := Nat.le_refl _
               generalize hW : (((w4.setCell ⟨wr.heap.size, 0, none⟩ (.string s)).setCell ⟨wr.heap.size, 1, none⟩ (.int .u64 (1 + e))).setCell ⟨wr.heap.size, 2, none⟩ (.int .u64 (1 + u))).setCell ⟨wr.heap.size, 3, none⟩ (.int .u8 (1 + kd % 3)) = W5 at *)
            | (have hXC := xc_new w4 s (1 + e) (1 + u) (1 + kd % 3); have hX := kr.size
               generalize hW : w4.alloc (.cells #[.string s, .int .u64 (1 + e), .int .u64 (1 + u), .int .u8 (1 + kd % 3)] 79) = W5 at *)
            go_wp2
            go_meet
            case rel => exact ⟨_, _, rfl, hX, hXC, hs, k5⟩
        case rest =>
        obtain ⟨X, s, rfl, hX, hXC, hs, k5⟩ := hcut
        clear eK kr
        have hOw := Lib.hid (ownR_one hs he hu hk8)
        have hOw2 := Lib.hid (ownR_one (s := s) (e := e % 50) (u := u % 9) (kd := kd) hs (by omega) (by omega) hk8)
        replace y1 := celln k5 y1
        replace y2 := celln k5 y2
        replace y3 := celln k5 y3
        have hXC' := Lib.hid hXC
        obtain ⟨⟨x0, x1, x2, x3⟩, f0, f1, f2, f3⟩ := hXC
        go_upto_region 7 with fail
        go_cut [68] from 63 to 68 (fun c wy => ∃ t : Bool, c = .bool t ∧ Hid (t = decide (200 ≤ kd)) ∧ wy = wc)
        case first =>
          by_cases c3 : 200 ≤ kd
          · have c5 : ¬ kd < 200 := by omega
            have c6 : decide (kd < 200) = false := decide_eq_false c5
            have c7 : decide (200 ≤ kd) = true := decide_eq_true c3
            go_wp2
            go_meet
            case rel => exact ⟨true, rfl, Lib.hid (decide_eq_true c3).symm, rfl⟩
          · have c4 : kd < 200 := by omega
            have c6 : decide (kd < 200) = true := decide_eq_true c4
            have c7 : decide (200 ≤ kd) = false := decide_eq_false (by omega : ¬ 200 ≤ kd)
            go_wp2
            go_meet
            case rel => exact ⟨false, rfl, Lib.hid (decide_eq_false (by omega : ¬ 200 ≤ kd)).symm, rfl⟩
        case rest =>
        obtain ⟨t, rfl, ht, rfl⟩ := hcut
        go_upto_if 68 with fail
        go_cut [] from 69 to 86 (fun wy => ∃ x : Rl, XC wy X x ∧ Hid (OwnR x) ∧ Below wr.heap.size wr wy)
        case first =>
          cases t
          case true =>
            have e5 : e.tmod 50 = e % 50 := Int.tmod_eq_emod_of_nonneg he.1
            have e51 : IntKind.u32.wrap (e % 50) = e % 50 := IntWalk.u32_in _ (by omega)
            have e52 : IntKind.u64.wrap (e % 50) = e % 50 := IntWalk.u64_in _ (by omega)
            have e53 : IntKind.u64.wrap (1 + e % 50) = 1 + e % 50 := IntWalk.u64_in _ (by omega)
            have e9 : u.tmod 9 = u % 9 := Int.tmod_eq_emod_of_nonneg hu.1
            have e91 : IntKind.u16.wrap (u % 9) = u % 9 := IntWalk.u16_in _ (by omega)
            have e92 : IntKind.u64.wrap (u % 9) = u % 9 := IntWalk.u64_in _ (by omega)
            have e93 : IntKind.u64.wrap (1 + u % 9) = 1 + u % 9 := IntWalk.u64_in _ (by omega)
            have hlb := Nat.lt_of_lt_of_le hbl hX
            have hne := Nat.ne_of_lt hlb
            go_wp2
            go_meet
            case rel => exact ⟨_, xc_two hXC'.out (1 + e % 50) (1 + u % 9), hOw2, (k5.setCell (p := ⟨X, 1, none⟩) hX _).setCell (p := ⟨X, 2, none⟩) hX _⟩
          case false =>
            go_wp2
            go_meet
            case rel => exact ⟨_, hXC'.out, hOw, k5⟩
        case rest =>
        obtain ⟨x, hXC2, hOx, k6⟩ := hcut
        clear hXC' x0 x1 x2 x3 f0 f1 f2 f3 hOw hOw2 k5 y0 y1 y2 y3 ee ee1 eu eu1 e3 e31 e32 he hu hk8 ht hni
        have lH : w.heap.size < wr.heap.size := cell_lt r0
        have lP : w.heap.size + 1 < wr.heap.size := cell_lt p0
        replace r0 := celln k6 r0
        replace r1 := celln k6 r1
        replace p0 := celln k6 p0
        replace p1 := celln k6 p1
        replace fr0 := (k6.frozen (p := ⟨w.heap.size, 0, none⟩) lH).trans fr0
        replace fr1 := (k6.frozen (p := ⟨w.heap.size, 1, none⟩) lH).trans fr1
        replace fp0 := (k6.frozen (p := ⟨w.heap.size + 1, 0, none⟩) lP).trans fp0
        replace fp1 := (k6.frozen (p := ⟨w.heap.size + 1, 1, none⟩) lP).trans fp1
        have hO6 := ownR_below hO k6
        have hB6 := kbq hB k6
        obtain ⟨A3, c3, rfl, hq3, hq4, hRl⟩ := hO6.rls (fun r hr => (hI.out.own r hr).okr)
        have HRl := Lib.hid hRl
        have HO6 := Lib.hid hO6
        have HX := Lib.hid hXC2
        obtain ⟨⟨x0, x1, x2, x3⟩, f0, f1, f2, f3⟩ := hXC2
        obtain ⟨xp, xe, xb, xk⟩ := x
        simp only at x0 x1 x2 x3
        clear hO hRl k6 hB
        have hxw := cell_lt x0
        have P6 := Lib.hid (PCells.mk r0 r1 p0 p1 fr0 fr1 fp0 fp1)
        have sz6 : w.heap.size + 2 ≤ wc.heap.size := by have := cell_lt p0; omega
        have hbs : Hid (∀ j, j < rs.length → Hid ((!hasB (rs.take (j + 1)) xp) = (!hasB (rs.take j) xp && decide ((fnOf rs j).p ≠ xp)))) := Lib.hid (fun j hj => Lib.hid (has_step rs xp j hj))
        go_wp2_with fail
        go_loopw [8, 9] (fun tv i wi => ∃ (j : Nat) (tb : Bool), i = .int .i64 (j : Int) ∧ tv = .bool tb ∧ j ≤ rs.length ∧ Hid (tb = !hasB (rs.take j) xp) ∧ Below wc.heap.size wc wi) (fun _ i _ => rs.length - (intOf i).toNat)
        case atStart => exact ⟨0, true, rfl, rfl, Nat.zero_le _, Lib.hid rfl, Below.refl _ _⟩
        case round =>
          obtain ⟨j, tb, rfl, rfl, hj, ht, kB⟩ := hrel
          have j0 : (0 : Int) ≤ (j : Int) := Int.natCast_nonneg _
          replace p1 := celln kB p1
          replace x0 := celln kB x0
          by_cases cj : j < rs.length
          · have j1 : (j : Int) < (rs.length : Int) := by omega
            obtain ⟨b3, o3, rfl, hb3, hc3⟩ := (HRl.out.below kB).2.2 (by omega)
            have e0 := (hc3 j cj).1
            have hst := hbs.out j cj
            generalize hpe : (fnOf rs j).p = pe at e0 hst
            clear hpe hc3
            cases tb
            · go_wp2
              go_region
              go_wp2
              go_roundw
              case rel => exact ⟨j + 1, false, rfl, rfl, cj, Lib.hid (by rw [hst.out, ← ht.out]; rfl), kB.drew⟩
              case measure => simp [intOf]; omega
            · have ts := text_same (a := pe) (b := xp)
              cases hd : decide (pe = xp)
              · rw [hd] at ts
                have hne := of_decide_eq_false hd
                clear hd
                go_wp2
                go_region
                go_wp2
                go_roundw
                case rel => exact ⟨j + 1, true, rfl, rfl, cj, Lib.hid (by rw [hst.out, ← ht.out, decide_eq_true hne]; rfl), kB.drew⟩
                case measure => simp [intOf]; omega
              · rw [hd] at ts
                have heq := of_decide_eq_true hd
                clear hd
                go_wp2
                go_region
                go_wp2
                go_roundw
                case rel => exact ⟨j + 1, false, rfl, rfl, cj, Lib.hid (by rw [hst.out, ← ht.out, show decide (pe ≠ xp) = false from decide_eq_false (fun h => h heq)]; rfl), kB.drew⟩
                case measure => simp [intOf]; omega
          · have j1 : ¬ (j : Int) < (rs.length : Int) := by omega
            have hjj : j = rs.length := by omega
            subst hjj
            replace x1 := celln kB x1
            replace x2 := celln kB x2
            replace x3 := celln kB x3
            have B7 := kbq hB6 kB
            have O7 := ownR_below HO6.out kB
            have P7 := P6.out.under kB sz6
            have P7' := Lib.hid P7
            obtain ⟨r0, r1, p0, p1, fr0, fr1, fp0, fp1⟩ := P7
            rw [List.take_length] at ht
            cases tb
            · go_wp2
              go_roundw
              case rel => exact ⟨k + 1, rs, _, rfl, by omega, by omega, P7'.out, O7, by omega, hI, B7⟩
              case measure => simp [intOf]; omega
            · have hno : hasB rs xp = false := not_true ht.out
              have hPo := Lib.hid (polr_more hI.out hOx.out hno)
              have RN2 := Lib.hid (r4_new wr ⟨xp, xe, xb, xk⟩)
              have O8 : ORls (wr.alloc (.cells #[.string xp, .int .u64 xe, .int .u64 xb, .int .u8 xk] 79)) (w.heap.size + 2) (.slice A3 rs.length c3) rs := ownR_below O7 ((Below.refl _ wr).alloc (Nat.le_refl _) _)
              have O8 := Lib.hid O8
              have kE := (Below.refl _ wr).alloc (Nat.le_refl _) (.cells #[.string xp, .int .u64 xe, .int .u64 xb, .int .u8 xk] 79)
              have P8 := P7'.out.under kE (Nat.le_trans sz6 kB.size)
              have B8 := Lib.hid (kbq B7 kE)
              have hsz8 : w.heap.size + 2 ≤ (wr.alloc (.cells #[.string xp, .int .u64 xe, .int .u64 xb, .int .u8 xk] 79)).heap.size := Nat.le_trans (Nat.le_trans sz6 kB.size) kE.size
              clear kE
              go_wp2_with (at_builtin; refine wpList_app_rl _ rfl _ _ rfl (w.heap.size + 2) (.slice A3 rs.length c3) rs rfl O8.out wr.heap.size 0 1 1 [⟨xp, xe, xb, xk⟩] rfl rfl (by omega) (fun j hj => by obtain rfl : j = 0 := (by simp at hj; exact hj); exact RN2.out) (by omega) hsz8 ?_; intro g2 cp2 w8 hO9 b8 gw8 gg8; have P9 := P8.under b8 (Nat.le_refl _); have P9' := Lib.hid P9; clear P8 r0 r1 p0 p1 fr0 fr1 fp0 fp1; obtain ⟨r0, r1, p0, p1, fr0, fr1, fp0, fp1⟩ := P9; refine stopHere ?_)
              unfold Stop
              have PA := Lib.hid (P9'.out.put (.slice (some ⟨g2, 0, none⟩) (rs.length + 1) cp2))
              have OA : ORls (w8.setCell ⟨w.heap.size + 1, 1, none⟩ (.slice (some ⟨g2, 0, none⟩) (rs.length + 1) cp2)) (w.heap.size + 2) (.slice (some ⟨g2, 0, none⟩) (rs.length + 1) cp2) (rs ++ [⟨xp, xe, xb, xk⟩]) := ownsRow_setCell_below hO9 (by show w.heap.size + 1 < w.heap.size + 2; omega) _
              have OA := Lib.hid OA
              have BA := Lib.hid ((B8.out.trans (b8.mono (by omega))).setCell (p := ⟨w.heap.size + 1, 1, none⟩) (by show w.heap.size ≤ w.heap.size + 1; omega) (.slice (some ⟨g2, 0, none⟩) (rs.length + 1) cp2))
              clear hO9 b8 gw8 gg8 P9'
              go_wp2
              go_roundw
              case rel => exact ⟨k + 1, _, _, rfl, by omega, by omega, PA.out, OA.out, by simp; omega, hPo, BA.out⟩
              case measure => simp [intOf]; omega
      · have i2 : ¬ (k : Int) < 12 := by omega
        subst hH
        obtain ⟨A3, q3, rfl, _, _, _⟩ := hO.rls (fun r hr => (hI.out.own r hr).okr)
        have OZ := Lib.hid (pol_end w wr m _ rs hO hI hB ⟨r0, r1, p0, p1, fr0, fr1, fp0, fp1⟩ (by omega))
        go_wp2
        obtain ⟨q0, q1, hz⟩ := OZ.out
        show bodyPost Tryz.prog Tryz.f16 _ _ _ _
        refine bodyPost_ret (v := .agg #[.int .i64 m, .slice A3 rs.length q3]) ?_ rfl hz
        simp [results, Tryz.results16, go_sem, q0, q1]
    · have i1 : ¬ (k : Int) < (n : Int) := by omega
      subst hH
      obtain ⟨A3, q3, rfl, _, _, _⟩ := hO.rls (fun r hr => (hI.out.own r hr).okr)
      have OZ := Lib.hid (pol_end w wr m _ rs hO hI hB ⟨r0, r1, p0, p1, fr0, fr1, fp0, fp1⟩ (by omega))
      go_wp2
      obtain ⟨q0, q1, hz⟩ := OZ.out
      show bodyPost Tryz.prog Tryz.f16 _ _ _ _
      refine bodyPost_ret (v := .agg #[.int .i64 m, .slice A3 rs.length q3]) ?_ rfl hz
      simp [results, Tryz.results16, go_sem, q0, q1]
end Go.Proofs.YtbejkcdaefkibaaGreat.Wd


namespace Go.Proofs.YtbejkcdaefkibaaGreat.Wd
open Go Go.RowKit Go.Deep Go.Shelf
set_option linter.unusedVariables false
set_option maxRecDepth 100000
def AllR (rs : List Rl) : Prop := (∀ r ∈ rs, r.er = 0) ∧ hsK nob nob = true ∧ ∃ j, j < rs.length ∧ (fnOf rs j).p = nob
theorem hsK_nob (K : ByteArray) : hsK K nob = true := by
  rw [hsK_iff]
  exact ⟨lb K, rfl⟩
theorem polr_all {m : Int} {rs : List Rl} (h : Polr m rs) : AllR rs := by
  obtain ⟨k, rest, e⟩ := h.hd
  refine ⟨fun r hr => (h.own r hr).er, hsK_nob _, 0, by rw [e]; simp, by rw [e]; rfl⟩
theorem rlE_er {rs : List Rl} (h : AllR rs) (K : ByteArray) : (rlE rs K).er = 0 := by
  unfold rlE findR
  obtain ⟨h1, _, j, hj, hp⟩ := h
  rcases best_is rs K rs.length with ⟨_, h2⟩ | ⟨i, h2, hb⟩
  · have := h2 j hj
    rw [hp, hsK_nob] at this; cases this
  · rw [h2]
    exact h1 _ (fn_mem hb.lt)
theorem esl_okt {rs : List Rl} {X : Int} {x : En} (h : AllR rs) (hok : ∀ K r, findR rs K = some r → Okr r) (hx : Oke x) (hX : U X) (hk : rtB (lb x.1) = true) (h1 : X < x.2) (h2 : x.2 - X ≤ capR (rlE rs x.1)) :
    Okt X (esl rs X x) ∧ flS X (esl rs X x) = x.2 - X ∧ wsE X (esl rs X x) = 0 ∧ entS X (esl rs X x) = x := by
  have he := rlE_er h x.1
  have h3 : Is3 (rlE rs x.1).k := rule_is3 he
  have hu := hx.2
  have hf : flS X (esl rs X x) = x.2 - X := by
    have t := (tells_of h3 X (capR (rlE rs x.1)) (x.2 - X) (by unfold U at hX; omega) (by omega) h2 (by unfold U at hu; omega)).here hX (by omega)
    show kfI (koK (rlE rs x.1).k) _ _ X _ = _
    rw [koK_is h3]
    exact t
  have hO : Okt X (esl rs X x) := ⟨esl_oks hx hok hX h1, hk, he, by show Is3 (koK _); rw [koK_is h3]; exact h3, by rw [hf]; omega⟩
  refine ⟨hO, hf, ws_zero hO (by rw [hf]; exact h2), ?_⟩
  show (x.1, kuI X (flS X (esl rs X x))) = x
  rw [hf]
  unfold kuI
  rw [if_neg (by omega), sat_id _ (by unfold U at hu; omega)]
  obtain ⟨a, b⟩ := x
  show (a, X + (b - X)) = (a, b)
  congr 1; omega
theorem feE_mem {rs : List Rl} {C : Int} : ∀ {es : List En}, feE rs C es = 0 → ∀ x ∈ es, enE rs C x = 0
  | [], _, x, hx => (List.not_mem_nil hx).elim
  | y :: r, h, x, hx => by
    unfold feE at h
    by_cases z : enE rs C y = 0
    · rw [if_pos z] at h
      rcases List.mem_cons.1 hx with rfl | q
      · exact z
      · exact feE_mem h x q
    · rw [if_neg z] at h; exact absurd h z
theorem enE_zero {rs : List Rl} {C : Int} {x : En} (h : enE rs C x = 0) : rtB (lb x.1) = true ∧ 1 ≤ sbI x.2 C ∧ sbI x.2 C ≤ capR (rlE rs x.1) := by
  unfold enE at h
  by_cases z : rtB (lb x.1) = true
  · rw [if_pos z] at h
    by_cases q : sbI x.2 C < 1 ∨ capR ((findR rs x.1).getD rl0) < sbI x.2 C
    · rw [if_pos q] at h; cases h
    · refine ⟨z, by omega, ?_⟩
      show sbI x.2 C ≤ capR ((findR rs x.1).getD rl0)
      omega
  · rw [if_neg z] at h; cases h
theorem enR_zero {m : Int} {rs : List Rl} {C : Int} {es : List En} (h : enR m rs C es = 0) : C ≤ 9223372036854775807 ∧ (es.length : Int) ≤ m ∧ soB (es.map Prod.fst) = true ∧ ∀ x ∈ es, enE rs C x = 0 := by
  unfold enR at h
  by_cases z : riE m rs = 0
  · rw [if_pos z] at h
    by_cases q1 : 9223372036854775807 < C
    · rw [if_pos q1] at h; cases h
    · rw [if_neg q1] at h
      by_cases q2 : m < (es.length : Int)
      · rw [if_pos q2] at h; cases h
      · rw [if_neg q2] at h
        by_cases q3 : soB (es.map Prod.fst) = true
        · rw [if_pos q3] at h
          exact ⟨by omega, by omega, q3, feE_mem h⟩
        · rw [if_neg q3] at h; cases h
  · rw [if_neg z] at h; exact absurd h z
def stE (X : Int) (es : List En) : List En := es.filter (fun x => decide (X < x.2))
theorem acE_st (rs : List Rl) (X : Int) (es : List En) : acE rs X es = (stE X es).map (esl rs X) := rfl
theorem stE_app (X : Int) (a b : List En) : stE X (a ++ b) = stE X a ++ stE X b := by unfold stE; rw [List.filter_append]
theorem stE_len (X : Int) (es : List En) : (stE X es).length ≤ es.length := List.length_filter_le _ _
theorem sub_of {X C : Int} {x : En} (h : X < x.2) (hC : C ≤ X) : sbI x.2 C = x.2 - C := by unfold sbI; rw [if_neg (by omega)]
theorem mapE_id {rs : List Rl} {X : Int} : ∀ {l : List En}, (∀ x ∈ l, entS X (esl rs X x) = x) → (l.map (esl rs X)).map (entS X) = l
  | [], _ => rfl
  | a :: r, h => by
    rw [List.map_cons, List.map_cons, h a (List.mem_cons_self ..), mapE_id (fun x hx => h x (List.mem_cons_of_mem _ hx))]
theorem so_riseE (rs : List Rl) (X : Int) : ∀ {es : List En}, soB (es.map Prod.fst) = true → Rise (es.map (esl rs X)) := fun {es} h => so_rise (by rw [List.map_map]; exact h)
theorem acE_right {m : Int} {rs : List Rl} {C X : Int} {es : List En} (hP : AllR rs) (hm : 1 ≤ m ∧ m ≤ 1000000) (hok : ∀ K r, findR rs K = some r → Okr r) (hx : ∀ x ∈ es, Oke x) (hX : U X) (hC : C ≤ X) (h : enR m rs C es = 0) :
    woE m X (acE rs X es) = 0 ∧ (acE rs X es).map (entS X) = stE X es ∧ Rise (acE rs X es) := by
  obtain ⟨_, h2, h3, h4⟩ := enR_zero h
  have hall : ∀ x ∈ stE X es, Okt X (esl rs X x) ∧ flS X (esl rs X x) = x.2 - X ∧ wsE X (esl rs X x) = 0 ∧ entS X (esl rs X x) = x := by
    intro x hx'
    obtain ⟨a1, a2⟩ := List.mem_filter.1 hx'
    have a2 : X < x.2 := by simpa using a2
    obtain ⟨b1, b2, b3⟩ := enE_zero (h4 x a1)
    rw [sub_of a2 hC] at b3
    exact esl_okt hP hok (hx x a1) hX b1 a2 (by omega)
  have hR : Rise (acE rs X es) := by
    have r0 := so_riseE rs X h3
    rw [acE_st]
    exact List.Pairwise.sublist (List.Sublist.map _ List.filter_sublist) r0
  refine ⟨?_, ?_, hR⟩
  · have hf : fsE X (acE rs X es) = 0 := fs_zero (fun s hs => by
      rw [acE_st] at hs
      obtain ⟨x, hx', rfl⟩ := List.mem_map.1 hs
      exact (hall x hx').2.2.1)
    have hl := acE_len rs X es
    unfold woE
    rw [if_neg (by omega), if_pos hf, if_pos (rise_so hR), if_neg (by omega)]
  · rw [acE_st]; exact mapE_id (fun x hx' => (hall x hx').2.2.2)
theorem told_ac {X : Int} {rs : List Rl} {es : List En} {S xs : List Sl} {m : Int} (hw : Wf m X S) (TL : Told S xs) (hp : S.Perm (acE rs X es)) (hR : Rise (acE rs X es)) : xs = acE rs X es := by
  have t := told_rise TL hw.ap
  exact rise_one t.1 hR (t.2.trans hp)
end Go.Proofs.YtbejkcdaefkibaaGreat.Wd


namespace Go.Proofs.YtbejkcdaefkibaaGreat.Wd
open Go Go.RowKit Go.Shelf Go.Deep
set_option linter.unusedVariables false
set_option maxRecDepth 100000
attribute [local go_sem] Oper.semAt_some
set_option maxHeartbeats 1000000 in
theorem pkey_any (A : Option Addr) (n cap : Nat) (w : World) (h : Byts w A n) (hn : n ≤ 9223372036854775807) :
    Calls Tryz.prog 45 #[.slice A n cap] w fun e w' => ∃ s, e = .returned (.string s) ∧ Hid (Short s) ∧ s.size ≤ 12 ∧ Below w.heap.size w w' := by
  have H := Lib.hid h
  clear h
  go_enter Tryz.func45, Tryz.ntmps45
  go_wp2
  go_loopw [3, 4] (fun s i wr => ∃ (k : Nat) (t : ByteArray), i = .int .i64 (k : Int) ∧ s = .string t ∧ k ≤ 6 ∧ k ≤ t.size ∧ t.size ≤ 2 * k ∧ Hid ((lb t).all (fun c => visB (c.toNat : Int)) = true) ∧ Below w.heap.size w wr) (fun _ i _ => 6 - (intOf i).toNat)
  case atStart => exact ⟨0, ⟨#[]⟩, rfl, rfl, by omega, by decide, by decide, Lib.hid (by decide), Below.refl _ _⟩
  case round =>
    obtain ⟨k, t, rfl, rfl, hk, k1, k2, V, hB⟩ := hrel
    by_cases c1 : k < n
    · by_cases c2 : k < 6
      · obtain ⟨b, off, v, rfl, hc, hv⟩ := (H.out.below hB) k c1
        have hb := lt_of_cell hc
        have c3 : (k : Int) < 6 := by omega
        have hvm : v % 8 = 0 ∨ v % 8 = 1 ∨ v % 8 = 2 ∨ v % 8 = 3 ∨ v % 8 = 4 ∨ v % 8 = 5 ∨ v % 8 = 6 ∨ v % 8 = 7 := by omega
        have VA : Hid (∀ p : ByteArray, (lb p).all (fun c => visB (c.toNat : Int)) = true → (lb (t ++ p)).all (fun c => visB (c.toNat : Int)) = true) := Lib.hid (fun p hp => by rw [lb_append, List.all_append, V.out, hp]; rfl)
        have hs0 : t.size ≤ 12 := by omega
        have SZ : Hid (∀ p : ByteArray, 1 ≤ p.size → p.size ≤ 2 → k + 1 ≤ (t ++ p).size ∧ (t ++ p).size ≤ 2 * (k + 1)) := Lib.hid (fun p h1 h2 => by rw [ByteArray.size_append']; omega)
        rcases hvm with hm | hm | hm | hm | hm | hm | hm | hm
        all_goals
          go_wp2
          go_roundw
          case rel => exact ⟨k + 1, _, by go_num, rfl, by omega, (SZ.out _ (by decide) (by decide)).1, (SZ.out _ (by decide) (by decide)).2, Lib.hid (VA.out _ (by decide)), hB.alloc hB.size _⟩
          case measure => simp [intOf]; omega
      · have c3 : decide ((k : Int) < 6) = false := decide_eq_false (by omega)
        have hz : t.toList.isEmpty = false := toList_ne t (by omega)
        have F : Hid (Short t ∧ t.size ≤ 12) := Lib.hid ⟨⟨⟨by omega, by omega⟩, V.out⟩, by omega⟩
        clear c2 k1 k2 hk
        go_wp2
        go_ret
        exact ⟨t, rfl, Lib.hid F.out.1, F.out.2, hB⟩
    · by_cases c4 : t.size = 0
      · have hz : t.toList.isEmpty = true := toList_none t c4
        clear c4
        go_wp2
        go_ret
        exact ⟨⟨#[107]⟩, rfl, Lib.hid ⟨⟨by decide, by decide⟩, by decide⟩, by decide, hB⟩
      · have hz : t.toList.isEmpty = false := toList_ne t (by omega)
        have F : Hid (Short t ∧ t.size ≤ 12) := Lib.hid ⟨⟨⟨by omega, by omega⟩, V.out⟩, by omega⟩
        clear c4 k1 k2 hk
        go_wp2
        go_ret
        exact ⟨t, rfl, Lib.hid F.out.1, F.out.2, hB⟩
abbrev str (l : List UInt8) : ByteArray := ⟨l.toArray⟩
theorem pown_below {w w' : World} {base : Nat} {e : TypeId} {size : Nat} {v : Value} {n : Nat} {xs : List Value} (h : w.ownsRow base e size v n xs) (g : Below w.heap.size w w') : w'.ownsRow base e size v n xs := by
  refine ⟨h.1, ?_⟩
  rcases h.2 with h0 | ⟨b, cap, cur, h1, h2, h3, h4⟩
  · exact .inl h0
  · exact .inr ⟨b, cap, cur, h1, h2, (g.block b (Array.getElem?_eq_some_iff.1 h3).1).trans h3, h4⟩
theorem str_lb (s : ByteArray) : str (lb s) = s := by cases s; rfl
abbrev pEn : Type := ByteArray × Nat
abbrev pEn.cs (x : pEn) : Array Value := #[.string x.1, .int .u64 (x.2 : Int)]
def wgt : List pEn → Nat
  | [] => 0
  | x :: r => 9 + x.1.size + wgt r
def up (ah : List UInt8) : List pEn → Bool
  | [] => true
  | x :: r => rtB (lb x.1) && (ls ah (lb x.1) && up (lb x.1) r)
theorem rt_ne {l : List UInt8} (h : rtB l = true) : 1 ≤ l.length ∧ l.length ≤ 128 := by
  unfold rtB at h
  rw [Bool.and_eq_true, decide_eq_true_eq] at h
  exact h.1
theorem ls_none {l : List UInt8} (h : 1 ≤ l.length) : ls [] l = true := by
  cases l with
  | nil => simp at h
  | cons a l => rfl
def pflatE : List pEn → List Value
  | [] => []
  | x :: xs => (pEn.cs x).toList ++ pflatE xs
theorem pflatE_append (a b : List pEn) : pflatE (a ++ b) = pflatE a ++ pflatE b := by
  induction a with
  | nil => rfl
  | cons x xs ih => rw [List.cons_append, pflatE, pflatE, ih, List.append_assoc]
theorem pflatE_len (a : List pEn) : (pflatE a).length = a.length * 2 := by
  induction a with
  | nil => rfl
  | cons x xs ih => rw [pflatE, List.length_append, ih, List.length_cons]; simp; omega
abbrev pen0 : pEn := (⟨#[]⟩, 0)
abbrev patE (xs : List pEn) (k : Nat) : pEn := xs.getD k pen0
theorem pflatE_at : ∀ (xs : List pEn) (k : Nat), k < xs.length → ∀ j, j < 2 → (pflatE xs)[k * 2 + j]? = (pEn.cs (patE xs k))[j]?
  | [], _, h, _, _ => absurd h (Nat.not_lt_zero _)
  | x :: xs, 0, _, j, hj => by
    rw [pflatE, List.getElem?_append_left (by simp; omega)]; simp
  | x :: xs, k + 1, h, j, hj => by
    rw [pflatE, List.getElem?_append_right (by simp; omega)]
    have := pflatE_at xs k (by simpa using h) j hj
    rw [show (k + 1) * 2 + j - (pEn.cs x).toList.length = k * 2 + j by simp; omega, this]
    simp
theorem pflatE_one (xs : List pEn) : ∀ u ∈ pflatE xs, u.oneCell' = true := by
  induction xs with
  | nil => intro u hu; cases hu
  | cons x xs ih =>
    intro u hu
    rw [pflatE, List.mem_append] at hu
    rcases hu with hu | hu
    · simp at hu
      rcases hu with rfl | rfl <;> rfl
    · exact ih u hu
theorem patE_take {xs : List pEn} {k j : Nat} (h : j < k) : patE (xs.take k) j = patE xs j := by
  simp only [patE, List.getD_eq_getElem?_getD, List.getElem?_take, if_pos h]
theorem patE_drop {xs : List pEn} {k j : Nat} : patE (xs.drop k) j = patE xs (k + j) := by
  simp only [patE, List.getD_eq_getElem?_getD, List.getElem?_drop]
theorem patE_mem {xs : List pEn} {k : Nat} (h : k < xs.length) : patE xs k ∈ xs := by
  simp only [patE, List.getD_eq_getElem?_getD, List.getElem?_eq_getElem h]
  exact List.getElem_mem h
def pOwE (w : World) (base : Nat) (v : Value) (xs : List pEn) : Prop := w.ownsRow base Tae 2 v xs.length (pflatE xs)
theorem pOwE.nil (w : World) (base : Nat) : pOwE w base (.slice none 0 0) [] := World.ownsRow_nil _ _ _ _
theorem pOwE.below {w w' : World} {base : Nat} {v : Value} {l : List pEn} (h : pOwE w base v l) (g : Below w.heap.size w w') : pOwE w' base v l := pown_below h g
def pS2 (w : World) (b o : Nat) (x : pEn) : Prop := w.cell? ⟨b, o, none⟩ = some (.string x.1) ∧ w.cell? ⟨b, o + 1, none⟩ = some (.int .u64 (x.2 : Int))
theorem pS2.below {w w' : World} {b o : Nat} {x : pEn} (h : pS2 w b o x) (g : Below w.heap.size w w') : pS2 w' b o x := ⟨celln g h.1, celln g h.2⟩
def Ens (w : World) (A : Option Addr) (n : Nat) (xs : List pEn) : Prop :=
  xs.length = n ∧ (0 < n → ∃ b off, A = some ⟨b, off, none⟩ ∧ b < w.heap.size ∧ ∀ k, k < n → pS2 w b (off + k * 2) (patE xs k))
theorem Ens.below {w w' : World} {A : Option Addr} {n : Nat} {xs : List pEn} (h : Ens w A n xs) (g : Below w.heap.size w w') : Ens w' A n xs :=
  ⟨h.1, fun hn => by
    obtain ⟨b, off, e, hb, hc⟩ := h.2 hn
    exact ⟨b, off, e, Nat.lt_of_lt_of_le hb g.size, fun k hk => (hc k hk).below g⟩⟩
theorem Ens.nil (w : World) (A : Option Addr) : Ens w A 0 [] := ⟨rfl, fun h => absurd h (Nat.lt_irrefl _)⟩
theorem Ens.front {w : World} {A : Option Addr} {n k : Nat} {xs : List pEn} (h : Ens w A n xs) (hk : k ≤ n) : Ens w A k (xs.take k) :=
  ⟨by rw [List.length_take, h.1]; omega, fun hn => by
    obtain ⟨b, off, e, hb, hc⟩ := h.2 (by omega)
    exact ⟨b, off, e, hb, fun j hj => by rw [patE_take hj]; exact hc j (by omega)⟩⟩
theorem Ens.cut {w : World} {b off n k : Nat} {xs : List pEn} (h : Ens w (some ⟨b, off, none⟩) n xs) (hk : k ≤ n) :
    Ens w (some ⟨b, off + k * 2, none⟩) (n - k) (xs.drop k) :=
  ⟨by rw [List.length_drop, h.1], fun hn => by
    obtain ⟨b', off', e, hb, hc⟩ := h.2 (by omega)
    simp only [Option.some.injEq, Addr.mk.injEq] at e
    obtain ⟨rfl, rfl, _⟩ := e
    refine ⟨b, off + k * 2, rfl, hb, fun j hj => ?_⟩
    rw [patE_drop, Nat.add_assoc, ← Nat.add_mul]
    exact hc (k + j) (by omega)⟩
theorem pOwE.form {w : World} {base : Nat} {v : Value} {xs : List pEn} (h : pOwE w base v xs) : ∃ A cap, v = .slice A xs.length cap ∧ xs.length ≤ cap ∧ cap ≤ maxLen ∧ Ens w A xs.length xs ∧ (∀ ad, A = some ad → base ≤ ad.block ∧ ad.off = 0 ∧ ad.spot = none) := by
  rcases h.2 with ⟨rfl, h0⟩ | ⟨g, cap, cur, rfl, hb, hgg, h1, h2, h3, h4⟩
  · exact ⟨none, 0, by rw [h0], by omega, by unfold maxLen; omega, ⟨rfl, fun hp => by omega⟩, fun ad e => by cases e⟩
  · have hc : ∀ k, k < xs.length → ∀ j, j < 2 → w.cell? ⟨g, k * 2 + j, none⟩ = (pEn.cs (patE xs k))[j]? := fun k hk j hj => by
      rw [← pflatE_at xs k hk j hj, ← h4, List.getElem?_take, if_pos (by omega)]
      simp [World.cell?, hgg]
    refine ⟨_, cap, rfl, h1, h2, ⟨rfl, fun _ => ⟨g, 0, rfl, heap_lt hgg, fun k hk => ?_⟩⟩, fun ad e => by cases e; exact ⟨hb, rfl, rfl⟩⟩
    rw [Nat.zero_add]
    exact ⟨hc k hk 0 (by omega), hc k hk 1 (by omega)⟩
theorem Ens.news {w : World} {b off n : Nat} {xs : List pEn} (h : Ens w (some ⟨b, off, none⟩) n xs) : ∀ j u, (pflatE xs)[j]? = some u → w.cell? ((⟨b, off, none⟩ : Addr).add j) = some u := by
  intro j u hu
  have hj : j < xs.length * 2 := by
    by_cases z : j < xs.length * 2
    · exact z
    · rw [List.getElem?_eq_none (by rw [pflatE_len]; omega)] at hu; cases hu
  obtain ⟨b', off', e, hb, hc⟩ := h.2 (by rw [← h.1]; omega)
  simp only [Option.some.injEq, Addr.mk.injEq] at e
  obtain ⟨rfl, rfl, _⟩ := e
  have hk := hc (j / 2) (by rw [← h.1]; omega)
  have e2 := pflatE_at xs (j / 2) (by omega) (j % 2) (by omega)
  rw [show j / 2 * 2 + j % 2 = j by omega, hu] at e2
  rw [Go.WideShapes.add_plain]
  rcases (by omega : j % 2 = 0 ∨ j % 2 = 1) with hm | hm
  · rw [hm] at e2
    have e3 : off + j = off + j / 2 * 2 := by omega
    rw [e3, hk.1]; simpa using e2.symm
  · rw [hm] at e2
    have e3 : off + j = off + j / 2 * 2 + 1 := by omega
    rw [e3, hk.2]; simpa using e2.symm
theorem Blk.ptwo {w : World} {b : Nat} {x : pEn} {t : TypeId} (h : Blk w b (pEn.cs x) t) : pS2 w b 0 x := ⟨h.cell 0, h.cell 1⟩
theorem wpList_app_en (w : World) {ops : Array Oper} {rest : List Oper} {o : Oper} {a : Act} {Q : Exit → Act → World → Prop} (hgd : o.guard = none) (s x : Operand)
    (ho : o.op = .call { callee := .builtin .append, args := #[s, x], argTypes := #[Tens, Tens] })
    (base : Nat) (v : Value) (acc : List pEn) (hs : a.eval s = v) (hown : pOwE w base v acc) (ao : Option Addr) (m c : Nat) (l : List pEn) (hx : a.eval x = .slice ao m c) (hT : Ens w ao m l) (hn : ao = none → c = 0) (ha : ∀ ad, ao = some ad → ad.spot = none)
    (hsz : acc.length + m ≤ 1099511627776) (hbase : base ≤ w.heap.size)
    (h : ∀ v' w', pOwE w' base v' (acc ++ l) → w.grownBy w' v.ownBlock → wpList Tryz.prog ops Q rest (a.put o.dst v') w') : wpList Tryz.prog ops Q (o :: rest) a w := by
  obtain ⟨i0, hz, hz0, hz1, hz2⟩ := info_parts zeroAe
  cases ao with
  | none =>
    obtain rfl := hn rfl
    have hm : m = 0 := by
      by_cases hm : 0 < m
      · obtain ⟨_, _, e, _⟩ := hT.2 hm; cases e
      · omega
    subst hm
    have hl : l = [] := List.eq_nil_of_length_eq_zero hT.1
    subst hl
    exact wpList_append_own_none hgd s x Tens ho base Tae i0 2 Tryz.underlying26 hz v acc.length (pflatE acc) hs hown hx (h _ w (by rw [List.append_nil]; exact hown) (World.grownBy.refl w _))
  | some ad =>
    obtain ⟨b, off, sp⟩ := ad
    obtain rfl : sp = none := ha _ rfl
    refine wpList_append_own_wide w hgd s x Tens ho base Tae i0 (.agg #[.string ⟨#[]⟩, .int .u64 0]) 2 24 Tryz.underlying26 hz hz0 hz1 hz2 rfl (by decide) v acc.length (pflatE acc) hs hown ⟨b, off, none⟩ m c (pflatE l) hx (by rw [pflatE_len, hT.1]) hT.news (pflatE_one l) (by unfold maxLen; omega) (by omega) hbase ?_
    intro v' w' own grow _
    refine h v' w' ?_ grow
    unfold pOwE
    rw [pflatE_append, List.length_append, hT.1]
    exact own
abbrev snV (c : Nat) (A : Option Addr) (n cap : Nat) : Value := .agg #[.int .u64 (c : Int), .slice A n cap]
abbrev Tsn : TypeId := 28
theorem Tch.own {w w' : World} {base : Nat} {v : Value} {e : TypeId} {size n : Nat} {xs : List Value} (h : w.ownsRow base e size v n xs) (g : w.grownBy w' v.ownBlock) : Tch (fun b => base ≤ b) w w' :=
  ⟨g.os, g.tape, g.output, g.size, fun k hk hn => g.block k hk (fun e => hn (World.ownsRow.lt h k e.symm).1)⟩
theorem Tch.far {w0 a b : World} {R : Nat} (h : Tch (fun x => x = R) w0 a) (g : Tch (fun x => w0.heap.size ≤ x) a b) : Tch (fun x => x = R) w0 b :=
  h.next (g.mono (fun k _ e => .inr e))
theorem ens_one (w : World) (x : pEn) : Ens (w.alloc (.cells (pEn.cs x) Tae)) (some ⟨w.heap.size, 0, none⟩) 1 [x] := by
  refine ⟨rfl, fun _ => ⟨w.heap.size, 0, rfl, by simp, fun j hj => ?_⟩⟩
  obtain rfl : j = 0 := by omega
  exact (Blk.new w (pEn.cs x) Tae).ptwo
theorem pOwE.mono {w : World} {a b : Nat} {v : Value} {l : List pEn} (h : pOwE w a v l) (hb : b ≤ a) : pOwE w b v l := ⟨h.1, by
  rcases h.2 with e | ⟨g, cap, cur, e, hg, r⟩
  · exact .inl e
  · exact .inr ⟨g, cap, cur, e, Nat.le_trans hb hg, r⟩⟩
def Rws (w : World) (A : Option Addr) (n : Nat) : Prop :=
  ∀ i, i < n → ∃ b off A' n' c', A = some ⟨b, off, none⟩ ∧ w.cell? ⟨b, off + i, none⟩ = some (.slice A' n' c') ∧ n' ≤ 9223372036854775807 ∧ Byts w A' n'
theorem Rws.below {w w' : World} {A : Option Addr} {n : Nat} (h : Rws w A n) (k : Below w.heap.size w w') : Rws w' A n := fun i hi => by
  obtain ⟨b, off, A', n', c', e, hc, hn, hb⟩ := h i hi
  exact ⟨b, off, A', n', c', e, celln k hc, hn, hb.below k⟩
def U16s (w : World) (A : Option Addr) (n : Nat) : Prop :=
  ∀ i, i < n → ∃ b off, ∃ v : Nat, A = some ⟨b, off, none⟩ ∧ w.cell? ⟨b, off + i, none⟩ = some (.int .u16 (v : Int)) ∧ v < 65536
theorem U16s.below {w w' : World} {A : Option Addr} {n : Nat} (h : U16s w A n) (k : Below w.heap.size w w') : U16s w' A n := fun i hi => by
  obtain ⟨b, off, v, e, hc, hv⟩ := h i hi
  exact ⟨b, off, v, e, celln k hc, hv⟩
theorem short_rt {s : ByteArray} (h : Short s) : rtB (lb s) = true := by
  unfold rtB
  rw [list_size, h.2, decide_eq_true ⟨h.1.1, by have := h.1.2; omega⟩]; rfl
structure Okx (k : Nat) (xs : List pEn) : Prop where
  up : up [] xs = true
  len : xs.length ≤ k
  sz : ∀ x ∈ xs, x.1.size ≤ 12 ∧ x.2 < 18446744073709551616
theorem wgt_12 : ∀ (xs : List pEn), (∀ x ∈ xs, x.1.size ≤ 12 ∧ x.2 < 18446744073709551616) → wgt xs ≤ 21 * xs.length
  | [], _ => Nat.le_refl _
  | x :: xs, h => by
    have h1 := (h x (List.mem_cons_self ..)).1
    have h2 := wgt_12 xs (fun y hy => h y (List.mem_cons_of_mem _ hy))
    rw [wgt, List.length_cons]; omega
theorem Okx.wgt {k : Nat} {xs : List pEn} (h : Okx k xs) (hk : k ≤ 10) : wgt xs ≤ 210 := by
  have := wgt_12 xs h.sz
  have := h.len; omega
theorem up_ins : ∀ (j : Nat) (xs : List pEn) (ah : List UInt8) (x : pEn), up ah xs = true → rtB (lb x.1) = true → ls ah (lb x.1) = true → j ≤ xs.length → (∀ i, i < j → ls (lb (patE xs i).1) (lb x.1) = true) → (j < xs.length → ls (lb x.1) (lb (patE xs j).1) = true) → up ah (xs.take j ++ x :: xs.drop j) = true
  | 0, xs, ah, x, h, hr, ha, _, _, hb => by
    cases xs with
    | nil => simp only [List.take_nil, List.drop_nil, List.nil_append, up, hr, ha, Bool.and_self]
    | cons y r =>
      have h' := h
      simp only [up, Bool.and_eq_true] at h'
      have := hb (by simp)
      simp only [patE, List.getD_cons_zero] at this
      simp only [List.take_zero, List.drop_zero, List.nil_append, up, hr, ha, h'.1, this, h'.2.2, Bool.and_self]
  | j + 1, xs, ah, x, h, hr, ha, hj, hl, hb => by
    cases xs with
    | nil => simp at hj
    | cons y r =>
      simp only [up, Bool.and_eq_true] at h
      have h0 := hl 0 (by omega)
      simp only [patE, List.getD_cons_zero] at h0
      have ih := up_ins j r (lb y.1) x h.2.2 hr h0 (by simpa using hj) (fun i hi => by have := hl (i + 1) (by omega); simpa [patE] using this) (fun hlt => by have := hb (by simpa using hlt); simpa [patE] using this)
      simp only [List.take_succ_cons, List.drop_succ_cons, List.cons_append, up, h.1, h.2.1, ih, Bool.and_self]
theorem Okx.ins {k j : Nat} {xs : List pEn} {x : pEn} (h : Okx k xs) (hx : Short x.1) (hu : x.2 < 18446744073709551616) (hj : j ≤ xs.length) (hl : ∀ i, i < j → ls (lb (patE xs i).1) (lb x.1) = true) (hb : j < xs.length → ls (lb (patE xs j).1) (lb x.1) = false ∧ (patE xs j).1 ≠ x.1) : Okx (k + 1) (xs.take j ++ [x] ++ xs.drop j) := by
  have hr := short_rt hx
  refine ⟨?_, ?_, ?_⟩
  · rw [List.append_assoc, List.singleton_append]
    refine up_ins j xs [] x h.up hr (ls_none (rt_ne hr).1) hj hl (fun hlt => ?_)
    obtain ⟨h1, h2⟩ := hb hlt
    have t := ls_total (lb (patE xs j).1) (lb x.1)
    rw [h1, Bool.false_or] at t
    rw [t]
    have hne : lb (patE xs j).1 ≠ lb x.1 := fun e => h2 (by rw [← str_lb (patE xs j).1, e, str_lb])
    rw [beq_eq_false_iff_ne.2 hne]; rfl
  · have := h.len
    simp; omega
  · intro y hy
    simp only [List.mem_append, List.mem_singleton] at hy
    rcases hy with (hy | rfl) | hy
    · exact h.sz y (List.mem_of_mem_take hy)
    · exact ⟨hx.1.2, hu⟩
    · exact h.sz y (List.mem_of_mem_drop hy)
theorem Okx.nil : Okx 0 [] := ⟨rfl, Nat.le_refl _, fun x hx => nomatch hx⟩
theorem Okx.next {k : Nat} {xs : List pEn} (h : Okx k xs) : Okx (k + 1) xs := ⟨h.up, by have := h.len; omega, h.sz⟩
theorem pOwE.form2 {w : World} {base : Nat} {v : Value} {xs : List pEn} (h : pOwE w base v xs) : ∃ A cap, v = .slice A xs.length cap ∧ xs.length ≤ cap ∧ cap ≤ 9223372036854775807 ∧ Ens w A xs.length xs ∧ (A = none → cap = 0) ∧ (∀ ad, A = some ad → ad.spot = none) := by
  rcases h.2 with ⟨rfl, h0⟩ | ⟨g, cap, cur, rfl, hb, hgg, h1, h2, h3, h4⟩
  · exact ⟨none, 0, by rw [h0], by omega, by omega, ⟨rfl, fun hp => by omega⟩, fun _ => rfl, fun ad e => by cases e⟩
  · obtain ⟨A, c, e, _, _, h5, _⟩ := h.form
    simp only [Value.slice.injEq] at e
    obtain ⟨rfl, _, rfl⟩ := e
    exact ⟨_, _, rfl, h1, h2, h5, (fun e => by cases e), fun ad e => by cases e; rfl⟩
theorem eslice_front (A : Option Addr) (n cap i : Nat) (hi : i ≤ cap) (hcap : cap ≤ 9223372036854775807) (W : World) : (Instr.slice Tens (.slice A n cap) none (some (.int .i64 (i : Int))) none).run Tryz.prog W = .ok (.slice A i cap) W := by
  obtain ⟨i0, hz, hz0, hz1, hz2⟩ := info_parts zeroAe
  simp [go_sem, Tryz.underlying26, sizeOf, typeInfo, hz, hz1, hi]
theorem eslice_rest (A : Option Addr) (n cap i : Nat) (hi : i ≤ n) (hn : n ≤ cap) (h0 : A = none → cap = 0) : ∃ A', (∀ W : World, (Instr.slice Tens (.slice A n cap) (some (.int .i64 (i : Int))) none none).run Tryz.prog W = .ok (.slice A' (n - i) (cap - i)) W) ∧
    (∀ (W : World) (l : List pEn), Ens W A n l → Ens W A' (n - i) (l.drop i)) ∧ (A' = none → cap - i = 0) ∧ ((∀ ad, A = some ad → ad.spot = none) → ∀ ad, A' = some ad → ad.spot = none) := by
  obtain ⟨i0, hz, hz0, hz1, hz2⟩ := info_parts zeroAe
  refine ⟨if cap = i then A else A.map (·.add (i * 2)), fun W => ?_, fun W l h => ?_, fun h => ?_, fun h ad e => ?_⟩
  · simp [go_sem, Tryz.underlying26, sizeOf, typeInfo, hz, hz1, hi, sliced]
  · refine ⟨by rw [List.length_drop, h.1], fun hp => ?_⟩
    obtain ⟨b, off, rfl, hb, hc⟩ := h.2 (by omega)
    rw [if_neg (by omega)]
    obtain ⟨b2, off2, e2, h2⟩ := (h.cut hi).2 hp
    simp only [Option.some.injEq, Addr.mk.injEq] at e2
    obtain ⟨rfl, rfl, _⟩ := e2
    exact ⟨b, off + i * 2, by simp [Go.WideShapes.add_plain], h2⟩
  · split at h
    · rw [h0 h]; simp
    · cases A with
      | none => rw [h0 rfl]; simp
      | some ad => simp at h
  · split at e
    · exact h ad e
    · cases A with
      | none => simp at e
      | some ad' =>
        have := h ad' rfl
        obtain ⟨b, off, sp⟩ := ad'
        simp at this
        subst this
        simp [Go.WideShapes.add_plain] at e
        rw [← e]
abbrev sn0 : Array Value := #[.int .u64 0, .slice none 0 0]
structure Si (w wr : World) (c : Nat) (v : Value) (xs : List pEn) : Prop where
  b6 : Blk wr w.heap.size sn0 Tsn
  b7 : Blk wr (w.heap.size + 1) #[.int .u64 (c : Int), v] Tsn
  own : pOwE wr (w.heap.size + 2) v xs
  bel : Below w.heap.size w wr
theorem Si.next {w wr w' : World} {c : Nat} {v : Value} {xs : List pEn} (h : Si w wr c v xs) (g : Below wr.heap.size wr w') : Si w w' c v xs := ⟨h.b6.below g, h.b7.below g, h.own.below g, kbq h.bel g⟩
theorem Si.size {w wr : World} {c : Nat} {v : Value} {xs : List pEn} (h : Si w wr c v xs) : w.heap.size + 2 ≤ wr.heap.size := by have := h.b7.lt; omega
theorem Si.far {w wr w' : World} {c : Nat} {v : Value} {xs : List pEn} (h : Si w wr c v xs) (g : Tch (fun b => wr.heap.size ≤ b) wr w') : Si w w' c v xs := h.next (g.below (Nat.le_refl _) (fun k e => e))
structure Lo (wd wr : World) (v : Value) (acc : List pEn) : Prop where
  own : pOwE wr wd.heap.size v acc
  bel : Below wd.heap.size wd wr
theorem Lo.size {wd wr : World} {v : Value} {acc : List pEn} (h : Lo wd wr v acc) : wd.heap.size ≤ wr.heap.size := h.bel.size
theorem Lo.nil (wd : World) : Lo wd wd (.slice none 0 0) [] := ⟨pOwE.nil _ _, Below.refl _ _⟩
theorem Lo.app {wd a b : World} {v v' : Value} {acc acc' : List pEn} (h : Lo wd a v acc) (o : pOwE b wd.heap.size v' acc') (g : a.grownBy b v.ownBlock) : Lo wd b v' acc' :=
  ⟨o, h.bel.trans ((Tch.own h.own g).below h.size (fun k e => e))⟩
theorem Lo.next {wd a b : World} {v : Value} {acc : List pEn} (h : Lo wd a v acc) (g : Below a.heap.size a b) : Lo wd b v acc := ⟨h.own.below g, kbq h.bel g⟩
theorem atE_len {xs : List pEn} {k : Nat} (h : k < xs.length) {kk : Nat} (O : Okx kk xs) : (patE xs k).1.size ≤ 12 := (O.sz _ (patE_mem h)).1
theorem ptext_same {a b : ByteArray} : (a.toList == b.toList) = decide (a = b) := by
  rw [Bool.eq_iff_iff, beq_iff_eq, decide_eq_true_eq, ByteArray.toList_eq, ByteArray.toList_eq]
  constructor
  · intro h; rw [← str_lb a, ← str_lb b, lb, lb, h]
  · intro h; rw [h]
def Tst (t : Bool) (p : Prop) : Prop := t = true ↔ p
set_option maxHeartbeats 8000000 in
theorem snap_any (c : Nat) (A : Option Addr) (n cap : Nat) (F : Option Addr) (m fcap : Nat) (w : World) (hc : c < 18446744073709551616) (h : Rws w A n) (hn : n ≤ 9223372036854775807) (hF : U16s w F m) (hm : m ≤ 9223372036854775807) :
    Calls Tryz.prog 14 #[.int .u64 (c : Int), .slice A n cap, .slice F m fcap] w fun e w' => ∃ B k d xs, e = .returned (snV c B k d) ∧ pOwE w' w.heap.size (.slice B k d) xs ∧ Hid (Okx 10 xs) ∧ Below w.heap.size w w' := by
  have s0 : Si w ((w.alloc (.cells sn0 Tsn)).alloc (.cells #[.int .u64 (c : Int), .slice none 0 0] Tsn)) c (.slice none 0 0) [] := by
    have k0 := (((Below.refl _ w).alloc (Nat.le_refl _) (.cells sn0 Tsn)).alloc (by simp) (.cells #[.int .u64 (c : Int), .slice none 0 0] Tsn))
    have q := Blk.new (w.alloc (.cells sn0 Tsn)) #[.int .u64 (c : Int), .slice none 0 0] Tsn
    rw [show (w.alloc (.cells sn0 Tsn)).heap.size = w.heap.size + 1 by simp] at q
    exact ⟨(Blk.new w _ Tsn).alloc _, q, pOwE.nil _ _, k0⟩
  replace s0 := Lib.hid s0
  have H := Lib.hid h
  have HF := Lib.hid hF
  clear h hF
  go_enter Tryz.func14, Tryz.ntmps14
  go_wp2_with fail
  generalize (w.alloc (.cells sn0 Tsn)).alloc (.cells #[.int .u64 (c : Int), .slice none 0 0] Tsn) = W at *
  go_loopw [8, 9, 10, 11] (fun s8 s9 s10 s11 wr => ∃ (k : Nat) (v v9 v10 v11 : Value) (xs : List pEn), s8 = .int .i64 (k : Int) ∧ s9 = v9 ∧ s10 = v10 ∧ s11 = v11 ∧ k ≤ n ∧ k ≤ 10 ∧ Si w wr c v xs ∧ Hid (Okx k xs)) (fun s8 _ _ _ _ => 10 - (intOf s8).toNat)
  case atStart => exact ⟨0, _, _, _, _, [], rfl, rfl, rfl, rfl, by omega, by omega, s0.out, Lib.hid Okx.nil⟩
  case round =>
    obtain ⟨k, v, v9, v10, v11, xs, rfl, rfl, rfl, rfl, hk, hk10, S, O⟩ := hrel
    clear s0
    by_cases hgo : k < n ∧ k < 10
    · obtain ⟨h1, h2⟩ := hgo
      have d1 : decide ((k : Int) < (n : Int)) = true := decide_eq_true (by omega)
      have d2 : decide ((k : Int) < 10) = true := decide_eq_true (by omega)
      obtain ⟨bA, oA, A', n', c', rfl, hcA, hn', hby⟩ := (H.out.below S.bel) k h1
      have CK := Lib.hid (fun W' (g : Below wr.heap.size wr W') => pkey_any A' n' c' W' (hby.below g) hn')
      obtain ⟨u1, hu1⟩ : ∃ u1 : Nat, IntKind.u64.wrap ((c : Int) + 1) = (u1 : Int) := ⟨(IntKind.u64.wrap ((c : Int) + 1)).toNat, by rw [IntKind.wrap_u64]; omega⟩
      have hu1b : u1 < 18446744073709551616 := by rw [IntKind.wrap_u64] at hu1; omega
      have SS := Lib.hid S
      have hsz := S.size
      clear S hby
      go_upto_region 6 with (go_at_call 45; refine (CK.out _ (Below.refl _ _)).mono ?_; rintro e w1 ⟨s, rfl, hs, hs12, g1⟩)
      have q1 := Lib.hid (Blk.new w1 (pEn.cs (s, u1)) Tae)
      have T1 := Lib.hid ((Tch.of (S := fun b => wr.heap.size ≤ b) (g1.alloc g1.size (.cells (pEn.cs (s, u1)) Tae))))
      have F1 := Lib.hid ((HF.out.below (SS.out.bel)).below (g1.alloc g1.size (.cells (pEn.cs (s, u1)) Tae)))
      have hXb := g1.size
      clear CK hcA g1 hn'
      generalize hX : w1.heap.size = X at *
      generalize w1.alloc (.cells #[.string s, .int .u64 (u1 : Int)] Tae) = W1 at *
      go_upto_if 35 with fail
      go_cut [43] from 36 to 43 (fun _ wx => ∃ u : Nat, Hid (u < 18446744073709551616) ∧ Hid (Blk wx X (pEn.cs (s, u)) Tae) ∧ Hid (Tch (fun b => wr.heap.size ≤ b) wr wx))
      case first =>
        by_cases hlt : k < m
        rotate_left
        · go_wp2
          go_meet
          case rel => exact ⟨u1, Lib.hid hu1b, q1, T1⟩
        · have hltI : (k : Int) < (m : Int) := by omega
          obtain ⟨bF, oF, vF, rfl, hcF, hvF⟩ := F1.out k hlt
          obtain ⟨u2, hu2⟩ : ∃ u2 : Nat, IntKind.u64.wrap ((c : Int) + (vF : Int)) = (u2 : Int) := ⟨(IntKind.u64.wrap ((c : Int) + (vF : Int))).toNat, by rw [IntKind.wrap_u64]; omega⟩
          have hu2b : u2 < 18446744073709551616 := by rw [IntKind.wrap_u64] at hu2; omega
          have hwF : IntKind.u64.wrap (vF : Int) = (vF : Int) := by rw [IntKind.wrap_u64]; omega
          obtain ⟨y0, y1⟩ := q1.out.ptwo
          have z1 := q1.out.fz 1
          dsimp only at y0 y1
          clear F1 HF
          go_wp2
          go_meet
          case rel =>
            refine ⟨u2, Lib.hid hu2b, Lib.hid ?_, Lib.hid (T1.out.trans (Tch.set _ _ _ _ (by omega)))⟩
            have z := q1.out.set 1 (.int .u64 (u2 : Int))
            exact z
      case rest =>
      obtain ⟨u, hub, q2, T2⟩ := hcut
      have pS2 := Lib.hid (SS.out.far T2.out)
      have hwc : w.heap.size + 2 ≤ wc.heap.size := pS2.out.size
      clear T1 F1 q1 SS T2
      obtain ⟨Av, cv, rfl, hc1, hc2, hEn, hA0, hAs⟩ := pS2.out.own.form2
      have HE := Lib.hid hEn
      have HA0 := Lib.hid hA0
      have HAs := Lib.hid hAs
      have hlen : xs.length ≤ 10 := by have := O.out.len; omega
      clear hEn hA0 hAs
      go_wp2_with fail
      go_loopw [10] (fun s10 wd => ∃ j : Nat, s10 = .int .i64 (j : Int) ∧ j ≤ xs.length ∧ Hid (∀ i, i < j → ls (lb (patE xs i).1) (lb s) = true) ∧ Drew wc wd) (fun s10 _ => xs.length - (intOf s10).toNat)
      case atStart => exact ⟨0, rfl, by omega, Lib.hid (fun i hi => absurd hi (by omega)), Drew.refl _⟩
      case round =>
        obtain ⟨j, rfl, hj, D, hd⟩ := hrel
        have S3 := Lib.hid (pS2.out.next hd.kept.2)
        have q3 := Lib.hid (q2.out.below hd.kept.2)
        have E3 := Lib.hid (HE.out.below hd.kept.2)
        clear pS2 q2 HE
        have x1 := S3.out.b7.cell 1
        simp at x1
        obtain ⟨y0, y1⟩ := q3.out.ptwo
        dsimp only at y0 y1
        go_upto_region 9 with fail
        go_cut [59] from 44 to 59 (fun v wx => ∃ t : Bool, v = .bool t ∧ Hid (Tst t (j < xs.length ∧ ls (lb (patE xs j).1) (lb s) = true)) ∧ Drew wr wx)
        case first =>
          by_cases hjl : j < xs.length
          · obtain ⟨bv, ov, rfl, hbv, hcv⟩ := E3.out.2 (by omega)
            obtain ⟨e0, e1⟩ := hcv j hjl
            have hks := atE_len hjl O.out
            have d3 : decide ((j : Int) < (xs.length : Int)) = true := decide_eq_true (by omega)
            obtain ⟨r, hr⟩ : ∃ r, r = ls (lb (patE xs j).1) (lb s) := ⟨_, rfl⟩
            have L1 := Lib.hid (fun W' => rless_any (patE xs j).1 s W' (by omega) (by omega))
            rw [← hr] at L1
            have HR := Lib.hid hr
            clear hr
            obtain ⟨ky, hky⟩ : ∃ ky, ky = (patE xs j).1 := ⟨_, rfl⟩
            rw [← hky] at L1 e0 hks
            clear hcv hbv hky
            go_wp2_with fail
            go_quiet ((go_at_call 46; exact Calls.quiet_of (L1.out _)))
            go_wp2
            go_meet
            case rel => exact ⟨r, rfl, Lib.hid ⟨fun e => ⟨hjl, HR.out.symm.trans e⟩, fun e => HR.out.trans e.2⟩, ⟨_, rfl⟩⟩
          · have d3 : decide ((j : Int) < (xs.length : Int)) = false := decide_eq_false (by omega)
            go_wp2_with fail
            go_quiet (fail)
            go_wp2
            go_meet
            case rel => exact ⟨false, rfl, Lib.hid ⟨(fun e => by cases e), fun e => absurd e.1 hjl⟩, ⟨_, rfl⟩⟩
        case rest =>
        obtain ⟨t, rfl, ht, hdr⟩ := hcut
        cases t with
        | true =>
          obtain ⟨g1, g2⟩ := ht.out.1 rfl
          clear S3 q3 E3 x1 y0 y1
          go_wp2
          go_roundw
          case rel =>
            refine ⟨j + 1, by go_num, by omega, Lib.hid (fun i hi => ?_), hd.trans hdr⟩
            by_cases e : i = j
            · subst e; exact g2
            · exact D.out i (by omega)
          case measure => simp [intOf]; omega
        | false =>
          have hno : Hid (j < xs.length → ls (lb (patE xs j).1) (lb s) = false) := Lib.hid (fun g => by
            cases e : ls (lb (patE xs j).1) (lb s) with
            | false => rfl
            | true => exact absurd (ht.out.2 ⟨g, e⟩) (by decide))
          have S4 := Lib.hid (S3.out.next hdr.kept.2)
          have q4 := Lib.hid (q3.out.below hdr.kept.2)
          have E4 := Lib.hid (E3.out.below hdr.kept.2)
          clear S3 q3 E3 x1 y0 y1 ht hdr
          have x1 := S4.out.b7.cell 1
          simp at x1
          obtain ⟨y0, y1⟩ := q4.out.ptwo
          dsimp only at y0 y1
          go_upto_region 11 with fail
          go_cut [77] from 62 to 77 (fun v wx => ∃ t : Bool, v = .bool t ∧ Hid (Tst t (j < xs.length ∧ (patE xs j).1 = s)) ∧ Drew wc wx)
          case first =>
            by_cases hjl : j < xs.length
            · obtain ⟨bv, ov, rfl, hbv, hcv⟩ := E4.out.2 (by omega)
              obtain ⟨e0, e1⟩ := hcv j hjl
              have d3 : decide ((j : Int) < (xs.length : Int)) = true := decide_eq_true (by omega)
              obtain ⟨ky, hky⟩ : ∃ ky, ky = (patE xs j).1 := ⟨_, rfl⟩
              rw [← hky] at e0
              have HKY := Lib.hid hky
              clear hcv hbv hky
              go_wp2_with fail
              go_quiet (fail)
              go_wp2
              go_meet
              case rel => exact ⟨decide (ky = s), by rw [ptext_same], Lib.hid ⟨fun e => ⟨hjl, HKY.out.symm.trans (of_decide_eq_true e)⟩, fun e => decide_eq_true (HKY.out.trans e.2)⟩, ⟨_, rfl⟩⟩
            · have d3 : decide ((j : Int) < (xs.length : Int)) = false := decide_eq_false (by omega)
              go_wp2_with fail
              go_quiet (fail)
              go_wp2
              go_meet
              case rel => exact ⟨false, rfl, Lib.hid ⟨(fun e => by cases e), fun e => absurd e.1 hjl⟩, ⟨_, rfl⟩⟩
          case rest =>
          obtain ⟨t, rfl, ht, hdr⟩ := hcut
          have S5 := Lib.hid (S4.out.next hdr.kept.2)
          have q5 := Lib.hid (q4.out.below hdr.kept.2)
          have E5 := Lib.hid (E4.out.below hdr.kept.2)
          clear S4 q4 E4 x1 y0 y1
          cases t with
          | true =>
            go_wp2
            go_roundw
            case rel => exact ⟨k + 1, _, _, _, _, xs, by go_num, rfl, rfl, rfl, by omega, by omega, S5.out, Lib.hid O.out.next⟩
            case measure => simp [intOf]; omega
          | false =>
            have OI : Hid (Okx (k + 1) (xs.take j ++ [(s, u)] ++ xs.drop j)) := Lib.hid (O.out.ins hs.out hub.out hj D.out (fun hlt => ⟨hno.out hlt, fun e => absurd (ht.out.2 ⟨hlt, e⟩) (by decide)⟩))
            clear ht hno D O
            have hfr := eslice_front Av xs.length cv j (by omega) hc2
            obtain ⟨A2, hbk, hbE, hbn, hbs⟩ := eslice_rest Av xs.length cv j hj hc1 HA0.out
            have HE6 := Lib.hid (E5.out.front hj)
            have HE7 := Lib.hid (hbE wc xs E5.out)
            have HBS := Lib.hid (hbs HAs.out)
            have HBN := Lib.hid hbn
            have L0 := Lib.hid (Lo.nil wc)
            have hwb : w.heap.size + 2 ≤ wc.heap.size := S5.out.size
            have hXw : X < wc.heap.size := q5.out.lt
            clear hbE hbs hbn E5
            have x1 := S5.out.b7.cell 1
            simp at x1
            go_upto_region 14 with (refine wpList_app_en _ rfl _ _ rfl wc.heap.size _ [] rfl L0.out.own Av j cv (xs.take j) rfl HE6.out HA0.out HAs.out (by simp; omega) (Nat.le_refl _) ?_; intro v4 w4 o4 g4)
            have L1 := Lib.hid (L0.out.app o4 g4)
            rw [List.nil_append] at L1
            have q6 := Lib.hid (q5.out.below L1.out.bel)
            clear L0 o4 g4 x1 q5
            obtain ⟨y0, y1⟩ := q6.out.ptwo
            dsimp only at y0 y1
            have NE := Lib.hid (ens_one w4 (s, u))
            have L2 := Lib.hid (L1.out.next ((Below.refl _ w4).alloc (Nat.le_refl _) (.cells (pEn.cs (s, u)) Tae)))
            have hb2 : wc.heap.size ≤ (w4.alloc (.cells (pEn.cs (s, u)) Tae)).heap.size := L2.out.size
            have hl2 : (xs.take j).length + 1 ≤ 1099511627776 := by rw [List.length_take]; omega
            go_upto_region 15 with (refine wpList_app_en _ rfl _ _ rfl wc.heap.size _ (xs.take j) rfl L2.out.own (some ⟨w4.heap.size, 0, none⟩) 1 1 [(s, u)] rfl NE.out (fun e => by cases e) (fun ad e => by cases e; rfl) hl2 hb2 ?_; intro v5 w5 o5 g5)
            have L3 := Lib.hid (L2.out.app o5 g5)
            clear L1 L2 NE o5 g5 y0 y1 q6
            have S6 := Lib.hid (S5.out.next L3.out.bel)
            have x1 := S6.out.b7.cell 1
            simp at x1
            have HE8 := Lib.hid (HE7.out.below L3.out.bel)
            have hb3 : wc.heap.size ≤ w5.heap.size := L3.out.size
            have hl3 : (xs.take j ++ [(s, u)]).length + (xs.length - j) ≤ 1099511627776 := by simp; omega
            go_upto_region 16 with (refine wpList_app_en _ rfl _ _ rfl wc.heap.size _ (xs.take j ++ [(s, u)]) rfl L3.out.own A2 (xs.length - j) (cv - j) (xs.drop j) rfl HE8.out HBN.out HBS.out hl3 hb3 ?_; intro v6 w6 o6 g6)
            have L4 := Lib.hid (L3.out.app o6 g6)
            clear L3 o6 g6 x1 S6 HE8
            obtain ⟨A6, c6, rfl, _, _, _, _, _⟩ := L4.out.own.form2
            generalize hL6 : (xs.take j ++ [(s, u)] ++ xs.drop j).length = n6 at *
            have S7 := Lib.hid (S5.out.next L4.out.bel)
            have x1 := S7.out.b7.cell 1
            have f1 := S7.out.b7.fz 1
            simp at x1
            go_wp2
            go_roundw
            case rel =>
              refine ⟨k + 1, .slice A6 n6 c6, _, _, _, xs.take j ++ [(s, u)] ++ xs.drop j, by go_num, rfl, rfl, rfl, by omega, by omega, ?_, OI⟩
              have tt := Tch.set (S := fun b => b = w.heap.size + 1) w6 (w.heap.size + 1) 1 (.slice A6 n6 c6) rfl
              refine ⟨S7.out.b6.other _ _ (by omega), by have z := S7.out.b7.set 1 (.slice A6 n6 c6); exact z, ?_, S7.out.bel.setCell (p := ⟨w.heap.size + 1, 1, none⟩) (Nat.le_succ _) _⟩
              exact pOwE.mono (own_tch L4.out.own tt (fun kk hk _ e => by omega)) hwb
            case measure => simp [intOf]; omega
    · have O2 : Hid (Okx 10 xs) := Lib.hid ⟨O.out.up, by have := O.out.len; omega, O.out.sz⟩
      have HS := Lib.hid S
      obtain ⟨Av, cv, rfl, _, _, _, _, _⟩ := HS.out.own.form2
      have x0 := HS.out.b7.cell 0
      have x1 := HS.out.b7.cell 1
      have z0 := HS.out.b6.cell 0
      have z1 := HS.out.b6.cell 1
      have f0 := HS.out.b6.fz 0
      have f1 := HS.out.b6.fz 1
      simp at x0 x1 z0 z1
      clear S O H HF
      by_cases hkn : k < n
      · have d1 : decide ((k : Int) < (n : Int)) = true := decide_eq_true (by omega)
        have d2 : decide ((k : Int) < 10) = false := decide_eq_false (by omega)
        go_wp2
        have z := (HS.out.b6.set 0 (.int .u64 (c : Int))).set 1 (.slice Av xs.length cv)
        have y0 := z.cell 0
        have y1 := z.cell 1
        simp at y0 y1
        have tt : Tch (fun b => b = w.heap.size) wr ((wr.setCell ⟨w.heap.size, 0, none⟩ (.int .u64 (c : Int))).setCell ⟨w.heap.size, 1, none⟩ (.slice Av xs.length cv)) := tset (tset (Tch.refl _ _) (.inl rfl)) (.inl rfl)
        refine bodyPost_ret (v := snV c Av xs.length cv) ?_ rfl ⟨Av, xs.length, cv, xs, rfl, pOwE.mono (own_tch HS.out.own tt (fun kk hk _ e => by omega)) (Nat.le_add_right _ 2), O2, (HS.out.bel.setCell (p := ⟨w.heap.size, 0, none⟩) (Nat.le_refl _) _).setCell (p := ⟨w.heap.size, 1, none⟩) (Nat.le_refl _) _⟩
        simp [results, Tryz.f14, go_sem, y0, y1]
      · have d1 : decide ((k : Int) < (n : Int)) = false := decide_eq_false (by omega)
        go_wp2
        have z := (HS.out.b6.set 0 (.int .u64 (c : Int))).set 1 (.slice Av xs.length cv)
        have y0 := z.cell 0
        have y1 := z.cell 1
        simp at y0 y1
        have tt : Tch (fun b => b = w.heap.size) wr ((wr.setCell ⟨w.heap.size, 0, none⟩ (.int .u64 (c : Int))).setCell ⟨w.heap.size, 1, none⟩ (.slice Av xs.length cv)) := tset (tset (Tch.refl _ _) (.inl rfl)) (.inl rfl)
        refine bodyPost_ret (v := snV c Av xs.length cv) ?_ rfl ⟨Av, xs.length, cv, xs, rfl, pOwE.mono (own_tch HS.out.own tt (fun kk hk _ e => by omega)) (Nat.le_add_right _ 2), O2, (HS.out.bel.setCell (p := ⟨w.heap.size, 0, none⟩) (Nat.le_refl _) _).setCell (p := ⟨w.heap.size, 1, none⟩) (Nat.le_refl _) _⟩
        simp [results, Tryz.f14, go_sem, y0, y1]
theorem enc_snap (c : Nat) (A : Option Addr) (n cap : Nat) (F : Option Addr) (m fcap : Nat) (w : World) (hc : c < 18446744073709551616) (h : Rws w A n) (hn : n ≤ 9223372036854775807) (hF : U16s w F m) (hm : m ≤ 9223372036854775807) :
    Calls Tryz.prog 14 #[.int .u64 (c : Int), .slice A n cap, .slice F m fcap] w fun e w' => ∃ B d xs, e = .returned (snV c B xs.length d) ∧ Ens w' B xs.length xs ∧ Hid (Okx 10 xs ∧ wgt xs ≤ 210 ∧ (∀ x ∈ xs, x.2 < 18446744073709551616)) ∧ Below w.heap.size w w' ∧ xs.length ≤ d ∧ d ≤ 9223372036854775807 ∧ (B = none → d = 0) ∧ (∀ ad, B = some ad → ad.spot = none) :=
  (snap_any c A n cap F m fcap w hc h hn hF hm).mono (by
    rintro e w' ⟨B, k, d, xs, rfl, o1, O, g1⟩
    obtain ⟨_, _, e, hk1, hk2, hE, hB0, hBs⟩ := o1.form2
    simp only [Value.slice.injEq] at e
    obtain ⟨rfl, rfl, rfl⟩ := e
    exact ⟨B, d, xs, rfl, hE, Lib.hid ⟨O.out, O.out.wgt (Nat.le_refl _), fun x hx => (O.out.sz x hx).2⟩, g1, hk1, hk2, hB0, hBs⟩)
end Go.Proofs.YtbejkcdaefkibaaGreat.Wd


namespace Go.Proofs.YtbejkcdaefkibaaGreat.Wd
open Go Go.RowKit Go.Deep Go.Shelf
set_option linter.unusedVariables false
set_option maxRecDepth 100000
attribute [local go_sem] Oper.semAt_some
abbrev rE8 : Rl := ⟨⟨#[]⟩, 8, 2, 3⟩
abbrev sE8 : Sl := ⟨tA, rE8, 3, 8, 5⟩
theorem ke1 : chN 2 5 [] tA rE8 1 = [sE8] := by kernel_rfl
theorem ke2 : entS 5 sE8 = (tA, 13) := by kernel_rfl
theorem ke3 (es : List En) : enR 0 [] 5 es = 29 := rfl
theorem okr_E8 : Okr rE8 := ⟨by decide, by unfold U; decide, by unfold U; decide, by decide⟩
set_option maxHeartbeats 4000000 in
theorem eknown_any (w : World) : Calls Tryz.prog 13 #[] w fun e w' => e = .returned (.bool true) ∧ Below w.heap.size w w' := by
  go_enter Tryz.func13, Tryz.ntmps13
  go_wp2_with (go_at_call 23; refine (new_any 2 _).mono ?_; rintro e W1 ⟨rfl, kb, ht, hs⟩; refine stopHere ?_)
  unfold Stop
  have H1 := Lib.hid (show Tbl W1 (w.heap.size + 1) (fun k => w.heap.size ≤ k ∧ k < W1.heap.size) 2 0 [] from ht)
  have K1 := Lib.hid kb
  obtain ⟨T, hT⟩ : ∃ T, w.heap.size + 1 = T := ⟨_, rfl⟩
  have C0 := tick_any _ _ 2 0 5 [] W1 H1.out (by unfold U; decide)
  rw [hT] at C0 ⊢
  have C0 := Lib.hid C0
  clear kb ht hs
  go_wp2_with (go_at_call 43; refine C0.out.mono ?_; rintro e W2 ⟨rfl, g, h2⟩; refine stopHere ?_)
  unfold Stop
  have K2 := Lib.hid (K1.out.trans (g.low (fun k h => h.1) K1.out.size))
  have h2' : Tbl W2 T (Nx (fun k => w.heap.size ≤ k ∧ k < W1.heap.size) W1) 2 5 [] := h2
  have C1 := charge_tab _ _ 2 5 [] tA rE8 1 W2 h2' (by decide) okr_E8 (by unfold U; decide)
  rw [ke1] at C1
  have C1 := Lib.hid C1
  have hs1 := K1.out.size
  have hlow : Hid (∀ k, Nx (fun k => w.heap.size ≤ k ∧ k < W1.heap.size) W1 k → w.heap.size ≤ k) := Lib.hid (fun k h => by rcases h with h | h <;> omega)
  clear g h2 h2' C0 H1 K1 hT hs1
  go_wp2_with (go_at_call 44; refine C1.out.mono ?_; rintro e W3 ⟨rfl, g, h3⟩; refine stopHere ?_)
  unfold Stop
  have K3 := Lib.hid (K2.out.trans (g.low hlow.out K2.out.size))
  have CL := Lib.hid (leave_any T _ 2 5 [sE8] W3 h3 (sort_all _ (by decide)))
  clear g h3 C1 K2 hlow
  go_wp2_with (go_at_call 21; refine CL.out.mono ?_; rintro e W4 ⟨v, xs, rfl, o4, TL, g⟩; refine stopHere ?_)
  unfold Stop
  obtain rfl : xs = [sE8] := told_single TL
  rw [show [sE8].map (entS 5) = [(tA, 13)] by rw [List.map_cons, ke2]; rfl] at o4
  obtain ⟨A, cap, rfl, _, hE⟩ := o4.ers
  have hE : Ers W4 A 1 [(tA, 13)] := hE
  have K4 := Lib.hid (kbq K3.out g)
  have b5 := Lib.hid (Blk.new W4 (spC 5 (.slice A 1 cap)) Tsp)
  have E5 := Lib.hid (hE.below ((Below.refl _ W4).alloc (Nat.le_refl _) (.cells (spC 5 (.slice A 1 cap)) Tsp)))
  have K5 := Lib.hid (K4.out.alloc K4.out.size (.cells (spC 5 (.slice A 1 cap)) Tsp))
  clear hE o4 TL g CL K3 K4
  go_upto_region 5 with fail
  generalize W4.alloc (.cells (spC 5 (.slice A 1 cap)) Tsp) = W5 at *
  have x0 := b5.out.cell 0
  have x1 := b5.out.cell 1
  simp at x0 x1
  have CR := eright_any 0 none 0 0 [] 5 A 1 cap [(tA, 13)] W5 (Rls.nil _ _) (by decide) (by decide) E5.out (fun x hx => by rw [List.mem_singleton.1 hx]; exact ⟨by decide, by unfold U; decide⟩) (by decide) (by unfold U; decide)
  rw [ke3] at CR
  have CR := Lib.hid CR
  obtain ⟨b, off, rfl, hb, hc⟩ := E5.out.2 (by decide)
  obtain ⟨y0, y1⟩ := hc 0 (by decide)
  have y0 : W5.cell? ⟨b, off, none⟩ = some (.string tA) := by simpa using y0
  have y1 : W5.cell? ⟨b, off + 1, none⟩ = some (.int .u64 13) := by simpa using y1
  clear hc
  go_wp2_with (go_at_call 26; refine CR.out.mono ?_; rintro e W6 ⟨rfl, g⟩)
  go_ret
  exact ⟨rfl, kbq K5.out g⟩
end Go.Proofs.YtbejkcdaefkibaaGreat.Wd


namespace Go.Proofs.YtbejkcdaefkibaaGreat.Wd
open Go Go.RowKit Go.Deep Go.Shelf
set_option linter.unusedVariables false
set_option maxRecDepth 100000
attribute [local go_sem] Oper.semAt_some
def toE (x : pEn) : En := (x.1, (x.2 : Int))
theorem patE_to (xs : List pEn) (k : Nat) (h : k < xs.length) : atE (xs.map toE) k = toE (patE xs k) := by
  simp only [atE, patE, List.getD_eq_getElem?_getD, List.getElem?_map]
  rw [List.getElem?_eq_getElem h]; rfl
theorem ens_ers {w : World} {A : Option Addr} {n : Nat} {xs : List pEn} (h : Ens w A n xs) : Ers w A n (xs.map toE) := by
  refine ⟨by rw [List.length_map]; exact h.1, fun h0 => ?_⟩
  obtain ⟨b, off, e, hb, hc⟩ := h.2 h0
  refine ⟨b, off, e, hb, fun k hk => ?_⟩
  rw [patE_to xs k (by rw [h.1]; exact hk)]
  exact ⟨(hc k hk).1, (hc k hk).2⟩
theorem ent_keepY {w w' : World} {base : Nat} {v : Value} {xs : List En} (h : OwE w base v xs) (g : Below w.heap.size w w') : OwE w' base v xs := own_below h g
theorem snap_late (c : Nat) (A : Option Addr) (n cap : Nat) (F : Option Addr) (m fcap : Nat) (w : World) (hc : c < 18446744073709551616) (h : Rws w A n) (hn : n ≤ 9223372036854775807) (hF : U16s w F m) (hm : m ≤ 9223372036854775807) :
    Calls Tryz.prog 14 #[.int .u64 (c : Int), .slice A n cap, .slice F m fcap] w fun e w' => ∃ B d N es, e = .returned (.agg (spC (c : Int) (.slice B N d))) ∧ Ers w' B N es ∧ (∀ x ∈ es, Oke x) ∧ N ≤ 10 ∧ Below w.heap.size w w' :=
  (enc_snap c A n cap F m fcap w hc h hn hF hm).mono (by
    rintro e w' ⟨B, d, xs, rfl, hE, O, g, _⟩
    refine ⟨B, d, xs.length, xs.map toE, rfl, ens_ers hE, fun y hy => ?_, O.out.1.len, g⟩
    obtain ⟨x, hx, rfl⟩ := List.mem_map.1 hy
    obtain ⟨h1, h2⟩ := O.out.1.sz x hx
    exact ⟨by show x.1.size ≤ _; omega, by show U (x.2 : Int); unfold U; omega⟩)
theorem enter_late (m : Int) (A : Option Addr) (n cap : Nat) (rs : List Rl) (C cl : Int) (A2 : Option Addr) (n2 cap2 : Nat) (es : List En) (w : World) (h : Rls w A n rs) (hn : n ≤ 1099511627776) (hm : 1 ≤ m ∧ m ≤ 1000000) (hP : AllR rs) (h2 : Ers w A2 n2 es) (hx : ∀ x ∈ es, Oke x) (hn2 : n2 ≤ 1000000000) (hC : U C) (hcl : U cl) (hle : C ≤ cl) (h0 : enR m rs C es = 0) :
    Calls Tryz.prog 25 #[.agg #[.int .i64 m, .slice A n cap], .int .u64 cl, .agg (spC C (.slice A2 n2 cap2))] w fun e w' => ∃ T B S, e = .returned (.tuple #[ptr T, .int .u16 0]) ∧ Tbl w' T B m cl S ∧ (∀ xs, Told S xs → xs.map (entS cl) = stE cl es) ∧ S.length ≤ 1000000 ∧ Below w.heap.size w w' :=
  (enter_ok m A n cap rs C cl A2 n2 cap2 es w h hn (by omega) h2 hx hn2 hC hcl h0).mono (by
    rw [show max cl C = cl by omega]
    obtain ⟨q1, q2, q3⟩ := acE_right (C := C) (X := cl) hP hm (fun K r e => find_okr h.2.1 K r e) hx hcl hle h0
    rintro e w' ⟨⟨_, T, B, S, e1, hT, hp, _⟩ | ⟨z, _⟩, g⟩
    · refine ⟨T, B, S, e1, hT, fun xs TL => ?_, ?_, g⟩
      · rw [told_ac hT.wf TL hp q3]; exact q2
      · have := hT.wf.len; have := hT.wf.m2; omega
    · exact absurd q1 z)
set_option maxHeartbeats 8000000 in
theorem late17_walk (most now d : Int) (A : Option Addr) (n cap : Nat) (Bc : Option Addr) (m2 cap2 : Nat) (F : Option Addr) (nf capf : Nat) (w : World) (hm : 0 ≤ most ∧ most ≤ 65535) (hA : Nmr w A n) (hn : n ≤ 9223372036854775807) (hB : Rws w Bc m2) (hm2 : m2 ≤ 9223372036854775807) (hw : 0 ≤ now ∧ now ≤ 18446744073709551615) (hd : 0 ≤ d ∧ d ≤ 65535) (hF : U16s w F nf) (hnf : nf ≤ 9223372036854775807) :
    Calls Tryz.prog 6 #[.int .u16 most, .slice A n cap, .slice Bc m2 cap2, .int .u64 now, .int .u16 d, .slice F nf capf] w fun e w' => e = .returned (.bool true) ∧ Below w.heap.size w w' := by
  have K0 := Lib.hid (fun V => eknown_any V)
  have CP := Lib.hid (policy_any most A n cap w hm hA hn)
  have HB := Lib.hid hB
  have HF := Lib.hid hF
  clear hA hB hF
  go_enter Tryz.func6, Tryz.ntmps6
  go_wp2
  go_loop [13, 14] (fun s13 s14 => ∃ (k : Nat) (x : Int), s13 = .int .i64 x ∧ s14 = .int .i64 (k : Int) ∧ k ≤ m2) (fun _ s14 => m2 - (intOf s14).toNat)
  case atStart => exact ⟨0, 0, rfl, rfl, by omega⟩
  case round =>
    obtain ⟨k, x, rfl, rfl, hk⟩ := hrel
    by_cases hx : x ≤ 300
    · have d2 : decide (x ≤ 300) = true := decide_eq_true hx
      by_cases hlt : k < m2
      · obtain ⟨b, off, A', n', c', rfl, hc, hn', _⟩ := HB.out k hlt
        have d1 : decide ((k : Int) < (m2 : Int)) = true := decide_eq_true (by omega)
        obtain ⟨y, hy⟩ : ∃ y, IntKind.i64.wrap (x + IntKind.i64.wrap (1 + (n' : Int))) = y := ⟨_, rfl⟩
        clear CP K0
        go_wp2
        go_round
        case rel => exact ⟨k + 1, _, rfl, by go_num, by omega⟩
        case measure => simp [intOf]; omega
      · have d1 : decide ((k : Int) < (m2 : Int)) = false := decide_eq_false (by omega)
        have d3 : decide (300 < x) = false := decide_eq_false (by omega)
        go_wp2_with (go_at_call 16; refine CP.out.mono ?_; rintro e W1 ⟨⟨m, rs, v, rfl, o1, hl, HP⟩, g1⟩; refine stopHere ?_)
        unfold Stop
        obtain ⟨lr, hlr⟩ : ∃ x, rs.length = x := ⟨_, rfl⟩
        obtain ⟨Ar, capr, rfl, _, R1, _, _⟩ := o1.form3 (n := lr) (fun r hr => (HP.out.own r hr).okr) hlr
        have g2 := (Below.refl _ W1).alloc (Nat.le_refl _) (.cells #[.int .i64 m, .slice Ar lr capr] Tpo)
        have R2 := Lib.hid (R1.below g2)
        have K2 := Lib.hid (kbq g1 g2)
        have b2 := Lib.hid (Blk.new W1 #[.int .i64 m, .slice Ar lr capr] Tpo)
        clear o1 R1 g1 g2 CP
        go_upto_region 9 with fail
        revert R2 K2 b2
        generalize W1.alloc (.cells #[.int .i64 m, .slice Ar lr capr] Tpo) = W2
        intro R2 K2 b2
        obtain ⟨PB, hPB⟩ : ∃ P, W1.heap.size = P := ⟨_, rfl⟩
        rw [hPB] at b2 ⊢
        clear hPB
        obtain ⟨c4, hc4⟩ : ∃ c : Nat, now / 4 = (c : Int) := ⟨(now / 4).toNat, by omega⟩
        have hc4b : c4 ≤ 4611686018427387903 := by omega
        have CS := Lib.hid (snap_late c4 Bc m2 cap2 F nf capf W2 (by omega) (HB.out.below K2.out) hm2 (HF.out.below K2.out) hnf)
        go_wp2_with (go_at_call 14; refine CS.out.mono ?_; rintro e W3 ⟨B, ds, N, es, rfl, hE, hxe, hN, g3⟩; refine stopHere ?_)
        unfold Stop
        obtain ⟨C, hC⟩ : ∃ C : Int, (c4 : Int) = C := ⟨_, rfl⟩
        have hCb : 0 ≤ C ∧ C ≤ 4611686018427387903 := by omega
        rw [hC]
        clear CS hc4 hC
        have g4 := (Below.refl _ W3).alloc (Nat.le_refl _) (.cells (spC C (.slice B N ds)) Tsp)
        have E4 := Lib.hid (hE.below g4)
        have K4 := Lib.hid (kbq (kbq K2.out g3) g4)
        have b4 := Lib.hid (Blk.new W3 (spC C (.slice B N ds)) Tsp)
        have BP := Lib.hid ((b2.out.below g3).below g4)
        have RP := Lib.hid ((R2.out.below g3).below g4)
        have HX := Lib.hid hxe
        clear hE g3 g4 b2 R2 K2 hxe
        go_upto_region 10 with fail
        revert E4 K4 b4 BP RP
        generalize W3.alloc (.cells (spC C (.slice B N ds)) Tsp) = W4
        intro E4 K4 b4 BP RP
        obtain ⟨SB, hSB⟩ : ∃ P, W3.heap.size = P := ⟨_, rfl⟩
        rw [hSB] at b4 ⊢
        clear hSB
        have hlr13 : lr ≤ 13 := by omega
        have hPm1 := HP.out.m1
        have hPm2 := HP.out.m2
        have HPA := Lib.hid (polr_all HP.out)
        have CR := Lib.hid (eright_any m Ar lr capr rs C B N ds es W4 RP.out (by omega) (by omega) E4.out HX.out (by omega) (by unfold U; omega))
        obtain ⟨p0, p1⟩ : W4.cell? ⟨PB, 0, none⟩ = some (.int .i64 m) ∧ W4.cell? ⟨PB, 1, none⟩ = some (.slice Ar lr capr) := ⟨BP.out.cell 0, BP.out.cell 1⟩
        obtain ⟨z0, z1⟩ : W4.cell? ⟨SB, 0, none⟩ = some (.int .u64 C) ∧ W4.cell? ⟨SB, 1, none⟩ = some (.slice B N ds) := ⟨b4.out.cell 0, b4.out.cell 1⟩
        by_cases h0 : enR m rs C es = 0
        · rw [h0] at CR
          go_wp2_with (go_at_call 26; with_reducible refine CR.out.mono ?_; rintro e W5 ⟨rfl, g5⟩; refine stopHere ?_)
          unfold Stop
          have hwd : IntKind.u64.wrap d = d := by rw [IntKind.wrap_u64]; omega
          have hws : IntKind.u64.wrap (C + d) = C + d := by rw [IntKind.wrap_u64]; omega
          have BP5 := Lib.hid (BP.out.below g5)
          have RP5 := Lib.hid (RP.out.below g5)
          have b5 := Lib.hid (b4.out.below g5)
          have E5 := Lib.hid (E4.out.below g5)
          have K5 := Lib.hid (kbq K4.out g5)
          clear CR g5 BP RP b4 E4 K4 p0 p1 z0 z1
          obtain ⟨p0, p1⟩ : W5.cell? ⟨PB, 0, none⟩ = some (.int .i64 m) ∧ W5.cell? ⟨PB, 1, none⟩ = some (.slice Ar lr capr) := ⟨BP5.out.cell 0, BP5.out.cell 1⟩
          obtain ⟨z0, z1⟩ : W5.cell? ⟨SB, 0, none⟩ = some (.int .u64 C) ∧ W5.cell? ⟨SB, 1, none⟩ = some (.slice B N ds) := ⟨b5.out.cell 0, b5.out.cell 1⟩
          have CE := Lib.hid (enter_late m Ar lr capr rs C (C + d) B N ds es W5 RP5.out (by omega) (by omega) HPA.out E5.out HX.out (by omega) (by unfold U; omega) (by unfold U; omega) (by omega) h0)
          obtain ⟨X, hX⟩ : ∃ X, C + d = X := ⟨_, rfl⟩
          rw [hX] at CE hws
          go_wp2_with (go_at_call 25; with_reducible refine CE.out.mono ?_; rintro e W6 ⟨T, B6, S, rfl, hT, hS, hSl, g6⟩; refine stopHere ?_)
          unfold Stop
          have CK := Lib.hid (clock_n hT)
          have b6 := Lib.hid (b5.out.below g6)
          have E6 := Lib.hid (E5.out.below g6)
          have K6 := Lib.hid (kbq K5.out g6)
          have HT := Lib.hid hT
          have HS := Lib.hid hS
          clear CE g6 b5 E5 K5 BP5 RP5 p0 p1 z0 z1 hT hS hX HPA
          go_wp2_with (go_at_call 29; with_reducible refine CK.out.mono ?_; rintro e V6 ⟨rfl, hh⟩; replace hh := hh.symm; subst hh)
          have HN : Hid (es.length = N) := Lib.hid E6.out.1
          have l6 := b6.out.lt
          go_loopw [20, 21] (fun u i wr => ∃ j : Nat, i = .int .i64 (j : Int) ∧ j ≤ N ∧ Hid (OwE wr W6.heap.size u (stE X (es.take j))) ∧ Hid (Below W6.heap.size W6 wr)) (fun u i _ => N - (intOf i).toNat)
          case atStart => exact ⟨0, rfl, Nat.zero_le _, Lib.hid (OwE.nil _ _), Lib.hid (Below.refl _ _)⟩
          case round =>
            obtain ⟨j, rfl, hj, HOW, hB⟩ := hrel
            obtain ⟨ks, hks⟩ : ∃ ks, stE X (es.take j) = ks := ⟨_, rfl⟩
            have lk : ks.length ≤ 10 := by rw [← hks]; have := stE_len X (es.take j); rw [List.length_take] at this; omega
            rw [hks] at HOW
            obtain ⟨A0, cap0, hv0, _⟩ := HOW.out.form
            subst hv0
            have bt := Lib.hid (b6.out.below hB.out)
            obtain ⟨z0, z1⟩ : wr.cell? ⟨SB, 0, none⟩ = some (.int .u64 C) ∧ wr.cell? ⟨SB, 1, none⟩ = some (.slice B N ds) := ⟨bt.out.cell 0, bt.out.cell 1⟩
            have hBs := hB.out.size
            by_cases hltN : j < N
            · have q1 : decide ((j : Int) < (N : Int)) = true := decide_eq_true (by omega)
              obtain ⟨b, off, rfl, hb, hcc⟩ := (E6.out.below hB.out).2 (by omega)
              have hlt' : j < es.length := by rw [HN.out]; exact hltN
              obtain ⟨x0, x1⟩ := hcc j hltN
              have ht : Hid (stE X (es.take (j + 1)) = ks ++ if X < (atE es j).2 then [atE es j] else []) := Lib.hid (by
                rw [atE_take hlt', stE_app, hks]
                congr 1
                unfold stE
                by_cases z : X < (atE es j).2
                · rw [if_pos z, List.filter_cons_of_pos (by simpa using z)]; rfl
                · rw [if_neg z, List.filter_cons_of_neg (by simpa using z)]; rfl)
              clear hcc hlt' hks
              generalize atE es j = y at *
              obtain ⟨K, D⟩ := y
              dsimp only at x0 x1 ht
              by_cases hXD : X < D
              · have q2 : decide (X < D) = true := decide_eq_true hXD
                have ht2 : Hid (stE X (es.take (j + 1)) = ks ++ [(K, D)]) := Lib.hid (by rw [ht.out, if_pos hXD])
                clear ht
                have oH : OwE (wr.alloc (.cells #[.string K, .int .u64 D] Tae)) W6.heap.size (.slice A0 ks.length cap0) ks := ent_keepY HOW.out ((Below.refl _ wr).alloc (Nat.le_refl _) _)
                have tH : S2 (wr.alloc (.cells #[.string K, .int .u64 D] Tae)) wr.heap.size 0 (K, D) := Blk.two (Blk.new wr (En.cs (K, D)) Tae)
                have hA2 : Below W6.heap.size W6 (wr.alloc (.cells #[.string K, .int .u64 D] Tae)) := hB.out.alloc hB.out.size _
                have hc2 : W6.heap.size ≤ (wr.alloc (.cells #[.string K, .int .u64 D] Tae)).heap.size := by simp; omega
                go_wp2_with (at_builtin; refine wpList_app_e1 _ rfl _ _ rfl W6.heap.size (.slice A0 ks.length cap0) ks rfl oH _ 0 1 (K, D) rfl tH (by omega) hc2 ?_; intro g cap3 w3 own3 bel3; refine stopHere ?_)
                unfold Stop
                have B3 := Lib.hid (hA2.trans bel3)
                have O3 := Lib.hid own3
                clear own3 bel3 oH tH hA2 hc2
                go_wp2
                go_roundw
                case rel => exact ⟨j + 1, by go_num, by omega, Lib.hid (by rw [ht2.out]; exact O3.out), B3⟩
                case measure => simp [intOf]; omega
              · have q2 : decide (X < D) = false := decide_eq_false hXD
                have ht2 : Hid (stE X (es.take (j + 1)) = ks) := Lib.hid (by rw [ht.out, if_neg hXD, List.append_nil])
                clear ht
                go_wp2
                go_roundw
                case rel => exact ⟨j + 1, by go_num, by omega, Lib.hid (by rw [ht2.out]; exact HOW.out), hB⟩
                case measure => simp [intOf]; omega
            · have q1 : decide ((j : Int) < (N : Int)) = false := decide_eq_false (by omega)
              have HE : Hid (stE X es = ks) := Lib.hid (by rw [← hks, List.take_of_length_le (by rw [HN.out]; omega)])
              have CN := Lib.hid (fun V (g : Below wr.heap.size wr V) => entries_any T B6 m X S V ((HT.out.below hB.out).below g) (sort_all _ (by omega)))
              go_wp2_with (go_at_call 13; with_reducible refine (K0.out _).mono ?_; rintro e W7 ⟨rfl, g7⟩; refine stopHere ?_)
              unfold Stop
              have CN7 := Lib.hid (CN.out _ g7)
              go_wp2_with (go_at_call 28; with_reducible refine CN7.out.mono ?_; rintro e W8 ⟨v, xs, rfl, o8, TL, g8⟩; refine stopHere ?_)
              unfold Stop
              rw [HS.out xs TL, HE.out] at o8
              have CX := Lib.hid (entry_same v (.slice A0 ks.length cap0) _ _ ks W8 o8 (ent_keepY (ent_keepY HOW.out g7) g8) (by omega))
              go_wp2_with (go_at_call 27; with_reducible refine CX.out.mono ?_; rintro e W9 ⟨rfl, dr⟩)
              go_ret
              exact ⟨rfl, kbq (kbq (kbq (kbq K6.out hB.out) g7) g8) (dr.lo (Nat.le_refl _))⟩
        · have hne : (enR m rs C es != 0) = true := by simpa using h0
          generalize enR m rs C es = E at *
          go_wp2_with (first
            | (go_at_call 26; with_reducible refine CR.out.mono ?_; rintro e W5 ⟨rfl, g5⟩)
            | (go_at_call 13; refine (K0.out _).mono ?_; rintro e W6 ⟨rfl, g⟩))
          go_ret
          exact ⟨rfl, kbq (kbq K4.out g5) g⟩
    · have d2 : decide (x ≤ 300) = false := decide_eq_false hx
      have d3 : decide (300 < x) = true := decide_eq_true (by omega)
      clear CP
      by_cases hlt : k < m2
      · have d1 : decide ((k : Int) < (m2 : Int)) = true := decide_eq_true (by omega)
        go_wp2_with (go_at_call 13; refine (K0.out _).mono ?_; rintro e W2 ⟨rfl, g⟩)
        go_ret
        exact ⟨rfl, g⟩
      · have d1 : decide ((k : Int) < (m2 : Int)) = false := decide_eq_false (by omega)
        go_wp2_with (go_at_call 13; refine (K0.out _).mono ?_; rintro e W2 ⟨rfl, g⟩)
        go_ret
        exact ⟨rfl, g⟩
end Go.Proofs.YtbejkcdaefkibaaGreat.Wd


namespace Go.Proofs.YtbejkcdaefkibaaGreat.Wd
open Go Go.RowKit Go.Deep Go.Shelf
set_option linter.unusedVariables false
set_option maxRecDepth 100000
theorem open_byts {H : Type} {enc : TypeId × Value → H} {w : World} {base : Nat} {sp : Nat → Bool} {held : Bool} {fuel : Nat} {a : Option Addr} {len cap : Nat} {x : DataW H × List MemPlace}
    (h : DataW.trod enc Tryz.prog w base sp held fuel 31 [.slice a len cap] = some x) : len ≤ 9223372036854775807 ∧ Byts w a len := by
  rcases open_slice1 Tryz.underlying31 (by kernel_rfl) h with ⟨h0, _⟩ | ⟨ad, l, c, m, n, V, D, Pl, hcs, hb, hl, hm, hmm, _, hx⟩
  · simp at h0
    obtain ⟨rfl, rfl, rfl⟩ := h0
    exact ⟨by omega, fun i hi => absurd hi (by omega)⟩
  · simp at hcs
    obtain ⟨rfl, rfl, rfl⟩ := hcs
    unfold maxLen at hm
    have hlm : len ≤ m := by rw [hmm]; split <;> omega
    refine ⟨by omega, fun i hi => ?_⟩
    obtain ⟨g1, _⟩ := hx 0 (by omega)
    obtain ⟨b, off, rfl⟩ := plain_addr g1
    obtain ⟨h1, h2⟩ := hx i (by omega)
    obtain ⟨v, e, _, wf⟩ := DataW.trod_int Tryz.underlying5 h2
    simp at e
    rw [e, Go.WideShapes.add_plain] at h1
    exact ⟨b, off, v, rfl, h1, (bounds_u8 wf).1, (bounds_u8 wf).2⟩
theorem open_rws {H : Type} {enc : TypeId × Value → H} {w : World} {base : Nat} {sp : Nat → Bool} {held : Bool} {fuel : Nat} {a : Option Addr} {len cap : Nat} {x : DataW H × List MemPlace}
    (h : DataW.trod enc Tryz.prog w base sp held fuel 29 [.slice a len cap] = some x) : len ≤ 9223372036854775807 ∧ Rws w a len := by
  rcases open_slice1 Tryz.underlying29 (by kernel_rfl) h with ⟨h0, _⟩ | ⟨ad, l, c, m, n, V, D, Pl, hcs, hb, hl, hm, hmm, _, hx⟩
  · simp at h0
    obtain ⟨rfl, rfl, rfl⟩ := h0
    exact ⟨by omega, fun i hi => absurd hi (by omega)⟩
  · simp at hcs
    obtain ⟨rfl, rfl, rfl⟩ := hcs
    unfold maxLen at hm
    have hlm : len ≤ m := by rw [hmm]; split <;> omega
    refine ⟨by omega, fun i hi => ?_⟩
    obtain ⟨g1, _⟩ := hx 0 (by omega)
    obtain ⟨b, off, rfl⟩ := plain_addr g1
    obtain ⟨h1, h2⟩ := hx i (by omega)
    have hs : ∃ a' n' c', V i = .slice a' n' c' := by
      rcases open_slice1 Tryz.underlying31 (by kernel_rfl) h2 with ⟨h0, _⟩ | ⟨ad, l, c, m, n, V', D', Pl', hcs, _⟩
      · simp at h0; exact ⟨_, _, _, h0⟩
      · simp at hcs; exact ⟨_, _, _, hcs⟩
    obtain ⟨a', n', c', e⟩ := hs
    rw [e] at h1 h2
    obtain ⟨hn', hb'⟩ := open_byts h2
    rw [Go.WideShapes.add_plain] at h1
    exact ⟨b, off, a', n', c', rfl, h1, hn', hb'⟩
theorem open_u16s {H : Type} {enc : TypeId × Value → H} {w : World} {base : Nat} {sp : Nat → Bool} {held : Bool} {fuel : Nat} {a : Option Addr} {len cap : Nat} {x : DataW H × List MemPlace}
    (h : DataW.trod enc Tryz.prog w base sp held fuel 30 [.slice a len cap] = some x) : len ≤ 9223372036854775807 ∧ U16s w a len := by
  rcases open_slice1 Tryz.underlying30 (by kernel_rfl) h with ⟨h0, _⟩ | ⟨ad, l, c, m, n, V, D, Pl, hcs, hb, hl, hm, hmm, _, hx⟩
  · simp at h0
    obtain ⟨rfl, rfl, rfl⟩ := h0
    exact ⟨by omega, fun i hi => absurd hi (by omega)⟩
  · simp at hcs
    obtain ⟨rfl, rfl, rfl⟩ := hcs
    unfold maxLen at hm
    have hlm : len ≤ m := by rw [hmm]; split <;> omega
    refine ⟨by omega, fun i hi => ?_⟩
    obtain ⟨g1, _⟩ := hx 0 (by omega)
    obtain ⟨b, off, rfl⟩ := plain_addr g1
    obtain ⟨h1, h2⟩ := hx i (by omega)
    obtain ⟨v, e, _, wf⟩ := DataW.trod_int Tryz.underlying32 h2
    simp at e
    rw [e, Go.WideShapes.add_plain] at h1
    exact ⟨b, off, v.toNat, rfl, by rw [h1]; congr 2; have := bounds_u16 wf; omega, by have := bounds_u16 wf; omega⟩
theorem plainx_addr {w : World} {ad : Addr} {v : Value} (h : w.cell? (ad.add 0) = some v) : ∃ b off, ad = ⟨b, off, none⟩ := by
  obtain ⟨b, off, spot⟩ := ad
  have hspot : spot = none := by simpa [Addr.add] using World.cell?_spot h
  subst hspot
  exact ⟨b, off, rfl⟩
theorem openx_byts {H : Type} {enc : TypeId × Value → H} {w : World} {base : Nat} {sp : Nat → Bool} {held : Bool} {fuel : Nat} {a : Option Addr} {len cap : Nat} {x : DataW H × List MemPlace}
    (h : DataW.trod enc Tryz.prog w base sp held fuel 31 [.slice a len cap] = some x) : len ≤ 9223372036854775807 ∧ Byts w a len := by
  rcases open_slice1 Tryz.underlying31 (by kernel_rfl) h with ⟨h0, _⟩ | ⟨ad, l, c, m, n, V, D, Pl, hcs, hb, hl, hm, hmm, _, hx⟩
  · simp at h0
    obtain ⟨rfl, rfl, rfl⟩ := h0
    exact ⟨by omega, fun i hi => absurd hi (by omega)⟩
  · simp at hcs
    obtain ⟨rfl, rfl, rfl⟩ := hcs
    unfold maxLen at hm
    have hlm : len ≤ m := by rw [hmm]; split <;> omega
    refine ⟨by omega, fun i hi => ?_⟩
    obtain ⟨g1, _⟩ := hx 0 (by omega)
    obtain ⟨b, off, rfl⟩ := plainx_addr g1
    obtain ⟨h1, h2⟩ := hx i (by omega)
    obtain ⟨v, e, _, wf⟩ := DataW.trod_int Tryz.underlying5 h2
    simp at e
    rw [e, Go.WideShapes.add_plain] at h1
    exact ⟨b, off, v, rfl, h1, bounds_u8 wf⟩
theorem cells_numbers : ∃ f0 f1 f2 f3 : Field, Tryz.prog.underlying 101 = some (.struct #[f0, f1, f2, f3]) ∧ (f0.offset = 0 ∧ f1.offset = 1 ∧ f2.offset = 2 ∧ f3.offset = 3) ∧ f0.type = 31 ∧ f1.type = 53 ∧ f2.type = 32 ∧ f3.type = 5 :=
  ⟨_, _, _, _, Tryz.underlying101, ⟨rfl, rfl, rfl, rfl⟩, rfl, rfl, rfl, rfl⟩
theorem open_nmr {H : Type} {enc : TypeId × Value → H} {w : World} {base : Nat} {sp : Nat → Bool} {held : Bool} {fuel : Nat} {a : Option Addr} {len cap : Nat} {x : DataW H × List MemPlace}
    (h : DataW.trod enc Tryz.prog w base sp held fuel 33 [.slice a len cap] = some x) : len ≤ 9223372036854775807 ∧ Nmr w a len := by
  obtain ⟨f0, f1, f2, f3, hu, ⟨o0, o1, o2, o3⟩, y0, y1, y2, y3⟩ := cells_numbers
  rcases open_slice Tryz.underlying33 h with ⟨h0, _⟩ | ⟨ad, l, c, m, n, D, Pl, hcs, hb, hl, hm, hmm, _, hx⟩
  · simp at h0
    obtain ⟨rfl, rfl, rfl⟩ := h0
    exact ⟨by omega, fun i hi => absurd hi (by omega)⟩
  · simp at hcs
    obtain ⟨rfl, rfl, rfl⟩ := hcs
    refine ⟨by unfold maxLen at hm; omega, ?_⟩
    have ce : Tryz.prog.cellsOf 101 = 4 := by kernel_rfl
    have cS : Tryz.prog.cellsOf 31 = 1 := by kernel_rfl
    have c32 : Tryz.prog.cellsOf 53 = 1 := by kernel_rfl
    have c16 : Tryz.prog.cellsOf 32 = 1 := by kernel_rfl
    have c8 : Tryz.prog.cellsOf 5 = 1 := by kernel_rfl
    have hlm : len ≤ m := by rw [hmm]; split <;> omega
    intro i hi
    have hsp : ∃ u, w.cell? ((ad.add (0 * 4)).add 0) = some u := by
      obtain ⟨cs0, h10, _⟩ := hx 0 (by omega)
      rw [ce] at h10
      obtain ⟨_, hlen0, hcell0⟩ := World.cells?_some h10
      match cs0, hlen0, hcell0 with
      | [u0, u1, u2, u3], _, hc => exact ⟨u0, by simpa using hc 0 (by omega)⟩
    obtain ⟨u0, hu0⟩ := hsp
    obtain ⟨cs', h1, h2⟩ := hx i (by omega)
    rw [ce] at h1
    obtain ⟨_, hlen, hcell⟩ := World.cells?_some h1
    obtain ⟨xs, k, hk, hxy, _, hxl, hf⟩ := DataW.trod_struct hu h2
    match xs, hxl, cs', hlen with
    | [x0, x1, x2, x3], _, [v0, v1, v2, v3], _ =>
      have g0 := hf 0 f0 rfl
      have g1 := hf 1 f1 rfl
      have g2 := hf 2 f2 rfl
      have g3 := hf 3 f3 rfl
      simp [o0, o1, o2, o3, y0, y1, y2, y3, cS, c32, c16, c8] at g0 g1 g2 g3
      have hs : ∃ a' n' c', v0 = .slice a' n' c' := by
        rcases open_slice1 Tryz.underlying31 (by kernel_rfl) g0 with ⟨h0, _⟩ | ⟨ad, l, c, m, n, V', D', Pl', hcs, _⟩
        · simp at h0; exact ⟨_, _, _, h0⟩
        · simp at hcs; exact ⟨_, _, _, hcs⟩
      obtain ⟨a', n', c', rfl⟩ := hs
      obtain ⟨hn', hb'⟩ := openx_byts g0
      obtain ⟨i1, e1, _, w1⟩ := DataW.trod_int Tryz.underlying53 g1
      obtain ⟨i2, e2, _, w2⟩ := DataW.trod_int Tryz.underlying32 g2
      obtain ⟨i3, e3, _, w3⟩ := DataW.trod_int Tryz.underlying5 g3
      simp at e1 e2 e3
      subst e1 e2 e3
      have c0 := hcell 0 (by omega)
      have c1 := hcell 1 (by omega)
      have c2 := hcell 2 (by omega)
      have c3 := hcell 3 (by omega)
      obtain ⟨b, off, spot⟩ := ad
      have hspot : spot = none := by simpa [Addr.add] using World.cell?_spot hu0
      subst hspot
      simp [Go.WideShapes.add_plain] at c0 c1 c2 c3
      exact ⟨b, off, a', n', c', i1, i2, i3, rfl, by simpa [Nat.add_assoc] using c0, by simpa [Nat.add_assoc] using c1, by simpa [Nat.add_assoc] using c2, by simpa [Nat.add_assoc] using c3, Lib.hid ⟨hb', hn', bounds_u32 w1, bounds_u16 w2, bounds_u8 w3⟩⟩
end Go.Proofs.YtbejkcdaefkibaaGreat.Wd

