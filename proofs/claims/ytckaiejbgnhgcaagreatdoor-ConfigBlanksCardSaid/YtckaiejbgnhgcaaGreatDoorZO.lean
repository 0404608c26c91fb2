/- What tollerlaw12.known answers; no conditions but those that each names. A policy of choices (tollerlaw12.Policy); no conditions but those that each names. What is printed is read: plain facts; no conditions but those that each names. What is printed, and a line more: plain facts; no conditions but those that each names. A line twice, a line that lacks: plain facts; no conditions but those that each names. What a policy of choices is: right; without its first rule it lacks the default; no conditions but those that each names. -/
import Derived.Test.YtckaiejbgnhgcaaGreatDoorZM
import Derived.Test.YtckaiejbgnhgcaaGreatDoorZE
import Derived.Test.YtckaiejbgnhgcaaGreatDoorZI
namespace Go.Proofs.YtckaiejbgnhgcaaGreatDoor.Wd
open Go Go.RowKit
set_option linter.unusedVariables false
set_option maxRecDepth 100000

def kB1 : List UInt8 := [115, 105, 122, 101, 32, 50, 10, 100, 101, 102, 97, 117, 108, 116, 32, 49, 48, 32, 53, 32, 103, 99, 114, 97, 10]
def kB2 : List UInt8 := [115, 105, 122, 101, 32, 48]
def kR : List Rl := [⟨⟨#[]⟩, 10, 5, 1⟩]
theorem k_spl1 : Ws.spl kB1 = .ok [[([115, 105, 122, 101], 1, 1), ([50], 1, 6)], [([100, 101, 102, 97, 117, 108, 116], 2, 1), ([49, 48], 2, 9), ([53], 2, 12), ([103, 99, 114, 97], 2, 14)]] := by rfl
theorem k_spl2 : Ws.spl kB2 = .ok [[([115, 105, 122, 101], 1, 1), ([48], 1, 6)]] := by rfl
theorem k_ans : ansA [defS, ⟨#[49, 48]⟩, ⟨#[53]⟩, gcraS] = ⟨⟨#[]⟩, 10, 5, 1, 0, 0⟩ := by
  rw [ans_def _ _ _ _ rfl, numA_4 _ _ _ _ _ (by decide) (by decide) (by decide)]
  rfl
abbrev kl1 : List Ws.Wo := [([115, 105, 122, 101], 1, 1), ([50], 1, 6)]
abbrev kl2 : List Ws.Wo := [([100, 101, 102, 97, 117, 108, 116], 2, 1), ([49, 48], 2, 9), ([53], 2, 12), ([103, 99, 114, 97], 2, 14)]
abbrev kl3 : List Ws.Wo := [([115, 105, 122, 101], 1, 1), ([48], 1, 6)]
theorem k_a1 : lnA 0 [] (txs kl1) = .ok 2 [] := by
  rfl
theorem k_a3 : lnA 0 [] (txs kl3) = .bad 29 1 := by
  rfl
theorem k_t2 : txs kl2 = [defS, ⟨#[49, 48]⟩, ⟨#[53]⟩, gcraS] := by rfl
theorem k_a2 : lnA 2 [] (txs kl2) = .ok 2 kR := by
  rw [k_t2]
  unfold lnA
  rw [if_neg (by decide)]
  unfold lnR
  rw [k_ans]
  rfl
theorem k_p1 : cfgP kB1 = .ok 2 kR := by
  unfold cfgP
  rw [k_spl1]
  show psL 0 [] [kl1, kl2] = _
  unfold psL
  rw [k_a1]
  show psL 2 [] [kl2] = _
  unfold psL
  rw [k_a2]
  show psL 2 kR [] = _
  unfold psL
  rw [if_neg (by decide)]
  rfl
theorem k_p2 : cfgP kB2 = .bad 29 1 6 := by
  unfold cfgP
  rw [k_spl2]
  show psL 0 [] [kl3] = _
  unfold psL
  rw [k_a3]
  rfl
theorem k_ri : riE 2 kR = 0 := by
  decide

set_option maxHeartbeats 1000000 in
theorem known_any (w : World) (hN : Nam w) : Calls Tryz.prog 10 #[] w fun r w' => r = .returned (.bool true) ∧ Below w.heap.size w w' := by
  have C1 : ∀ W, Below w.heap.size w W → Calls Tryz.prog 17 #[.slice (some ⟨W.heap.size, 0, none⟩) 25 25] (W.alloc (.cells #[.int .u8 115, .int .u8 105, .int .u8 122, .int .u8 101, .int .u8 32, .int .u8 50, .int .u8 10, .int .u8 100, .int .u8 101, .int .u8 102, .int .u8 97, .int .u8 117, .int .u8 108, .int .u8 116, .int .u8 32, .int .u8 49, .int .u8 48, .int .u8 32, .int .u8 53, .int .u8 32, .int .u8 103, .int .u8 99, .int .u8 114, .int .u8 97, .int .u8 10] 5 (25, 26))) fun r w' => (∃ A, r = .returned (.tuple #[.agg #[.int .i64 2, .slice A 1 1], .int .u16 0, .agg #[.int .i64 0, .int .i64 0]]) ∧ Rls w' A 1 kR) ∧ Below w.heap.size w w' := fun W hW => by
    have hA := hW.alloc hW.size (.cells #[.int .u8 115, .int .u8 105, .int .u8 122, .int .u8 101, .int .u8 32, .int .u8 50, .int .u8 10, .int .u8 100, .int .u8 101, .int .u8 102, .int .u8 97, .int .u8 117, .int .u8 108, .int .u8 116, .int .u8 32, .int .u8 49, .int .u8 48, .int .u8 32, .int .u8 53, .int .u8 32, .int .u8 103, .int .u8 99, .int .u8 114, .int .u8 97, .int .u8 10] 5 (25, 26))
    refine (cparse_any (some ⟨W.heap.size, 0, none⟩) 25 25 kB1 _ (hN.below hA) (Ws.txt_lit kB1 _ _ _ rfl) (by omega) (by omega)).mono ?_
    rw [k_p1]
    rintro r w' ⟨h, g⟩
    exact ⟨h, kbq hA g⟩
  have C2 : ∀ W (b : Nat), b = W.heap.size → Below w.heap.size w W → Calls Tryz.prog 17 #[.slice (some ⟨b, 0, none⟩) 6 6] (W.alloc (.cells #[.int .u8 115, .int .u8 105, .int .u8 122, .int .u8 101, .int .u8 32, .int .u8 48] 5 (6, 7))) fun r w' => (∃ A, r = .returned (.tuple #[.agg #[.int .i64 0, .slice A 0 0], .int .u16 29, .agg #[.int .i64 1, .int .i64 6]]) ∧ Rls w' A 0 []) ∧ Below w.heap.size w w' ∧ Below W.heap.size W w' := fun W b hb hW => by
    subst hb
    have hA := hW.alloc hW.size (.cells #[.int .u8 115, .int .u8 105, .int .u8 122, .int .u8 101, .int .u8 32, .int .u8 48] 5 (6, 7))
    refine (cparse_any (some ⟨W.heap.size, 0, none⟩) 6 6 kB2 _ (hN.below hA) (Ws.txt_lit kB2 _ _ _ rfl) (by omega) (by omega)).mono ?_
    rw [k_p2]
    rintro r w' ⟨h, g⟩
    exact ⟨h, kbq hA g, kbq ((Below.refl _ W).alloc (Nat.le_refl _) _) g⟩
  have C3 : ∀ W A, Rls W A 1 kR → Calls Tryz.prog 23 #[.agg #[.int .i64 2, .slice A 1 1]] W fun r w' => r = .returned (.int .u16 0) ∧ Below W.heap.size W w' := fun W A h => by
    have h := cright_any 2 A 1 1 kR W h (by omega) (by omega)
    rw [k_ri] at h
    exact h
  have v1 := fun W => Lib.run_convert_bytes_const (P := Tryz.prog) W 22 5 #[.int .u8 115, .int .u8 105, .int .u8 122, .int .u8 101, .int .u8 32, .int .u8 50, .int .u8 10, .int .u8 100, .int .u8 101, .int .u8 102, .int .u8 97, .int .u8 117, .int .u8 108, .int .u8 116, .int .u8 32, .int .u8 49, .int .u8 48, .int .u8 32, .int .u8 53, .int .u8 32, .int .u8 103, .int .u8 99, .int .u8 114, .int .u8 97, .int .u8 10] 25 25 Tryz.underlying22 Tryz.underlying5
  have v2 := fun (W : World) (o o2 : Obj) => Go.Joins.run_convert_bytes_const_at (P := Tryz.prog) ((W.alloc o).alloc o2) 22 5 #[.int .u8 115, .int .u8 105, .int .u8 122, .int .u8 101, .int .u8 32, .int .u8 48] 6 6 (W.heap.size + 1 + 1) (by simp) Tryz.underlying22 Tryz.underlying5
  simp only [List.size_toArray, List.length_cons, List.length_nil] at v1 v2
  have K1 := Lib.hid C1
  have K2 := Lib.hid C2
  have K3 := Lib.hid C3
  clear C1 C2 C3
  go_enter Tryz.func10, Tryz.ntmps10
  go_wp2_with (go_at_call 17; (with_reducible refine (K1.out _ (Below.refl _ _)).mono ?_); rintro r w1 ⟨⟨A1, rfl, hR1⟩, g1⟩; refine stopHere ?_)
  unfold Stop
  have g2 := (g1.alloc g1.size (.cells #[.int .i64 2, .slice A1 1 1] 28)).alloc (by simp only [World.size_alloc]; have := g1.size; omega) (.cells #[.int .i64 0, .int .i64 0] 44)
  go_wp2_with (go_at_call 17; (with_reducible refine (K2.out _ _ (by simp) g2).mono ?_); rintro r w2 ⟨⟨A2, rfl, hR2⟩, g3, g4⟩; refine stopHere ?_)
  unfold Stop
  have p0 : w2.cell? ⟨w1.heap.size, 0, none⟩ = some (.int .i64 2) := celln g4 (by simp)
  have p1 : w2.cell? ⟨w1.heap.size, 1, none⟩ = some (.slice A1 1 1) := celln g4 (by simp)
  have hR := ((hR1.below ((Below.refl _ w1).alloc (Nat.le_refl _) (.cells #[.int .i64 2, .slice A1 1 1] 28))).below ((Below.refl _ _).alloc (Nat.le_refl _) (.cells #[.int .i64 0, .int .i64 0] 44))).below g4
  have kA := (Below.refl _ w2).alloc (Nat.le_refl _) (.cells #[.int .i64 0, .slice A2 0 0] 28)
  have kB := (Below.refl _ (w2.alloc (.cells #[.int .i64 0, .slice A2 0 0] 28))).alloc (Nat.le_refl _) (.cells #[.int .i64 1, .int .i64 6] 44)
  have k2 := kbq kA kB
  have hR5 := Lib.hid ((hR.below kA).below kB)
  have gg := kbq g3 k2
  replace p0 := celln k2 p0
  replace p1 := celln k2 p1
  have hlt := cell_lt p0
  have q0 : ((w2.alloc (.cells #[.int .i64 0, .slice A2 0 0] 28)).alloc (.cells #[.int .i64 1, .int .i64 6] 44)).cell? ⟨w2.heap.size + 1, 0, none⟩ = some (.int .i64 1) := by simp
  have q1 : ((w2.alloc (.cells #[.int .i64 0, .slice A2 0 0] 28)).alloc (.cells #[.int .i64 1, .int .i64 6] 44)).cell? ⟨w2.heap.size + 1, 1, none⟩ = some (.int .i64 6) := by simp
  clear hR hR1 hR2 g4 g2 g1 kA kB K1 K2 v1 v2
  go_wp2_with fail
  generalize hW : (w2.alloc (.cells #[.int .i64 0, .slice A2 0 0] 28)).alloc (.cells #[.int .i64 1, .int .i64 6] 44) = W at *
  go_wp2_with (go_at_call 23; (with_reducible refine (K3.out _ _ hR5.out).mono ?_); rintro r w3 ⟨rfl, g5⟩)
  go_ret
  exact ⟨rfl, kbq gg g5⟩
end Go.Proofs.YtckaiejbgnhgcaaGreatDoor.Wd
namespace Go.Proofs.YtckaiejbgnhgcaaGreatDoor.Wd
open Go Go.RowKit
set_option linter.unusedVariables false
set_option maxRecDepth 100000

theorem flatR_news {w : World} {b off : Nat} {xs : List Rl} (h : ∀ k, k < xs.length → R4 w b (off + k * 4) (fnOf xs k)) : ∀ j u, (flatR xs)[j]? = some u → w.cell? ((⟨b, off, none⟩ : Addr).add j) = some u := by
  intro j u hu
  have hj : j < (flatR xs).length := (List.getElem?_eq_some_iff.1 hu).1
  rw [flatR_length] at hj
  have hk : j / 4 < xs.length := by omega
  obtain ⟨f0, f1, f2, f3⟩ := flatR_at xs (j / 4) hk
  obtain ⟨c0, c1, c2, c3⟩ := h (j / 4) hk
  rw [Go.WideShapes.add_plain]
  have hm : j % 4 = 0 ∨ j % 4 = 1 ∨ j % 4 = 2 ∨ j % 4 = 3 := by omega
  rcases hm with hm | hm | hm | hm
  · have e : j = j / 4 * 4 := by omega
    rw [e] at hu ⊢
    rw [f0] at hu; injection hu with hu; subst hu
    exact c0
  · have e : j = j / 4 * 4 + 1 := by omega
    rw [e] at hu ⊢
    rw [f1] at hu; injection hu with hu; subst hu
    rw [← Nat.add_assoc]; exact c1
  · have e : j = j / 4 * 4 + 2 := by omega
    rw [e] at hu ⊢
    rw [f2] at hu; injection hu with hu; subst hu
    rw [← Nat.add_assoc]; exact c2
  · have e : j = j / 4 * 4 + 3 := by omega
    rw [e] at hu ⊢
    rw [f3] at hu; injection hu with hu; subst hu
    rw [← Nat.add_assoc]; exact c3

theorem wpList_app_rl (w : World) {ops : Array Oper} {rest : List Oper} {o : Oper} {a : Act} {Q : Exit → Act → World → Prop} (hgd : o.guard = none) (s x : Operand)
    (ho : o.op = .call { callee := .builtin .append, args := #[s, x], argTypes := #[26, 26] })
    (base : Nat) (v : Value) (acc : List Rl) (hs : a.eval s = v) (hown : ORls w base v acc) (b off m c : Nat) (xs : List Rl) (hx : a.eval x = .slice (some ⟨b, off, none⟩) m c) (hm : xs.length = m) (hm0 : 0 < m)
    (hR : ∀ k, k < xs.length → R4 w b (off + k * 4) (fnOf xs k)) (hsz : acc.length + m ≤ 1099511627776) (hbase : base ≤ w.heap.size)
    (h : ∀ g cap w', ORls w' base (.slice (some ⟨g, 0, none⟩) (acc.length + m) cap) (acc ++ xs) → Below base w w' → w.grownBy w' v.ownBlock → (v.ownBlock = some g ∨ g = w.heap.size) → wpList Tryz.prog ops Q rest (a.put o.dst (.slice (some ⟨g, 0, none⟩) (acc.length + m) cap)) w') : wpList Tryz.prog ops Q (o :: rest) a w := by
  obtain ⟨i0, hi, hy0, hy1, hy2⟩ := info_parts zeroRule
  subst hm
  refine wpList_append_lies w hgd s x 26 ho base 37 i0 (.agg #[.string ⟨#[]⟩, .int .u64 0, .int .u64 0, .int .u8 0]) 4 40 Tryz.underlying26 hi hy0 hy1 hy2 rfl (by decide) v acc.length (flatR acc) hs hown ⟨b, off, none⟩ xs.length c (flatR xs) hx (by rw [flatR_length]) (flatR_news hR) (flatR_one xs) hm0 (by unfold maxLen; omega) (by omega) hbase w.heap.size rfl ?_
  intro g cap w' own grow hg hgs
  refine h g cap w' ?_ ((Below.refl base w).grown grow hbase (fun k hk => (World.ownsRow.lt hown k hk).1)) grow hg
  unfold ORls
  rw [List.length_append, flatR_append]
  exact own

/-- A rule of choices. -/
def OwnR (r : Rl) : Prop := (∃ E B : Nat, r.e = (E : Int) ∧ r.b = (B : Int) ∧ Own r.p E B r.k) ∧ (r.p.size = 0 ∨ Short r.p)
/-- A policy of choices. -/
structure Polr (m : Int) (rs : List Rl) : Prop where
  m1 : 1 ≤ m
  m2 : m ≤ 50
  hd : ∃ k rest, rs = ⟨nob, 1000, 5, k⟩ :: rest
  own : ∀ r ∈ rs, OwnR r
  nd : (rs.map Rl.p).Nodup
/-- A row of numbers that lies in memory. -/
def Nmr (w : World) (A : Option Addr) (n : Nat) : Prop :=
  ∀ i, i < n → ∃ b off Ai ni ci e u k, A = some ⟨b, off, none⟩ ∧ w.cell? ⟨b, off + i * 4, none⟩ = some (.slice Ai ni ci) ∧ w.cell? ⟨b, off + i * 4 + 1, none⟩ = some (.int .u32 e) ∧ w.cell? ⟨b, off + i * 4 + 2, none⟩ = some (.int .u16 u) ∧ w.cell? ⟨b, off + i * 4 + 3, none⟩ = some (.int .u8 k) ∧
    Hid (Byts w Ai ni ∧ ni ≤ 9223372036854775807 ∧ (0 ≤ e ∧ e ≤ 4294967295) ∧ (0 ≤ u ∧ u ≤ 65535) ∧ (0 ≤ k ∧ k ≤ 255))
theorem Nmr.below {w w' : World} {A : Option Addr} {n : Nat} (h : Nmr w A n) (g : Below w.heap.size w w') : Nmr w' A n := fun i hi => by
  obtain ⟨b, off, Ai, ni, ci, e, u, k, e0, c0, c1, c2, c3, H⟩ := h i hi
  exact ⟨b, off, Ai, ni, ci, e, u, k, e0, celln g c0, celln g c1, celln g c2, celln g c3, Lib.hid ⟨H.out.1.below g, H.out.2⟩⟩

theorem short_size {s : ByteArray} (h : Short s) : 1 ≤ s.size ∧ s.size ≤ 12 := h.1
theorem short_sizeH {s : ByteArray} (h : Hid (Short s)) : 1 ≤ s.size ∧ s.size ≤ 12 := h.out.1

theorem OwnR.okr {r : Rl} (h : OwnR r) : Okr r := by
  obtain ⟨⟨E, B, he, hb, H⟩, _⟩ := h
  have := H.e2; have := H.b2; have := H.sz; have := H.k1; have := H.k2
  exact ⟨by omega, by rw [he]; unfold U; omega, by rw [hb]; unfold U; omega, by omega, by omega⟩

theorem polr_start (m k : Int) (h1 : 1 ≤ m) (h2 : m ≤ 50) (hk : 1 ≤ k ∧ k ≤ 3) : Polr m [⟨nob, 1000, 5, k⟩] := by
  refine ⟨h1, h2, ⟨k, [], rfl⟩, fun r hr => ?_, by simp⟩
  simp only [List.mem_cons, List.not_mem_nil, or_false] at hr
  subst hr
  exact ⟨⟨1000, 5, rfl, rfl, by show nob.size ≤ 12; decide, by show pfB nob = true; decide, by decide, by decide, by decide, by decide, hk.1, hk.2⟩, .inl rfl⟩
theorem polr_more {m : Int} {rs : List Rl} {r : Rl} (h : Polr m rs) (hr : OwnR r) (hn : hasB rs r.p = false) : Polr m (rs ++ [r]) := by
  obtain ⟨k, rest, e⟩ := h.hd
  refine ⟨h.m1, h.m2, ⟨k, rest ++ [r], by rw [e]; rfl⟩, fun x hx => ?_, ?_⟩
  · rcases List.mem_append.1 hx with hx | hx
    · exact h.own x hx
    · simp only [List.mem_cons, List.not_mem_nil, or_false] at hx
      subst hx; exact hr
  · rw [List.map_append, List.nodup_append]
    refine ⟨h.nd, by simp, fun a ha b hb => ?_⟩
    simp only [List.map_cons, List.map_nil, List.mem_cons, List.not_mem_nil, or_false] at hb
    subst hb
    intro e
    subst e
    obtain ⟨x, hx, e⟩ := List.mem_map.1 ha
    obtain ⟨j, hj, e2⟩ := List.getElem_of_mem hx
    rcases fd_ways rs r.p with ⟨k, _, _, _, g⟩ | ⟨g, _⟩
    · unfold hasB at hn
      rw [g] at hn
      have : (0 : Int) ≤ (k : Int) := Int.natCast_nonneg _
      rw [decide_eq_true this] at hn
      cases hn
    · exact g j hj (by rw [fn_at hj, e2]; exact e)

theorem acell {w : World} {o : Obj} {b i : Nat} {v : Value} (h : w.cell? ⟨b, i, none⟩ = some v) : (w.alloc o).cell? ⟨b, i, none⟩ = some v := celln ((Below.refl _ w).alloc (Nat.le_refl _) o) h
theorem zero4 {W w' : World} (g : Below (W.alloc (.cells #[.string ⟨#[]⟩, .int .u64 0, .int .u64 0, .int .u8 0] 37)).heap.size (W.alloc (.cells #[.string ⟨#[]⟩, .int .u64 0, .int .u64 0, .int .u8 0] 37)) w') :
    (w'.cell? ⟨W.heap.size, 0, none⟩ = some (.string ⟨#[]⟩) ∧ w'.cell? ⟨W.heap.size, 1, none⟩ = some (.int .u64 0) ∧ w'.cell? ⟨W.heap.size, 2, none⟩ = some (.int .u64 0) ∧ w'.cell? ⟨W.heap.size, 3, none⟩ = some (.int .u8 0)) ∧
    (w'.frozen? ⟨W.heap.size, 0, none⟩ = false ∧ w'.frozen? ⟨W.heap.size, 1, none⟩ = false ∧ w'.frozen? ⟨W.heap.size, 2, none⟩ = false ∧ w'.frozen? ⟨W.heap.size, 3, none⟩ = false) :=
  ⟨⟨celln g (by simp), celln g (by simp), celln g (by simp), celln g (by simp)⟩,
   (g.frozen (p := ⟨W.heap.size, 0, none⟩) (by simp)).trans (by simp), (g.frozen (p := ⟨W.heap.size, 1, none⟩) (by simp)).trans (by simp), (g.frozen (p := ⟨W.heap.size, 2, none⟩) (by simp)).trans (by simp), (g.frozen (p := ⟨W.heap.size, 3, none⟩) (by simp)).trans (by simp)⟩
theorem zero4d {W w' : World} (g : Below (W.alloc (.cells #[.string ⟨#[]⟩, .int .u64 0, .int .u64 0, .int .u8 0] 37)).drew.heap.size (W.alloc (.cells #[.string ⟨#[]⟩, .int .u64 0, .int .u64 0, .int .u8 0] 37)).drew w') :
    (w'.cell? ⟨W.heap.size, 0, none⟩ = some (.string ⟨#[]⟩) ∧ w'.cell? ⟨W.heap.size, 1, none⟩ = some (.int .u64 0) ∧ w'.cell? ⟨W.heap.size, 2, none⟩ = some (.int .u64 0) ∧ w'.cell? ⟨W.heap.size, 3, none⟩ = some (.int .u8 0)) ∧
    (w'.frozen? ⟨W.heap.size, 0, none⟩ = false ∧ w'.frozen? ⟨W.heap.size, 1, none⟩ = false ∧ w'.frozen? ⟨W.heap.size, 2, none⟩ = false ∧ w'.frozen? ⟨W.heap.size, 3, none⟩ = false) :=
  ⟨⟨celln g (dcell (by simp)), celln g (dcell (by simp)), celln g (dcell (by simp)), celln g (dcell (by simp))⟩,
   (g.frozen (p := ⟨W.heap.size, 0, none⟩) (by simp)).trans (by simp), (g.frozen (p := ⟨W.heap.size, 1, none⟩) (by simp)).trans (by simp), (g.frozen (p := ⟨W.heap.size, 2, none⟩) (by simp)).trans (by simp), (g.frozen (p := ⟨W.heap.size, 3, none⟩) (by simp)).trans (by simp)⟩
/-- Four stores into another block. -/
theorem scell {w : World} {X b i : Nat} {v p q r t : Value} (h : w.cell? ⟨b, i, none⟩ = some v) (hb : b < X) : ((((w.setCell ⟨X, 0, none⟩ p).setCell ⟨X, 1, none⟩ q).setCell ⟨X, 2, none⟩ r).setCell ⟨X, 3, none⟩ t).cell? ⟨b, i, none⟩ = some v :=
  (cs_other _ _ _ _ _ _ (.inl (by omega))).trans ((cs_other _ _ _ _ _ _ (.inl (by omega))).trans ((cs_other _ _ _ _ _ _ (.inl (by omega))).trans ((cs_other _ _ _ _ _ _ (.inl (by omega))).trans h)))
theorem sbel {N : Nat} {u w : World} {p q r t : Value} (h : Below N u w) : Below N u ((((w.setCell ⟨N, 0, none⟩ p).setCell ⟨N, 1, none⟩ q).setCell ⟨N, 2, none⟩ r).setCell ⟨N, 3, none⟩ t) :=
  (((h.setCell (p := ⟨N, 0, none⟩) (Nat.le_refl _) p).setCell (p := ⟨N, 1, none⟩) (Nat.le_refl _) q).setCell (p := ⟨N, 2, none⟩) (Nat.le_refl _) r).setCell (p := ⟨N, 3, none⟩) (Nat.le_refl _) t
theorem r4_new (W : World) (x : Rl) : R4 (W.alloc (.cells #[.string x.p, .int .u64 x.e, .int .u64 x.b, .int .u8 x.k] 37)) W.heap.size 0 x := by
  refine ⟨?_, ?_, ?_, ?_⟩ <;> simp
/-- A rule in a block of its own, that may be written. -/
def XC (w : World) (X : Nat) (x : Rl) : Prop := R4 w X 0 x ∧ S4 w X 0
theorem xc_new (W : World) (p : ByteArray) (e b k : Int) : XC (W.alloc (.cells #[.string p, .int .u64 e, .int .u64 b, .int .u8 k] 37)) W.heap.size ⟨p, e, b, k⟩ := by
  refine ⟨r4_new W ⟨p, e, b, k⟩, ?_, ?_, ?_, ?_⟩ <;> simp
theorem xc_set {w : World} {X : Nat} {p : ByteArray} {e b k : Int} {p0 e0 b0 k0 : Value} (z0 : w.cell? ⟨X, 0, none⟩ = some p0) (z1 : w.cell? ⟨X, 1, none⟩ = some e0) (z2 : w.cell? ⟨X, 2, none⟩ = some b0) (z3 : w.cell? ⟨X, 3, none⟩ = some k0)
    (f0 : w.frozen? ⟨X, 0, none⟩ = false) (f1 : w.frozen? ⟨X, 1, none⟩ = false) (f2 : w.frozen? ⟨X, 2, none⟩ = false) (f3 : w.frozen? ⟨X, 3, none⟩ = false) :
    XC ((((w.setCell ⟨X, 0, none⟩ (.string p)).setCell ⟨X, 1, none⟩ (.int .u64 e)).setCell ⟨X, 2, none⟩ (.int .u64 b)).setCell ⟨X, 3, none⟩ (.int .u8 k)) X ⟨p, e, b, k⟩ := by
  refine ⟨⟨?_, ?_, ?_, ?_⟩, ?_, ?_, ?_, ?_⟩
  · rw [cs_other _ _ _ _ _ _ (.inr (by omega)), cs_other _ _ _ _ _ _ (.inr (by omega)), cs_other _ _ _ _ _ _ (.inr (by omega))]
    exact World.cell?_setCell_same _ _ _ z0
  · rw [cs_other _ _ _ _ _ _ (.inr (by omega)), cs_other _ _ _ _ _ _ (.inr (by omega))]
    exact World.cell?_setCell_same _ _ _ ((cs_other _ _ _ _ _ _ (.inr (by omega))).trans z1)
  · rw [cs_other _ _ _ _ _ _ (.inr (by omega))]
    exact World.cell?_setCell_same _ _ _ ((cs_other _ _ _ _ _ _ (.inr (by omega))).trans ((cs_other _ _ _ _ _ _ (.inr (by omega))).trans z2))
  · exact World.cell?_setCell_same _ _ _ ((cs_other _ _ _ _ _ _ (.inr (by omega))).trans ((cs_other _ _ _ _ _ _ (.inr (by omega))).trans ((cs_other _ _ _ _ _ _ (.inr (by omega))).trans z3)))
  · simp [f0]
  · simp [f1]
  · simp [f2]
  · simp [f3]
theorem xc_two {w : World} {X : Nat} {x : Rl} (h : XC w X x) (e b : Int) : XC ((w.setCell ⟨X, 1, none⟩ (.int .u64 e)).setCell ⟨X, 2, none⟩ (.int .u64 b)) X ⟨x.p, e, b, x.k⟩ := by
  obtain ⟨⟨z0, z1, z2, z3⟩, f0, f1, f2, f3⟩ := h
  refine ⟨⟨?_, ?_, ?_, ?_⟩, ?_, ?_, ?_, ?_⟩
  · rw [cs_other _ _ _ _ _ _ (.inr (by omega)), cs_other _ _ _ _ _ _ (.inr (by omega))]; exact z0
  · rw [cs_other _ _ _ _ _ _ (.inr (by omega))]
    exact World.cell?_setCell_same _ _ _ z1
  · exact World.cell?_setCell_same _ _ _ ((cs_other _ _ _ _ _ _ (.inr (by omega))).trans z2)
  · rw [cs_other _ _ _ _ _ _ (.inr (by omega)), cs_other _ _ _ _ _ _ (.inr (by omega))]; exact z3
  · simpa using f0
  · simpa using f1
  · simpa using f2
  · simpa using f3
theorem ownR_one {s : ByteArray} (hs : Hid (Short s)) {e u kd : Int} (he : 0 ≤ e ∧ e ≤ 4294967295) (hu : 0 ≤ u ∧ u ≤ 65535) (hk : 0 ≤ kd ∧ kd ≤ 255) : OwnR ⟨s, 1 + e, 1 + u, 1 + kd % 3⟩ := by
  obtain ⟨E, B, h1, h2, h3⟩ := own_mk s (.inr hs.out) e u kd he hu hk
  exact ⟨⟨E, B, h1, h2, h3⟩, .inr hs.out⟩
/-- Policy's own cells: the result's and p's. -/
structure PCells (w : World) (H : Nat) (m : Int) (v : Value) : Prop where
  r0 : w.cell? ⟨H, 0, none⟩ = some (.int .i64 0)
  r1 : w.cell? ⟨H, 1, none⟩ = some (.slice none 0 0)
  p0 : w.cell? ⟨H + 1, 0, none⟩ = some (.int .i64 m)
  p1 : w.cell? ⟨H + 1, 1, none⟩ = some v
  fr0 : w.frozen? ⟨H, 0, none⟩ = false
  fr1 : w.frozen? ⟨H, 1, none⟩ = false
  fp0 : w.frozen? ⟨H + 1, 0, none⟩ = false
  fp1 : w.frozen? ⟨H + 1, 1, none⟩ = false
theorem PCells.under {w w' : World} {H N : Nat} {m : Int} {v : Value} (h : PCells w H m v) (g : Below N w w') (hN : H + 2 ≤ N) : PCells w' H m v :=
  ⟨(g.cell (p := ⟨H, 0, none⟩) (by show H < N; omega)).trans h.r0, (g.cell (p := ⟨H, 1, none⟩) (by show H < N; omega)).trans h.r1, (g.cell (p := ⟨H + 1, 0, none⟩) (by show H + 1 < N; omega)).trans h.p0, (g.cell (p := ⟨H + 1, 1, none⟩) (by show H + 1 < N; omega)).trans h.p1,
   (g.frozen (p := ⟨H, 0, none⟩) (by show H < N; omega)).trans h.fr0, (g.frozen (p := ⟨H, 1, none⟩) (by show H < N; omega)).trans h.fr1, (g.frozen (p := ⟨H + 1, 0, none⟩) (by show H + 1 < N; omega)).trans h.fp0, (g.frozen (p := ⟨H + 1, 1, none⟩) (by show H + 1 < N; omega)).trans h.fp1⟩
theorem PCells.put {w : World} {H : Nat} {m : Int} {v : Value} (h : PCells w H m v) (u : Value) : PCells (w.setCell ⟨H + 1, 1, none⟩ u) H m u :=
  ⟨(cs_other _ _ _ _ _ _ (.inl (by omega))).trans h.r0, (cs_other _ _ _ _ _ _ (.inl (by omega))).trans h.r1, (cs_other _ _ _ _ _ _ (.inr (by omega))).trans h.p0, World.cell?_setCell_same _ _ _ h.p1,
   (World.frozen?_setCell _ _ _ _).trans h.fr0, (World.frozen?_setCell _ _ _ _).trans h.fr1, (World.frozen?_setCell _ _ _ _).trans h.fp0, (World.frozen?_setCell _ _ _ _).trans h.fp1⟩
theorem pcells_new (w : World) (m : Int) {W : World} (hW : (w.alloc (.cells #[.int .i64 0, .slice none 0 0] 28)).alloc (.cells #[.int .i64 m, .slice none 0 0] 28) = W) : PCells W w.heap.size m (.slice none 0 0) := by
  subst hW
  have s1 : (w.alloc (.cells #[.int .i64 0, .slice none 0 0] 28)).heap.size = w.heap.size + 1 := by simp
  refine ⟨?_, ?_, ?_, ?_, ?_, ?_, ?_, ?_⟩
  · rw [World.cell?_alloc_past _ _ _ (by omega), World.cell?_alloc_at _ _ _ _ rfl]; rfl
  · rw [World.cell?_alloc_past _ _ _ (by omega), World.cell?_alloc_at _ _ _ _ rfl]; rfl
  · rw [World.cell?_alloc_at _ _ _ _ s1.symm]; rfl
  · rw [World.cell?_alloc_at _ _ _ _ s1.symm]; rfl
  · rw [World.frozen?_alloc_past _ _ _ (by omega), World.frozen?_alloc_at _ _ _ _ rfl]
  · rw [World.frozen?_alloc_past _ _ _ (by omega), World.frozen?_alloc_at _ _ _ _ rfl]
  · rw [World.frozen?_alloc_at _ _ _ _ s1.symm]
  · rw [World.frozen?_alloc_at _ _ _ _ s1.symm]
theorem has_step (rs : List Rl) (p : ByteArray) (j : Nat) (hj : j < rs.length) : (!hasB (rs.take (j + 1)) p) = (!hasB (rs.take j) p && decide ((fnOf rs j).p ≠ p)) := by
  have e : rs.take (j + 1) = rs.take j ++ [fnOf rs j] := by rw [fn_at hj, List.take_succ_eq_append_getElem hj]
  have hl : (rs.take j).length = j := by simp; omega
  have hat : ∀ i, i < j → fnOf (rs.take (j + 1)) i = fnOf (rs.take j) i := fun i hi => by rw [e]; simp [fnOf, List.getD_eq_getElem?_getD, List.getElem?_append_left, hl, hi]
  have hlast : fnOf (rs.take (j + 1)) j = fnOf rs j := by rw [e]; simp [fnOf, List.getD_eq_getElem?_getD, hl]
  have hl1 : (rs.take (j + 1)).length = j + 1 := by simp; omega
  unfold hasB
  rcases fd_ways (rs.take j) p with ⟨i, hi, he, _, g⟩ | ⟨h, g⟩
  · rw [hl] at hi
    rcases fd_ways (rs.take (j + 1)) p with ⟨i2, _, _, _, g2⟩ | ⟨h2, g2⟩
    · rw [g, g2, decide_eq_true (Int.natCast_nonneg _), decide_eq_true (Int.natCast_nonneg _)]; rfl
    · exact absurd ((hat i hi).symm ▸ he) (h2 i (by omega))
  · rw [hl] at h
    by_cases c : (fnOf rs j).p = p
    · rcases fd_ways (rs.take (j + 1)) p with ⟨i2, _, _, _, g2⟩ | ⟨h2, g2⟩
      · rw [g2, g, decide_eq_true (Int.natCast_nonneg _), show decide ((fnOf rs j).p ≠ p) = false from decide_eq_false (fun h => h c)]; simp
      · exact absurd (hlast.symm ▸ c) (h2 j (by omega))
    · rcases fd_ways (rs.take (j + 1)) p with ⟨i2, hi2, he2, _, g2⟩ | ⟨h2, g2⟩
      · rw [hl1] at hi2
        by_cases c2 : i2 = j
        · subst c2; rw [hlast] at he2; exact absurd he2 c
        · rw [hat i2 (by omega)] at he2; exact absurd he2 (h i2 (by omega))
      · rw [g2, g, show decide ((fnOf rs j).p ≠ p) = true from decide_eq_true c]; simp

theorem not_true {b : Bool} (h : true = !b) : b = false := by cases b <;> simp_all
theorem pol_end (w wr : World) (m : Int) (v : Value) (rs : List Rl) (hO : ORls wr (w.heap.size + 2) v rs) (hI : Hid (Polr m rs)) (hB : Below w.heap.size w wr) (hP : PCells wr w.heap.size m v) (hl : rs.length ≤ 13) :
    ((wr.setCell ⟨w.heap.size, 0, none⟩ (.int .i64 m)).setCell ⟨w.heap.size, 1, none⟩ v).cell? ⟨w.heap.size, 0, none⟩ = some (.int .i64 m) ∧ ((wr.setCell ⟨w.heap.size, 0, none⟩ (.int .i64 m)).setCell ⟨w.heap.size, 1, none⟩ v).cell? ⟨w.heap.size, 1, none⟩ = some v ∧
    ((∃ m' rs' v', Ending.returned (.agg #[.int .i64 m, v]) = .returned (.agg #[.int .i64 m', v']) ∧ ORls ((wr.setCell ⟨w.heap.size, 0, none⟩ (.int .i64 m)).setCell ⟨w.heap.size, 1, none⟩ v) w.heap.size v' rs' ∧ rs'.length ≤ 13 ∧ Hid (Polr m' rs')) ∧ Below w.heap.size w ((wr.setCell ⟨w.heap.size, 0, none⟩ (.int .i64 m)).setCell ⟨w.heap.size, 1, none⟩ v)) := by
  refine ⟨?_, ?_, ⟨m, rs, v, rfl, ?_, hl, hI⟩, (hB.setCell (p := ⟨w.heap.size, 0, none⟩) (Nat.le_refl _) _).setCell (p := ⟨w.heap.size, 1, none⟩) (Nat.le_refl _) _⟩
  · rw [cs_other _ _ _ _ _ _ (.inr (by omega))]
    exact World.cell?_setCell_same _ _ _ hP.r0
  · exact World.cell?_setCell_same _ _ _ ((cs_other _ _ _ _ _ _ (.inr (by omega))).trans hP.r1)
  · exact ownR_low (ownsRow_setCell_below (ownsRow_setCell_below hO (by show w.heap.size < w.heap.size + 2; omega) _) (by show w.heap.size < w.heap.size + 2; omega) _) (by omega)

set_option maxHeartbeats 2000000 in
theorem policy_any (most : Int) (A : Option Addr) (n cap : Nat) (w : World) (hm : 0 ≤ most ∧ most ≤ 65535) (h : Nmr w A n) (hn : n ≤ 9223372036854775807) :
    Calls Tryz.prog 11 #[.int .u16 most, .slice A n cap] w fun r w' => (∃ m rs v, r = .returned (.agg #[.int .i64 m, v]) ∧ ORls w' w.heap.size v rs ∧ rs.length ≤ 13 ∧ Hid (Polr m rs)) ∧ Below w.heap.size w w' := by
  have H := Lib.hid h
  clear h
  have hm1 : 1 ≤ 1 + most % 50 ∧ 1 + most % 50 ≤ 50 := by omega
  have hm3 : 1 ≤ 1 + most % 3 ∧ 1 + most % 3 ≤ 3 := by omega
  have HZ := Lib.hid (polr_start (1 + most % 50) (1 + most % 3) hm1.1 hm1.2 hm3)
  have PC0 := pcells_new w (1 + most % 50) rfl
  have ka := (Below.refl _ w).alloc (Nat.le_refl _) (.cells #[.int .i64 0, .slice none 0 0] 28)
  have kb := (Below.refl _ (w.alloc (.cells #[.int .i64 0, .slice none 0 0] 28))).alloc (Nat.le_refl _) (.cells #[.int .i64 (1 + most % 50), .slice none 0 0] 28)
  have k2 := kbq ka kb
  have hs2 : ((w.alloc (.cells #[.int .i64 0, .slice none 0 0] 28)).alloc (.cells #[.int .i64 (1 + most % 50), .slice none 0 0] 28)).heap.size = w.heap.size + 2 := by simp
  have kc := (Below.refl _ ((w.alloc (.cells #[.int .i64 0, .slice none 0 0] 28)).alloc (.cells #[.int .i64 (1 + most % 50), .slice none 0 0] 28))).alloc (Nat.le_refl _) (.cells #[.string ⟨#[]⟩, .int .u64 1000, .int .u64 5, .int .u8 (1 + most % 3)] 37)
  have RN := r4_new ((w.alloc (.cells #[.int .i64 0, .slice none 0 0] 28)).alloc (.cells #[.int .i64 (1 + most % 50), .slice none 0 0] 28)) ⟨nob, 1000, 5, 1 + most % 3⟩
  rw [hs2] at RN kc
  have PC1 := PC0.under kc (Nat.le_refl _)
  have k3 := Lib.hid (k2.trans (kc.mono (by omega)))
  have RN := Lib.hid RN
  clear ka kb k2 kc PC0 hs2
  go_enter Tryz.func11, Tryz.ntmps11
  go_wp2_with (at_builtin; refine wpList_app_rl _ rfl _ _ rfl (w.heap.size + 2) (.slice none 0 0) [] rfl (ORls.nil _ _) (w.heap.size + 2) 0 1 1 [⟨nob, 1000, 5, 1 + most % 3⟩] rfl rfl (by omega) (fun j hj => by obtain rfl : j = 0 := (by simp at hj; exact hj); exact RN.out) (by simp) (by simp) ?_; intro g cp w2 hO2 b2 gw gg; have P2 := PC1.under b2 (Nat.le_refl _); obtain ⟨r0, r1, p0, p1, fr0, fr1, fp0, fp1⟩ := P2; refine stopHere ?_)
  unfold Stop
  have P2 := Lib.hid ((PC1.under b2 (Nat.le_refl _)).put (.slice (some ⟨g, 0, none⟩) 1 cp))
  have hltP := cell_lt p0
  have O2 : ORls (w2.setCell ⟨w.heap.size + 1, 1, none⟩ (.slice (some ⟨g, 0, none⟩) 1 cp)) (w.heap.size + 2) (.slice (some ⟨g, 0, none⟩) 1 cp) [⟨nob, 1000, 5, 1 + most % 3⟩] := ownsRow_setCell_below hO2 (by show w.heap.size + 1 < w.heap.size + 2; omega) _
  have B2 := (k3.out.trans (b2.mono (by omega))).setCell (p := ⟨w.heap.size + 1, 1, none⟩) (by show w.heap.size ≤ w.heap.size + 1; omega) (.slice (some ⟨g, 0, none⟩) 1 cp)
  clear hO2 b2 gw gg PC1 RN k3
  have O2 := Lib.hid O2
  have B2 := Lib.hid B2
  go_wp2
  generalize hW2 : w2.setCell ⟨w.heap.size + 1, 1, none⟩ (.slice (some ⟨g, 0, none⟩) 1 cp) = W2 at *
  clear r0 r1 p0 p1 fr0 fr1 fp0 fp1 hltP hW2
  generalize hm0 : 1 + most % 50 = m at *
  generalize hH : w.heap.size = H0 at *
  clear hm0 hm1 hm3 hm
  go_loopw [6] (fun i wr => ∃ (k : Nat) (rs : List Rl) (v : Value), i = .int .i64 (k : Int) ∧ k ≤ 12 ∧ k ≤ n ∧ PCells wr H0 m v ∧ ORls wr (H0 + 2) v rs ∧ rs.length ≤ k + 1 ∧ Hid (Polr m rs) ∧ Below H0 w wr) (fun i _ => 12 - (intOf i).toNat)
  case atStart => exact ⟨0, _, _, rfl, by omega, by omega, P2.out, O2.out, by simp, HZ, B2.out⟩
  case round =>
    obtain ⟨k, rs, v, rfl, hk, hkn, hP, hO, hl, hI, hB⟩ := hrel
    obtain ⟨r0, r1, p0, p1, fr0, fr1, fp0, fp1⟩ := hP
    have i0 : (0 : Int) ≤ (k : Int) := Int.natCast_nonneg _
    by_cases c1 : k < n
    · have i1 : (k : Int) < (n : Int) := by omega
      by_cases c2 : k < 12
      · have i2 : (k : Int) < 12 := by omega
        subst hH
        obtain ⟨b, off, Ai, ni, ci, e, u, kd, rfl, y0, y1, y2, y3, HH⟩ := (H.out.below hB) k c1
        have KA := key_any Ai ni ci
        obtain ⟨hby, hni, he, hu, hk8⟩ := HH.out
        have HBy := Lib.hid hby
        have hbl := cell_lt y0
        have kr := Below.refl wr.heap.size wr
        have eK : ∀ W, Below wr.heap.size wr W → Calls Tryz.prog 24 #[.slice Ai ni ci] W fun e w' => ∃ s, e = .returned (.string s) ∧ Hid (Short s) ∧ Below W.heap.size W w' := fun W g => (KA W (HBy.out.below g) hni).mono fun r w' ⟨s, h1, h2, _, h4⟩ => ⟨s, h1, h2, h4⟩
        clear HH hby KA
        have ee : IntKind.u64.wrap e = e := IntWalk.u64_in _ (by omega)
        have ee1 : IntKind.u64.wrap (1 + e) = 1 + e := IntWalk.u64_in _ (by omega)
        have eu : IntKind.u64.wrap u = u := IntWalk.u64_in _ (by omega)
        have eu1 : IntKind.u64.wrap (1 + u) = 1 + u := IntWalk.u64_in _ (by omega)
        have e3 : kd.tmod 3 = kd % 3 := Int.tmod_eq_emod_of_nonneg hk8.1
        have e31 : IntKind.u8.wrap (1 + kd % 3) = 1 + kd % 3 := IntWalk.u8_in _ (by omega)
        have e32 : IntKind.u8.wrap (kd % 3) = kd % 3 := IntWalk.u8_in _ (by omega)
        go_upto_region 6 with fail
        go_cut [7] from 35 to 62 (fun c wx => ∃ (X : Nat) (s : ByteArray), c = .pointer (some ⟨X, 0, none⟩) ∧ wr.heap.size ≤ X ∧ XC wx X ⟨s, 1 + e, 1 + u, 1 + kd % 3⟩ ∧ Hid (Short s) ∧ Below wr.heap.size wr wx)
        case first =>
          go_region_held3 (fun w' => Below wr.heap.size wr w' ∧ w'.cell? ⟨b, off + k * 4, none⟩ = some (.slice Ai ni ci) ∧ w'.cell? ⟨b, off + k * 4 + 1, none⟩ = some (.int .u32 e) ∧ w'.cell? ⟨b, off + k * 4 + 2, none⟩ = some (.int .u16 u) ∧ w'.cell? ⟨b, off + k * 4 + 3, none⟩ = some (.int .u8 kd))
            (first | with_reducible exact ⟨kr, y0, y1, y2, y3⟩ | with_reducible exact ⟨kr.drew, (dcell y0), (dcell y1), (dcell y2), (dcell y3)⟩ | with_reducible exact ⟨(kr.alloc kr.size _), (acell y0), (acell y1), (acell y2), (acell y3)⟩ | with_reducible exact ⟨(kr.alloc kr.size _).drew, (dcell (acell y0)), (dcell (acell y1)), (dcell (acell y2)), (dcell (acell y3))⟩ | with_reducible exact ⟨(sbel kr), scell y0 hbl, scell y1 hbl, scell y2 hbl, scell y3 hbl⟩ | with_reducible exact ⟨(sbel kr).drew, dcell (scell y0 hbl), dcell (scell y1 hbl), dcell (scell y2 hbl), dcell (scell y3 hbl)⟩)
            (first | (go_at_call 24; ((with_reducible refine (eK _ (by first | with_reducible exact kr | with_reducible exact kr.drew | with_reducible exact (kr.alloc kr.size _) | with_reducible exact (kr.alloc kr.size _).drew)).mono ?_); rintro r w4 ⟨s, rfl, hs, g⟩; (first | with_reducible (replace kr := kbq kr g; replace y0 := celln g y0; replace y1 := celln g y1; replace y2 := celln g y2; replace y3 := celln g y3) | with_reducible (replace kr := kbq kr.drew g; replace y0 := celln g (dcell y0); replace y1 := celln g (dcell y1); replace y2 := celln g (dcell y2); replace y3 := celln g (dcell y3)) | with_reducible (obtain ⟨⟨z0, z1, z2, z3⟩, ⟨zf0, zf1, zf2, zf3⟩⟩ := zero4 g; replace kr := kbq (kr.alloc kr.size _) g; replace y0 := celln g (acell y0); replace y1 := celln g (acell y1); replace y2 := celln g (acell y2); replace y3 := celln g (acell y3)) | with_reducible (obtain ⟨⟨z0, z1, z2, z3⟩, ⟨zf0, zf1, zf2, zf3⟩⟩ := zero4d g; replace kr := kbq (kr.alloc kr.size _).drew g; replace y0 := celln g (dcell (acell y0)); replace y1 := celln g (dcell (acell y1)); replace y2 := celln g (dcell (acell y2)); replace y3 := celln g (dcell (acell y3)))))))
          all_goals
            rename_i hH
            obtain ⟨k5, y0, y1, y2, y3⟩ := hH
            first
            | (have hXC := xc_set (p := s) (e := 1 + e) (b := 1 + u) (k := 1 + kd % 3) z0 z1 z2 z3 zf0 zf1 zf2 zf3; have hX : wr.heap.size ≤ wr.heap.size := Nat.le_refl _
               generalize hW : (((w4.setCell ⟨wr.heap.size, 0, none⟩ (.string s)).setCell ⟨wr.heap.size, 1, none⟩ (.int .u64 (1 + e))).setCell ⟨wr.heap.size, 2, none⟩ (.int .u64 (1 + u))).setCell ⟨wr.heap.size, 3, none⟩ (.int .u8 (1 + kd % 3)) = W5 at *)
            | (have hXC := xc_new w4 s (1 + e) (1 + u) (1 + kd % 3); have hX := kr.size
               generalize hW : w4.alloc (.cells #[.string s, .int .u64 (1 + e), .int .u64 (1 + u), .int .u8 (1 + kd % 3)] 37) = W5 at *)
            go_wp2
            go_meet
            case rel => exact ⟨_, _, rfl, hX, hXC, hs, k5⟩
        case rest =>
        obtain ⟨X, s, rfl, hX, hXC, hs, k5⟩ := hcut
        clear eK kr
        have hOw := Lib.hid (ownR_one hs he hu hk8)
        have hOw2 := Lib.hid (ownR_one (s := s) (e := e % 50) (u := u % 9) (kd := kd) hs (by omega) (by omega) hk8)
        replace y1 := celln k5 y1
        replace y2 := celln k5 y2
        replace y3 := celln k5 y3
        have hXC' := Lib.hid hXC
        obtain ⟨⟨x0, x1, x2, x3⟩, f0, f1, f2, f3⟩ := hXC
        go_upto_region 7 with fail
        go_cut [68] from 63 to 68 (fun c wy => ∃ t : Bool, c = .bool t ∧ Hid (t = decide (200 ≤ kd)) ∧ wy = wc)
        case first =>
          by_cases c3 : 200 ≤ kd
          · have c5 : ¬ kd < 200 := by omega
            have c6 : decide (kd < 200) = false := decide_eq_false c5
            have c7 : decide (200 ≤ kd) = true := decide_eq_true c3
            go_wp2
            go_meet
            case rel => exact ⟨true, rfl, Lib.hid (decide_eq_true c3).symm, rfl⟩
          · have c4 : kd < 200 := by omega
            have c6 : decide (kd < 200) = true := decide_eq_true c4
            have c7 : decide (200 ≤ kd) = false := decide_eq_false (by omega : ¬ 200 ≤ kd)
            go_wp2
            go_meet
            case rel => exact ⟨false, rfl, Lib.hid (decide_eq_false (by omega : ¬ 200 ≤ kd)).symm, rfl⟩
        case rest =>
        obtain ⟨t, rfl, ht, rfl⟩ := hcut
        go_upto_if 68 with fail
        go_cut [] from 69 to 86 (fun wy => ∃ x : Rl, XC wy X x ∧ Hid (OwnR x) ∧ Below wr.heap.size wr wy)
        case first =>
          cases t
          case true =>
            have e5 : e.tmod 50 = e % 50 := Int.tmod_eq_emod_of_nonneg he.1
            have e51 : IntKind.u32.wrap (e % 50) = e % 50 := IntWalk.u32_in _ (by omega)
            have e52 : IntKind.u64.wrap (e % 50) = e % 50 := IntWalk.u64_in _ (by omega)
            have e53 : IntKind.u64.wrap (1 + e % 50) = 1 + e % 50 := IntWalk.u64_in _ (by omega)
            have e9 : u.tmod 9 = u % 9 := Int.tmod_eq_emod_of_nonneg hu.1
            have e91 : IntKind.u16.wrap (u % 9) = u % 9 := IntWalk.u16_in _ (by omega)
            have e92 : IntKind.u64.wrap (u % 9) = u % 9 := IntWalk.u64_in _ (by omega)
            have e93 : IntKind.u64.wrap (1 + u % 9) = 1 + u % 9 := IntWalk.u64_in _ (by omega)
            have hlb := Nat.lt_of_lt_of_le hbl hX
            have hne := Nat.ne_of_lt hlb
            go_wp2
            go_meet
            case rel => exact ⟨_, xc_two hXC'.out (1 + e % 50) (1 + u % 9), hOw2, (k5.setCell (p := ⟨X, 1, none⟩) hX _).setCell (p := ⟨X, 2, none⟩) hX _⟩
          case false =>
            go_wp2
            go_meet
            case rel => exact ⟨_, hXC'.out, hOw, k5⟩
        case rest =>
        obtain ⟨x, hXC2, hOx, k6⟩ := hcut
        clear hXC' x0 x1 x2 x3 f0 f1 f2 f3 hOw hOw2 k5 y0 y1 y2 y3 ee ee1 eu eu1 e3 e31 e32 he hu hk8 ht hni
        have lH : w.heap.size < wr.heap.size := cell_lt r0
        have lP : w.heap.size + 1 < wr.heap.size := cell_lt p0
        replace r0 := celln k6 r0
        replace r1 := celln k6 r1
        replace p0 := celln k6 p0
        replace p1 := celln k6 p1
        replace fr0 := (k6.frozen (p := ⟨w.heap.size, 0, none⟩) lH).trans fr0
        replace fr1 := (k6.frozen (p := ⟨w.heap.size, 1, none⟩) lH).trans fr1
        replace fp0 := (k6.frozen (p := ⟨w.heap.size + 1, 0, none⟩) lP).trans fp0
        replace fp1 := (k6.frozen (p := ⟨w.heap.size + 1, 1, none⟩) lP).trans fp1
        have hO6 := ownR_below hO k6
        have hB6 := kbq hB k6
        obtain ⟨A3, c3, rfl, hq3, hq4, hRl⟩ := hO6.rls (fun r hr => (hI.out.own r hr).okr)
        have HRl := Lib.hid hRl
        have HO6 := Lib.hid hO6
        have HX := Lib.hid hXC2
        obtain ⟨⟨x0, x1, x2, x3⟩, f0, f1, f2, f3⟩ := hXC2
        obtain ⟨xp, xe, xb, xk⟩ := x
        simp only at x0 x1 x2 x3
        clear hO hRl k6 hB
        have hxw := cell_lt x0
        have P6 := Lib.hid (PCells.mk r0 r1 p0 p1 fr0 fr1 fp0 fp1)
        have sz6 : w.heap.size + 2 ≤ wc.heap.size := by have := cell_lt p0; omega
        have hbs : Hid (∀ j, j < rs.length → Hid ((!hasB (rs.take (j + 1)) xp) = (!hasB (rs.take j) xp && decide ((fnOf rs j).p ≠ xp)))) := Lib.hid (fun j hj => Lib.hid (has_step rs xp j hj))
        go_wp2_with fail
        go_loopw [8, 9] (fun tv i wi => ∃ (j : Nat) (tb : Bool), i = .int .i64 (j : Int) ∧ tv = .bool tb ∧ j ≤ rs.length ∧ Hid (tb = !hasB (rs.take j) xp) ∧ Below wc.heap.size wc wi) (fun _ i _ => rs.length - (intOf i).toNat)
        case atStart => exact ⟨0, true, rfl, rfl, Nat.zero_le _, Lib.hid rfl, Below.refl _ _⟩
        case round =>
          obtain ⟨j, tb, rfl, rfl, hj, ht, kB⟩ := hrel
          have j0 : (0 : Int) ≤ (j : Int) := Int.natCast_nonneg _
          replace p1 := celln kB p1
          replace x0 := celln kB x0
          by_cases cj : j < rs.length
          · have j1 : (j : Int) < (rs.length : Int) := by omega
            obtain ⟨b3, o3, rfl, hb3, hc3⟩ := (HRl.out.below kB).2.2 (by omega)
            have e0 := (hc3 j cj).1
            have hst := hbs.out j cj
            generalize hpe : (fnOf rs j).p = pe at e0 hst
            clear hpe hc3
            cases tb
            · go_wp2
              go_region
              go_wp2
              go_roundw
              case rel => exact ⟨j + 1, false, rfl, rfl, cj, Lib.hid (by rw [hst.out, ← ht.out]; rfl), kB.drew⟩
              case measure => simp [intOf]; omega
            · have ts := text_same (a := pe) (b := xp)
              cases hd : decide (pe = xp)
              · rw [hd] at ts
                have hne := of_decide_eq_false hd
                clear hd
                go_wp2
                go_region
                go_wp2
                go_roundw
                case rel => exact ⟨j + 1, true, rfl, rfl, cj, Lib.hid (by rw [hst.out, ← ht.out, decide_eq_true hne]; rfl), kB.drew⟩
                case measure => simp [intOf]; omega
              · rw [hd] at ts
                have heq := of_decide_eq_true hd
                clear hd
                go_wp2
                go_region
                go_wp2
                go_roundw
                case rel => exact ⟨j + 1, false, rfl, rfl, cj, Lib.hid (by rw [hst.out, ← ht.out, show decide (pe ≠ xp) = false from decide_eq_false (fun h => h heq)]; rfl), kB.drew⟩
                case measure => simp [intOf]; omega
          · have j1 : ¬ (j : Int) < (rs.length : Int) := by omega
            have hjj : j = rs.length := by omega
            subst hjj
            replace x1 := celln kB x1
            replace x2 := celln kB x2
            replace x3 := celln kB x3
            have B7 := kbq hB6 kB
            have O7 := ownR_below HO6.out kB
            have P7 := P6.out.under kB sz6
            have P7' := Lib.hid P7
            obtain ⟨r0, r1, p0, p1, fr0, fr1, fp0, fp1⟩ := P7
            rw [List.take_length] at ht
            cases tb
            · go_wp2
              go_roundw
              case rel => exact ⟨k + 1, rs, _, rfl, by omega, by omega, P7'.out, O7, by omega, hI, B7⟩
              case measure => simp [intOf]; omega
            · have hno : hasB rs xp = false := not_true ht.out
              have hPo := Lib.hid (polr_more hI.out hOx.out hno)
              have RN2 := Lib.hid (r4_new wr ⟨xp, xe, xb, xk⟩)
              have O8 : ORls (wr.alloc (.cells #[.string xp, .int .u64 xe, .int .u64 xb, .int .u8 xk] 37)) (w.heap.size + 2) (.slice A3 rs.length c3) rs := ownR_below O7 ((Below.refl _ wr).alloc (Nat.le_refl _) _)
              have O8 := Lib.hid O8
              have kE := (Below.refl _ wr).alloc (Nat.le_refl _) (.cells #[.string xp, .int .u64 xe, .int .u64 xb, .int .u8 xk] 37)
              have P8 := P7'.out.under kE (Nat.le_trans sz6 kB.size)
              have B8 := Lib.hid (kbq B7 kE)
              have hsz8 : w.heap.size + 2 ≤ (wr.alloc (.cells #[.string xp, .int .u64 xe, .int .u64 xb, .int .u8 xk] 37)).heap.size := Nat.le_trans (Nat.le_trans sz6 kB.size) kE.size
              clear kE
              go_wp2_with (at_builtin; refine wpList_app_rl _ rfl _ _ rfl (w.heap.size + 2) (.slice A3 rs.length c3) rs rfl O8.out wr.heap.size 0 1 1 [⟨xp, xe, xb, xk⟩] rfl rfl (by omega) (fun j hj => by obtain rfl : j = 0 := (by simp at hj; exact hj); exact RN2.out) (by omega) hsz8 ?_; intro g2 cp2 w8 hO9 b8 gw8 gg8; have P9 := P8.under b8 (Nat.le_refl _); have P9' := Lib.hid P9; clear P8 r0 r1 p0 p1 fr0 fr1 fp0 fp1; obtain ⟨r0, r1, p0, p1, fr0, fr1, fp0, fp1⟩ := P9; refine stopHere ?_)
              unfold Stop
              have PA := Lib.hid (P9'.out.put (.slice (some ⟨g2, 0, none⟩) (rs.length + 1) cp2))
              have OA : ORls (w8.setCell ⟨w.heap.size + 1, 1, none⟩ (.slice (some ⟨g2, 0, none⟩) (rs.length + 1) cp2)) (w.heap.size + 2) (.slice (some ⟨g2, 0, none⟩) (rs.length + 1) cp2) (rs ++ [⟨xp, xe, xb, xk⟩]) := ownsRow_setCell_below hO9 (by show w.heap.size + 1 < w.heap.size + 2; omega) _
              have OA := Lib.hid OA
              have BA := Lib.hid ((B8.out.trans (b8.mono (by omega))).setCell (p := ⟨w.heap.size + 1, 1, none⟩) (by show w.heap.size ≤ w.heap.size + 1; omega) (.slice (some ⟨g2, 0, none⟩) (rs.length + 1) cp2))
              clear hO9 b8 gw8 gg8 P9'
              go_wp2
              go_roundw
              case rel => exact ⟨k + 1, _, _, rfl, by omega, by omega, PA.out, OA.out, by simp; omega, hPo, BA.out⟩
              case measure => simp [intOf]; omega
      · have i2 : ¬ (k : Int) < 12 := by omega
        subst hH
        obtain ⟨A3, q3, rfl, _, _, _⟩ := hO.rls (fun r hr => (hI.out.own r hr).okr)
        have OZ := Lib.hid (pol_end w wr m _ rs hO hI hB ⟨r0, r1, p0, p1, fr0, fr1, fp0, fp1⟩ (by omega))
        go_wp2
        obtain ⟨q0, q1, hz⟩ := OZ.out
        show bodyPost Tryz.prog Tryz.f11 _ _ _ _
        refine bodyPost_ret (v := .agg #[.int .i64 m, .slice A3 rs.length q3]) ?_ rfl hz
        simp [results, Tryz.results11, go_sem, q0, q1]
    · have i1 : ¬ (k : Int) < (n : Int) := by omega
      subst hH
      obtain ⟨A3, q3, rfl, _, _, _⟩ := hO.rls (fun r hr => (hI.out.own r hr).okr)
      have OZ := Lib.hid (pol_end w wr m _ rs hO hI hB ⟨r0, r1, p0, p1, fr0, fr1, fp0, fp1⟩ (by omega))
      go_wp2
      obtain ⟨q0, q1, hz⟩ := OZ.out
      show bodyPost Tryz.prog Tryz.f11 _ _ _ _
      refine bodyPost_ret (v := .agg #[.int .i64 m, .slice A3 rs.length q3]) ?_ rfl hz
      simp [results, Tryz.results11, go_sem, q0, q1]
end Go.Proofs.YtckaiejbgnhgcaaGreatDoor.Wd
namespace Go.Proofs.YtckaiejbgnhgcaaGreatDoor.Wd
open Go Go.RowKit
set_option linter.unusedVariables false
set_option maxRecDepth 100000

theorem strx_lb (x : ByteArray) : str (lb x) = x := by cases x; simp [str, lb]
theorem txs_wpos : ∀ (l : List ByteArray) (n c : Nat) (b : Bool), txs (Ws.wpos n c b (l.map lb)) = l
  | [], n, c, b => rfl
  | x :: l, n, c, b => by
    show str (lb x) :: txs (Ws.wpos n _ true (l.map lb)) = x :: l
    rw [strx_lb, txs_wpos l]
theorem lnA_size (m : Int) (h : 1 ≤ m ∧ m ≤ 1000000) : lnA 0 [] [sizS, dig m.toNat] = .ok m [] := by
  have hp := dig_pa m.toNat (by omega)
  have e0 : [sizS, dig m.toNat].getD 0 nob = sizS := rfl
  have e1 : [sizS, dig m.toNat].getD 1 nob = dig m.toNat := rfl
  have e2 : ((m.toNat : Nat) : Int) = m := by omega
  unfold lnA
  rw [if_pos e0]
  unfold lnS
  rw [e1, hp.1, hp.2, e2, if_neg (by simp), if_neg (by omega), if_neg (by omega), if_neg (by omega)]
theorem rl_back {r : Rl} (hk : Okr r) (he : r.er = 0) : ansA (rlW r) = ⟨r.p, r.e, r.b, r.k, 0, 0⟩ := by
  obtain ⟨h1, h2, h3, h4⟩ := hk
  unfold U at h2 h3
  have e1 : ((r.e.toNat : Nat) : Int) = r.e := by omega
  have e2 : ((r.b.toNat : Nat) : Int) = r.b := by omega
  have := ans_print r.p r.e.toNat r.b.toNat r.k (by omega) (by omega) (by rw [e1, e2]; exact he)
  rw [e1, e2] at this
  exact this
theorem rl_head {r : Rl} (hk : Okr r) (he : r.er = 0) : (rlW r).getD 0 nob ≠ sizS := by
  obtain ⟨h1, h2, h3, h4⟩ := hk
  unfold U at h2 h3
  have e1 : ((r.e.toNat : Nat) : Int) = r.e := by omega
  have e2 : ((r.b.toNat : Nat) : Int) = r.b := by omega
  unfold rlW prW
  rw [e1, e2, if_neg (by simpa using he)]
  split
  · show defS ≠ sizS; decide
  · show rulS ≠ sizS; decide
theorem lnA_rule {m : Int} {acc : List Rl} {r : Rl} (hk : Okr r) (he : r.er = 0) (hn : hasB acc r.p = false) (hl : acc.length < 1000) : lnA m acc (rlW r) = .ok m (acc ++ [r]) := by
  unfold lnA
  rw [if_neg (rl_head hk he)]
  unfold lnR
  rw [rl_back hk he, if_neg (by simp), if_neg (by simp [hn]), if_neg (by omega)]
theorem has_of {rs : List Rl} {p : ByteArray} (h : ∀ j, j < rs.length → (fnOf rs j).p ≠ p) : hasB rs p = false := by
  unfold hasB
  rw [fd_none h]
  decide
/-- The lines of rules, one behind the other. -/
theorem psL_rules (m : Int) : ∀ (L : List Rl) (acc : List Rl) (n : Nat), (∀ r ∈ L, Okr r ∧ r.er = 0) → Dst (acc ++ L) → (acc ++ L).length ≤ 1000 →
    psL m acc (Ws.placed n (lbs (L.map rlW))) = psL m (acc ++ L) []
  | [], acc, n, _, _, _ => by rw [List.append_nil]; rfl
  | r :: L, acc, n, h, hd, hl => by
    have hr := h r List.mem_cons_self
    have hn : hasB acc r.p = false := by
      refine has_of fun j hj => ?_
      have hj2 : acc.length < (acc ++ r :: L).length := by simp
      have := hd j acc.length hj hj2
      have e1 : fnOf (acc ++ r :: L) j = fnOf acc j := by simp [fnOf, List.getD_eq_getElem?_getD, List.getElem?_append_left hj]
      have e2 : fnOf (acc ++ r :: L) acc.length = r := by simp [fnOf, List.getD_eq_getElem?_getD]
      rw [e1, e2] at this
      exact this
    have hl2 : acc.length < 1000 := by simp at hl; omega
    have eA := lnA_rule (m := m) hr.1 hr.2 hn hl2
    generalize hZ : psL m (acc ++ r :: L) [] = Z
    show psL m acc (Ws.wpos n 1 false ((rlW r).map lb) :: Ws.placed (n + 1) (lbs (L.map rlW))) = _
    rw [psL, txs_wpos, eA, if_neg (by simp)]
    subst hZ
    have := psL_rules m L (acc ++ [r]) (n + 1) (fun x hx => h x (List.mem_cons_of_mem _ hx)) (by rw [List.append_assoc]; exact hd) (by rw [List.append_assoc]; exact hl)
    rw [List.append_assoc] at this
    exact this
theorem has_ord {rs : List Rl} {p : ByteArray} (h : hasB rs p = true) : hasB (ordL rs) p = true := by
  rcases fd_ways rs p with ⟨k, hk, he, _, _⟩ | ⟨_, g⟩
  · have hm : fnOf rs k ∈ ordL rs := (ordL_mem rs _).2 (fn_mem hk)
    obtain ⟨j, hj, e⟩ := List.getElem_of_mem hm
    rcases fd_ways (ordL rs) p with ⟨i, _, _, _, g⟩ | ⟨h2, _⟩
    · unfold hasB; rw [g]; exact decide_eq_true (Int.natCast_nonneg _)
    · exact absurd (by rw [fn_at hj, e]; exact he) (h2 j hj)
  · unfold hasB at h; rw [g] at h; cases h
theorem vs_in {b : UInt8} (h : visB (b.toNat : Int) = true) : Ws.vs b = true := by
  have h1 := of_decide_eq_true h
  have h2 : 33 ≤ b ∧ b ≤ 126 := by
    rw [UInt8.le_iff_toNat_le, UInt8.le_iff_toNat_le]
    exact ⟨by have := h1.1; show 33 ≤ b.toNat; omega, by have := h1.2; show b.toNat ≤ 126; omega⟩
  have n1 : ¬ (b = 32 ∨ b = 9) := fun h => by rcases h with h | h <;> (subst h; exact absurd h2.1 (by decide))
  have n2 : ¬ b = 10 := fun h => by subst h; exact absurd h2.1 (by decide)
  unfold Ws.vs Ws.kd
  rw [if_neg n1, if_neg n2]
  by_cases c : b = 35
  · rw [if_pos c]; decide
  · rw [if_neg c, if_pos h2]; decide
theorem dig_vis (n : Nat) : Ws.VisW (lb (dig n)) := by
  have hp := (plainB_iff _).1 (plain_dec n)
  have e : lb (dig n) = Lib.decDigits n := by unfold dig lb; rw [str_data]
  rw [e]
  refine ⟨hp.1, fun b hb => vs_in ?_⟩
  have := List.all_eq_true.1 hp.2.2 b hb
  unfold digB at this
  simp only [Bool.and_eq_true, decide_eq_true_eq] at this
  exact decide_eq_true (by omega)
theorem nam_vis (k : Int) (h : 1 ≤ k ∧ k ≤ 3) : Ws.VisW (lb (namS k)) := by
  have hk : k = 1 ∨ k = 2 ∨ k = 3 := by omega
  rcases hk with rfl | rfl | rfl
  · exact ⟨by decide, by decide⟩
  · exact ⟨by decide, by decide⟩
  · exact ⟨by decide, by decide⟩
theorem pf_vis {p : ByteArray} (h : pfB p = true) (h0 : ¬ p.size = 0) : Ws.VisW (lb p) := by
  have hr : rtB (lb p) = true := by
    unfold pfB at h
    rw [decide_eq_false h0] at h
    simpa using h
  unfold rtB at hr
  simp only [Bool.and_eq_true, decide_eq_true_eq] at hr
  refine ⟨fun e => ?_, fun b hb => vs_in (List.all_eq_true.1 hr.2 b hb)⟩
  rw [e] at hr
  exact absurd hr.1.1 (by simp)
theorem rl_line {r : Rl} (hk : Okr r) (he : r.er = 0) : Ws.LineP ((rlW r).map lb) := by
  obtain ⟨h1, h2, h3, h4⟩ := hk
  unfold U at h2 h3
  have e1 : ((r.e.toNat : Nat) : Int) = r.e := by omega
  have e2 : ((r.b.toNat : Nat) : Int) = r.b := by omega
  have hy := ru_yes (p := r.p) (E := r.e.toNat) (B := r.b.toNat) (c := r.k) (by rw [e1, e2]; exact he)
  unfold rlW prW
  rw [e1, e2, if_neg (by simpa using he)]
  by_cases c : r.p.size = 0
  · rw [if_pos c]
    refine ⟨by simp, fun x hx => ?_, fun x hx => ?_⟩
    · simp only [List.map_cons, List.map_nil, List.mem_cons, List.not_mem_nil, or_false] at hx
      rcases hx with rfl | rfl | rfl | rfl
      · exact ⟨by decide, by decide⟩
      · exact dig_vis _
      · exact dig_vis _
      · exact nam_vis _ ⟨hy.2.2.2.2.1, hy.2.2.2.2.2⟩
    · simp at hx; subst hx; decide
  · rw [if_neg c]
    refine ⟨by simp, fun x hx => ?_, fun x hx => ?_⟩
    · simp only [List.map_cons, List.map_nil, List.mem_cons, List.not_mem_nil, or_false] at hx
      rcases hx with rfl | rfl | rfl | rfl | rfl
      · exact ⟨by decide, by decide⟩
      · exact pf_vis hy.1 c
      · exact dig_vis _
      · exact dig_vis _
      · exact nam_vis _ ⟨hy.2.2.2.2.1, hy.2.2.2.2.2⟩
    · simp at hx; subst hx; decide
theorem size_line (n : Nat) : Ws.LineP ([sizS, dig n].map lb) := by
  refine ⟨by simp, fun x hx => ?_, fun x hx => ?_⟩
  · simp only [List.map_cons, List.map_nil, List.mem_cons, List.not_mem_nil, or_false] at hx
    rcases hx with rfl | rfl
    · exact ⟨by decide, by decide⟩
    · exact dig_vis _
  · simp at hx; subst hx; decide
theorem line_ok {m : Int} {rs : List Rl} (h : riE m rs = 0) (ok : ∀ r ∈ rs, Okr r) : ∀ row ∈ lbs (prLb m rs), Ws.LineP row := by
  obtain ⟨h1, h2, h3, h4, h5⟩ := riE_0 h
  intro row hr
  obtain ⟨l, hl, rfl⟩ := List.mem_map.1 hr
  unfold prLb at hl
  rcases List.mem_cons.1 hl with rfl | hl
  · exact size_line _
  · obtain ⟨r, hrr, rfl⟩ := List.mem_map.1 hl
    have hm := (ordL_mem rs r).1 hrr
    exact rl_line (ok r hm) (frE_all h3 r hm)
theorem print_back {m : Int} {rs : List Rl} (h : riE m rs = 0) (ok : ∀ r ∈ rs, Okr r) : cfgP (prTx m rs) = .ok m (ordL rs) := by
  obtain ⟨h1, h2, h3, h4, h5⟩ := riE_0 h
  have hl := prTx_len h ok
  have hs := Ws.spl_jn (lbs (prLb m rs)) (line_ok h ok) (by show (prTx m rs).length ≤ _; omega)
  unfold cfgP
  show (if (Ws.spl (Ws.jn (lbs (prLb m rs)))).er ≠ 0 then _ else psL 0 [] (Ws.spl (Ws.jn (lbs (prLb m rs)))).rows) = _
  rw [hs, if_neg (by show ¬ (0 : Nat) ≠ 0; simp)]
  show psL 0 [] (Ws.wpos 1 1 false ([sizS, dig m.toNat].map lb) :: Ws.placed 2 (lbs ((ordL rs).map rlW))) = _
  rw [psL, txs_wpos, lnA_size m h1, if_neg (by simp)]
  rw [psL_rules m (ordL rs) [] 2 (fun r hr => ⟨ordL_ok ok r hr, frE_all h3 r ((ordL_mem rs r).1 hr)⟩) ((ordL_dst rs).2 h5) (by rw [List.nil_append, ordL_length]; exact h2), List.nil_append]
  unfold psL
  have hE : enE m (ordL rs) = 0 := by unfold enE; rw [if_neg (by omega), if_neg (by rw [has_ord h4]; decide)]
  rw [hE, if_neg (by simp), ordL_again]
end Go.Proofs.YtckaiejbgnhgcaaGreatDoor.Wd
namespace Go.Proofs.YtckaiejbgnhgcaaGreatDoor.Wd.Ws
set_option linter.unusedVariables false
theorem placed_app : ∀ (a b : List (List (List UInt8))) (n : Nat), placed n (a ++ b) = placed n a ++ placed (n + a.length) b
  | [], b, n => by simp [placed]
  | x :: a, b, n => by
    rw [List.cons_append, placed, placed, placed_app a b (n + 1), List.cons_append, List.length_cons, show n + 1 + a.length = n + (a.length + 1) by omega]
/-- A last end of a line counts for nothing. -/
theorem aut_nl : ∀ (q : List UInt8) (m : Mo) (n c : Nat) (line : List Wo) (lines : List (List Wo)), aut (q ++ [10]) m n c line lines = aut q m n c line lines
  | [], m, n, c, line, lines => by
    rw [List.nil_append, aut_3 (by decide), aut_nil, aut_nil]
    rfl
  | b :: t, m, n, c, line, lines => by
    rw [List.cons_append]
    rcases aut_ways b with h | h | h | h
    · rw [aut_1 h, aut_1 h]
    · rw [aut_2 h, aut_2 h]; exact aut_nl t _ _ _ _ _
    · rw [aut_3 h, aut_3 h]; exact aut_nl t _ _ _ _ _
    · rw [aut_v h, aut_v h]; exact aut_nl t _ _ _ _ _
theorem spl_nl (q : List UInt8) (h : q.length + 1 ≤ 1048576) : spl (q ++ [10]) = spl q := by
  unfold spl
  rw [if_neg (by simp; omega), if_neg (by omega), aut_nl]
end Go.Proofs.YtckaiejbgnhgcaaGreatDoor.Wd.Ws
namespace Go.Proofs.YtckaiejbgnhgcaaGreatDoor.Wd
open Go Go.RowKit
set_option linter.unusedVariables false
set_option maxRecDepth 100000
/-- The lines of rules, one behind the other, and others behind them. -/
theorem psL_rules_t (m : Int) (T : List (List Ws.Wo)) : ∀ (L : List Rl) (acc : List Rl) (n : Nat), (∀ r ∈ L, Okr r ∧ r.er = 0) → Dst (acc ++ L) → (acc ++ L).length ≤ 1000 →
    psL m acc (Ws.placed n (lbs (L.map rlW)) ++ T) = psL m (acc ++ L) T
  | [], acc, n, _, _, _ => by rw [List.append_nil]; rfl
  | r :: L, acc, n, h, hd, hl => by
    have hr := h r List.mem_cons_self
    have hn : hasB acc r.p = false := by
      refine has_of fun j hj => ?_
      have hj2 : acc.length < (acc ++ r :: L).length := by simp
      have := hd j acc.length hj hj2
      have e1 : fnOf (acc ++ r :: L) j = fnOf acc j := by simp [fnOf, List.getD_eq_getElem?_getD, List.getElem?_append_left hj]
      have e2 : fnOf (acc ++ r :: L) acc.length = r := by simp [fnOf, List.getD_eq_getElem?_getD]
      rw [e1, e2] at this
      exact this
    have hl2 : acc.length < 1000 := by simp at hl; omega
    have eA := lnA_rule (m := m) hr.1 hr.2 hn hl2
    generalize hZ : psL m (acc ++ r :: L) T = Z
    show psL m acc (Ws.wpos n 1 false ((rlW r).map lb) :: (Ws.placed (n + 1) (lbs (L.map rlW)) ++ T)) = _
    rw [psL, txs_wpos, eA, if_neg (by simp)]
    subst hZ
    have := psL_rules_t m T L (acc ++ [r]) (n + 1) (fun x hx => h x (List.mem_cons_of_mem _ hx)) (by rw [List.append_assoc]; exact hd) (by rw [List.append_assoc]; exact hl)
    rw [List.append_assoc] at this
    exact this
/-- What is printed, and lines more. -/
theorem print_more {m : Int} {rs : List Rl} (h : riE m rs = 0) (ok : ∀ r ∈ rs, Okr r) (more : List (List ByteArray)) (hm : ∀ row ∈ lbs more, Ws.LineP row) (hl : (prTx m rs ++ Ws.jn (lbs more)).length ≤ 1048576) :
    cfgP (prTx m rs ++ Ws.jn (lbs more)) = psL m (ordL rs) (Ws.placed (rs.length + 2) (lbs more)) := by
  obtain ⟨h1, h2, h3, h4, h5⟩ := riE_0 h
  have e : prTx m rs ++ Ws.jn (lbs more) = Ws.jn (lbs (prLb m rs) ++ lbs more) := by unfold prTx Ws.jn; rw [List.flatMap_append]
  rw [e] at hl ⊢
  have hs := Ws.spl_jn (lbs (prLb m rs) ++ lbs more) (fun row hr => by rcases List.mem_append.1 hr with hr | hr; exact line_ok h ok row hr; exact hm row hr) hl
  unfold cfgP
  rw [hs, if_neg (by show ¬ (0 : Nat) ≠ 0; simp)]
  show psL 0 [] (Ws.placed 1 (lbs (prLb m rs) ++ lbs more)) = _
  rw [Ws.placed_app, show (lbs (prLb m rs)).length = rs.length + 1 by rw [List.length_map, prLb_len], show 1 + (rs.length + 1) = rs.length + 2 by omega]
  generalize Ws.placed (rs.length + 2) (lbs more) = T
  show psL 0 [] (Ws.wpos 1 1 false ([sizS, dig m.toNat].map lb) :: (Ws.placed 2 (lbs ((ordL rs).map rlW)) ++ T)) = _
  rw [psL, txs_wpos, lnA_size m h1, if_neg (by simp)]
  rw [psL_rules_t m T (ordL rs) [] 2 (fun r hr => ⟨ordL_ok ok r hr, frE_all h3 r ((ordL_mem rs r).1 hr)⟩) ((ordL_dst rs).2 h5) (by rw [List.nil_append, ordL_length]; exact h2), List.nil_append]
end Go.Proofs.YtckaiejbgnhgcaaGreatDoor.Wd
namespace Go.Proofs.YtckaiejbgnhgcaaGreatDoor.Wd
open Go Go.RowKit
set_option linter.unusedVariables false
set_option maxRecDepth 100000
theorem cfgP_nil : cfgP [] = .bad 30 0 0 := rfl
theorem jn_short {m : Int} {rs : List Rl} (h : riE m rs = 0) (ok : ∀ r ∈ rs, Okr r) : (Ws.jn (lbs ((ordL rs).map rlW))).length ≤ 647000 ∧ (Ws.jn (lbs [[sizS, dig m.toNat]])).length ≤ 647000 ∧ prTx m rs = Ws.jn (lbs [[sizS, dig m.toNat]]) ++ Ws.jn (lbs ((ordL rs).map rlW)) := by
  have hl := prTx_len h ok
  have e : prTx m rs = Ws.jn (lbs [[sizS, dig m.toNat]]) ++ Ws.jn (lbs ((ordL rs).map rlW)) := by
    show Ws.jn (lbs ([[sizS, dig m.toNat]] ++ (ordL rs).map rlW)) = _
    unfold Ws.jn lbs
    rw [List.map_append, List.flatMap_append]
  rw [e, List.length_append] at hl
  exact ⟨by omega, by omega, e⟩
theorem cfgP_jn (lss : List (List ByteArray)) (h : ∀ row ∈ lbs lss, Ws.LineP row) (hl : (Ws.jn (lbs lss)).length ≤ 1048576) : cfgP (Ws.jn (lbs lss)) = psL 0 [] (Ws.placed 1 (lbs lss)) := by
  unfold cfgP
  rw [Ws.spl_jn _ h hl, if_neg (by show ¬ (0 : Nat) ≠ 0; simp)]
  rfl
theorem rlW_is {r : Rl} (hk : Okr r) (he : r.er = 0) : rlW r = if r.p.size = 0 then [defS, dig r.e.toNat, dig r.b.toNat, namS r.k] else [rulS, r.p, dig r.e.toNat, dig r.b.toNat, namS r.k] := by
  obtain ⟨k1, k2, k3, k4⟩ := hk
  unfold U at k2 k3
  have e1 : ((r.e.toNat : Nat) : Int) = r.e := by omega
  have e2 : ((r.b.toNat : Nat) : Int) = r.b := by omega
  unfold rlW prW
  rw [e1, e2, if_neg (by simpa using he)]
theorem lacks_size {m : Int} {rs : List Rl} (h : riE m rs = 0) (ok : ∀ r ∈ rs, Okr r) : cfgP (Ws.jn (lbs ((ordL rs).map rlW))) = .bad 30 0 0 := by
  obtain ⟨h1, h2, h3, h4, h5⟩ := riE_0 h
  rw [cfgP_jn _ (fun row hr => ?_) (by have := (jn_short h ok).1; omega)]
  · rw [psL_rules 0 (ordL rs) [] 1 (fun r hr => ⟨ordL_ok ok r hr, frE_all h3 r ((ordL_mem rs r).1 hr)⟩) ((ordL_dst rs).2 h5) (by rw [List.nil_append, ordL_length]; exact h2)]
    rfl
  · obtain ⟨l, hl, rfl⟩ := List.mem_map.1 hr
    obtain ⟨r, hrr, rfl⟩ := List.mem_map.1 hl
    have hm := (ordL_mem rs r).1 hrr
    exact rl_line (ok r hm) (frE_all h3 r hm)
theorem lacks_def {m : Int} (h1 : 1 ≤ m ∧ m ≤ 1000000) (hl : (Ws.jn (lbs [[sizS, dig m.toNat]])).length ≤ 647000) : cfgP (Ws.jn (lbs [[sizS, dig m.toNat]])) = .bad 31 0 0 := by
  rw [cfgP_jn _ (fun row hr => ?_) (by omega)]
  · show psL 0 [] (Ws.wpos 1 1 false ([sizS, dig m.toNat].map lb) :: []) = _
    rw [psL, txs_wpos, lnA_size m h1, if_neg (by simp)]
    unfold psL
    have hE : enE m [] = 31 := by unfold enE; rw [if_neg (by omega), if_pos (by rfl)]
    show (if enE m [] ≠ 0 then _ else _) = _
    rw [hE, if_pos (by decide)]
  · simp only [lbs, List.map_cons, List.map_nil, List.mem_cons, List.not_mem_nil, or_false] at hr
    subst hr
    exact size_line _
theorem lnA_size2 (m : Int) (acc : List Rl) (n : Nat) (h : m ≠ 0) : lnA m acc [sizS, dig n] = .bad 28 0 := by
  have e0 : [sizS, dig n].getD 0 nob = sizS := rfl
  unfold lnA
  rw [if_pos e0]
  unfold lnS
  rw [if_neg (by simp), if_pos h]
theorem has_mem {acc : List Rl} {r : Rl} (h : r ∈ acc) : hasB acc r.p = true := by
  obtain ⟨j, hj, e⟩ := List.getElem_of_mem h
  rcases fd_ways acc r.p with ⟨i, _, _, _, g⟩ | ⟨h2, _⟩
  · unfold hasB; rw [g]; exact decide_eq_true (Int.natCast_nonneg _)
  · exact absurd (by rw [fn_at hj, e]) (h2 j hj)
theorem lnA_rule2 {m : Int} {acc : List Rl} {r : Rl} (hk : Okr r) (he : r.er = 0) (hm : r ∈ acc) : lnA m acc (rlW r) = .bad 28 (if r.p.size = 0 then 0 else 1) := by
  unfold lnA
  rw [if_neg (rl_head hk he)]
  unfold lnR
  rw [rl_back hk he, if_neg (by simp), if_pos (has_mem hm)]
/-- A line once more: the size's. -/
theorem twice_size {m : Int} {rs : List Rl} (h : riE m rs = 0) (ok : ∀ r ∈ rs, Okr r) (hs : (Ws.jn (lbs [[sizS, dig m.toNat]])).length ≤ 400000) : cfgP (prTx m rs ++ Ws.jn (lbs [[sizS, dig m.toNat]])) = .bad 28 (rs.length + 2 : Nat) 1 := by
  have h1 := (riE_0 h).1
  obtain ⟨g1, g2, _⟩ := jn_short h ok
  have hl := prTx_len h ok
  rw [print_more h ok _ (fun row hr => ?_) (by rw [List.length_append]; omega)]
  · show psL m (ordL rs) (Ws.wpos (rs.length + 2) 1 false ([sizS, dig m.toNat].map lb) :: []) = _
    rw [psL, txs_wpos, lnA_size2 m _ _ (by omega), if_pos (by decide)]
    rfl
  · simp only [lbs, List.map_cons, List.map_nil, List.mem_cons, List.not_mem_nil, or_false] at hr
    subst hr
    exact size_line _
/-- A line once more: a rule's. -/
theorem twice_rule {m : Int} {rs : List Rl} (h : riE m rs = 0) (ok : ∀ r ∈ rs, Okr r) {r : Rl} (hr : r ∈ rs) (hs : (Ws.jn (lbs [rlW r])).length ≤ 400000) : cfgP (prTx m rs ++ Ws.jn (lbs [rlW r])) = .bad 28 (rs.length + 2 : Nat) (if r.p.size = 0 then 1 else 6) := by
  obtain ⟨h1, h2, h3, h4, h5⟩ := riE_0 h
  have hl := prTx_len h ok
  have hk := ok r hr
  have he := frE_all h3 r hr
  rw [print_more h ok _ (fun row hx => ?_) (by rw [List.length_append]; omega)]
  · show psL m (ordL rs) (Ws.wpos (rs.length + 2) 1 false ((rlW r).map lb) :: []) = _
    rw [psL, txs_wpos, lnA_rule2 hk he ((ordL_mem rs r).2 hr), if_pos (by show (28 : Int) ≠ 0; decide)]
    rw [rlW_is hk he]
    by_cases c : r.p.size = 0
    · rw [if_pos c, if_pos c, if_pos c]; rfl
    · rw [if_neg c, if_neg c, if_neg c]; rfl
  · simp only [lbs, List.map_cons, List.map_nil, List.mem_cons, List.not_mem_nil, or_false] at hx
    subst hx
    exact rl_line hk he
end Go.Proofs.YtckaiejbgnhgcaaGreatDoor.Wd
namespace Go.Proofs.YtckaiejbgnhgcaaGreatDoor.Wd
open Go Go.RowKit
set_option linter.unusedVariables false
set_option maxRecDepth 100000
theorem Polr.ok {m : Int} {rs : List Rl} (h : Polr m rs) : ∀ r ∈ rs, Okr r := fun r hr => (h.own r hr).okr
theorem OwnR.er {r : Rl} (h : OwnR r) : r.er = 0 := by
  obtain ⟨⟨E, B, e1, e2, H⟩, _⟩ := h
  show ruE r.p r.e r.b r.k = 0
  rw [e1, e2]
  exact H.right
theorem fr_all0 : ∀ {rs : List Rl}, (∀ r ∈ rs, r.er = 0) → frE rs = 0
  | [], _ => rfl
  | r :: l, h => by
    unfold frE
    rw [if_neg (by rw [h r List.mem_cons_self]; decide)]
    exact fr_all0 fun x hx => h x (List.mem_cons_of_mem _ hx)
theorem nd_dst : ∀ {rs : List Rl}, (rs.map Rl.p).Nodup → Dst rs := by
  intro rs h i j hij hj e
  have hi : i < rs.length := by omega
  rw [fn_at hi, fn_at hj] at e
  have := List.pairwise_iff_getElem.1 h i j (by simpa using hi) (by simpa using hj) hij
  exact this (by simpa using e)
theorem polr_ri {m : Int} {rs : List Rl} (h : Polr m rs) (hl : rs.length ≤ 13) : riE m rs = 0 := by
  have h1 := h.m1
  have h2 := h.m2
  obtain ⟨k, rest, e⟩ := h.hd
  have hh : hasB rs nob = true := by
    have := has_mem (acc := rs) (r := ⟨nob, 1000, 5, k⟩) (by rw [e]; exact List.mem_cons_self)
    exact this
  unfold riE
  rw [if_neg (by omega), if_neg (by omega), fr_all0 (fun r hr => (h.own r hr).er), if_neg (by simp), if_neg (by rw [hh]; decide), if_neg (by rw [(ordL_so rs).2 (nd_dst h.nd)]; decide)]
theorem polr_tail {m : Int} {rs : List Rl} (h : Polr m rs) (hl : rs.length ≤ 13) : riE m (rs.drop 1) = 31 := by
  have h1 := h.m1
  have h2 := h.m2
  have hn := h.nd
  have ho := h.own
  obtain ⟨k, rest, e⟩ := h.hd
  subst e
  have hh : hasB rest nob = false := by
    refine has_of fun j hj e2 => ?_
    rw [List.map_cons, List.nodup_cons] at hn
    exact hn.1 (List.mem_map.2 ⟨fnOf rest j, fn_mem hj, e2⟩)
  show riE m rest = 31
  unfold riE
  rw [if_neg (by omega), if_neg (by simp at hl; omega), fr_all0 (fun r hr => (ho r (List.mem_cons_of_mem _ hr)).er), if_neg (by simp), if_pos hh]
/-- Bytes of a line hold no end of a line. -/
theorem vs_no10 {b : UInt8} (h : Ws.vs b = true) : b ≠ 10 := fun e => by subst e; exact absurd h (by decide)
theorem jw_no10 : ∀ (row : List (List UInt8)) (c : Bool), (∀ x ∈ row, Ws.VisW x) → ∀ b ∈ Ws.jw c row, b ≠ 10
  | [], c, _, b, hb => by simp [Ws.jw] at hb
  | x :: r, c, h, b, hb => by
    rw [Ws.jw] at hb
    simp only [List.mem_append] at hb
    rcases hb with (hb | hb) | hb
    · cases c with
      | false => simp at hb
      | true => simp at hb; subst hb; decide
    · exact vs_no10 ((h x List.mem_cons_self).2 b hb)
    · exact jw_no10 r true (fun y hy => h y (List.mem_cons_of_mem _ hy)) b hb
/-- Where a line ends. -/
theorem line_end (row : List (List UInt8)) (rest : List UInt8) (h : Ws.LineP row) : 0 < (Ws.jn [row]).length ∧ (∀ k, k + 1 < (Ws.jn [row]).length → (Ws.jn [row] ++ rest).getD k 0 ≠ 10) ∧ (Ws.jn [row] ++ rest).getD ((Ws.jn [row]).length - 1) 0 = 10 := by
  have e : Ws.jn [row] = Ws.jw false row ++ [10] := by simp [Ws.jn]
  rw [e]
  refine ⟨by simp, fun k hk => ?_, ?_⟩
  · have hk2 : k < (Ws.jw false row).length := by simp at hk; omega
    rw [List.getD_eq_getElem?_getD, List.append_assoc, List.getElem?_append_left hk2, List.getElem?_eq_getElem hk2]
    exact jw_no10 row false h.2.1 _ (List.getElem_mem hk2)
  · rw [List.getD_eq_getElem?_getD, List.append_assoc, List.length_append, List.length_singleton, Nat.add_sub_cancel, List.getElem?_append_right (Nat.le_refl _), Nat.sub_self]
    rfl
end Go.Proofs.YtckaiejbgnhgcaaGreatDoor.Wd
