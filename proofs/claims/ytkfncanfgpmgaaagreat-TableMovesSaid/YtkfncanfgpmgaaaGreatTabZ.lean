/- Deeds that came in read as such; one key alone in a table, as data; no conditions but those that each names. -/
import Derived.Test.YtkfncanfgpmgaaaGreatTabI
import Derived.Test.YtkfncanfgpmgaaaGreatTabY
import Derived.Deep.Slices
import Derived.OpenShut
namespace Go.Proofs.YtkfncanfgpmgaaaGreat.Wd
open Go Go.RowKit Go.Shelf Go.Deep
set_option linter.unusedVariables false
set_option maxRecDepth 100000

theorem plain_addr {w : World} {ad : Addr} {v : Value} (h : w.cell? (ad.add 0) = some v) : ∃ b off, ad = ⟨b, off, none⟩ := by
  obtain ⟨b, off, spot⟩ := ad
  have hspot : spot = none := by simpa [Addr.add] using World.cell?_spot h
  subst hspot
  exact ⟨b, off, rfl⟩
theorem choose_lt {α : Type} [Inhabited α] {n : Nat} {p : Nat → α → Prop} (h : ∀ i, i < n → ∃ x, p i x) : ∃ q : Nat → α, ∀ i, i < n → p i (q i) :=
  ⟨fun i => if hi : i < n then (h i hi).choose else default, fun i hi => by
    have := (h i hi).choose_spec
    simp only [hi, dif_pos]; exact this⟩
theorem open_txt {H : Type} {enc : TypeId × Value → H} {w : World} {base : Nat} {sp : Nat → Bool} {held : Bool} {fuel : Nat} {a : Option Addr} {len cap : Nat} {x : DataW H × List MemPlace}
    (h : DataW.trod enc Tryz.prog w base sp held fuel 37 [.slice a len cap] = some x) : len ≤ 9223372036854775807 ∧ ∃ bs : List UInt8, Txt w a len bs := by
  rcases open_slice1 Tryz.underlying37 (by kernel_rfl) h with ⟨h0, _⟩ | ⟨ad, l, c, m, n, V, D, Pl, hcs, hb, hl, hm, hmm, _, hx⟩
  · simp at h0
    obtain ⟨rfl, rfl, rfl⟩ := h0
    exact ⟨by omega, [], rfl, fun h => by omega⟩
  · simp at hcs
    obtain ⟨rfl, rfl, rfl⟩ := hcs
    unfold maxLen at hm
    refine ⟨by omega, ?_⟩
    have hlm : len ≤ m := by rw [hmm]; split <;> omega
    have each : ∀ i, i < len → ∃ s : UInt8, w.cell? (ad.add i) = some (.int .u8 (s.toNat : Int)) := by
      intro i hi
      obtain ⟨h1, h2⟩ := hx i (by omega)
      obtain ⟨v, e, _, wf⟩ := DataW.trod_int Tryz.underlying5 h2
      simp at e
      rw [e] at h1
      have hv := bounds_u8 wf
      exact ⟨UInt8.ofNat v.toNat, by rw [h1]; congr 2; simp; omega⟩
    obtain ⟨q, hq⟩ := choose_lt each
    refine ⟨(List.range len).map q, by simp, fun h0 => ?_⟩
    obtain ⟨b, off, rfl⟩ := plain_addr (hq 0 h0)
    have hc := fun k (hk : k < len) => hq k hk
    simp only [Go.WideShapes.add_plain] at hc
    refine ⟨b, off, rfl, lt_of_cell (hc 0 h0), fun k hk => (hc k hk).trans ?_⟩
    simp [List.getD_eq_getElem?_getD, hk]

theorem cells_deed : ∃ f0 f1 f2 f3 f4 f5 f6 : Field, Tryz.prog.underlying 40 = some (.struct #[f0, f1, f2, f3, f4, f5, f6]) ∧ (f0.offset = 0 ∧ f1.offset = 1 ∧ f2.offset = 2 ∧ f3.offset = 3 ∧ f4.offset = 4 ∧ f5.offset = 5 ∧ f6.offset = 6) ∧ f0.type = 5 ∧ f1.type = 36 ∧ f2.type = 5 ∧ f3.type = 37 ∧ f4.type = 5 ∧ f5.type = 38 ∧ f6.type = 5 :=
  ⟨_, _, _, _, _, _, _, Tryz.underlying40, ⟨rfl, rfl, rfl, rfl, rfl, rfl, rfl⟩, rfl, rfl, rfl, rfl, rfl, rfl, rfl⟩
instance : Inhabited Dd := ⟨dd0⟩
set_option maxHeartbeats 1000000 in
theorem open_dds {H : Type} {enc : TypeId × Value → H} {w : World} {base : Nat} {sp : Nat → Bool} {held : Bool} {fuel : Nat} {a : Option Addr} {len cap : Nat} {x : DataW H × List MemPlace}
    (h : DataW.trod enc Tryz.prog w base sp held fuel 22 [.slice a len cap] = some x) : ∃ ds, Dds w a len ds := by
  obtain ⟨f0, f1, f2, f3, f4, f5, f6, hu, ⟨o0, o1, o2, o3, o4, o5, o6⟩, y0, y1, y2, y3, y4, y5, y6⟩ := cells_deed
  rcases open_slice Tryz.underlying22 h with ⟨h0, _⟩ | ⟨ad, l, c, m, n, D, Pl, hcs, hb, hl, hm, hmm, _, hx⟩
  · simp at h0
    obtain ⟨rfl, rfl, rfl⟩ := h0
    exact ⟨[], rfl, by omega, (fun d hd => nomatch hd), fun i hi => absurd hi (by omega)⟩
  · simp at hcs
    obtain ⟨rfl, rfl, rfl⟩ := hcs
    have ce : Tryz.prog.cellsOf 40 = 7 := by kernel_rfl
    have cS : Tryz.prog.cellsOf 37 = 1 := by kernel_rfl
    have c32 : Tryz.prog.cellsOf 36 = 1 := by kernel_rfl
    have c16 : Tryz.prog.cellsOf 38 = 1 := by kernel_rfl
    have c8 : Tryz.prog.cellsOf 5 = 1 := by kernel_rfl
    have hlm : len ≤ m := by rw [hmm]; split <;> omega
    have each : ∀ i, i < len → ∃ d : Dd, d.Ok ∧ ∃ b off ka kn kc, ad = ⟨b, off, none⟩ ∧ D7 w b (off + i * 7) d ka kn kc := by
      intro i hi
      have hsp : ∃ u, w.cell? ((ad.add (0 * 7)).add 0) = some u := by
        obtain ⟨cs0, h10, _⟩ := hx 0 (by omega)
        rw [ce] at h10
        obtain ⟨_, hlen0, hcell0⟩ := World.cells?_some h10
        match cs0, hlen0, hcell0 with
        | u0 :: _, _, hc => exact ⟨u0, by simpa using hc 0 (by simp)⟩
      obtain ⟨u0, hu0⟩ := hsp
      obtain ⟨b, off, rfl⟩ := plain_addr (ad := ad.add (0 * 7)) hu0 |>.elim (fun b h => h.elim (fun off e => (show ∃ b off, ad = ⟨b, off, none⟩ by
        obtain ⟨x, y, z⟩ := ad
        simp [Addr.add] at e
        exact ⟨x, y, by rw [e.2.2]⟩)))
      obtain ⟨cs', h1, h2⟩ := hx i (by omega)
      rw [ce] at h1
      obtain ⟨_, hlen, hcell⟩ := World.cells?_some h1
      obtain ⟨xs, k, hk, hxy, _, hxl, hf⟩ := DataW.trod_struct hu h2
      match xs, hxl, cs', hlen with
      | [x0, x1, x2, x3, x4, x5, x6], _, [v0, v1, v2, v3, v4, v5, v6], _ =>
        have g0 := hf 0 f0 rfl
        have g1 := hf 1 f1 rfl
        have g2 := hf 2 f2 rfl
        have g3 := hf 3 f3 rfl
        have g4 := hf 4 f4 rfl
        have g5 := hf 5 f5 rfl
        have g6 := hf 6 f6 rfl
        simp [o0, o1, o2, o3, o4, o5, o6, y0, y1, y2, y3, y4, y5, y6, cS, c32, c16, c8] at g0 g1 g2 g3 g4 g5 g6
        have hs : ∃ a' n' c', v3 = .slice a' n' c' := by
          rcases open_slice1 Tryz.underlying37 (by kernel_rfl) g3 with ⟨h0, _⟩ | ⟨ad, l, c, m, n, V', D', Pl', hcs, _⟩
          · simp at h0; exact ⟨_, _, _, h0⟩
          · simp at hcs; exact ⟨_, _, _, hcs⟩
        obtain ⟨a', n', c', rfl⟩ := hs
        obtain ⟨hn', bs, hb'⟩ := open_txt g3
        obtain ⟨i0, e0, _, w0⟩ := DataW.trod_int Tryz.underlying5 g0
        obtain ⟨i1, e1, _, w1⟩ := DataW.trod_int Tryz.underlying36 g1
        obtain ⟨i2, e2, _, w2⟩ := DataW.trod_int Tryz.underlying5 g2
        obtain ⟨i4, e4, _, w4⟩ := DataW.trod_int Tryz.underlying5 g4
        obtain ⟨i5, e5, _, w5⟩ := DataW.trod_int Tryz.underlying38 g5
        obtain ⟨i6, e6, _, w6⟩ := DataW.trod_int Tryz.underlying5 g6
        simp at e0 e1 e2 e4 e5 e6
        subst e0 e1 e2 e4 e5 e6
        have q0 := hcell 0 (by simp)
        have q1 := hcell 1 (by simp)
        have q2 := hcell 2 (by simp)
        have q3 := hcell 3 (by simp)
        have q4 := hcell 4 (by simp)
        have q5 := hcell 5 (by simp)
        have q6 := hcell 6 (by simp)
        simp [Go.WideShapes.add_plain] at q0 q1 q2 q3 q4 q5 q6
        exact ⟨⟨i0, i1, i2, bs, i4, i5, i6⟩, ⟨bounds_u8 w0, bounds_u32 w1, bounds_u8 w2, bounds_u8 w4, bounds_u16 w5, bounds_u8 w6⟩, b, off, a', n', c', rfl, ⟨q0, q1, q2, q3, q4, q5, q6, hb', hn'⟩⟩
    obtain ⟨q, hq⟩ := choose_lt each
    refine ⟨(List.range len).map q, by simp, by unfold maxLen at hm; omega, fun d hd => ?_, fun i hi => ?_⟩
    · obtain ⟨i, hi, rfl⟩ := List.mem_map.1 hd
      exact (hq i (List.mem_range.1 hi)).1
    · obtain ⟨_, b, off, ka, kn, kc, rfl, hd⟩ := hq i hi
      refine ⟨b, off, ka, kn, kc, rfl, ?_⟩
      have : ((List.range len).map q).getD i dd0 = q i := by simp [List.getD_eq_getElem?_getD, hi]
      rw [this]; exact hd
end Go.Proofs.YtkfncanfgpmgaaaGreat.Wd
