/- A row of numbers that came in; no conditions. What the rows' condition gives: the table of the kernels' names lies in block 0; and the door's own heap meets it. Rows of bytes that came in are no longer than a machine can hold; no conditions. -/
import Derived.Test.YtckaiejbgnhgcaaGreatDoorZO
import Derived.Deep.Slices
import Derived.OpenShut
import Derived.Test.YtckaiejbgnhgcaaGreatDoorRows
import Derived.Test.YtckaiejbgnhgcaaGreatDoorZC
import Derived.LaidMore
import Derived.Stop.Joined
import Derived.Laws.IdiomArrays
import Derived.SizedLaws
namespace Go.Proofs.YtckaiejbgnhgcaaGreatDoor.Wd
open Go Go.RowKit Go.Deep
set_option linter.unusedVariables false
set_option maxRecDepth 100000

theorem plainx_addr {w : World} {ad : Addr} {v : Value} (h : w.cell? (ad.add 0) = some v) : ∃ b off, ad = ⟨b, off, none⟩ := by
  obtain ⟨b, off, spot⟩ := ad
  have hspot : spot = none := by simpa [Addr.add] using World.cell?_spot h
  subst hspot
  exact ⟨b, off, rfl⟩
theorem openx_byts {H : Type} {enc : TypeId × Value → H} {w : World} {base : Nat} {sp : Nat → Bool} {held : Bool} {fuel : Nat} {a : Option Addr} {len cap : Nat} {x : DataW H × List MemPlace}
    (h : DataW.trod enc Tryz.prog w base sp held fuel 22 [.slice a len cap] = some x) : len ≤ 9223372036854775807 ∧ Byts w a len := by
  rcases open_slice1 Tryz.underlying22 (by kernel_rfl) h with ⟨h0, _⟩ | ⟨ad, l, c, m, n, V, D, Pl, hcs, hb, hl, hm, hmm, _, hx⟩
  · simp at h0
    obtain ⟨rfl, rfl, rfl⟩ := h0
    exact ⟨by omega, fun i hi => absurd hi (by omega)⟩
  · simp at hcs
    obtain ⟨rfl, rfl, rfl⟩ := hcs
    unfold maxLen at hm
    have hlm : len ≤ m := by rw [hmm]; split <;> omega
    refine ⟨by omega, fun i hi => ?_⟩
    obtain ⟨g1, _⟩ := hx 0 (by omega)
    obtain ⟨b, off, rfl⟩ := plainx_addr g1
    obtain ⟨h1, h2⟩ := hx i (by omega)
    obtain ⟨v, e, _, wf⟩ := DataW.trod_int Tryz.underlying5 h2
    simp at e
    rw [e, Go.WideShapes.add_plain] at h1
    exact ⟨b, off, v, rfl, h1, bounds_u8 wf⟩
theorem cells_numbers : ∃ f0 f1 f2 f3 : Field, Tryz.prog.underlying 61 = some (.struct #[f0, f1, f2, f3]) ∧ (f0.offset = 0 ∧ f1.offset = 1 ∧ f2.offset = 2 ∧ f3.offset = 3) ∧ f0.type = 22 ∧ f1.type = 53 ∧ f2.type = 23 ∧ f3.type = 5 :=
  ⟨_, _, _, _, Tryz.underlying61, ⟨rfl, rfl, rfl, rfl⟩, rfl, rfl, rfl, rfl⟩
theorem open_nmr {H : Type} {enc : TypeId × Value → H} {w : World} {base : Nat} {sp : Nat → Bool} {held : Bool} {fuel : Nat} {a : Option Addr} {len cap : Nat} {x : DataW H × List MemPlace}
    (h : DataW.trod enc Tryz.prog w base sp held fuel 24 [.slice a len cap] = some x) : len ≤ 9223372036854775807 ∧ Nmr w a len := by
  obtain ⟨f0, f1, f2, f3, hu, ⟨o0, o1, o2, o3⟩, y0, y1, y2, y3⟩ := cells_numbers
  rcases open_slice Tryz.underlying24 h with ⟨h0, _⟩ | ⟨ad, l, c, m, n, D, Pl, hcs, hb, hl, hm, hmm, _, hx⟩
  · simp at h0
    obtain ⟨rfl, rfl, rfl⟩ := h0
    exact ⟨by omega, fun i hi => absurd hi (by omega)⟩
  · simp at hcs
    obtain ⟨rfl, rfl, rfl⟩ := hcs
    refine ⟨by unfold maxLen at hm; omega, ?_⟩
    have ce : Tryz.prog.cellsOf 61 = 4 := by kernel_rfl
    have cS : Tryz.prog.cellsOf 22 = 1 := by kernel_rfl
    have c32 : Tryz.prog.cellsOf 53 = 1 := by kernel_rfl
    have c16 : Tryz.prog.cellsOf 23 = 1 := by kernel_rfl
    have c8 : Tryz.prog.cellsOf 5 = 1 := by kernel_rfl
    have hlm : len ≤ m := by rw [hmm]; split <;> omega
    intro i hi
    have hsp : ∃ u, w.cell? ((ad.add (0 * 4)).add 0) = some u := by
      obtain ⟨cs0, h10, _⟩ := hx 0 (by omega)
      rw [ce] at h10
      obtain ⟨_, hlen0, hcell0⟩ := World.cells?_some h10
      match cs0, hlen0, hcell0 with
      | [u0, u1, u2, u3], _, hc => exact ⟨u0, by simpa using hc 0 (by omega)⟩
    obtain ⟨u0, hu0⟩ := hsp
    obtain ⟨cs', h1, h2⟩ := hx i (by omega)
    rw [ce] at h1
    obtain ⟨_, hlen, hcell⟩ := World.cells?_some h1
    obtain ⟨xs, k, hk, hxy, _, hxl, hf⟩ := DataW.trod_struct hu h2
    match xs, hxl, cs', hlen with
    | [x0, x1, x2, x3], _, [v0, v1, v2, v3], _ =>
      have g0 := hf 0 f0 rfl
      have g1 := hf 1 f1 rfl
      have g2 := hf 2 f2 rfl
      have g3 := hf 3 f3 rfl
      simp [o0, o1, o2, o3, y0, y1, y2, y3, cS, c32, c16, c8] at g0 g1 g2 g3
      have hs : ∃ a' n' c', v0 = .slice a' n' c' := by
        rcases open_slice1 Tryz.underlying22 (by kernel_rfl) g0 with ⟨h0, _⟩ | ⟨ad, l, c, m, n, V', D', Pl', hcs, _⟩
        · simp at h0; exact ⟨_, _, _, h0⟩
        · simp at hcs; exact ⟨_, _, _, hcs⟩
      obtain ⟨a', n', c', rfl⟩ := hs
      obtain ⟨hn', hb'⟩ := openx_byts g0
      obtain ⟨i1, e1, _, w1⟩ := DataW.trod_int Tryz.underlying53 g1
      obtain ⟨i2, e2, _, w2⟩ := DataW.trod_int Tryz.underlying23 g2
      obtain ⟨i3, e3, _, w3⟩ := DataW.trod_int Tryz.underlying5 g3
      simp at e1 e2 e3
      subst e1 e2 e3
      have c0 := hcell 0 (by omega)
      have c1 := hcell 1 (by omega)
      have c2 := hcell 2 (by omega)
      have c3 := hcell 3 (by omega)
      obtain ⟨b, off, spot⟩ := ad
      have hspot : spot = none := by simpa [Addr.add] using World.cell?_spot hu0
      subst hspot
      simp [Go.WideShapes.add_plain] at c0 c1 c2 c3
      exact ⟨b, off, a', n', c', i1, i2, i3, rfl, by simpa [Nat.add_assoc] using c0, by simpa [Nat.add_assoc] using c1, by simpa [Nat.add_assoc] using c2, by simpa [Nat.add_assoc] using c3, Lib.hid ⟨hb', hn', bounds_u32 w1, bounds_u16 w2, bounds_u8 w3⟩⟩
end Go.Proofs.YtckaiejbgnhgcaaGreatDoor.Wd
namespace Go.Proofs.YtckaiejbgnhgcaaGreatDoor.Wd
open Go Go.RowKit Go.ChangeShapes

abbrev laidL : List (String × DataW Unit) := Rows.configLacksRow.laid
theorem gNames : Tryz.prog.globalNamed (Rows.configLacksRow.named.headD Rows.configLacksRow.program) = some 0 := by kernel_rfl
theorem tNames : (Tryz.prog.globals[0]?).map (·.type) = some 126 := by kernel_rfl
theorem str_is {s : ByteArray} {l : List UInt8} (h : DataW.lit (H := Unit) (.string s.data.toList) = .lit (.string l)) : s = ⟨l.toArray⟩ := by
  have e : s.data.toList = l := by simpa using h
  rw [← e]

theorem nam_of_laid {W : World} (h : laidMetH Tryz.prog laidL W) : Nam W := by
  rw [MakeChecks.laidMetH_plain _ _ _ (by kernel_rfl)] at h
  obtain ⟨ps, ⟨g0, t0, cs0, f0, p0, q0, hg0, ht0, hv0, hd0, _, _⟩, _, _⟩ := h
  obtain rfl := Option.some.inj (gNames.symm.trans hg0)
  obtain rfl := Option.some.inj (tNames.symm.trans ht0)
  have hc (i : Nat) := World.var?_cell hg0 hv0 i
  have c9 : Tryz.prog.cellsOf 9 = 1 := by kernel_rfl
  have c54 : Tryz.prog.cellsOf 126 = 4 := by kernel_rfl
  have hlen : cs0.toList.length = 4 := by
    obtain ⟨_, _, _, _, hl, _, _⟩ := DataW.trod_array Tryz.underlying126 hd0
    rw [hl, c54]
  obtain ⟨l⟩ := cs0
  match l, hlen with
  | [v0, v1, v2, v3], _ =>
    obtain ⟨y0, y1, y2, y3, m, hx, h0, h1, h2, h3⟩ := trod_array4 Tryz.underlying126 c9 hd0
    obtain ⟨s0, e0, f0, _⟩ := DataW.trod_string Tryz.underlying9 h0
    obtain ⟨s1, e1, f1, _⟩ := DataW.trod_string Tryz.underlying9 h1
    obtain ⟨s2, e2, f2, _⟩ := DataW.trod_string Tryz.underlying9 h2
    obtain ⟨s3, e3, f3, _⟩ := DataW.trod_string Tryz.underlying9 h3
    simp only [List.cons.injEq, and_true] at e0 e1 e2 e3
    subst e0 e1 e2 e3 f0 f1 f2 f3
    simp only [Prod.mk.injEq] at hx
    have hx1 := hx.1
    unfold Rows.laid_toller_rule_names at hx1
    simp only [DataW.agg.injEq, List.cons.injEq, and_true] at hx1
    obtain ⟨q0, q1, q2, q3⟩ := hx1
    have z0 := hc 0
    have z1 := hc 1
    have z2 := hc 2
    have z3 := hc 3
    simp at z0 z1 z2 z3
    rw [str_is q0.symm] at z0
    rw [str_is q1.symm] at z1
    rw [str_is q2.symm] at z2
    rw [str_is q3.symm] at z3
    exact ⟨z0, z1, z2, z3⟩

/-- The door's own heap meets the condition: three closed facts. -/
theorem door_met (os : Os) (args : Array Value) : laidMetH Tryz.prog laidL ((World.doorLaid Tryz.prog 14 os).forCall (fun _ _ => 0) ⟨#[], args, []⟩).memory :=
  laidMetH_of_parts3 (fuel := 8) (laidMet_of_run' 8 (by kernel_rfl) (by kernel_rfl)) (by kernel_rfl) (by kernel_rfl)
end Go.Proofs.YtckaiejbgnhgcaaGreatDoor.Wd
namespace Go.Proofs.YtckaiejbgnhgcaaGreatDoor.Wd
open Go Go.RowKit Go.Deep
set_option linter.unusedVariables false
set_option maxRecDepth 100000
theorem weigh_all {H : Type} {P : Program} {e : TypeId} : ∀ {ds : List (DataW H)} {d : DataW H}, d ∈ ds → ∀ n ∈ d.weights P e, n ∈ DataW.weightsAll P e ds
  | [], d, h, _, _ => nomatch h
  | d0 :: ds, d, h, n, hn => by
    rw [DataW.weightsAll]
    rcases List.mem_cons.1 h with rfl | h
    · exact List.mem_append.2 (.inl hn)
    · exact List.mem_append.2 (.inr (weigh_all h n hn))
theorem weigh_slice {H : Type} {P : Program} {t e : TypeId} {es ss : List (DataW H)} (ht : P.underlying t = some (.slice e)) (hw : ∀ n ∈ (DataW.slice es ss).weights P t, n ≤ reachBytes) : es.length * P.bytesOf e ≤ reachBytes ∧ ∀ d ∈ es, ∀ n ∈ d.weights P e, n ≤ reachBytes := by
  simp only [DataW.weights, ht, List.mem_cons, List.mem_append] at hw
  constructor
  · have := hw _ (.inl rfl)
    exact Nat.le_trans (Nat.mul_le_mul_right _ (Nat.le_add_right _ _)) this
  · intro d hd n hn
    exact hw n (.inr (.inl (weigh_all hd n hn)))
theorem bytesByte : Tryz.prog.bytesOf 5 = 1 := by kernel_rfl
theorem sized_len {H : Type} {enc : TypeId × Value → H} {w : World} {base : Nat} {sp : Nat → Bool} {held : Bool} {fuel : Nat} {a : Option Addr} {len cap : Nat} {x : DataW H × List MemPlace}
    (h : DataW.trod enc Tryz.prog w base sp held fuel 22 [.slice a len cap] = some x) (hw : ∀ n ∈ x.1.weights Tryz.prog 22, n ≤ reachBytes) : len ≤ 140737488351232 := by
  rcases open_slice1 Tryz.underlying22 (by kernel_rfl) h with ⟨h0, _⟩ | ⟨ad, l, c, m, n, V, D, Pl, hcs, hb, hl, hm, hmm, hX, hx⟩
  · simp at h0
    obtain ⟨rfl, rfl, rfl⟩ := h0
    omega
  · simp at hcs
    obtain ⟨rfl, rfl, rfl⟩ := hcs
    rw [hX] at hw
    obtain ⟨hw1, hw2⟩ := weigh_slice Tryz.underlying22 hw
    rw [bytesByte, List.length_map, List.length_range] at hw1
    unfold reachBytes at hw1
    omega
theorem cellsRule : Tryz.prog.cellsOf 37 = 4 := by kernel_rfl
/-- The prefix of a rule that came in is no longer than a machine can hold. -/
theorem sized_prefix {H : Type} {ts : List TypeId} {ds : List (DataW H)} {j : Nat} {bs : List UInt8} {y1 y2 y3 : DataW H} (h : (DataW.weightsEach Tryz.prog ts ds).all (· ≤ reachBytes) = true) (ht : ts[j]? = some 37)
    (hd : ds[j]? = some (.agg [.lit (.string bs), y1, y2, y3])) : bs.length ≤ reachBytes := by
  have := List.all_eq_true.1 h _ (DataW.weights_mem_each ht hd bs.length (by simp [DataW.weights, Tryz.underlying37, DataW.weightsEach]))
  simpa using this
end Go.Proofs.YtckaiejbgnhgcaaGreatDoor.Wd
