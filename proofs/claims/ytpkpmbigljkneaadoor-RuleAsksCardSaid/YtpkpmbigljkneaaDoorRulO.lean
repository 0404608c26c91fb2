/- Rules, rows of texts and rows of bytes that came in read as such, no longer than a machine can hold; no conditions. -/
import Derived.Test.YtpkpmbigljkneaaDoorRulOwn
import Derived.Deep.Slices
import Derived.OpenShut
import Derived.SizedLaws
namespace Go.Proofs.YtpkpmbigljkneaaDoor.Wd
open Go Go.RowKit Go.Deep
set_option linter.unusedVariables false

theorem plain_addr {w : World} {ad : Addr} {v : Value} (h : w.cell? (ad.add 0) = some v) : ∃ b off, ad = ⟨b, off, none⟩ := by
  obtain ⟨b, off, spot⟩ := ad
  have hspot : spot = none := by simpa [Addr.add] using World.cell?_spot h
  subst hspot
  exact ⟨b, off, rfl⟩

theorem open_byts {H : Type} {enc : TypeId × Value → H} {w : World} {base : Nat} {sp : Nat → Bool} {held : Bool} {fuel : Nat} {a : Option Addr} {len cap : Nat} {x : DataW H × List MemPlace}
    (h : DataW.trod enc Tryd.prog w base sp held fuel 26 [.slice a len cap] = some x) : len ≤ 9223372036854775807 ∧ Byts w a len := by
  rcases open_slice1 Tryd.underlying26 (by kernel_rfl) h with ⟨h0, _⟩ | ⟨ad, l, c, m, n, V, D, Pl, hcs, hb, hl, hm, hmm, _, hx⟩
  · simp at h0
    obtain ⟨rfl, rfl, rfl⟩ := h0
    exact ⟨by omega, fun i hi => absurd hi (by omega)⟩
  · simp at hcs
    obtain ⟨rfl, rfl, rfl⟩ := hcs
    unfold maxLen at hm
    have hlm : len ≤ m := by rw [hmm]; split <;> omega
    refine ⟨by omega, fun i hi => ?_⟩
    obtain ⟨g1, _⟩ := hx 0 (by omega)
    obtain ⟨b, off, rfl⟩ := plain_addr g1
    obtain ⟨h1, h2⟩ := hx i (by omega)
    obtain ⟨v, e, _, wf⟩ := DataW.trod_int Tryd.underlying5 h2
    simp at e
    rw [e, Go.WideShapes.add_plain] at h1
    exact ⟨b, off, v, rfl, h1, (bounds_u8 wf).1, (bounds_u8 wf).2⟩
theorem weigh_all {H : Type} {P : Program} {e : TypeId} : ∀ {ds : List (DataW H)} {d : DataW H}, d ∈ ds → ∀ n ∈ d.weights P e, n ∈ DataW.weightsAll P e ds
  | [], d, h, _, _ => nomatch h
  | d0 :: ds, d, h, n, hn => by
    rw [DataW.weightsAll]
    rcases List.mem_cons.1 h with rfl | h
    · exact List.mem_append.2 (.inl hn)
    · exact List.mem_append.2 (.inr (weigh_all h n hn))
theorem weigh_slice {H : Type} {P : Program} {t e : TypeId} {es ss : List (DataW H)} (ht : P.underlying t = some (.slice e)) (hw : ∀ n ∈ (DataW.slice es ss).weights P t, n ≤ reachBytes) : es.length * P.bytesOf e ≤ reachBytes ∧ ∀ d ∈ es, ∀ n ∈ d.weights P e, n ≤ reachBytes := by
  simp only [DataW.weights, ht, List.mem_cons, List.mem_append] at hw
  constructor
  · have := hw _ (.inl rfl)
    exact Nat.le_trans (Nat.mul_le_mul_right _ (Nat.le_add_right _ _)) this
  · intro d hd n hn
    exact hw n (.inr (.inl (weigh_all hd n hn)))

theorem sized_strs {H : Type} {enc : TypeId × Value → H} {w : World} {base : Nat} {sp : Nat → Bool} {held : Bool} {fuel : Nat} {a : Option Addr} {len cap : Nat} {x : DataW H × List MemPlace}
    (h : DataW.trod enc Tryd.prog w base sp held fuel 25 [.slice a len cap] = some x) (hw : ∀ n ∈ x.1.weights Tryd.prog 25, n ≤ reachBytes) : len ≤ cap ∧ cap ≤ 9223372036854775807 ∧ ∃ xs : List ByteArray, Sts w a len xs ∧ Lim xs := by
  rcases open_slice1 Tryd.underlying25 (by kernel_rfl) h with ⟨h0, _⟩ | ⟨ad, l, c, m, n, V, D, Pl, hcs, hb, hl, hm, hmm, hX, hx⟩
  · simp at h0
    obtain ⟨rfl, rfl, rfl⟩ := h0
    exact ⟨Nat.le_refl _, by omega, [], Sts.nil w none, fun _ h => nomatch h⟩
  · simp at hcs
    obtain ⟨rfl, rfl, rfl⟩ := hcs
    unfold maxLen at hm
    refine ⟨hl, hm, ?_⟩
    rw [hX] at hw
    obtain ⟨_, hw2⟩ := weigh_slice Tryd.underlying25 hw
    have hlm : len ≤ m := by rw [hmm]; split <;> omega
    have each : ∀ i, i < len → ∃ s : ByteArray, w.cell? (ad.add i) = some (.string s) ∧ s.size ≤ 281474976710656 := by
      intro i hi
      obtain ⟨h1, h2⟩ := hx i (by omega)
      have hwi := hw2 (D i) (List.mem_map.2 ⟨i, List.mem_range.2 hi, rfl⟩)
      obtain ⟨s, e, hD, hs⟩ := DataW.trod_string Tryd.underlying9 h2
      simp at e
      rw [e] at h1
      have hD1 := congrArg Prod.fst hD
      simp only at hD1
      rw [hD1] at hwi
      simp only [DataW.weights, List.mem_singleton, forall_eq] at hwi
      unfold reachBytes at hwi
      rw [list_size] at hwi
      exact ⟨s, h1, by omega⟩
    obtain ⟨q, hq⟩ := choose_lt each
    have hfit : ∀ y ∈ (List.range len).map q, y.size ≤ 281474976710656 := by
      intro y hy
      simp only [List.mem_map, List.mem_range] at hy
      obtain ⟨i, hi, rfl⟩ := hy
      exact (hq i hi).2
    refine ⟨(List.range len).map q, ⟨by simp, fun y hy => Nat.le_trans (hfit y hy) (by omega), fun h0 => ?_⟩, hfit⟩
    obtain ⟨b, off, rfl⟩ := plain_addr (hq 0 h0).1
    have hc := fun k (hk : k < len) => (hq k hk).1
    simp only [Go.WideShapes.add_plain] at hc
    refine ⟨b, off, rfl, lt_of_cell (hc 0 h0), fun k hk => (hc k hk).trans ?_⟩
    simp [List.getD_eq_getElem?_getD, hk]
theorem cellsRule : Tryd.prog.cellsOf 24 = 4 := by kernel_rfl
/-- The prefix of a rule that came in is no longer than a machine can hold. -/
theorem sized_prefix {H : Type} {ts : List TypeId} {ds : List (DataW H)} {j : Nat} {bs : List UInt8} {y1 y2 y3 : DataW H} (h : (DataW.weightsEach Tryd.prog ts ds).all (· ≤ reachBytes) = true) (ht : ts[j]? = some 24)
    (hd : ds[j]? = some (.agg [.lit (.string bs), y1, y2, y3])) : bs.length ≤ reachBytes := by
  have := List.all_eq_true.1 h _ (DataW.weights_mem_each ht hd bs.length (by simp [DataW.weights, Tryd.underlying24, DataW.weightsEach]))
  simpa using this
end Go.Proofs.YtpkpmbigljkneaaDoor.Wd
