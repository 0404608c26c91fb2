/- Rows of bytes, of rows of bytes and of numbers of 16 bits that came in read as such; no conditions. -/
import Derived.Test.YtbejkcdaefkibaaPacQ
import Derived.Deep.Slices
import Derived.OpenShut
namespace Go.Proofs.Ytbejkcdaefkibaa.Wd
open Go Go.RowKit Go.Deep
set_option linter.unusedVariables false

theorem plain_addr {w : World} {ad : Addr} {v : Value} (h : w.cell? (ad.add 0) = some v) : ∃ b off, ad = ⟨b, off, none⟩ := by
  obtain ⟨b, off, spot⟩ := ad
  have hspot : spot = none := by simpa [Addr.add] using World.cell?_spot h
  subst hspot
  exact ⟨b, off, rfl⟩
theorem open_byts {H : Type} {enc : TypeId × Value → H} {w : World} {base : Nat} {sp : Nat → Bool} {held : Bool} {fuel : Nat} {a : Option Addr} {len cap : Nat} {x : DataW H × List MemPlace}
    (h : DataW.trod enc Try.prog w base sp held fuel 26 [.slice a len cap] = some x) : len ≤ 9223372036854775807 ∧ Byts w a len := by
  rcases open_slice1 Try.underlying26 (by kernel_rfl) h with ⟨h0, _⟩ | ⟨ad, l, c, m, n, V, D, Pl, hcs, hb, hl, hm, hmm, _, hx⟩
  · simp at h0
    obtain ⟨rfl, rfl, rfl⟩ := h0
    exact ⟨by omega, fun i hi => absurd hi (by omega)⟩
  · simp at hcs
    obtain ⟨rfl, rfl, rfl⟩ := hcs
    unfold maxLen at hm
    have hlm : len ≤ m := by rw [hmm]; split <;> omega
    refine ⟨by omega, fun i hi => ?_⟩
    obtain ⟨g1, _⟩ := hx 0 (by omega)
    obtain ⟨b, off, rfl⟩ := plain_addr g1
    obtain ⟨h1, h2⟩ := hx i (by omega)
    obtain ⟨v, e, _, wf⟩ := DataW.trod_int Try.underlying5 h2
    simp at e
    rw [e, Go.WideShapes.add_plain] at h1
    exact ⟨b, off, v, rfl, h1, (bounds_u8 wf).1, (bounds_u8 wf).2⟩
theorem open_rws {H : Type} {enc : TypeId × Value → H} {w : World} {base : Nat} {sp : Nat → Bool} {held : Bool} {fuel : Nat} {a : Option Addr} {len cap : Nat} {x : DataW H × List MemPlace}
    (h : DataW.trod enc Try.prog w base sp held fuel 27 [.slice a len cap] = some x) : len ≤ 9223372036854775807 ∧ Rws w a len := by
  rcases open_slice1 Try.underlying27 (by kernel_rfl) h with ⟨h0, _⟩ | ⟨ad, l, c, m, n, V, D, Pl, hcs, hb, hl, hm, hmm, _, hx⟩
  · simp at h0
    obtain ⟨rfl, rfl, rfl⟩ := h0
    exact ⟨by omega, fun i hi => absurd hi (by omega)⟩
  · simp at hcs
    obtain ⟨rfl, rfl, rfl⟩ := hcs
    unfold maxLen at hm
    have hlm : len ≤ m := by rw [hmm]; split <;> omega
    refine ⟨by omega, fun i hi => ?_⟩
    obtain ⟨g1, _⟩ := hx 0 (by omega)
    obtain ⟨b, off, rfl⟩ := plain_addr g1
    obtain ⟨h1, h2⟩ := hx i (by omega)
    have hs : ∃ a' n' c', V i = .slice a' n' c' := by
      rcases open_slice1 Try.underlying26 (by kernel_rfl) h2 with ⟨h0, _⟩ | ⟨ad, l, c, m, n, V', D', Pl', hcs, _⟩
      · simp at h0; exact ⟨_, _, _, h0⟩
      · simp at hcs; exact ⟨_, _, _, hcs⟩
    obtain ⟨a', n', c', e⟩ := hs
    rw [e] at h1 h2
    obtain ⟨hn', hb'⟩ := open_byts h2
    rw [Go.WideShapes.add_plain] at h1
    exact ⟨b, off, a', n', c', rfl, h1, hn', hb'⟩
theorem open_u16s {H : Type} {enc : TypeId × Value → H} {w : World} {base : Nat} {sp : Nat → Bool} {held : Bool} {fuel : Nat} {a : Option Addr} {len cap : Nat} {x : DataW H × List MemPlace}
    (h : DataW.trod enc Try.prog w base sp held fuel 28 [.slice a len cap] = some x) : len ≤ 9223372036854775807 ∧ U16s w a len := by
  rcases open_slice1 Try.underlying28 (by kernel_rfl) h with ⟨h0, _⟩ | ⟨ad, l, c, m, n, V, D, Pl, hcs, hb, hl, hm, hmm, _, hx⟩
  · simp at h0
    obtain ⟨rfl, rfl, rfl⟩ := h0
    exact ⟨by omega, fun i hi => absurd hi (by omega)⟩
  · simp at hcs
    obtain ⟨rfl, rfl, rfl⟩ := hcs
    unfold maxLen at hm
    have hlm : len ≤ m := by rw [hmm]; split <;> omega
    refine ⟨by omega, fun i hi => ?_⟩
    obtain ⟨g1, _⟩ := hx 0 (by omega)
    obtain ⟨b, off, rfl⟩ := plain_addr g1
    obtain ⟨h1, h2⟩ := hx i (by omega)
    obtain ⟨v, e, _, wf⟩ := DataW.trod_int Try.underlying29 h2
    simp at e
    rw [e, Go.WideShapes.add_plain] at h1
    exact ⟨b, off, v.toNat, rfl, by rw [h1]; congr 2; have := bounds_u16 wf; omega, by have := bounds_u16 wf; omega⟩
theorem open_txt {H : Type} {enc : TypeId × Value → H} {w : World} {base : Nat} {sp : Nat → Bool} {held : Bool} {fuel : Nat} {a : Option Addr} {len cap : Nat} {x : DataW H × List MemPlace}
    (h : DataW.trod enc Try.prog w base sp held fuel 26 [.slice a len cap] = some x) : len ≤ cap ∧ cap ≤ 9223372036854775807 ∧ ∃ bs : List UInt8, Txt w a len bs := by
  rcases open_slice1 Try.underlying26 (by kernel_rfl) h with ⟨h0, _⟩ | ⟨ad, l, c, m, n, V, D, Pl, hcs, hb, hl, hm, hmm, _, hx⟩
  · simp at h0
    obtain ⟨rfl, rfl, rfl⟩ := h0
    exact ⟨Nat.le_refl _, by omega, [], rfl, fun h => by omega⟩
  · simp at hcs
    obtain ⟨rfl, rfl, rfl⟩ := hcs
    unfold maxLen at hm
    refine ⟨hl, hm, ?_⟩
    have hlm : len ≤ m := by rw [hmm]; split <;> omega
    have each : ∀ i, i < len → ∃ s : UInt8, w.cell? (ad.add i) = some (.int .u8 (s.toNat : Int)) := by
      intro i hi
      obtain ⟨h1, h2⟩ := hx i (by omega)
      obtain ⟨v, e, _, wf⟩ := DataW.trod_int Try.underlying5 h2
      simp at e
      rw [e] at h1
      have hv := bounds_u8 wf
      exact ⟨UInt8.ofNat v.toNat, by rw [h1]; congr 2; simp; omega⟩
    obtain ⟨q, hq⟩ := choose_lt each
    refine ⟨(List.range len).map q, by simp, fun h0 => ?_⟩
    obtain ⟨b, off, rfl⟩ := plain_addr (hq 0 h0)
    have hc := fun k (hk : k < len) => hq k hk
    simp only [Go.WideShapes.add_plain] at hc
    refine ⟨b, off, rfl, lt_of_cell (hc 0 h0), fun k hk => (hc k hk).trans ?_⟩
    simp [List.getD_eq_getElem?_getD, hk]
end Go.Proofs.Ytbejkcdaefkibaa.Wd
