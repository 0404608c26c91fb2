/- The law PastFresh answers true, for any history and numbers; no conditions. -/
import Derived.Test.YtinlppadebdjgaaPasQ
import Derived.Deep.LoopGhost
import Derived.Laws.AppendOwnNone
namespace Go.Proofs.Ytinlppadebdjgaa.Wd
open Go Go.RowKit
set_option linter.unusedVariables false

theorem wpList_append_row {P : Program} (w : World) {ops : Array Oper} {rest : List Oper} {o : Oper} {a : Act} {Q : Exit → Act → World → Prop} (hgd : o.guard = none) (s x : Operand) (t : TypeId)
    (ho : o.op = .call { callee := .builtin .append, args := #[s, x], argTypes := #[t, t] })
    (base : Nat) (e : TypeId) (i : TypeInfo) (z : Value) (size bytes : Nat) (ht : P.underlying t = some (.slice e)) (hi : P.info? e = some i) (hz : i.zero = some z)
    (hsize : i.size = size) (hby : i.bytes = bytes) (hzs : z.cells.size = size) (hsz : 0 < size) (hs : a.eval s = .slice none 0 0)
    (ao : Option Addr) (m c : Nat) (news : List Value) (hx : a.eval x = .slice ao m c) (hl : news.length = m * size) (hnone : ao = none → m = 0 ∧ c = 0) (hnews : ∀ ad, ao = some ad → ∀ j u, news[j]? = some u → w.cell? (ad.add j) = some u) (h1 : ∀ u ∈ news, u.oneCell' = true)
    (h63 : m ≤ maxLen) (hbytes : (m + m / 4 + 192) * bytes ≤ 281474976710656) (hbase : base ≤ w.heap.size)
    (h : ∀ v' w', w'.ownsRow base e size v' m news → w.grownBy w' none → wpList P ops Q rest (a.put o.dst v') w') : wpList P ops Q (o :: rest) a w := by
  cases ao with
  | none =>
    obtain ⟨rfl, rfl⟩ := hnone rfl
    obtain rfl : news = [] := List.eq_nil_of_length_eq_zero (by simpa using hl)
    exact wpList_append_own_none hgd s x t ho base e i size ht hi _ _ _ hs (World.ownsRow_nil w base e size) hx (h _ w (World.ownsRow_nil w base e size) (World.grownBy.refl w none))
  | some ad =>
    refine wpList_append_own_wide w hgd s x t ho base e i z size bytes ht hi hz hsize hby hzs hsz (.slice none 0 0) 0 [] hs (World.ownsRow_nil w base e size) ad m c news hx hl (hnews ad rfl) h1 (by omega) (by rw [Nat.zero_add]; exact hbytes) hbase ?_
    intro v' w' own grow _
    rw [Nat.zero_add, List.nil_append] at own
    exact h v' w' own grow

theorem pastFresh_long (a : Option Addr) (n cap : Nat) (now c x : Int) (w : World) (hn : 40 < n) (hm : n ≤ 9223372036854775807) :
    Calls Try.prog 7 #[.slice a n cap, .int .u64 now, .int .u64 c, .int .u64 x] w fun e w' => e = .returned (.bool true) ∧ Below w.heap.size w w' := by
  have hn' : (40 : Int) < (n : Int) := by omega
  go_enter Try.func7, Try.ntmps7
  go_wp2_with (go_at_call 10; ((with_reducible refine (known_any _).mono ?_); rintro e w1 ⟨rfl, g1⟩))
  go_ret
  exact ⟨rfl, g1⟩

set_option maxRecDepth 100000 in
set_option maxHeartbeats 2000000 in
theorem pastFresh_short (a : Option Addr) (n cap : Nat) (es : List (Int × Int)) (hes : es.length = n) (now c x : Int) (w : World) (hv : Hist w (.slice a n cap) es) (hU : EU es) (hn : n ≤ 40) (h1 : U now) (h2 : U c) (h3 : U x) :
    Calls Try.prog 7 #[.slice a n cap, .int .u64 now, .int .u64 c, .int .u64 x] w fun e w' => e = .returned (.bool true) ∧ Below w.heap.size w w' := by
  have hn' : ¬ ((40 : Int) < (n : Int)) := by omega
  obtain ⟨i0, hi, hz0, hz1, hz2⟩ := info_parts infoEvent
  have D1 := Lib.hid (fun (w : World) (v : Value) (h : Hist w v es) => pdec_any v es now c x w h hU (by omega) h1 h2 h3)
  obtain ⟨q, hq⟩ : ∃ q, cfB (es ++ [(now, x)]) c = q := ⟨_, rfl⟩
  rw [hq] at D1
  have HQ := Lib.hid hq
  have hcells : (a = none → n = 0 ∧ cap = 0) ∧ ∀ ad, a = some ad → ∀ j u, (flat es)[j]? = some u → w.cell? (ad.add j) = some u := by
    obtain ⟨a', cap', g1, g2, g3, g4⟩ := hv
    simp only [Value.slice.injEq] at g1
    obtain ⟨rfl, -, rfl⟩ := g1
    exact ⟨fun e => by have := g3 e; omega, fun ad e => by subst e; exact evs_flat g4⟩
  have hfl : (flat es).length = n * 2 := by rw [flat_length, hes]
  have HCL := Lib.hid hcells
  have HV := Lib.hid hv
  have HFL := Lib.hid hfl
  have HES := Lib.hid hes
  clear hq hU h1 h2 h3 hv hcells hfl hes
  go_enter Try.func7, Try.ntmps7
  go_wp2_with (first
    | (at_builtin; refine wpList_append_row _ rfl _ _ 22 rfl w.heap.size 29 i0 (evt (0, 0)) 2 16 Try.underlying22 hi hz0 hz1 hz2 rfl (by decide) rfl a n cap (flat es) rfl HFL.out HCL.out.1 HCL.out.2 (flat_one es) (by unfold maxLen; omega) (by omega) (Nat.le_refl _) ?_; intro v1 w1 own1 grow1)
    | (go_at_call 13; have Z := own1; refine stopHere ?_))
  have hes := HES.out
  have b1 : Below w.heap.size w w1 := (Below.refl _ w).grown grow1 (Nat.le_refl _) (fun k e => by cases e)
  have hv1 := own_hist hes own1
  have hl2 := HV.out.below b1
  clear Z own1 grow1
  have hl1 : (dcL es now c x).length = n + (if q = true then 1 else 0) := by
    unfold dcL; rw [HQ.out]
    cases q
    · simp [hes]
    · simp [hes]
  unfold Stop
  with_reducible refine (D1.out _ _ hv1).mono ?_
  rintro e w2 ⟨v2, rfl, own2, b2⟩
  rw [hl1] at own2
  have hxs : ∀ i, i < n + (if q = true then 1 else 0) → ∃ u : Int, (flat (dcL es now c x))[i * 2]? = some (.int .u64 u) := by
    intro i hi
    have hi2 : i < (dcL es now c x).length := by rw [hl1]; exact hi
    have he : (dcL es now c x)[i]? = some ((dcL es now c x)[i]?.getD (0, 0)) := by simp [hi2]
    exact ⟨_, (flat_at _ _ _ he).1⟩
  generalize flat (dcL es now c x) = xs0 at own2 hxs
  have hN : n + (if q = true then 1 else 0) ≤ 41 := by split <;> omega
  obtain ⟨N, hNN⟩ : ∃ N, n + (if q = true then 1 else 0) = N := ⟨_, rfl⟩
  rw [hNN] at own2 hxs hN
  have HNN := Lib.hid hNN
  have hfr : ∀ k, v2.ownBlock = some k → w1.heap.size ≤ k := own_block own2
  have HX := Lib.hid hxs
  have HO := Lib.hid own2
  clear hl1 hxs hNN own2
  have hdone : ∀ (wr : World), Below w1.heap.size w1 wr → Hist wr v1 es ∧ Hist wr (.slice a n cap) es := fun wr hb => ⟨hv1.below hb, hl2.below hb⟩
  have HD := Lib.hid hdone
  clear hdone
  have HV2 : ∃ a2 cap2, v2 = .slice a2 N cap2 := by
    rcases HO.out.2 with ⟨rfl, h⟩ | ⟨g, cp, cur, rfl, _⟩
    · exact ⟨none, 0, by rw [h]⟩
    · exact ⟨_, _, rfl⟩
  obtain ⟨a2, cap2, rfl⟩ := HV2
  have hneq : IntKind.i64.wrap ((n : Int) + 1) = (n : Int) + 1 := by rw [IntKind.wrap_i64]; omega
  have hNq : q = true → (N : Int) = (n : Int) + 1 := by intro h; have := HNN.out; simp [h] at this; omega
  have hNf : q = false → (N : Int) = (n : Int) := by intro h; have := HNN.out; simp [h] at this; omega
  cases q
  · have hNN := hNf rfl
    clear hNq hNf
    obtain rfl : N = n := by omega
    clear hNN HNN
    go_wp2
    go_loopg [13] N (fun g i wr => ∃ (k : Nat) (xs : List Value), k ≤ N ∧ g = N - k ∧ i = .int .i64 k ∧ wr.ownsRow w1.heap.size 29 2 (.slice a2 N cap2) N xs ∧ (∀ i, i < N → ∃ u : Int, xs[i * 2]? = some (.int .u64 u)) ∧ Below w1.heap.size w1 wr)
    case atStart => exact ⟨0, xs0, Nat.zero_le _, rfl, rfl, HO.out, HX.out, b2⟩
    case round =>
      obtain ⟨k, xs, hk, rfl, rfl, own, hx, hB⟩ := hrel
      by_cases hlt : k < N
      · obtain ⟨u, hu⟩ := hx k hlt
        obtain ⟨g, hg⟩ : ∃ g, a2 = some ⟨g, 0, none⟩ := by
          rcases own.2 with ⟨h, h'⟩ | ⟨g, cp, cur, h, _⟩
          · omega
          · simp only [Value.slice.injEq] at h; exact ⟨g, h.1⟩
        subst hg
        have hg2 : w1.heap.size ≤ g := own_block own g rfl
        have c0 := own.cellAt (k * 2) (by omega)
        rw [hu] at c0
        have f0 := own.frozenAt (k * 2)
        have st := own.stored (k * 2) (.int .u64 (IntKind.u64.wrap (u + 1)))
        have HS := Lib.hid st
        have HXX := Lib.hid hx
        have HOW := Lib.hid own
        clear st hx own
        go_wp2
        go_roundg (N - (k + 1))
        case measure => omega
        case rel =>
          refine ⟨k + 1, _, by omega, rfl, by simp, HS.out.1, fun i hi => ?_, hB.setCell (p := ⟨g, k * 2, none⟩) hg2 _⟩
          obtain ⟨t, ht⟩ := HXX.out i hi
          by_cases hik : i = k
          · subst hik
            exact ⟨_, by rw [List.getElem?_set_self (List.getElem?_eq_some_iff.1 ht).1]⟩
          · exact ⟨t, by rw [List.getElem?_set_ne (by omega)]; exact ht⟩
      · obtain rfl : k = N := by omega
        obtain ⟨y1, y2⟩ := HD.out wr hB
        go_wp2_with (first
          | (go_at_call 10; ((with_reducible refine (known_any _).mono ?_); rintro e w4 ⟨rfl, b4⟩; have y14 := y1.below b4; have y24 := y2.below b4))
          | (go_at_call 21; ((with_reducible refine (y14.same y24 (by omega)).mono ?_); rintro e w5 ⟨rfl, b5⟩)))
        go_ret
        exact ⟨rfl, kbq (kbq (kbq b1 hB) b4) b5⟩
  · have hNN := hNq rfl
    have hNN2 : N = n + 1 := by omega
    clear hNq hNf
    go_wp2
    go_loopg [13] N (fun g i wr => ∃ (k : Nat) (xs : List Value), k ≤ N ∧ g = N - k ∧ i = .int .i64 k ∧ wr.ownsRow w1.heap.size 29 2 (.slice a2 N cap2) N xs ∧ (∀ i, i < N → ∃ u : Int, xs[i * 2]? = some (.int .u64 u)) ∧ Below w1.heap.size w1 wr)
    case atStart => exact ⟨0, xs0, Nat.zero_le _, rfl, rfl, HO.out, HX.out, b2⟩
    case round =>
      obtain ⟨k, xs, hk, rfl, rfl, own, hx, hB⟩ := hrel
      by_cases hlt : k < N
      · obtain ⟨u, hu⟩ := hx k hlt
        obtain ⟨g, hg⟩ : ∃ g, a2 = some ⟨g, 0, none⟩ := by
          rcases own.2 with ⟨h, h'⟩ | ⟨g, cp, cur, h, _⟩
          · omega
          · simp only [Value.slice.injEq] at h; exact ⟨g, h.1⟩
        subst hg
        have hg2 : w1.heap.size ≤ g := own_block own g rfl
        have c0 := own.cellAt (k * 2) (by omega)
        rw [hu] at c0
        have f0 := own.frozenAt (k * 2)
        have st := own.stored (k * 2) (.int .u64 (IntKind.u64.wrap (u + 1)))
        have HS := Lib.hid st
        have HXX := Lib.hid hx
        have HOW := Lib.hid own
        clear st hx own
        go_wp2
        go_roundg (N - (k + 1))
        case measure => omega
        case rel =>
          refine ⟨k + 1, _, by omega, rfl, by simp, HS.out.1, fun i hi => ?_, hB.setCell (p := ⟨g, k * 2, none⟩) hg2 _⟩
          obtain ⟨t, ht⟩ := HXX.out i hi
          by_cases hik : i = k
          · subst hik
            exact ⟨_, by rw [List.getElem?_set_self (List.getElem?_eq_some_iff.1 ht).1]⟩
          · exact ⟨t, by rw [List.getElem?_set_ne (by omega)]; exact ht⟩
      · obtain rfl : k = N := by omega
        obtain ⟨y1, y2⟩ := HD.out wr hB
        go_wp2_with (first
          | (go_at_call 10; ((with_reducible refine (known_any _).mono ?_); rintro e w4 ⟨rfl, b4⟩; have y14 := y1.below b4; have y24 := y2.below b4))
          | (go_at_call 21; ((with_reducible refine (y14.same y24 (by omega)).mono ?_); rintro e w5 ⟨rfl, b5⟩)))
        go_ret
        exact ⟨rfl, kbq (kbq (kbq b1 hB) b4) b5⟩

theorem pastFresh_law (a : Option Addr) (n cap : Nat) (es : List (Int × Int)) (hes : es.length = n) (now c x : Int) (w : World) (hv : Hist w (.slice a n cap) es) (hU : EU es) (hm : n ≤ 9223372036854775807) (h1 : U now) (h2 : U c) (h3 : U x) :
    Calls Try.prog 7 #[.slice a n cap, .int .u64 now, .int .u64 c, .int .u64 x] w fun e w' => e = .returned (.bool true) ∧ Below w.heap.size w w' := by
  by_cases hn : 40 < n
  · exact pastFresh_long a n cap now c x w hn hm
  · exact pastFresh_short a n cap es hes now c x w hv hU (by omega) h1 h2 h3
end Go.Proofs.Ytinlppadebdjgaa.Wd
