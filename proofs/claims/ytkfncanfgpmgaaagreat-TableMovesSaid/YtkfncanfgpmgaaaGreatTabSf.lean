/- The keys of a table's map, collected; no conditions but those that each names. -/
import Derived.Test.YtkfncanfgpmgaaaGreatTabSe
import Derived.Test.YtkfncanfgpmgaaaGreatTabCa
namespace Go.Proofs.YtkfncanfgpmgaaaGreat.Wd
open Go Go.RowKit Go.Deep Go.Shelf Go.Maps
set_option linter.unusedVariables false
set_option maxRecDepth 100000

/-- A slice of the keys d, in a row of a block from base on. -/
structure Kyr (W : World) (base : Nat) (v : Value) (d : Array ByteArray) : Prop where
  form : ∃ A cap, v = .slice A d.size cap ∧ (1 ≤ d.size → ∃ KB cur, A = some ⟨KB, 0, none⟩ ∧ base ≤ KB ∧ W.heap[KB]? = some (.cells cur Tstr (0, 0)) ∧ (∀ k, k < d.size → cur[k]? = some (.string d[k]!) ∧ d[k]!.size ≤ 9223372036854775807))
theorem kyr_of {W : World} {base : Nat} {v : Value} {ss : List (List UInt8)} (h : W.ownsRow base Tstr 1 v ss.length (ss.map Go.Proofs.encStr)) (hz : ∀ s ∈ ss, s.length ≤ 9223372036854775807) :
    Kyr W base v (ss.map (fun l => (⟨l.toArray⟩ : ByteArray))).toArray := by
  rcases h.2 with ⟨rfl, h0⟩ | ⟨g, cap, cur, rfl, hb, hgg, h1, h2, h3, h4⟩
  · exact ⟨none, 0, by simp [h0], fun hp => by simp at hp; omega⟩
  · refine ⟨_, cap, by simp, fun _ => ⟨g, cur, rfl, hb, hgg, fun k hk => ?_⟩⟩
    have hk' : k < ss.length := by simpa using hk
    have e : ((ss.map (fun l => (⟨l.toArray⟩ : ByteArray))).toArray)[k]! = ⟨(ss[k]).toArray⟩ := by
      rw [getElem!_pos ((ss.map (fun l => (⟨l.toArray⟩ : ByteArray))).toArray) k hk]; simp
    rw [e]
    refine ⟨?_, ?_⟩
    · have h5 : (cur.toList.take (ss.length * 1))[k]? = some (Go.Proofs.encStr ss[k]) := by rw [h4, List.getElem?_map, List.getElem?_eq_getElem hk']; rfl
      rw [List.getElem?_take, if_pos (by omega), Array.getElem?_toList] at h5
      exact h5
    · have := hz ss[k] (List.getElem_mem _)
      show (ss[k]).toArray.size ≤ _
      simpa using this
theorem Kyr.kept {W W' : World} {base : Nat} {v : Value} {d : Array ByteArray} (h : Kyr W base v d) (g : Below W.heap.size W W') : Kyr W' base v d := by
  obtain ⟨A, cap, e, h1⟩ := h.form
  refine ⟨⟨A, cap, e, fun hp => ?_⟩⟩
  obtain ⟨KB, cur, e1, e2, e3, e4⟩ := h1 hp
  exact ⟨KB, cur, e1, e2, (g.block _ (heap_lt e3)).trans e3, e4⟩
/-- .. and a variable that holds it. -/
theorem Kyr.kys {W : World} {base RX : Nat} {v : Value} {d : Array ByteArray} (h : Kyr W base v d) (hv : W.cell? ⟨RX, 0, none⟩ = some v) (hne : ∀ cur, W.heap[RX]? ≠ some (.cells cur Tstr (0, 0))) : Kys W base RX v d := by
  obtain ⟨A, cap, rfl, h1⟩ := h.form
  refine ⟨⟨A, cap, rfl, fun hp => ?_⟩, hv⟩
  obtain ⟨KB, cur, rfl, e2, e3, e4⟩ := h1 hp
  refine ⟨KB, rfl, e2, heap_lt e3, fun e => hne cur (e ▸ e3), fun k hk => (e4 k hk).2, hv, fun k hk => ?_, ⟨cur, e3⟩⟩
  have h5 := (e4 k hk).1
  refine ⟨by simp [World.cell?, e3, h5], by simp [World.frozen?, e3]⟩
theorem mkeys_any (M : Nat) (W : World) : Calls Tryz.prog 83 #[.map (some M)] W fun e w' => e = .returned (.func (.func 125) #[] #[ptr W.heap.size]) ∧ w' = W.alloc (.cells #[.map (some M)] Tmap) :=
  callsIn_wide.1 (Go.Proofs.AnyZ.keys_in { kyLays with } Fence.wide 5 trivial rfl (some M) W)
theorem strKeys_mapL (F : Nat → Sl × Int) (bs : List Nat) : Go.strKeys (.map (mapL F bs) : DataW Unit) = bs.map (fun b => lb (F b).1.key) := by
  simp only [Go.strKeys, mapL, List.map_map]
  exact List.map_congr_left (fun b _ => rfl)
theorem collect_any (M : Nat) (F : Nat → Sl × Int) (bs : List Nat) (w : World) (h : Mp w M F bs) (hn : bs.length ≤ 1000000) (hz : ∀ b ∈ bs, (F b).1.key.size ≤ 9223372036854775807) :
    Calls Tryz.prog 82 #[.func (.func 125) #[] #[ptr w.heap.size]] (w.alloc (.cells #[.map (some M)] Tmap)) fun e w' => ∃ v d, e = .returned v ∧ d.toList.Perm (bs.map (fun b => (F b).1.key)) ∧
      Kyr w' (w.alloc (.cells #[.map (some M)] Tmap)).heap.size v d ∧ Below (w.alloc (.cells #[.map (some M)] Tmap)).heap.size (w.alloc (.cells #[.map (some M)] Tmap)) w' := by
  obtain ⟨es, ho, hp⟩ := h
  have hlen : Maps.size (.map es : DataW Unit) = bs.length := by
    show es.length = _
    rw [hp.length_eq, mapL_len]
  have hpk : (Go.strKeys (.map es : DataW Unit)).Perm (bs.map (fun b => lb (F b).1.key)) := by
    rw [← strKeys_mapL]
    exact hp.map _
  have hbl := ho.lt
  have hseq : SeqGives Fence.wide 3 Tryz.prog 125 #[ptr w.heap.size] Go.Proofs.encStr (fun ss => ss.Perm (Go.strKeys (.map es : DataW Unit))) (Maps.size (.map es : DataW Unit)) (w.alloc (.cells #[.map (some M)] Tmap)) :=
    Go.Proofs.AnyZ.keys_gives (ρ := kyRen) { kyLays with } Fence.wide _ trivial rfl (by omega) w.heap.size M bs.length (.map es) _ (by simp) (by simp) (by
      obtain ⟨es', clock, hb, Ft, hs, hD⟩ := ho
      exact ⟨es', clock, (Below.heap_alloc _ _ M hbl).trans hb, Ft, hs, hD⟩)
  refine (callsIn_wide.1 (Go.Proofs.AnyZ.collect_in { coLays with } Fence.wide 5 trivial trivial rfl (by omega) 125 #[ptr w.heap.size] trivial (enters_of Tryz.func125 (by kernel_rfl) rfl) _ _ (by rw [hlen]; unfold maxLen; omega) (by rw [hlen]; omega) _ hseq)).mono ?_
  rintro e w' ⟨v, ss, rfl, hS, hrow, hnil, hB⟩
  have hP := hS.trans hpk
  refine ⟨v, (ss.map (fun l => (⟨l.toArray⟩ : ByteArray))).toArray, rfl, ?_, kyr_of hrow (fun s hs => ?_), hB⟩
  · have := hP.map (fun l => (⟨l.toArray⟩ : ByteArray))
    rw [List.map_map] at this
    refine this.trans (List.Perm.of_eq (List.map_congr_left (fun b _ => ?_)))
    show (⟨(lb (F b).1.key).toArray⟩ : ByteArray) = _
    apply lb_inj; rfl
  · have := hP.mem_iff.1 hs
    obtain ⟨b, hb, rfl⟩ := List.mem_map.1 this
    rw [list_size]; exact hz b hb
end Go.Proofs.YtkfncanfgpmgaaaGreat.Wd
