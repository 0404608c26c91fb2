/- Slots, Active of a table that is there; no conditions but those that each names. -/
import Derived.Test.YtkfncanfgpmgaaaGreatTabSk
namespace Go.Proofs.YtkfncanfgpmgaaaGreat.Wd
open Go Go.RowKit Go.Deep Go.Shelf
set_option linter.unusedVariables false
set_option maxRecDepth 100000

/-- All slots, their keys rising. -/
structure Told (S xs : List Sl) : Prop where
  mem : ∀ x, x ∈ xs ↔ x ∈ S
  len : xs.length = S.length
  inc : xs.Pairwise (fun x y => ltK y.key x.key = false)
theorem told_of {S xs : List Sl} (h : S.Pairwise (fun x y => x.key ≠ y.key)) (hm : ∀ x ∈ xs, x ∈ S) (ha : Allk S (xs.map (fun x => x.key))) : Told S xs := by
  obtain ⟨d, hp, hs, e⟩ := ha
  have hpk : (xs.map (fun x => x.key)).Perm (S.map (fun x => x.key)) := by rw [e]; exact hp
  refine ⟨fun x => ⟨hm x, fun hx => ?_⟩, by simpa using hpk.length_eq, ?_⟩
  · obtain ⟨y, hy, ek⟩ := List.mem_map.1 (hpk.mem_iff.2 (List.mem_map.2 ⟨x, hx, rfl⟩))
    rw [← pw_one h (hm y hy) hx ek]; exact hy
  · have : (xs.map (fun x => x.key)).Pairwise (fun a b => ltK b a = false) := by
      rw [e, List.pairwise_iff_getElem]
      intro i j hi hj hij
      have h1 := hs i j (Nat.zero_le _) hij (by simpa using hj)
      rw [getElem!_pos d i (by simpa using hi), getElem!_pos d j (by simpa using hj)] at h1
      simpa using h1
    exact List.pairwise_map.1 this
theorem slots_any (T : Nat) (B : Nat → Prop) (m c : Int) (S : List Sl) (w : World) (h : Tbl w T B m c S) (hsort : SortC S.length) :
    Calls Tryz.prog 16 #[ptr T] w fun e w' => ∃ v xs, e = .returned v ∧ OwS w' w.heap.size v xs ∧ Told S xs ∧ Below w.heap.size w w' := by
  obtain ⟨M, hM⟩ := h.tbm
  have C := callsIn_wide.1 (sall_in 8 (by omega) T M B m c S w hM hsort)
  have hw := h.wf.ap
  have O := fun W => ornew_yes T W
  clear hM h
  go_enter Tryz.func16, Tryz.ntmps16
  go_wp2_with (first
    | (go_at_call 39; refine (O _).mono ?_; rintro e w1 ⟨rfl, rfl⟩)
    | (go_at_call 38; refine C.mono ?_; rintro e w2 ⟨v, xs, rfl, h1, h2, h3, h4⟩))
  go_ret
  exact ⟨_, _, rfl, h1, told_of hw h2 h3, h4⟩
theorem active_any (T : Nat) (B : Nat → Prop) (m c : Int) (S : List Sl) (w : World) (h : Tbl w T B m c S) :
    Calls Tryz.prog 17 #[ptr T] w fun e w' => e = .returned (.int .i64 S.length) ∧ w' = w := by
  obtain ⟨M, hM, c2, hl, _⟩ := h.look ⟨#[]⟩ (by decide)
  have hl := hl w rfl
  have O := fun W => ornew_yes T W
  clear h
  go_enter Tryz.func17, Tryz.ntmps17
  go_wp2_with (go_at_call 39; refine (O _).mono ?_; rintro e w1 ⟨rfl, rfl⟩)
  go_ret
  exact ⟨rfl, rfl⟩
end Go.Proofs.YtkfncanfgpmgaaaGreat.Wd
