/- What TableMost calls: a deed's key, whether a key is among slots; no conditions but those that each names. -/
import Derived.Test.YtkfncanfgpmgaaaGreatTabSl
import Derived.Test.YtkfncanfgpmgaaaGreatTabY
import Derived.Test.YtkfncanfgpmgaaaGreatTabRb
namespace Go.Proofs.YtkfncanfgpmgaaaGreat.Wd
open Go Go.RowKit Go.Deep Go.Shelf
set_option linter.unusedVariables false
set_option maxRecDepth 100000

/-- A deed as a value. -/
abbrev Dd.v (d : Dd) (ka : Option Addr) (kn kc : Nat) : Value := .agg #[.int .u8 d.kind, .int .u32 d.wait, .int .u8 d.big, .slice ka kn kc, .int .u8 d.rule, .int .u16 d.n, .int .u8 d.dest]
/-- A deed's key. -/
def nameT (d : Dd) : ByteArray := if 240 ≤ d.kind then ⟨#[]⟩ else if 2 < (keyT d.kb).size ∧ d.kind < 200 then (keyT d.kb).extract 0 1 else keyT d.kb
theorem nameT_ok (d : Dd) : (nameT d).size ≤ 12 ∧ ((nameT d).size ≠ 0 → rtB (lb (nameT d)) = true) := by
  have h := keyT_ok d.kb
  unfold nameT
  split
  · exact ⟨by decide, fun h => absurd rfl h⟩
  · split
    · have := first_vis h.2.2 h.1
      exact ⟨by omega, fun _ => this.1⟩
    · exact ⟨by omega, fun _ => by unfold rtB; rw [list_size, decide_eq_true (show 1 ≤ (keyT d.kb).size ∧ (keyT d.kb).size ≤ 128 by omega), h.2.2]; rfl⟩
set_option maxHeartbeats 1000000 in
theorem name_any (d : Dd) (ka : Option Addr) (kn kc : Nat) (w : World) (hk : 0 ≤ d.kind ∧ d.kind ≤ 255) (ht : Txt w ka kn d.kb) (hn : kn ≤ 9223372036854775807) :
    Calls Tryz.prog 14 #[d.v ka kn kc] w fun e w' => e = .returned (.string (nameT d)) ∧ Below w.heap.size w w' := by
  have kr := (Below.refl _ w).alloc (Nat.le_refl _) (.cells #[.int .u8 d.kind, .int .u32 d.wait, .int .u8 d.big, .slice ka kn kc, .int .u8 d.rule, .int .u16 d.n, .int .u8 d.dest] 40)
  have CK := Lib.hid (fun V (g : Below w.heap.size w V) => key_any ka kn kc d.kb V (ht.below g) hn)
  have hko := keyT_ok d.kb
  clear ht
  unfold nameT
  generalize keyT d.kb = kk at *
  have h1 := hko.1
  have h12 := hko.2.1
  clear hko
  obtain ⟨nt, hnt⟩ : ∃ nt : ByteArray, (if 240 ≤ d.kind then ⟨#[]⟩ else if 2 < kk.size ∧ d.kind < 200 then kk.extract 0 1 else kk) = nt := ⟨_, rfl⟩
  rw [hnt]
  have HN := Lib.hid hnt
  clear hnt
  go_enter Tryz.func14, Tryz.ntmps14
  by_cases h240 : 240 ≤ d.kind
  · have hd := decide_eq_true h240
    have HN := HN.out
    rw [if_pos h240] at HN
    subst HN
    clear CK
    go_wp2
    go_ret
    exact ⟨rfl, kr⟩
  · have HM := Lib.hid (HN.out)
    rw [if_neg h240] at HM
    clear HN
    go_wp2_with (go_at_call 37; refine (CK.out _ kr).mono ?_; rintro e w1 ⟨rfl, g⟩; refine stopHere ?_)
    unfold Stop
    have c0 : w1.cell? ⟨w.heap.size, 0, none⟩ = some (.int .u8 d.kind) := celln g (by simp)
    have G := kbq kr g
    clear CK g kr
    by_cases h2 : 2 < kk.size
    · by_cases h200 : d.kind < 200
      · have h2' : (2 : Int) < (kk.size : Int) := by omega
        have HN := HM.out
        rw [if_pos ⟨h2, h200⟩] at HN
        subst HN
        go_wp2
        go_ret
        exact ⟨rfl, G⟩
      · have h2' : (2 : Int) < (kk.size : Int) := by omega
        have h2'' := decide_eq_false h200
        have HN := HM.out
        rw [if_neg (fun x => h200 x.2)] at HN
        subst HN
        go_wp2
        go_ret
        exact ⟨rfl, G⟩
    · have h2' := decide_eq_false (show ¬ (2 : Int) < (kk.size : Int) by omega)
      have HN := HM.out
      rw [if_neg (fun x => h2 x.1)] at HN
      subst HN
      go_wp2
      go_ret
      exact ⟨rfl, G⟩
/-- Is a key among slots? -/
def hasK (xs : List Sl) (k : ByteArray) : Bool := xs.any (fun x => decide (x.key = k))
theorem holds_any (v : Value) (base : Nat) (xs : List Sl) (k : ByteArray) (w : World) (h : OwS w base v xs) (hn : xs.length ≤ 1099511627776) :
    Calls Tryz.prog 19 #[v, .string k] w fun e w' => e = .returned (.bool (hasK xs k)) ∧ w' = w := by
  obtain ⟨A, cap, rfl, h1, h2, hf⟩ := h.form
  have HF := Lib.hid hf
  clear hf h
  go_enter Tryz.func19, Tryz.ntmps19
  go_wp2
  go_loopw [5] (fun i wr => ∃ j : Nat, i = .int .i64 (j : Int) ∧ j ≤ xs.length ∧ Hid (hasK xs k = hasK (xs.drop j) k) ∧ wr = w) (fun i _ => xs.length - (intOf i).toNat)
  case atStart => exact ⟨0, rfl, Nat.zero_le _, Lib.hid rfl, rfl⟩
  case round =>
    obtain ⟨j, rfl, hj, hh, rfl⟩ := hrel
    by_cases hlt : j < xs.length
    · obtain ⟨b, rfl, hb, hb2, hrow⟩ := HF.out (by omega)
      obtain ⟨x0, _⟩ := (hrow j hlt).eight
      have hs : xs.drop j = atS xs j :: xs.drop (j + 1) := by
        rw [List.drop_eq_getElem_cons hlt]; simp [atS, List.getD, hlt]
      have HN : Hid (hasK xs k = (decide ((atS xs j).key = k) || hasK (xs.drop (j + 1)) k)) := Lib.hid (by rw [hh.out, hs]; rfl)
      clear hrow HF hh hs
      generalize atS xs j = y at *
      by_cases e : y.key = k
      · have e' : (y.key.toList == k.toList) = true := by rw [text_same, decide_eq_true e]
        have HE := Lib.hid e
        clear e
        go_wp2
        go_ret
        exact ⟨by rw [HN.out, decide_eq_true HE.out]; rfl, rfl⟩
      · have e' : (y.key.toList == k.toList) = false := by rw [text_same, decide_eq_false e]
        have HE := Lib.hid e
        clear e
        go_wp2
        go_roundw
        case rel => exact ⟨j + 1, by go_num, by omega, Lib.hid (by rw [HN.out, decide_eq_false HE.out]; simp), trivial⟩
        case measure => simp [intOf]; omega
    · have HE : Hid (hasK xs k = false) := Lib.hid (by rw [hh.out, List.drop_of_length_le (by omega)]; rfl)
      go_wp2
      go_ret
      exact ⟨by rw [HE.out]; rfl, rfl⟩
end Go.Proofs.YtkfncanfgpmgaaaGreat.Wd
