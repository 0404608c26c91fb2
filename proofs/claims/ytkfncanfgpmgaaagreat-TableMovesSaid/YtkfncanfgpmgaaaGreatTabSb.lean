/- insertionSort_func of package sort, at keys; no conditions but those that each names. -/
import Derived.Test.YtkfncanfgpmgaaaGreatTabSa
namespace Go.Proofs.YtkfncanfgpmgaaaGreat.Wd
open Go Go.RowKit Go.Deep
set_option linter.unusedVariables false
set_option maxRecDepth 100000

/-- A row of one, or of none, is left as it is. -/
theorem ins_none (x : Nat) (xb : Array Value) (y : Nat) (yb : Array Value) (n : Nat) (hn : n ≤ 1) (W : World) :
    Calls Tryz.prog 166 #[.agg #[.func (Fn.func x) #[] xb, .func (Fn.func y) #[] yb], .int .i64 0, .int .i64 (n : Int)] W fun e w' => e = .returned (.tuple #[]) ∧ Below W.heap.size W w' := by
  have h1 : ¬ (1 : Int) < (n : Int) := by omega
  go_enter Tryz.func166, Tryz.ntmps166
  go_wp2
  have B1 : Below W.heap.size W (W.alloc (.cells #[.func (Fn.func x) #[] xb, .func (Fn.func y) #[] yb] 173)) := (Below.refl _ W).alloc (Nat.le_refl _) _
  generalize hW : World.alloc _ _ = W1 at *
  clear hW
  go_loopw [6] (fun i wr => i = .int .i64 1 ∧ wr = W1) (fun i _ => 0)
  case atStart => exact ⟨rfl, rfl⟩
  case round =>
    obtain ⟨rfl, rfl⟩ := hrel
    go_wp2
    go_end0
    exact ⟨rfl, B1⟩
section
variable {KB RX cap n sf : Nat} {sb : Array Value}
theorem ins_any (hsw : SwapC sf sb KB RX cap n) (hls : LessC KB RX cap n) (hn : n ≤ 1099511627776) (a b : Nat) (hab : a ≤ b) (hbn : b ≤ n) (W : World) (d : Array ByteArray) (hS : SoT W KB RX cap d) (hd : d.size = n) :
    Calls Tryz.prog 166 #[datV RX sf sb, .int .i64 (a : Int), .int .i64 (b : Int)] W fun e w' => e = .returned (.tuple #[]) ∧ SoT w' KB RX cap (Sort.insertionSort ltK d a b) ∧ Tch (one KB) W w' := by
  have HS := Lib.hid hsw
  have HL := Lib.hid hls
  have hlt := hS.lt
  have S0 := hS.alloc (boxO RX sf sb)
  clear hsw hls hS
  go_enter Tryz.func166, Tryz.ntmps166
  go_wp2
  have b0 : (W.alloc (boxO RX sf sb)).cell? ⟨W.heap.size, 0, none⟩ = some (lesV RX) := by simp
  have b1 : (W.alloc (boxO RX sf sb)).cell? ⟨W.heap.size, 1, none⟩ = some (.func (Fn.func sf) #[] sb) := by simp
  have g0 : Tch (one KB) W (W.alloc (boxO RX sf sb)) := .of ((Below.refl _ W).alloc (Nat.le_refl _) _)
  have nb : ¬ one KB W.heap.size := by show ¬ W.heap.size = KB; omega
  generalize hW : World.alloc _ _ = W1 at *
  clear hW
  go_loopw [6] (fun i wr => ∃ (k : Nat) (g : Array ByteArray), i = .int .i64 (k : Int) ∧ a + 1 ≤ k ∧ k ≤ b + 1 ∧ g.size = n ∧ SoT wr KB RX cap g ∧ Hid (Sort.insOuter ltK a b k g = Sort.insertionSort ltK d a b) ∧ Tch (one KB) W1 wr) (fun i _ => b + 1 - (intOf i).toNat)
  case atStart => exact ⟨a + 1, d, by simp, Nat.le_refl _, by omega, hd, S0, Lib.hid rfl, .refl _ _⟩
  case round =>
    obtain ⟨k, g, rfl, hk1, hk2, hg, hS, ho, hT⟩ := hrel
    clear S0
    by_cases hkb : k < b
    · go_wp2
      go_loopw [7] (fun j wr => ∃ (q : Nat) (e : Array ByteArray), j = .int .i64 (q : Int) ∧ (a ≤ q ∧ q ≤ k) ∧ e.size = n ∧ SoT wr KB RX cap e ∧ Hid (Sort.insInner ltK a q e = Sort.insInner ltK a k g) ∧ Tch (one KB) W1 wr) (fun j _ => (intOf j).toNat)
      case atStart => exact ⟨k, g, rfl, by omega, hg, hS, Lib.hid rfl, hT⟩
      case round =>
        obtain ⟨q, e, rfl, ⟨hq1, hq2⟩, he, hS2, hI, hT2⟩ := hrel
        have c0 := tcell hT2 nb b0
        have c1 := tcell hT2 nb b1
        have HO : Hid ((q ≤ a ∨ ltK e[q]! e[q - 1]! = false) → Sort.insOuter ltK a b (k + 1) e = Sort.insertionSort ltK d a b) := Lib.hid (fun h => by
          rw [← ho.out, insOuter_go _ _ _ _ _ hkb, ← hI.out, insInner_stop _ _ _ _ h])
        clear hS hT
        by_cases hqa : a < q
        · have e0 : (a : Int) < (q : Int) := by omega
          have C := HL.out wr e q (q - 1) hS2 he (by omega) (by omega)
          have e1 : ((q - 1 : Nat) : Int) = (q : Int) - 1 := by omega
          rw [e1] at C
          cases hl : ltK e[q]! e[q - 1]! with
          | true =>
            rw [hl] at C
            have HN := Lib.hid ((insInner_go ltK a q e hqa hl).symm.trans hI.out)
            clear hl hI HO
            go_wp2_with (go_at_call 85; refine C.mono ?_; rintro e0 w2 ⟨rfl, kb⟩; obtain ⟨W', hrun, hS', hg'⟩ := HS.out w2 _ q (q - 1) (hS2.below kb) he (by omega) (by omega); rw [e1] at hrun; have d1 := celln kb c1; have d0 := celln kb c0; have G := (hT2.trans (Tch.of kb)).trans hg'; clear c0 c1 C hS2 kb hg' hT2 e1)
            go_roundw
            case rel => exact ⟨q - 1, _, by simp; omega, by omega, (Sort.size_swp _ _ _).trans he, hS', HN, G⟩
            case measure => simp [intOf]; omega
          | false =>
            rw [hl] at C
            have HN := Lib.hid (HO.out (.inr hl))
            clear hl hI HO
            go_wp2_with (go_at_call 85; refine C.mono ?_; rintro e0 w2 ⟨rfl, kb⟩)
            go_roundw
            case rel => exact ⟨k + 1, _, by go_num, by omega, by omega, he, hS2.below kb, HN, hT2.trans (Tch.of kb)⟩
            case measure => simp [intOf]; omega
        · have e0 : ¬ (a : Int) < (q : Int) := by omega
          have HN := Lib.hid (HO.out (.inl (by omega)))
          clear hI HO
          go_wp2
          go_roundw
          case rel => exact ⟨k + 1, _, by go_num, by omega, by omega, he, hS2, HN, hT2⟩
          case measure => simp [intOf]; omega
    · have HN := Lib.hid ho.out
      rw [insOuter_stop _ _ _ _ _ hkb] at HN
      go_wp2
      go_end0
      exact ⟨rfl, by rw [← HN.out]; exact hS, g0.trans hT⟩
end
end Go.Proofs.YtkfncanfgpmgaaaGreat.Wd
