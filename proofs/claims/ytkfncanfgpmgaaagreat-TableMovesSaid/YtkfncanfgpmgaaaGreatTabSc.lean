/- sort.Slice at keys, twelve of them at most; no conditions but those that each names. -/
import Derived.Test.YtkfncanfgpmgaaaGreatTabSb
namespace Go.Proofs.YtkfncanfgpmgaaaGreat.Wd
open Go Go.RowKit Go.Deep
set_option linter.unusedVariables false
set_option maxRecDepth 100000

/-- What pdqsort_func is asked of: sorted, and nothing else turned. -/
def PdqC (n : Nat) : Prop := ∀ (KB RX cap : Nat) (W : World) (d : Array ByteArray) (lim : Nat), SoT W KB RX cap d → d.size = n → lim ≤ 64 → (n ≤ 12 ∨ lim = Lib.bitLen n) →
    Calls Tryz.prog 130 #[datV RX (swK n) (swB KB cap n), .int .i64 0, .int .i64 (n : Int), .int .i64 (lim : Int)] W fun e w' => e = .returned (.tuple #[]) ∧ (∃ g, SoT w' KB RX cap g ∧ Sort.PermIn 0 n d g ∧ Sort.SortedIn ltK 0 n g) ∧ Tch (one KB) W w'
theorem pdq_few (n : Nat) (h2 : 2 ≤ n) (h12 : n ≤ 12) : PdqC n := by
  intro KB RX cap W d lim hS hd hlim hz
  have HC := fun W' (h : SoT W' KB RX cap d) => ins_any (swapC_any KB RX cap n h2) (less1_any KB RX cap n (by omega)) (by omega) 0 n (Nat.zero_le _) (Nat.le_refl _) W' d h hd
  have HP := Sort.insertionSort_holds ltK_swo d 0 n (Nat.zero_le _) (by omega)
  generalize hsf : swK n = sf at *
  generalize hsb : swB KB cap n = sb at *
  have S0 := hS.alloc (boxO RX sf sb)
  have hlt := hS.lt
  have e12 : (n : Int) - 0 ≤ 12 := by omega
  clear hS hsf hsb hz
  go_enter Tryz.func130, Tryz.ntmps130
  go_wp2
  have b0 : (W.alloc (boxO RX sf sb)).cell? ⟨W.heap.size, 0, none⟩ = some (lesV RX) := by simp
  have b1 : (W.alloc (boxO RX sf sb)).cell? ⟨W.heap.size, 1, none⟩ = some (.func (Fn.func sf) #[] sb) := by simp
  have g0 : Tch (one KB) W (W.alloc (boxO RX sf sb)) := .of ((Below.refl _ W).alloc (Nat.le_refl _) _)
  generalize hW : World.alloc _ _ = W1 at *
  clear hW
  go_loopw [1, 2, 3, 8, 9] (fun a b l x y wr => a = .int .i64 0 ∧ b = .int .i64 (n : Int) ∧ l = .int .i64 (lim : Int) ∧ x = .bool true ∧ y = .bool true ∧ wr = W1) (fun _ _ _ _ _ _ => 0)
  case atStart => exact ⟨rfl, rfl, rfl, rfl, rfl, rfl⟩
  case round =>
    obtain ⟨rfl, rfl, rfl, rfl, rfl, rfl⟩ := hrel
    have C := HC _ S0
    rw [show ((0 : Nat) : Int) = 0 from rfl] at C
    go_wp2_with (go_at_call 166; refine C.mono ?_; rintro e w2 ⟨rfl, hR, hg⟩)
    (try simp only [Exit.inBlock, Exit.then])
    refine bodyPost_ret (results_none rfl _ _ _) rfl ?_
    exact ⟨rfl, ⟨_, hR, HP.1, HP.2⟩, g0.trans hg⟩
end Go.Proofs.YtkfncanfgpmgaaaGreat.Wd
