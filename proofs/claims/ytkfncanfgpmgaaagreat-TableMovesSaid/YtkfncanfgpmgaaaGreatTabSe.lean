/- sort.Slice at keys, twelve of them at most; no conditions but those that each names. -/
import Derived.Test.YtkfncanfgpmgaaaGreatTabSd
import Derived.Test.YtkfncanfgpmgaaaGreatTabRb
namespace Go.Proofs.YtkfncanfgpmgaaaGreat.Wd
open Go Go.RowKit Go.Deep Go.Shelf
set_option linter.unusedVariables false
set_option maxRecDepth 100000

theorem Kys.below {W W' : World} {base RX : Nat} {v : Value} {d : Array ByteArray} (h : Kys W base RX v d) (g : Below W.heap.size W W') : Kys W' base RX v d := by
  obtain ⟨A, cap, e, h1⟩ := h.form
  refine ⟨⟨A, cap, e, fun hp => ?_⟩, celln g h.var⟩
  obtain ⟨KB, e1, e2, e3⟩ := h1 hp
  exact ⟨KB, e1, e2, e3.below g⟩
theorem pdq_none (x : Nat) (xb : Array Value) (y : Nat) (yb : Array Value) (n lim : Nat) (hn : n ≤ 1) (W : World) :
    Calls Tryz.prog 130 #[.agg #[.func (Fn.func x) #[] xb, .func (Fn.func y) #[] yb], .int .i64 0, .int .i64 (n : Int), .int .i64 (lim : Int)] W fun e w' => e = .returned (.tuple #[]) ∧ Below W.heap.size W w' := by
  have C := fun W' => ins_none x xb y yb n hn W'
  have e12 : (n : Int) - 0 ≤ 12 := by omega
  go_enter Tryz.func130, Tryz.ntmps130
  go_wp2
  have b0 : (W.alloc (.cells #[.func (Fn.func x) #[] xb, .func (Fn.func y) #[] yb] 173)).cell? ⟨W.heap.size, 0, none⟩ = some (.func (Fn.func x) #[] xb) := by simp
  have b1 : (W.alloc (.cells #[.func (Fn.func x) #[] xb, .func (Fn.func y) #[] yb] 173)).cell? ⟨W.heap.size, 1, none⟩ = some (.func (Fn.func y) #[] yb) := by simp
  have g0 : Below W.heap.size W (W.alloc (.cells #[.func (Fn.func x) #[] xb, .func (Fn.func y) #[] yb] 173)) := (Below.refl _ W).alloc (Nat.le_refl _) _
  generalize hW : World.alloc _ _ = W1 at *
  clear hW
  go_loopw [1, 2, 3, 8, 9] (fun a b l x y wr => a = .int .i64 0 ∧ b = .int .i64 (n : Int) ∧ l = .int .i64 (lim : Int) ∧ x = .bool true ∧ y = .bool true ∧ wr = W1) (fun _ _ _ _ _ _ => 0)
  case atStart => exact ⟨rfl, rfl, rfl, rfl, rfl, rfl⟩
  case round =>
    obtain ⟨rfl, rfl, rfl, rfl, rfl, rfl⟩ := hrel
    go_wp2_with (go_at_call 166; refine (C _).mono ?_; rintro e w2 ⟨rfl, hR⟩)
    (try simp only [Exit.inBlock, Exit.then])
    refine bodyPost_ret (results_none rfl _ _ _) rfl ?_
    exact ⟨rfl, kbq g0 hR⟩
theorem sort_of (n : Nat) (hn : n ≤ 1099511627776) (hP : 2 ≤ n → PdqC n) : SortC n := by
  intro base RX v d W hK hd hb
  obtain ⟨A, cap, rfl, hf⟩ := hK.form
  rw [hd]
  by_cases h2 : 2 ≤ n
  · obtain ⟨KB, rfl, hKB, hS⟩ := hf (by omega)
    have H := sort_head n _ rfl hn (some ⟨KB, 0, none⟩) KB cap RX (fun _ => rfl) W (fun w' => (∃ g, SoT w' KB RX cap g ∧ Sort.PermIn 0 n d g ∧ Sort.SortedIn ltK 0 n g) ∧ Below base W w') (fun W' g => by
      refine (hP h2 KB RX cap W' d _ (hS.below g) hd (bitLen_64 n hn) (.inr rfl)).mono ?_
      rintro e w' ⟨rfl, hg, ht⟩
      exact ⟨rfl, hg, (g.mono hb).trans (ht.lo (fun k hk => by have hk : k = KB := hk; omega) (by have := g.size; omega))⟩)
    refine H.mono ?_
    rintro e w' ⟨rfl, ⟨g, hg, hp, hs⟩, hB⟩
    have hz : g.size = n := by rw [hp.1, hd]
    refine ⟨rfl, ⟨g, ⟨⟨_, cap, by rw [hz], fun _ => ⟨KB, rfl, hKB, hg⟩⟩, ?_⟩, hp, hs⟩, hB⟩
    have := hg.var; rw [hz] at this; exact this
  · have H := sort_head n _ rfl hn A 0 cap RX (fun h => absurd h h2) W (fun w' => Below W.heap.size W w') (fun W' g => by
      refine (pdq_none _ _ _ _ n _ (by omega) W').mono ?_
      rintro e w' ⟨rfl, hg⟩
      exact ⟨rfl, kbq g hg⟩)
    refine H.mono ?_
    rintro e w' ⟨rfl, hB⟩
    refine ⟨rfl, ⟨d, ?_, Sort.permIn_refl d 0 n, fun i j h1 h2 h3 => by omega⟩, hB.mono hb⟩
    have := hK.below hB
    rw [hd] at this; exact this
theorem sort_few (n : Nat) (h : n ≤ 12) : SortC n := sort_of n (by omega) (fun h2 => pdq_few n h2 h)
end Go.Proofs.YtkfncanfgpmgaaaGreat.Wd
