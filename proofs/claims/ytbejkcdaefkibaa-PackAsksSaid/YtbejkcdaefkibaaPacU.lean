/- Entries that do not rise, and a key that is none; a step that appends entries; no conditions but those that each names. -/
import Derived.Test.YtbejkcdaefkibaaPacW2
import Derived.Deep.RegionLaw
namespace Go.Proofs.Ytbejkcdaefkibaa.Wd
open Go Go.RowKit Go.Shelf Go.Deep Go.Lib
set_option linter.unusedVariables false
set_option maxRecDepth 100000

theorem allR_of_up : ∀ (xs : List En) (ah : List UInt8), up ah xs = true → allR xs = true
  | [], _, _ => rfl
  | x :: xs, ah, h => by
    simp only [up, Bool.and_eq_true] at h
    show (rtB (lb x.1) && allR xs) = true
    rw [h.1, allR_of_up xs _ h.2.2]; rfl
theorem rg_twice {k : Nat} {xs : List En} (O : Okx k xs) (I : Nat) (hI : I < xs.length) : rgE (xs.take (I + 1) ++ xs.drop I) = 42 := by
  have h1 := allR_of_up xs [] O.up
  have h2 : allR (xs.take (I + 1) ++ xs.drop I) = true := by
    rw [allR, List.all_eq_true] at h1 ⊢
    intro x hx
    rcases List.mem_append.1 hx with hx | hx
    · exact h1 x (List.mem_of_mem_take hx)
    · exact h1 x (List.mem_of_mem_drop hx)
  have h3 : soB (ksE (xs.take (I + 1) ++ xs.drop I)) = false := by
    unfold ksE
    rw [List.map_append, List.map_take, List.map_drop]
    exact so_twice _ I (by rw [List.length_map]; exact hI)
  unfold rgE
  rw [h2, h3]; rfl
theorem rt_space (k : ByteArray) : rtB (lb (k ++ ⟨#[32]⟩)) = false := by
  unfold rtB
  rw [lb_append, List.all_append]
  rw [show (lb ⟨#[32]⟩).all (fun c => visB (c.toNat : Int)) = false by decide, Bool.and_false, Bool.and_false]
theorem rg_bad (xs : List En) (I : Nat) (hI : I < xs.length) (k : ByteArray) (u : Nat) : rgE (xs.set I (k ++ ⟨#[32]⟩, u)) = 12 := by
  have h : allR (xs.set I (k ++ ⟨#[32]⟩, u)) = false := allR_no (x := (k ++ ⟨#[32]⟩, u)) (List.mem_set hI _) (rt_space k)
  unfold rgE
  rw [h]; rfl
theorem wgt_set : ∀ (xs : List En) (I : Nat) (x : En), wgt (xs.set I x) ≤ wgt xs + 9 + x.1.size
  | [], I, x => by rw [List.set_nil]; omega
  | y :: xs, 0, x => by rw [List.set_cons_zero, wgt, wgt]; omega
  | y :: xs, I + 1, x => by have := wgt_set xs I x; rw [List.set_cons_succ, wgt, wgt]; omega
theorem flatE_set : ∀ (xs : List En) (I : Nat) (s : ByteArray), I < xs.length → flatE (xs.set I (s, (atE xs I).2)) = (flatE xs).set (I * 2) (.string s)
  | [], I, s, h => absurd h (Nat.not_lt_zero _)
  | y :: xs, 0, s, h => by simp [flatE]
  | y :: xs, I + 1, s, h => by
    have ih := flatE_set xs I s (by simpa using h)
    rw [List.set_cons_succ, flatE, flatE, show (I + 1) * 2 = I * 2 + 1 + 1 by omega]
    show y.cs.toList ++ flatE (xs.set I (s, (atE xs I).2)) = (Value.string y.1 :: .int .u64 (y.2 : Int) :: flatE xs).set (I * 2 + 1 + 1) (.string s)
    rw [List.set_cons_succ, List.set_cons_succ, ih]; rfl
theorem OwE.put {w : World} {base g n c : Nat} {xs : List En} (h : OwE w base (.slice (some ⟨g, 0, none⟩) n c) xs) (hn : n = xs.length) (I : Nat) (hI : I < n) (s : ByteArray) : OwE (w.setCell ⟨g, I * 2, none⟩ (.string s)) base (.slice (some ⟨g, 0, none⟩) n c) (xs.set I (s, (atE xs I).2)) := by
  subst hn
  have z := World.ownsRow.stored h (I * 2) (.string s)
  unfold OwE
  rw [List.length_set, flatE_set xs I s hI]
  exact z.1
theorem step_app_en {ops : Array Oper} {o : Oper} {a : Act} {w : World} {K : Act → World → Prop} {Q : Exit → Act → World → Prop} {E : Prop} (hg : o.guard = none) (s x : Operand)
    (ho : o.op = .call { callee := .builtin .append, args := #[s, x], argTypes := #[Tens, Tens] })
    (base : Nat) (v : Value) (acc : List En) (hs : a.eval s = v) (hown : OwE w base v acc) (ad : Addr) (m c : Nat) (l : List En) (hx : a.eval x = .slice (some ad) m c) (hT : Ens w (some ad) m l) (had : ad.spot = none)
    (hsz : acc.length + m ≤ 1000000) (hbase : base ≤ w.heap.size)
    (h : ∀ v' w', OwE w' base v' (acc ++ l) → w.grownBy w' v.ownBlock → K (a.put o.dst v') w') :
    if Region.wanted o (yielded ops a.tmps) = true then Oper.wp Try.prog o a w K Q else E := by
  have hw : Region.wanted o (yielded ops a.tmps) = true := by simp [Region.wanted, hg]
  rw [if_pos hw]
  obtain ⟨i0, hz, hz0, hz1, hz2⟩ := info_parts zeroAe
  obtain ⟨b, off, sp⟩ := ad
  obtain rfl : sp = none := had
  refine wp_append_own_wide w s x Tens ho base Tae i0 (.agg #[.string ⟨#[]⟩, .int .u64 0]) 2 24 Try.underlying23 hz hz0 hz1 hz2 rfl (by decide) v acc.length (flatE acc) hs hown ⟨b, off, none⟩ m c (flatE l) hx (by rw [flatE_len, hT.1]) hT.news (flatE_one l) (by unfold maxLen; omega) (by omega) hbase ?_
  intro v' w' own grow _
  refine h v' w' ?_ grow
  unfold OwE
  rw [flatE_append, List.length_append, hT.1]
  exact own
end Go.Proofs.Ytbejkcdaefkibaa.Wd
