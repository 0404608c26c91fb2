/- PackShort answers true, for any numbers, choices and bytes; no conditions. -/
import Derived.Test.YtbejkcdaefkibaaPacX
namespace Go.Proofs.Ytbejkcdaefkibaa.Wd
open Go Go.RowKit Go.Shelf Go.Deep Go.Lib
set_option linter.unusedVariables false
set_option maxRecDepth 100000

/-- What Snap and then Encode tell. -/
theorem enc_snap (c : Nat) (A : Option Addr) (n cap : Nat) (F : Option Addr) (m fcap : Nat) (w : World) (hc : c < 18446744073709551616) (h : Rws w A n) (hn : n ≤ 9223372036854775807) (hF : U16s w F m) (hm : m ≤ 9223372036854775807) :
    Calls Try.prog 6 #[.int .u64 (c : Int), .slice A n cap, .slice F m fcap] w fun e w' => ∃ B d xs, e = .returned (snV c B xs.length d) ∧ Ens w' B xs.length xs ∧ Hid (Okx 10 xs ∧ wgt xs ≤ 210 ∧ (∀ x ∈ xs, x.2 < 18446744073709551616)) ∧ Below w.heap.size w w' ∧ xs.length ≤ d ∧ d ≤ 9223372036854775807 ∧ (B = none → d = 0) ∧ (∀ ad, B = some ad → ad.spot = none) :=
  (snap_any c A n cap F m fcap w hc h hn hF hm).mono (by
    rintro e w' ⟨B, k, d, xs, rfl, o1, O, g1⟩
    obtain ⟨_, _, e, hk1, hk2, hE, hB0, hBs⟩ := o1.form2
    simp only [Value.slice.injEq] at e
    obtain ⟨rfl, rfl, rfl⟩ := e
    exact ⟨B, d, xs, rfl, hE, Lib.hid ⟨O.out, O.out.wgt (Nat.le_refl _), fun x hx => (O.out.sz x hx).2⟩, g1, hk1, hk2, hB0, hBs⟩)
theorem enc_of (c : Nat) (B : Option Addr) (d : Nat) (xs : List En) (w : World) (hc : c < 18446744073709551616) (hE : Ens w B xs.length xs) (O : Okx 10 xs ∧ wgt xs ≤ 210 ∧ (∀ x ∈ xs, x.2 < 18446744073709551616)) :
    Calls Try.prog 11 #[snV c B xs.length d] w fun e w' => ∃ A2 c2, e = .returned (.tuple #[.slice A2 (16 + wgt xs) c2, .int .u16 0]) ∧ 16 + wgt xs ≤ c2 ∧ c2 ≤ 9223372036854775807 ∧ Txt w' A2 (16 + wgt xs) (enB c xs) ∧ (A2 = none → c2 = 0) ∧ (∀ ad, A2 = some ad → ad.spot = none) ∧ Below w.heap.size w w' := by
  have h := encode_any c B xs.length d xs w hc hE (by omega) O.2.2
  rw [O.1.rg, O.1.enO c] at h
  refine h.mono ?_
  rintro e w' ⟨v, rfl, o, g⟩
  obtain ⟨A2, c2, rfl, ⟨h1, h2⟩, hT, h3, h4⟩ := o.form2
  rw [enB_len] at h1 hT ⊢
  exact ⟨A2, c2, rfl, h1, h2, hT, h3, (fun ad e => (h4 ad e).1), g⟩
theorem dc_more1 (c : Nat) (xs : List En) (r : List UInt8) (hc : c < 18446744073709551616) (O : Okx 10 xs ∧ wgt xs ≤ 210 ∧ (∀ x ∈ xs, x.2 < 18446744073709551616)) : dcA (enB c xs ++ r) = if r = [] then (0, c, xs) else (43, 0, []) :=
  dc_more c xs r hc (by have := O.1.len; omega) O.1.up O.2.2
theorem dc_front1 (c : Nat) (xs : List En) (m : Nat) (hc : c < 18446744073709551616) (O : Okx 10 xs ∧ wgt xs ≤ 210 ∧ (∀ x ∈ xs, x.2 < 18446744073709551616)) (hm : m < 16 + wgt xs) : dcA ((enB c xs).take m) = (if m < 4 then 40 else 41, 0, []) :=
  dc_front c xs m hc (by have := O.1.len; omega) O.1.up O.2.2 (by rw [enB_len]; exact hm)
end Go.Proofs.Ytbejkcdaefkibaa.Wd
