/- What tollerlaw11.known, Rule, asks and parses answer; no conditions but those that each names. -/
import Derived.Test.YtpkpmbigljkneaaDoorRulW
namespace Go.Proofs.YtpkpmbigljkneaaDoor.Wd
open Go Go.RowKit
set_option linter.unusedVariables false

set_option maxRecDepth 100000 in
set_option maxHeartbeats 2000000 in
theorem asks_any (p : ByteArray) (e b : Nat) (k : Int) (w : World) (hN : Nam w) (hs : p.size ≤ 281474976710656) (he : e < 18446744073709551616) (hb : b < 18446744073709551616) (hk : 0 ≤ k ∧ k ≤ 255) :
    Calls Tryd.prog 15 #[rul p e b k] w fun r w' => r = .returned (.bool true) ∧ Below w.heap.size w w' := by
  have C1 := Lib.hid (fun W => right_any p e b k W (by omega) (UN e he) (UN b hb))
  have C2 := Lib.hid (fun W => refRight_any p e b k W (by omega) (UN e he) (UN b hb) hk)
  have C3 := Lib.hid (fun W => cap_any p e b k W (by omega) (UN e he) (UN b hb))
  have C4 := Lib.hid (fun W => refCap_any p e b k W (by omega) (UN e he) (UN b hb) hk)
  have C5 := Lib.hid (fun W hN => rprint_any p e b k W hN hs he hb hk)
  have C6 := Lib.hid (fun W => refprint_any p e b k W hs he hb hk)
  have hL := Lib.hid (pr_ok p e b k hs he hb)
  have hR : 0 ≤ ruE p e b k ∧ ruE p e b k ≤ 27 := wr_U _ _ _ _ _
  generalize ruE p e b k = R at *
  generalize caI p e b k = K at *
  have hw : IntKind.i64.wrap R = R := IntWalk.i64_in _ (by omega)
  clear hs he hb hk hR
  go_enter Tryd.func15, Tryd.ntmps15
  go_wp2
  have kW : Below w.heap.size w (w.alloc (.cells #[.string p, .int .u64 e, .int .u64 b, .int .u8 k] 24)) := (Below.refl _ w).alloc (Nat.le_refl _) _
  have b0 : (w.alloc (.cells #[.string p, .int .u64 e, .int .u64 b, .int .u8 k] 24)).cell? ⟨w.heap.size, 0, none⟩ = some (.string p) := by simp
  have b1 : (w.alloc (.cells #[.string p, .int .u64 e, .int .u64 b, .int .u8 k] 24)).cell? ⟨w.heap.size, 1, none⟩ = some (.int .u64 e) := by simp
  have b2 : (w.alloc (.cells #[.string p, .int .u64 e, .int .u64 b, .int .u8 k] 24)).cell? ⟨w.heap.size, 2, none⟩ = some (.int .u64 b) := by simp
  have b3 : (w.alloc (.cells #[.string p, .int .u64 e, .int .u64 b, .int .u8 k] 24)).cell? ⟨w.heap.size, 3, none⟩ = some (.int .u8 k) := by simp
  generalize hW : World.alloc _ _ = W at *
  clear hW
  go_region_held3 (fun w' => Below w.heap.size w w' ∧ w'.cell? ⟨w.heap.size, 0, none⟩ = some (.string p) ∧ w'.cell? ⟨w.heap.size, 1, none⟩ = some (.int .u64 e) ∧ w'.cell? ⟨w.heap.size, 2, none⟩ = some (.int .u64 b) ∧ w'.cell? ⟨w.heap.size, 3, none⟩ = some (.int .u8 k))
    (first | with_reducible exact ⟨kW, b0, b1, b2, b3⟩ | with_reducible exact ⟨kW.drew, dcell b0, dcell b1, dcell b2, dcell b3⟩)
    (first
    | (go_at_call 21; ((with_reducible refine (C1.out _).mono ?_); rintro r w2 ⟨rfl, g⟩; replace g := g.2; (first | with_reducible (replace kW := kbq kW g; replace b0 := celln g b0; replace b1 := celln g b1; replace b2 := celln g b2; replace b3 := celln g b3) | with_reducible (replace kW := kbq kW.drew g; replace b0 := celln g (dcell b0); replace b1 := celln g (dcell b1); replace b2 := celln g (dcell b2); replace b3 := celln g (dcell b3))); clear g))
    | (go_at_call 26; ((with_reducible refine (C2.out _).mono ?_); rintro r w2 ⟨rfl, g⟩; replace g := g.2; (first | with_reducible (replace kW := kbq kW g; replace b0 := celln g b0; replace b1 := celln g b1; replace b2 := celln g b2; replace b3 := celln g b3) | with_reducible (replace kW := kbq kW.drew g; replace b0 := celln g (dcell b0); replace b1 := celln g (dcell b1); replace b2 := celln g (dcell b2); replace b3 := celln g (dcell b3))); clear g))
    | (go_at_call 24; ((with_reducible refine (C3.out _).mono ?_); rintro r w2 ⟨rfl, g⟩; replace g := g.2; (first | with_reducible (replace kW := kbq kW g; replace b0 := celln g b0; replace b1 := celln g b1; replace b2 := celln g b2; replace b3 := celln g b3) | with_reducible (replace kW := kbq kW.drew g; replace b0 := celln g (dcell b0); replace b1 := celln g (dcell b1); replace b2 := celln g (dcell b2); replace b3 := celln g (dcell b3))); clear g))
    | (go_at_call 27; ((with_reducible refine (C4.out _).mono ?_); rintro r w2 ⟨rfl, g⟩; replace g := g.2; (first | with_reducible (replace kW := kbq kW g; replace b0 := celln g b0; replace b1 := celln g b1; replace b2 := celln g b2; replace b3 := celln g b3) | with_reducible (replace kW := kbq kW.drew g; replace b0 := celln g (dcell b0); replace b1 := celln g (dcell b1); replace b2 := celln g (dcell b2); replace b3 := celln g (dcell b3))); clear g))
    | (go_at_call 20; ((with_reducible refine (C5.out _ (hN.below (by first | exact kW | exact kW.drew))).mono ?_); rintro r w2 ⟨⟨A1, n1, rfl, hn1, hS1⟩, g⟩; (first | with_reducible (replace kW := kbq kW g; replace b0 := celln g b0; replace b1 := celln g b1; replace b2 := celln g b2; replace b3 := celln g b3) | with_reducible (replace kW := kbq kW.drew g; replace b0 := celln g (dcell b0); replace b1 := celln g (dcell b1); replace b2 := celln g (dcell b2); replace b3 := celln g (dcell b3))); clear g))
    | (go_at_call 11; ((with_reducible refine (C6.out _).mono ?_); rintro r w2 ⟨⟨v, rfl, HO⟩, g⟩; obtain ⟨A2, c2, rfl, hc2, hc3, hS2⟩ := HO.sts (small_words hL.out); replace hS1 := hS1.below g; (first | with_reducible (replace kW := kbq kW g; replace b0 := celln g b0; replace b1 := celln g b1; replace b2 := celln g b2; replace b3 := celln g b3) | with_reducible (replace kW := kbq kW.drew g; replace b0 := celln g (dcell b0); replace b1 := celln g (dcell b1); replace b2 := celln g (dcell b2); replace b3 := celln g (dcell b3))); clear g))
    | (go_at_call 22; (refine (strings_any _ _ _ _ _ _ _ _ _ hS1 hS2 (by omega) (by omega)).mono ?_); rintro r w2 ⟨rfl, g⟩; rw [decide_eq_true rfl]; replace g := g.kept.2; (first | with_reducible (replace kW := kbq kW g; replace b0 := celln g b0; replace b1 := celln g b1; replace b2 := celln g b2; replace b3 := celln g b3) | with_reducible (replace kW := kbq kW.drew g; replace b0 := celln g (dcell b0); replace b1 := celln g (dcell b1); replace b2 := celln g (dcell b2); replace b3 := celln g (dcell b3))); clear g))
  all_goals
    rename_i hH
    go_wp2
    go_ret
    exact ⟨rfl, hH.1⟩

theorem ans_U (xs : List ByteArray) : 0 ≤ (ansA xs).err ∧ (ansA xs).err ≤ 27 := by
  have h1 : ∀ x, 0 ≤ eEv x ∧ eEv x ≤ 27 := fun x => by unfold eEv paE; (repeat' split) <;> omega
  have h2 : ∀ x y, 0 ≤ eBu x y ∧ eBu x y ≤ 27 := fun x y => by unfold eBu paE; (repeat' split) <;> omega
  have h3 : ∀ x, 0 ≤ eKi x ∧ eKi x ≤ 27 := fun x => by unfold eKi; (repeat' split) <;> omega
  have hn : ∀ p o x y z, 0 ≤ (numA p o x y z).err ∧ (numA p o x y z).err ≤ 27 := fun p o x y z => by
    unfold numA; (repeat' split)
    · exact h1 _
    · exact h2 _ _
    · exact h3 _
    · exact ⟨Int.le_refl _, by show (0 : Int) ≤ 27; decide⟩
  unfold ansA
  split
  · exact hn _ _ _ _ _
  · split
    · split
      · exact ⟨by decide, by decide⟩
      · exact hn _ _ _ _ _
    · exact ⟨by decide, by decide⟩

set_option maxRecDepth 100000 in
theorem parses_any (A : Option Addr) (n cap : Nat) (xs : List ByteArray) (w : World) (h : Sts w A n xs) (hf : Lim xs) (hN : Nam w) :
    Calls Tryd.prog 16 #[.slice A n cap] w fun r w' => r = .returned (.bool true) ∧ Below w.heap.size w w' := by
  have C1 := Lib.hid (rparse_any A n cap xs w h hf hN)
  have C2 := Lib.hid (fun W hS => refparse_any A n cap xs W hS hf)
  have hU := ans_U xs
  unfold Ans.rule at *
  generalize (ansA xs).p = p at *
  generalize (ansA xs).e = e at *
  generalize (ansA xs).b = b at *
  generalize (ansA xs).k = k at *
  generalize (ansA xs).err = R at *
  generalize (ansA xs).at_ = T at *
  have hw : IntKind.i64.wrap R = R := IntWalk.i64_in _ (by omega)
  have H := Lib.hid h
  clear h hf hN hU
  go_enter Tryd.func16, Tryd.ntmps16
  go_wp2_with (first
    | (go_at_call 19; refine C1.out.mono ?_; rintro r w1 ⟨rfl, g1⟩)
    | (go_at_call 28; refine (C2.out _ (H.out.below (g1.alloc g1.size _))).mono ?_; rintro r w2 ⟨rfl, g2⟩; have hz : w1.heap.size < w2.heap.size := (by have := g2.2.size; simp at this; omega); have hz1 := Nat.ne_of_lt hz; have f0 : w2.cell? ⟨w1.heap.size, 0, none⟩ = some (.string p) := g2.cell (by simp); have f1 : w2.cell? ⟨w1.heap.size, 1, none⟩ = some (.int .u64 e) := g2.cell (by simp); have f2 : w2.cell? ⟨w1.heap.size, 2, none⟩ = some (.int .u64 b) := g2.cell (by simp); have f3 : w2.cell? ⟨w1.heap.size, 3, none⟩ = some (.int .u8 k) := g2.cell (by simp)))
  go_ret
  exact ⟨rfl, (kbq (g1.alloc g1.size _) g2.2).alloc (kbq (g1.alloc g1.size _) g2.2).size _⟩

/-! ### The example, and a rule of choices -/
theorem ans_rule (xs : List ByteArray) (p x y z : ByteArray) (h : xs = [rulS, p, x, y, z]) : ansA xs = if ePr p ≠ 0 then zeroA 23 1 else numA p 2 x y z := by
  subst h
  unfold ansA
  rw [if_neg (by simp), if_pos ⟨rfl, by show rulS.toList = rulL; rw [ByteArray.toList_eq]⟩]
  rfl
theorem ans_def (xs : List ByteArray) (x y z : ByteArray) (h : xs = [defS, x, y, z]) : ansA xs = numA ⟨#[]⟩ 1 x y z := by
  subst h
  unfold ansA
  rw [if_pos ⟨rfl, by show defS.toList = defL; rw [ByteArray.toList_eq]⟩]
  rfl
theorem known1 : ansA [rulS, ⟨#[97, 112, 105, 47]⟩, ⟨#[53, 48, 48]⟩, ⟨#[48]⟩, leakyS] = zeroA 25 3 := by
  rw [ans_rule _ _ _ _ _ rfl, if_neg (by decide), numA_2 _ _ _ _ _ (by decide) (by decide)]
  rfl
theorem known2 : ansA [defS, ⟨#[49, 48]⟩, ⟨#[53]⟩, gcraS] = ⟨⟨#[]⟩, 10, 5, 1, 0, 0⟩ := by
  rw [ans_def _ _ _ _ rfl, numA_4 _ _ _ _ _ (by decide) (by decide) (by decide)]
  rfl
theorem known3 : caI ⟨#[]⟩ 10 5 1 = 50 := by decide

set_option maxRecDepth 100000 in
set_option maxHeartbeats 400000 in
theorem known_any (w : World) (hN : Nam w) : Calls Tryd.prog 9 #[] w fun r w' => r = .returned (.bool true) ∧ Below w.heap.size w w' := by
  have C1 : ∀ W, Below w.heap.size w W → Calls Tryd.prog 19 #[.slice (some ⟨W.heap.size, 0, none⟩) 5 5] (W.alloc (.cells #[.string ⟨#[114, 117, 108, 101]⟩, .string ⟨#[97, 112, 105, 47]⟩, .string ⟨#[53, 48, 48]⟩, .string ⟨#[48]⟩, .string ⟨#[108, 101, 97, 107, 121]⟩] 9)) fun r w' => r = .returned (.tuple #[rul ⟨#[]⟩ 0 0 0, .int .u16 25, .int .i64 3]) ∧ Below (W.heap.size + 1) (W.alloc (.cells #[.string ⟨#[114, 117, 108, 101]⟩, .string ⟨#[97, 112, 105, 47]⟩, .string ⟨#[53, 48, 48]⟩, .string ⟨#[48]⟩, .string ⟨#[108, 101, 97, 107, 121]⟩] 9)) w' := fun W hW => by
    have h := rparse_any (some ⟨W.heap.size, 0, none⟩) 5 5 [⟨#[114, 117, 108, 101]⟩, ⟨#[97, 112, 105, 47]⟩, ⟨#[53, 48, 48]⟩, ⟨#[48]⟩, ⟨#[108, 101, 97, 107, 121]⟩] (W.alloc (.cells (tvs [⟨#[114, 117, 108, 101]⟩, ⟨#[97, 112, 105, 47]⟩, ⟨#[53, 48, 48]⟩, ⟨#[48]⟩, ⟨#[108, 101, 97, 107, 121]⟩]).toArray 9)) (sts_alloc W _ _ (by decide)) (by unfold Lim; decide) (hN.below (hW.alloc hW.size _))
    rw [known1, hp_size] at h
    exact h
  have C2 : ∀ W, Below w.heap.size w W → Calls Tryd.prog 19 #[.slice (some ⟨W.heap.size, 0, none⟩) 4 4] (W.alloc (.cells #[.string ⟨#[100, 101, 102, 97, 117, 108, 116]⟩, .string ⟨#[49, 48]⟩, .string ⟨#[53]⟩, .string ⟨#[103, 99, 114, 97]⟩] 9)) fun r w' => r = .returned (.tuple #[rul ⟨#[]⟩ 10 5 1, .int .u16 0, .int .i64 0]) ∧ Below (W.heap.size + 1) (W.alloc (.cells #[.string ⟨#[100, 101, 102, 97, 117, 108, 116]⟩, .string ⟨#[49, 48]⟩, .string ⟨#[53]⟩, .string ⟨#[103, 99, 114, 97]⟩] 9)) w' := fun W hW => by
    have h := rparse_any (some ⟨W.heap.size, 0, none⟩) 4 4 [⟨#[100, 101, 102, 97, 117, 108, 116]⟩, ⟨#[49, 48]⟩, ⟨#[53]⟩, ⟨#[103, 99, 114, 97]⟩] (W.alloc (.cells (tvs [⟨#[100, 101, 102, 97, 117, 108, 116]⟩, ⟨#[49, 48]⟩, ⟨#[53]⟩, ⟨#[103, 99, 114, 97]⟩]).toArray 9)) (sts_alloc W _ _ (by decide)) (by unfold Lim; decide) (hN.below (hW.alloc hW.size _))
    rw [known2, hp_size] at h
    exact h
  have C3 : ∀ W, Calls Tryd.prog 24 #[rul ⟨#[]⟩ 10 5 1] W fun r w' => r = .returned (.int .u64 50) ∧ Below W.heap.size W w' := fun W => by
    have h := cap_any ⟨#[]⟩ 10 5 1 W (by decide) ⟨by omega, by omega⟩ ⟨by omega, by omega⟩
    rw [known3] at h
    exact h.mono fun _ _ g => ⟨g.1, g.2.2⟩
  have C4 : ∀ W, Below w.heap.size w W → Calls Tryd.prog 17 #[.int .u8 2] W fun r w' => r = .returned (.string bucketS) ∧ W = w' := fun W hW => name_any 2 W (hN.below hW) (by omega)
  go_enter Tryd.func9, Tryd.ntmps9
  go_wp2_with fail
  refine (C1 _ (Below.refl _ _)).mono ?_
  rintro r w1 ⟨rfl, g1⟩
  have k1 : Below w.heap.size w w1 := ((Below.refl _ w).alloc (Nat.le_refl _) _).trans (g1.mono (by omega))
  have hz := k1.size
  have j1 := k1.alloc hz (.cells #[.string ⟨#[]⟩, .int .u64 0, .int .u64 0, .int .u8 0] 24)
  go_wp2_with fail
  have h2 := C2 _ j1
  rw [hp_size] at h2
  refine h2.mono ?_
  rintro r w2 ⟨rfl, g2⟩
  have k2 : Below w.heap.size w w2 := (j1.alloc j1.size _).trans (g2.mono (by omega))
  have j2 := k2.alloc k2.size (.cells #[.string ⟨#[]⟩, .int .u64 10, .int .u64 5, .int .u8 1] 24)
  clear g1 g2 k1 hz j1 C1 C2 h2 k2
  go_wp2_with (first
    | (go_at_call 24; ((with_reducible refine (C3 _).mono ?_); rintro r w3 ⟨rfl, g3⟩; have j3 := kbq j2 g3))
    | (go_at_call 17; ((with_reducible refine (C4 _ j3).mono ?_); rintro r w4 ⟨rfl, rfl⟩)))
  go_ret
  exact ⟨rfl, j3⟩
end Go.Proofs.YtpkpmbigljkneaaDoor.Wd
