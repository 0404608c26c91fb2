/- A rule of choices (tollerlaw11.Rule): it is right; no conditions but those that each names. -/
import Derived.Test.YtpkpmbigljkneaaDoorRulAsk
import Derived.Test.YtpkpmbigljkneaaDoorRulY
namespace Go.Proofs.YtpkpmbigljkneaaDoor.Wd
open Go Go.RowKit
set_option linter.unusedVariables false

/-- What a rule of choices is: right, and small. -/
structure Own (s : ByteArray) (E B : Nat) (k : Int) : Prop where
  sz : s.size ≤ 12
  pf : pfB s = true
  e1 : 1 ≤ E
  e2 : E ≤ 4294967296
  b1 : 1 ≤ B
  b2 : B ≤ 65536
  k1 : 1 ≤ k
  k2 : k ≤ 3
theorem Own.fit {s : ByteArray} {E B : Nat} {k : Int} (h : Own s E B k) : sat ((E : Int) * (B : Int)) ≤ 4611686018427387904 ∧ sat ((E : Int) * (B : Int)) = (E : Int) * (B : Int) := by
  have h1 : E * B ≤ 4294967296 * 65536 := Nat.mul_le_mul h.e2 h.b2
  have h2 : ((E * B : Nat) : Int) = (E : Int) * (B : Int) := by simp
  have h3 : (E : Int) * (B : Int) ≤ 281474976710656 := by omega
  unfold sat
  rw [if_pos (by omega)]
  exact ⟨by omega, rfl⟩
theorem Own.right {s : ByteArray} {E B : Nat} {k : Int} (h : Own s E B k) : ruE s E B k = 0 := by
  have h1 := h.fit.1
  have := h.e1; have := h.b1; have := h.k1; have := h.k2
  rw [ru_is, h.pf, if_neg (by decide), if_neg (by omega), if_neg (by omega), if_neg (by omega), show isK k = true from decide_eq_true ⟨h.k1, h.k2⟩, if_neg (by decide)]
theorem short_pf {s : ByteArray} (h : Short s) : pfB s = true ∧ rtB (lb s) = true := by
  obtain ⟨⟨h1, h2⟩, h3⟩ := h
  have : rtB (lb s) = true := by unfold rtB; rw [list_size, decide_eq_true (by omega), h3]; rfl
  exact ⟨by unfold pfB; rw [this]; simp, this⟩

theorem own_mk (s : ByteArray) (hs : s.size = 0 ∨ Short s) (every burst kind : Int) (he : 0 ≤ every ∧ every ≤ 4294967295) (hb : 0 ≤ burst ∧ burst ≤ 65535) (hk : 0 ≤ kind ∧ kind ≤ 255) :
    ∃ E B : Nat, 1 + every = (E : Int) ∧ 1 + burst = (B : Int) ∧ Own s E B (1 + kind % 3) := by
  refine ⟨(1 + every).toNat, (1 + burst).toNat, by omega, by omega, ?_, ?_, by omega, by omega, by omega, by omega, by omega, by omega⟩
  · rcases hs with h | h
    · omega
    · exact h.1.2
  · rcases hs with h | h
    · unfold pfB; rw [decide_eq_true h]; rfl
    · exact (short_pf h).1

set_option maxRecDepth 100000 in
theorem rule_core (A : Option Addr) (n cap : Nat) (every burst kind : Int) (w : World) (h : Byts w A n) (hn : n ≤ 9223372036854775807)
    (he : 0 ≤ every ∧ every ≤ 4294967295) (hb : 0 ≤ burst ∧ burst ≤ 65535) (hk : 0 ≤ kind ∧ kind ≤ 255) :
    Calls Tryd.prog 10 #[.slice A n cap, .int .u32 every, .int .u16 burst, .int .u8 kind] w fun r w' => (∃ s, r = .returned (rul s (1 + every) (1 + burst) (1 + kind % 3)) ∧ Hid (s.size = 0 ∨ Short s)) ∧ Below w.heap.size w w' := by
  have e1 : IntKind.u64.wrap every = every := IntWalk.u64_in _ (by omega)
  have e2 : IntKind.u64.wrap burst = burst := IntWalk.u64_in _ (by omega)
  have e3 : IntKind.u64.wrap (1 + every) = 1 + every := IntWalk.u64_in _ (by omega)
  have e4 : IntKind.u64.wrap (1 + burst) = 1 + burst := IntWalk.u64_in _ (by omega)
  have e5 : kind.tmod 3 = kind % 3 := Int.tmod_eq_emod_of_nonneg hk.1
  have e6 : IntKind.u8.wrap (kind % 3) = kind % 3 := IntWalk.u8_in _ (by omega)
  have e7 : IntKind.u8.wrap (1 + kind % 3) = 1 + kind % 3 := IntWalk.u8_in _ (by omega)
  have KA := Lib.hid (fun W hB => key_any A n cap W hB hn)
  have H := Lib.hid h
  clear hk he hb hn
  by_cases c0 : n = 0
  · subst c0
    clear h
    go_enter Tryd.func10, Tryd.ntmps10
    go_wp2
    exact bodyPost_ret (v := rul ⟨#[]⟩ (1 + every) (1 + burst) (1 + kind % 3)) (by simp [results, Tryd.results10, go_sem]) rfl ⟨⟨⟨#[]⟩, rfl, Lib.hid (.inl rfl)⟩, (((Below.refl _ w).alloc (Nat.le_refl _) _).alloc (by simp) _)⟩
  · obtain ⟨b, off, v, rfl, hc, hv⟩ := h 0 (by omega)
    rw [Nat.add_zero] at hc
    have hbl := lt_of_cell hc
    have hbn := Nat.ne_of_lt hbl
    have hbn2 : b ≠ w.heap.size + 1 := by omega
    have hn0 : (0 : Int) < (n : Int) := by omega
    have e8 : v.tmod 4 = v % 4 := Int.tmod_eq_emod_of_nonneg hv.1
    have e9 : IntKind.u8.wrap (v % 4) = v % 4 := IntWalk.u8_in _ (by omega)
    have hgr : decide ((0 : Int) < (n : Int)) = true := decide_eq_true hn0
    clear h c0
    by_cases c1 : 0 < v % 4
    · have hB0 : Below w.heap.size w ((w.alloc (.cells #[.string ⟨#[]⟩, .int .u64 0, .int .u64 0, .int .u8 0] 24)).alloc (.cells #[.string ⟨#[]⟩, .int .u64 (1 + every), .int .u64 (1 + burst), .int .u8 (1 + kind % 3)] 24)) := ((Below.refl _ w).alloc (Nat.le_refl _) _).alloc (by simp) _
      have ez : Bx ((w.alloc (.cells #[.string ⟨#[]⟩, .int .u64 0, .int .u64 0, .int .u8 0] 24)).alloc (.cells #[.string ⟨#[]⟩, .int .u64 (1 + every), .int .u64 (1 + burst), .int .u8 (1 + kind % 3)] 24)) w.heap.size ⟨#[]⟩ 0 0 0 := ⟨_, heap_old _ _ _⟩
      have er : Bx ((w.alloc (.cells #[.string ⟨#[]⟩, .int .u64 0, .int .u64 0, .int .u8 0] 24)).alloc (.cells #[.string ⟨#[]⟩, .int .u64 (1 + every), .int .u64 (1 + burst), .int .u8 (1 + kind % 3)] 24)) (w.heap.size + 1) ⟨#[]⟩ (1 + every) (1 + burst) (1 + kind % 3) := ⟨_, by rw [← hp_size w (.cells #[.string ⟨#[]⟩, .int .u64 0, .int .u64 0, .int .u8 0] 24)]; exact (MapKept.heap_alloc _ _).1⟩
      have HB0 := Lib.hid hB0
      have EZ := Lib.hid ez
      have ER := Lib.hid er
      clear hB0 ez er
      go_enter Tryd.func10, Tryd.ntmps10
      go_wp2_with (go_at_call 25; refine (KA.out _ (H.out.below HB0.out)).mono ?_; rintro r w1 ⟨s, rfl, hs, hs2, g⟩; have z1 := EZ.out.below g; have r1 := ER.out.below g; have B1 := Lib.hid (kbq HB0.out g); clear HB0 EZ ER; obtain ⟨a0, a1, a2, a3⟩ := z1.cells; obtain ⟨r0, r2, r3, r4⟩ := r1.cells; have y0 := z1.soft 0; have y1 := z1.soft 1; have y2 := z1.soft 2; have y3 := z1.soft 3; have x0 := r1.soft 0)
      have q1 := r1.put0 s
      obtain ⟨f0, f1, f2, f3⟩ := (((((z1.other ⟨w.heap.size + 1, 0, none⟩ (.string s) (by simp)).put0 s).put1 (1 + every)).put2 (1 + burst)).put3 (1 + kind % 3)).cells
      exact bodyPost_ret (v := rul s (1 + every) (1 + burst) (1 + kind % 3)) (by simp [results, Tryd.results10, go_sem, f0, f1, f2, f3]) rfl ⟨⟨s, rfl, Lib.hid (.inr hs.out)⟩, ((((B1.out.setCell (by simp) _).setCell (Nat.le_refl _) _).setCell (Nat.le_refl _) _).setCell (Nat.le_refl _) _).setCell (Nat.le_refl _) _⟩
    · have c2 : v % 4 = 0 := by omega
      go_enter Tryd.func10, Tryd.ntmps10
      go_wp2
      exact bodyPost_ret (v := rul ⟨#[]⟩ (1 + every) (1 + burst) (1 + kind % 3)) (by simp [results, Tryd.results10, go_sem]) rfl ⟨⟨⟨#[]⟩, rfl, Lib.hid (.inl rfl)⟩, (((Below.refl _ w).alloc (Nat.le_refl _) _).alloc (by simp) _)⟩
end Go.Proofs.YtpkpmbigljkneaaDoor.Wd
