/- What digit.plain answers, for any text; no conditions. -/
import Derived.Test.YtpkpmbigljkneaaDoorRulB
import Derived.Test.YtpkpmbigljkneaaDoorKeyM
namespace Go.Proofs.YtpkpmbigljkneaaDoor.Wd
open Go.RowKit Go.Lib

theorem list_head (s : ByteArray) (h : 0 < s.size) : s.data.toList.head? = some s[0] := by
  rw [List.head?_eq_getElem?, List.getElem?_eq_getElem (by rw [list_size]; exact h), list_at s 0 h]

theorem plain_any (s : ByteArray) (w : World) (hs : s.size ≤ 9223372036854775807) :
    Calls Tryd.prog 62 #[.string s] w fun e w' => e = .returned (.bool (plainB s.data.toList)) ∧ w = w' := by
  have hz := list_size s
  by_cases h0 : s.size = 0
  · have hemp : s.toList.isEmpty = true := by rw [ByteArray.toList_eq, List.isEmpty_iff, ← List.length_eq_zero_iff, hz]; exact h0
    have e : plainB s.data.toList = false := by
      rw [List.length_eq_zero_iff.1 (show s.data.toList.length = 0 by rw [hz]; exact h0)]; rfl
    rw [e]
    clear e hz
    go_enter Tryd.func62, Tryd.ntmps62
    go_wp2
    go_step3
    go_wp2
    rw [Exit.noGoto_ret]
    go_ret
    exact ⟨rfl, rfl⟩
  · have hpos : 0 < s.size := by omega
    have hemp : s.toList.isEmpty = false := by
      rw [ByteArray.toList_eq, ← Bool.not_eq_true, List.isEmpty_iff, ← List.length_eq_zero_iff, hz]; exact h0
    have hhead := list_head s hpos
    by_cases h1 : 1 < s.size ∧ s[0] = 48
    · have e : plainB s.data.toList = false := by
        rw [← Bool.not_eq_true, plainB_iff]
        rintro ⟨_, g, _⟩
        exact g ⟨by rw [hz]; exact h1.1, by rw [hhead, h1.2]⟩
      rw [e]
      obtain ⟨h1, h2⟩ := h1
      have hb : (s[0].toNat : Int) = 48 := by rw [h2]; rfl
      clear e hz h2 hhead
      go_enter Tryd.func62, Tryd.ntmps62
      go_wp2
      go_step3
      go_wp2
      rw [Exit.noGoto_ret]
      go_ret
      exact ⟨rfl, rfl⟩
    · have hp : plainB s.data.toList = s.data.toList.all digB := by
        rw [Bool.eq_iff_iff, plainB_iff]
        constructor
        · exact fun g => g.2.2
        · refine fun g => ⟨?_, ?_, g⟩
          · intro g'; rw [g'] at hz; simp at hz; omega
          · rintro ⟨g1, g2⟩
            rw [hhead] at g2
            exact h1 ⟨by rw [hz] at g1; exact g1, by simpa using g2⟩
      rw [hp]
      have hyes : (∀ j (hj : j < s.size), digB s[j] = true) → s.data.toList.all digB = true := fun g => by
        rw [List.all_eq_true]
        intro b hb
        obtain ⟨i, hi, rfl⟩ := List.getElem_of_mem hb
        rw [list_at s i (by rw [← hz]; exact hi)]
        exact g i _
      have hno : ∀ j (hj : j < s.size), digB s[j] = false → s.data.toList.all digB = false := fun j hj g => by
        rw [← Bool.not_eq_true, List.all_eq_true]
        intro g'
        have := g' s[j] (by rw [← list_at s j hj (by rw [hz]; exact hj)]; exact List.getElem_mem _)
        rw [g] at this; exact absurd this (by decide)
      generalize s.data.toList.all digB = R at *
      have Y := Lib.hid hyes
      have N := Lib.hid hno
      have H1 := Lib.hid h1
      clear hyes hno hp hz h1 hhead
      go_enter Tryd.func62, Tryd.ntmps62
      go_wp2
      refine wp_scope_once 0 (fun a' w' => w = w' ∧ ∃ (k : Nat) (u0 u1 u2 u3 u4 u5 u6 u7 u8 u9 u10 u11 u12 u13 u14 u15 u16 u17 u18 u19 u20 u21 u22 u23 u24 u25 u26 u27 : Value), k < s.size ∧ (∀ j (hj : j < s.size), j < k → digB s[j] = true) ∧
        a' = { tmps := #[.string s, undef, .bool false, .int .i64 (k : Int), u0, u1, u2, u3, u4, u5, u6, u7, u8, u9, u10, u11, u12, u13, u14, u15, u16, u17, u18, u19, u20, u21, u22, u23, u24, u25, u26, u27], defers := [] })
        (fun a' _ => s.size - (intOf (a'.tmps.getD 3 undef)).toNat) rfl ?_ ?_
      · rintro a' w' ⟨rfl, k, u0, u1, u2, u3, u4, u5, u6, u7, u8, u9, u10, u11, u12, u13, u14, u15, u16, u17, u18, u19, u20, u21, u22, u23, u24, u25, u26, u27, hk, hd, rfl⟩
        have D := Lib.hid hd
        clear hd
        by_cases hb : digB s[k] = true
        · have hb' := (digB_iff _).1 hb
          have c1 : ¬ ((s[k].toNat : Int) < 48) := by omega
          have c2 : ¬ ((57 : Int) < (s[k].toNat : Int)) := by omega
          by_cases hl : k + 1 < s.size
          · go_wp2
            go_step3
            have e0 : (k : Int) + 1 = ((k + 1 : Nat) : Int) := by omega
            rw [e0]
            refine ⟨rfl, ⟨rfl, k + 1, _, _, _, _, _, _, _, _, _, _, _, _, _, _, _, _, _, _, _, _, _, _, _, _, _, _, _, _, hl, ?_, rfl⟩, ?_⟩
            · intro j hj hjk
              by_cases e : j = k
              · subst e; exact hb
              · exact D.out j hj (by omega)
            · simp [intOf]; omega
          · go_wp2
            simp only [Exit.jump]
            have e : R = true := Y.out (fun j hj => by
              by_cases e : j = k
              · subst e; exact hb
              · exact D.out j hj (by omega))
            subst e
            go_ret
            exact ⟨rfl, rfl⟩
        · have hf := N.out k hk (by simpa using hb)
          have hb' : ¬ (48 ≤ s[k].toNat ∧ s[k].toNat ≤ 57) := fun g => hb ((digB_iff _).2 g)
          subst hf
          clear N Y D hb
          by_cases c1 : (s[k].toNat : Int) < 48
          · clear hb'
            go_wp2
            simp only [Exit.jump]
            go_ret
            exact ⟨rfl, rfl⟩
          · have c2 : (57 : Int) < (s[k].toNat : Int) := by omega
            clear hb'
            go_wp2
            simp only [Exit.jump]
            go_ret
            exact ⟨rfl, rfl⟩
      · intro H
        have HH := Lib.hid H
        clear H Y N
        by_cases c : s[0] = 48
        · have hb : (s[0].toNat : Int) = 48 := by rw [c]; rfl
          have h1 : s.size = 1 := by
            by_cases h : s.size = 1
            · exact h
            · exact absurd ⟨by omega, c⟩ H1.out
          clear c H1
          go_wp2
          rename_i hK
          go_step3
          exact hK _ _ (HH.out _ _ ⟨rfl, 0, _, _, _, _, _, _, _, _, _, _, _, _, _, _, _, _, _, _, _, _, _, _, _, _, _, _, _, _, hpos, fun j _ hj => absurd hj (by omega), rfl⟩)
        · have hb : ¬ (s[0].toNat : Int) = 48 := fun e => c (UInt8.toNat_inj.1 (by show s[0].toNat = 48; omega))
          clear c H1
          go_wp2
          rename_i hK
          go_step3
          exact hK _ _ (HH.out _ _ ⟨rfl, 0, _, _, _, _, _, _, _, _, _, _, _, _, _, _, _, _, _, _, _, _, _, _, _, _, _, _, _, _, hpos, fun j _ hj => absurd hj (by omega), rfl⟩)
end Go.Proofs.YtpkpmbigljkneaaDoor.Wd
