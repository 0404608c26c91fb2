/- The document's answers of chapter 3 (tollerref03.Parse, Print), for any text and number; no conditions. -/
import Derived.Test.YtpkpmbigljkneaaDoorRulR
import Derived.LoopTactic
namespace Go.Proofs.YtpkpmbigljkneaaDoor.Wd
open Go.RowKit Go.Lib

theorem refParse_any (s : ByteArray) (w : World) (hs : s.size ≤ 9223372036854775807) :
    Calls Tryd.prog 49 #[.string s] w fun e w' => e = .returned (.tuple #[.int .u64 (paN s.data.toList), .int .i64 (paE s.data.toList)]) ∧ w = w' := by
  have hz := list_size s
  by_cases h0 : s.size = 0
  · have e : plainB s.data.toList = false := by
      rw [List.length_eq_zero_iff.1 (show s.data.toList.length = 0 by rw [hz]; exact h0)]; rfl
    obtain ⟨e1, e2⟩ := pa_not e
    rw [e1, e2]
    clear e e1 e2 hz
    go_enter Tryd.func49, Tryd.ntmps49
    go_wp2
    go_ret2
    exact ⟨rfl, rfl⟩
  · have hpos : 0 < s.size := by omega
    have hhead := list_head s hpos
    by_cases h1 : 1 < s.size ∧ s[0] = 48
    · have e : plainB s.data.toList = false := by
        rw [← Bool.not_eq_true, plainB_iff]
        rintro ⟨_, g, _⟩
        exact g ⟨by rw [hz]; exact h1.1, by rw [hhead, h1.2]⟩
      obtain ⟨e1, e2⟩ := pa_not e
      rw [e1, e2]
      obtain ⟨h1, h2⟩ := h1
      have hb : (s[0].toNat : Int) = 48 := by rw [h2]; rfl
      clear e e1 e2 hz h2 hhead
      go_enter Tryd.func49, Tryd.ntmps49
      go_wp2
      go_ret2
      exact ⟨rfl, rfl⟩
    · have hp : plainB s.data.toList = s.data.toList.all digB := by
        rw [Bool.eq_iff_iff, plainB_iff]
        constructor
        · exact fun g => g.2.2
        · refine fun g => ⟨?_, ?_, g⟩
          · intro g'; rw [g'] at hz; simp at hz; omega
          · rintro ⟨g1, g2⟩
            rw [hhead] at g2
            exact h1 ⟨by rw [hz] at g1; exact g1, by simpa using g2⟩
      have hyes : (∀ j (hj : j < s.size), digB s[j] = true) → s.data.toList.all digB = true := fun g => by
        rw [List.all_eq_true]
        intro b hb
        obtain ⟨i, hi, rfl⟩ := List.getElem_of_mem hb
        rw [list_at s i (by rw [← hz]; exact hi)]
        exact g i _
      have hno : ∀ j (hj : j < s.size), digB s[j] = false → s.data.toList.all digB = false := fun j hj g => by
        rw [← Bool.not_eq_true, List.all_eq_true]
        intro g'
        have := g' s[j] (by rw [← list_at s j hj (by rw [hz]; exact hj)]; exact List.getElem_mem _)
        rw [g] at this; exact absurd this (by decide)
      rw [← hp] at hyes hno
      have Y := Lib.hid hyes
      have N := Lib.hid hno
      have HZ := Lib.hid hz
      have hfirst : ¬ ((1 : Int) < (s.size : Int)) ∨ ((1 : Int) < (s.size : Int) ∧ ((s[0].toNat : Int) == 48) = false) := by
        by_cases c : (1 : Int) < (s.size : Int)
        · refine Or.inr ⟨c, beq_eq_false_iff_ne.2 (fun e => h1 ⟨by omega, UInt8.toNat_inj.1 (by show s[0].toNat = 48; omega)⟩)⟩
        · exact Or.inl c
      clear hyes hno hp hz hhead h1
      generalize hl : s.data.toList = l at *
      have AT : Hid (∀ k (hk : k < s.size), val (l.take (k + 1)) = val (l.take k) * 10 + (s[k].toNat - 48)) := Lib.hid (fun k hk => by
        have hk' : k < l.length := by rw [HZ.out]; exact hk
        have e : s[k] = l[k] := by subst hl; exact (list_at s k hk hk').symm
        rw [val_take_succ l k hk', e])
      clear hl
      have hz0 : ((s.size : Int) == 0) = false := beq_eq_false_iff_ne.2 (by omega)
      rcases hfirst with c | ⟨c, c'⟩
      all_goals
        go_enter Tryd.func49, Tryd.ntmps49
        go_wp2
        go_loop [4] (fun i => ∃ k : Nat, i = .int .i64 k ∧ k ≤ s.size ∧ Hid (∀ j (hj : j < s.size), j < k → digB s[j] = true)) (fun i => s.size - (intOf i).toNat)
        case atStart => exact ⟨0, rfl, by omega, Lib.hid (fun j _ hj => absurd hj (by omega))⟩
        case round =>
          obtain ⟨k, rfl, hk, D⟩ := hrel
          by_cases hlt : k < s.size
          · by_cases hb : digB s[k] = true
            · have hb' := (digB_iff _).1 hb
              have c1 : ¬ ((s[k].toNat : Int) < 48) := by omega
              have c2 : ¬ ((57 : Int) < (s[k].toNat : Int)) := by omega
              go_wp2
              refine ⟨⟨k + 1, by go_num, by omega, Lib.hid (fun j hj hjk => ?_)⟩, by simp [intOf]; omega⟩
              by_cases e : j = k
              · subst e; exact hb
              · exact D.out j hj (by omega)
            · have hf := N.out k hlt (by simpa using hb)
              have hb' : ¬ (48 ≤ s[k].toNat ∧ s[k].toNat ≤ 57) := fun g => hb ((digB_iff _).2 g)
              obtain ⟨e1, e2⟩ := pa_not hf
              have E1 := Lib.hid e1
              have E2 := Lib.hid e2
              clear N Y D hb e1 e2 hf AT
              by_cases c1 : (s[k].toNat : Int) < 48
              · clear hb'
                go_wp2
                go_ret2
                exact ⟨by rw [E1.out, E2.out]; rfl, rfl⟩
              · have c2 : (57 : Int) < (s[k].toNat : Int) := by omega
                clear hb'
                go_wp2
                go_ret2
                exact ⟨by rw [E1.out, E2.out]; rfl, rfl⟩
          · obtain rfl : k = s.size := by omega
            have DD : Hid (∀ j (hj : j < s.size), digB s[j] = true) := Lib.hid (fun j hj => D.out j hj hj)
            have hp : plainB l = true := Y.out DD.out
            have HP := Lib.hid hp
            clear N Y D hp hk hlt
            go_wp2
            go_loop [5, 6] (fun n i => ∃ k m : Nat, i = .int .i64 k ∧ n = .int .u64 m ∧ k ≤ s.size ∧ Hid (m = val (l.take k)) ∧ m < 18446744073709551616) (fun _ i => s.size - (intOf i).toNat)
            case atStart => exact ⟨0, 0, rfl, rfl, by omega, Lib.hid rfl, by omega⟩
            case round =>
              obtain ⟨k, m, rfl, rfl, hk, M, hm⟩ := hrel
              by_cases hlt : k < s.size
              · have hdk := (digB_iff _).1 (DD.out k hlt)
                have hv := Lib.hid (AT.out k hlt)
                have hle := Lib.hid (val_take_le l (k + 1))
                obtain ⟨x, hx⟩ : ∃ x : Nat, s[k].toNat = x + 48 := ⟨s[k].toNat - 48, by omega⟩
                have hx9 : (x : Int) ≤ 9 := by omega
                have hv' := hv.out
                rw [hx, Nat.add_sub_cancel] at hv'
                have hxi : (s[k].toNat : Int) = (x : Int) + 48 := by omega
                have HV := Lib.hid hv'
                clear hv hv' hx hdk
                by_cases hbig : (18446744073709551615 - (x : Int)) / 10 < (m : Int)
                · have hge : 18446744073709551616 ≤ val l := by have := hle.out; have := HV.out; have := M.out; omega
                  obtain ⟨e1, e2⟩ := pa_big HP.out hge
                  have E1 := Lib.hid e1
                  have E2 := Lib.hid e2
                  clear e1 e2 hge
                  go_wp2
                  go_ret2
                  exact ⟨by rw [E1.out, E2.out]; rfl, rfl⟩
                · have hm' : 10 * m + x < 18446744073709551616 := by omega
                  go_wp2
                  have e0 : (10 : Int) * (m : Int) + (x : Int) = ((10 * m + x : Nat) : Int) := by omega
                  refine ⟨⟨k + 1, 10 * m + x, by go_num, by rw [e0], by omega, Lib.hid ?_, hm'⟩, by simp [intOf]; omega⟩
                  rw [HV.out, M.out, Nat.mul_comm]
              · obtain rfl : k = s.size := by omega
                have e : m = val l := by rw [M.out, ← HZ.out, List.take_length]
                obtain ⟨e1, e2⟩ := pa_yes HP.out (by rw [← e]; exact hm)
                rw [← e] at e1
                have E1 := Lib.hid e1
                have E2 := Lib.hid e2
                clear e1 e2 e
                go_wp2
                go_ret2
                exact ⟨by rw [E1.out, E2.out]; rfl, rfl⟩
end Go.Proofs.YtpkpmbigljkneaaDoor.Wd
