/- tollerlaw10.stand answers true, for any short row of bytes; no conditions but those that each names. -/
import Derived.Test.YtdjeehnjodbmaaaWrdV
namespace Go.Proofs.Ytdjeehnjodbmaaa.Wd
open Go Go.RowKit
set_option linter.unusedVariables false
set_option linter.unusedSimpArgs false

set_option maxRecDepth 100000 in
set_option maxHeartbeats 4000000 in
theorem stand_ok (A : Option Addr) (N cap : Nat) (bs : List UInt8) (w : World) (hT : Txt w A N bs) (hN : N ≤ 1000) (hcap : N ≤ cap) (hcm : cap ≤ 9223372036854775807) (hb : badB bs = false) :
    Calls Try.prog 17 #[.slice A N cap] w fun e w' => e = .returned (.bool true) ∧ Below w.heap.size w w' := by
  have S1 := split_any A N cap bs w hT hcap hcm
  obtain ⟨h1, h2⟩ := spl_good (by rw [hT.1]; omega) hb
  have hne := spl_ne bs
  have hbd := spl_bd bs
  have hct := spl_count bs
  unfold SplitPost at S1
  rw [h1, h2] at S1
  rw [h2] at hne hbd hct
  rw [show ((0 : Nat) : Int) = 0 from rfl] at S1
  generalize (spl bs).ln = L at *
  generalize (spl bs).cl = C at *
  obtain ⟨X, hX⟩ : ∃ X, rowsN bs 1 = X := ⟨_, rfl⟩
  rw [hX] at S1 hne hbd hct
  have K1 := Lib.hid S1
  have HT := Lib.hid hT
  have HB := Lib.hid hb
  have HX0 := Lib.hid hX
  have NE := Lib.hid hne
  have BD := Lib.hid hbd
  clear S1 hT h1 h2 hb hX hne hbd
  go_enter Try.func17, Try.ntmps17
  go_wp2_with ((go_at_call 14; ((with_reducible refine K1.out.mono ?_); rintro e w1 ⟨v1, rfl, r1, g1⟩; have e1 := (Below.refl _ w1).alloc (Nat.le_refl _) (.cells #[.int .i64 (L : Int), .int .i64 (C : Int)] 34); have r2 := r1.below e1; have HR := Lib.hid r2; obtain ⟨A1, c1, rfl⟩ := r1.slice; clear r1 r2)))
  have gW := kbq g1 e1
  have HT1 := Lib.hid (HT.out.below gW)
  clear g1 e1 K1
  generalize w1.alloc (.cells #[.int .i64 (L : Int), .int .i64 (C : Int)] 34) = W at *
  go_loopw [6, 7, 8, 9] (fun n f x i wr => ∃ nn fr nx k : Nat, (nn ≤ k + 1 ∧ fr ≤ k ∧ k ≤ N + 1 ∧ nx ≤ X.length) ∧ n = .int .i64 (nn : Int) ∧ f = .int .i64 (fr : Int) ∧ x = .int .i64 (nx : Int) ∧ i = .int .i64 (k : Int) ∧ Hid (X.drop nx = rowsN (bs.drop fr) nn) ∧ Hid (∀ j, fr ≤ j → j < k → bs.getD j 0 ≠ 10) ∧ (k = N + 1 → fr = N + 1) ∧ Below W.heap.size W wr) (fun _ _ _ i _ => N + 1 - (intOf i).toNat)
  case atStart => exact ⟨1, 0, 0, 0, by omega, rfl, rfl, rfl, rfl, Lib.hid (by rw [List.drop_zero, List.drop_zero]; exact HX0.out.symm), Lib.hid (fun j h1 h2 => by omega), fun h => by omega, Below.refl _ _⟩
  case round =>
    obtain ⟨nn, fr, nx, k, hb4, rfl, rfl, rfl, rfl, HD, H10, hlast, hB⟩ := hrel
    by_cases hkN : k ≤ N
    · by_cases hcont : k < N ∧ bs.getD k 0 ≠ 10
      · obtain ⟨b, off, rfl, hbb, hcell⟩ := (HT1.out.below hB).2 (by omega)
        have hx := hcell k hcont.1
        have hx10 := u8_ten hcont.2
        have HC := Lib.hid hcont.2
        have hklt := hcont.1
        clear hcell hcont
        generalize (bs.getD k 0).toNat = y at *
        go_wp2
        go_roundw
        case rel => exact ⟨nn, fr, nx, k + 1, by omega, rfl, rfl, rfl, by go_num, HD, Lib.hid (fun j h1 h2 => by by_cases e : j = k; subst e; exact HC.out; exact H10.out j h1 (by omega)), fun h => by omega, hB⟩
        case measure => simp [intOf]; omega
      · have hend : k = bs.length ∨ bs.getD k 0 = 10 := by
          rw [HT.out.1]
          by_cases h : k < N
          · right
            by_cases h' : bs.getD k 0 = 10
            · exact h'
            · exact absurd ⟨h, h'⟩ hcont
          · left; omega
        have hst := line_step HB.out hb4.2.1 (by rw [HT.out.1]; exact hkN) H10.out hend HD.out
        have hreg : (¬ k < N ∧ decide ((k : Int) < (N : Int)) = false) ∨ (k < N ∧ ∃ b off, A = some ⟨b, off, none⟩ ∧ Hid (∀ W', Below W.heap.size W W' → W'.cell? ⟨b, off + k, none⟩ = some (.int .u8 10))) := by
          by_cases h : k < N
          · refine .inr ⟨h, ?_⟩
            have h10 : bs.getD k 0 = 10 := hend.resolve_left (by rw [HT.out.1]; omega)
            obtain ⟨b, off, e, hbb, hcell⟩ := HT1.out.2 (by omega)
            have := hcell k h
            rw [h10] at this
            exact ⟨b, off, e, Lib.hid (fun W' hW' => (hW'.cell (p := ⟨b, off + k, none⟩) hbb).trans this)⟩
          · exact .inl ⟨h, decide_eq_false (by omega)⟩
        have hok := part_ok HB.out (by rw [HT.out.1]; exact hkN) H10.out
        have hgood := line_good (part bs fr k) nn hok
        have hpl := part_len hb4.2.1 (by rw [HT.out.1]; exact hkN)
        have hst2 : (Hid (X.drop nx = rowsN (bs.drop (k + 1)) (nn + 1)) ∧ (nx < X.length → ∃ ws x, X[nx]? = some ws ∧ ws[0]? = some x ∧ nn + 1 ≤ x.2.1)) ∨ (line0 (part bs fr k) nn ≠ [] ∧ X[nx]? = some (line0 (part bs fr k) nn) ∧ Hid (X.drop (nx + 1) = rowsN (bs.drop (k + 1)) (nn + 1))) := by
          rcases hst with ⟨hws, hD2⟩ | ⟨hws, hXn, hD2⟩
          · refine .inl ⟨Lib.hid hD2, fun hnx => ?_⟩
            have hm : X[nx] ∈ rowsN (bs.drop (k + 1)) (nn + 1) := by
              rw [← hD2, List.drop_eq_getElem_cons hnx]; exact List.mem_cons_self
            have hx0 := NE.out _ (List.getElem_mem hnx)
            have hl := List.length_pos_iff.2 hx0
            exact ⟨X[nx], X[nx][0], List.getElem?_eq_getElem hnx, List.getElem?_eq_getElem hl, rows_later _ _ _ hm _ (List.getElem_mem hl)⟩
          · exact .inr ⟨hws, hXn, Lib.hid hD2⟩
        clear hst hend hcont hok
        rcases hst2 with ⟨HD2, hrow⟩ | ⟨hws, hXn, HD2⟩
        · clear hgood hpl
          by_cases hnx : nx < X.length
          · obtain ⟨ws, ⟨t0, n0, c0⟩, hws, hx0, hn0⟩ := hrow hnx
            obtain ⟨gx, dx, hx, fx, ex, cx0, ⟨_, lx⟩, cx1, cx2, cx3⟩ := (HR.out.below hB).word hws hx0
            simp only [Value.slice.injEq] at ex
            obtain ⟨rfl, -, rfl⟩ := ex
            simp only [Nat.zero_mul, Nat.zero_add] at cx1 cx2 cx3
            have hne : ((n0 : Int) == (nn : Int)) = false := beq_eq_false_iff_ne.2 (by simp only at hn0; omega)
            have hnx' : (nx : Int) < (X.length : Int) := by omega
            have hlx : (0 : Int) < (ws.length : Int) := by omega
            clear hws hx0 hrow hn0
            generalize ws.length = lw at *
            rcases hreg with ⟨hkn, hkd⟩ | ⟨hkn, b, off, rfl, HX⟩
            · go_wp2
              go_roundw
              case rel => exact ⟨nn + 1, k + 1, nx, k + 1, by omega, by go_num, by go_num, rfl, by go_num, Lib.hid HD2.out, Lib.hid (fun j h1 h2 => by omega), fun h => by omega, hB⟩
              case measure => simp [intOf]; omega
            · have hx10 := HX.out _ hB
              go_wp2
              go_roundw
              case rel => exact ⟨nn + 1, k + 1, nx, k + 1, by omega, by go_num, by go_num, rfl, by go_num, Lib.hid HD2.out, Lib.hid (fun j h1 h2 => by omega), fun h => by omega, hB⟩
              case measure => simp [intOf]; omega
          · have hnxd : decide ((nx : Int) < (X.length : Int)) = false := decide_eq_false (by omega)
            clear hrow
            rcases hreg with ⟨hkn, hkd⟩ | ⟨hkn, b, off, rfl, HX⟩
            · go_wp2
              go_roundw
              case rel => exact ⟨nn + 1, k + 1, nx, k + 1, by omega, by go_num, by go_num, rfl, by go_num, Lib.hid HD2.out, Lib.hid (fun j h1 h2 => by omega), fun h => by omega, hB⟩
              case measure => simp [intOf]; omega
            · have hx10 := HX.out _ hB
              go_wp2
              go_roundw
              case rel => exact ⟨nn + 1, k + 1, nx, k + 1, by omega, by go_num, by go_num, rfl, by go_num, Lib.hid HD2.out, Lib.hid (fun j h1 h2 => by omega), fun h => by omega, hB⟩
              case measure => simp [intOf]; omega
        · obtain ⟨gx, dx, hx, fx, ex, cx0, lx, cx⟩ := HR.out.row hXn hws
          simp only [Value.slice.injEq] at ex
          obtain ⟨rfl, -, rfl⟩ := ex
          have hnl : nx < X.length := (List.getElem?_eq_some_iff.1 hXn).1
          have BDW := Lib.hid (BD.out _ (List.mem_of_getElem? hXn))
          obtain ⟨hg1, dd, hg2⟩ := hgood
          generalize line0 (part bs fr k) nn = ws at *
          have HG := Lib.hid hg1
          have HRS := Lib.hid hg2
          have HCX := Lib.hid cx
          have CX0 := Lib.hid cx0
          have hfirst : ∃ x0 c00, ws[0]? = some (x0, nn, c00) := by
            obtain ⟨⟨x0, n00, c00⟩, hf⟩ : ∃ x, ws[0]? = some x := ⟨_, List.getElem?_eq_getElem lx.2.1⟩
            have := (hg1 _ (List.mem_of_getElem? hf)).line
            simp only at this
            rw [this] at hf
            exact ⟨x0, c00, hf⟩
          obtain ⟨x0, c00, hf0⟩ := hfirst
          obtain ⟨f1, f2, f3⟩ := cx 0 _ hf0
          simp only [Nat.zero_mul, Nat.zero_add] at f1 f2 f3
          replace f2 := celln hB f2
          have dx0 := celln hB cx0
          have hnx' : (nx : Int) < (X.length : Int) := by omega
          have hlx : (0 : Int) < (ws.length : Int) := by omega
          have hlm := lx.2.2
          have hN0 : 0 < N := by
            have := (hg1 _ (List.mem_of_getElem? hf0)).inside
            have h2 := List.length_pos_iff.2 (hg1 _ (List.mem_of_getElem? hf0)).some
            rw [hpl] at this
            simp only at this h2
            omega
          obtain ⟨b0, off0, rfl, hb0, hcell⟩ := HT1.out.2 hN0
          have HCell := Lib.hid hcell
          clear hcell
          clear hg1 hg2 cx cx0 hf0 f1 f3 hws hXn lx
          go_upto_region 10 with fail
          go_cut [55] from 39 to 191 (fun c wx => c = .bool false ∧ wx = wr)
          case first =>
            rcases hreg with ⟨hkn, hkd⟩ | ⟨hkn, b, off, hAe, HX⟩
            · go_wp2
              go_meet
              case rel => exact ⟨rfl, rfl⟩
            · simp only [Option.some.injEq, Addr.mk.injEq] at hAe
              obtain ⟨rfl, rfl, -⟩ := hAe
              have hx10 := HX.out _ hB
              go_wp2
              go_meet
              case rel => exact ⟨rfl, rfl⟩
          case rest =>
            obtain ⟨hc1, hc2⟩ := hcut
            subst hc1
            subst hc2
            go_wp2
            clear dx0 f2 hreg
            refine stand_in b0 off0 N cap gx _ nn fr nx k hx fx bs X ws W _ dd hN hcap hcm hct HT1 hb0 HCell hb4 hkN hpl BDW HG HRS hlm HCX CX0 hnl hnx' hlx hB _ _ _ _ _ _ _ _ _ _ _ _ _ _ _ _ _ _ _ _ _ _ _ _ _ _ _ _ _ _ _ _ _ _ _ _ _ _ _ _ _ _ _ _ _ _ _ _ _ _ _ _ _ _ _ _ _ _ _ _ _ _ _ _ _ _ _ _ _ _ _ _ _ _ _ _ _ _ _ _ _ _ _ _ _ _ _ _ _ _ _ _ _ _ _ _ _ _ _ _ _ _ _ _ _ _ _ _ _ _ _ _ _ _ _ _ _ _ _ _ _ _ _ _ _ _ _ _ _ _ _ _ _ _ _ _ _ _ _ _ _ _ _ _ _ _ _ _ _ _ _ _ _ _ _ _ _ _ _ _ _ _ _ _ _ _ _ _ _ _ _ _ _ _ _ _ _ _ _ _ _ _ _ _ _ _ _ _ _ _ ?_
            intro x2 x10 x11 x12 x13 x79 x80 x81 x82 x83 x84 x85 x86 x87 x88 x89 x90 x91 x92 x93 x94 x95 x96 x97 x98 x99 x100 x101 x102 x103 x104 x105 x106 x107 x108 x109 x110 x111 x112 x113 x114 x115 x116 x117 x118 x119 x120 x121 x122 x123 x124 x125 x126 x127 x128 x129 x130 x131 x132 x133 x134 x135 x136 x137 x138 x139 x140 x141 x142 x143 x144 x145 x146 x147 x148 x149 x150 x151 x152 x153 x154 x155 x156 x157 x158 x159 x160 x161 x162 x163 x164 x165 x166 x167 x168 x169 x170 x171 x172 x173 x174 x175 x176 x177 x178 x179 x180 x181 x182 x183 x184 x185 wr' hB2
            go_wp2
            go_roundw
            case rel => exact ⟨nn + 1, k + 1, nx + 1, k + 1, by omega, by go_num, by go_num, by go_num, by go_num, Lib.hid HD2.out, Lib.hid (fun j h1 h2 => by omega), fun h => by omega, hB2⟩
            case measure => simp [intOf]; omega
    · obtain rfl : k = N + 1 := by omega
      have hfr := hlast rfl
      subst hfr
      have hXe : X.drop nx = [] := by
        have := HD.out
        have e : bs.drop (N + 1) = [] := List.drop_eq_nil_of_le (by rw [HT.out.1]; omega)
        rw [e] at this
        exact this
      have hnx : nx = X.length := by
        have := congrArg List.length hXe
        rw [List.length_drop] at this
        simp at this
        omega
      subst hnx
      clear hXe hlast
      go_wp2
      go_ret
      exact ⟨rfl, kbq gW hB⟩

theorem stand_any (A : Option Addr) (N cap : Nat) (bs : List UInt8) (w : World) (hT : Txt w A N bs) (hN : N ≤ 1000) (hcap : N ≤ cap) (hcm : cap ≤ 9223372036854775807) :
    Calls Try.prog 17 #[.slice A N cap] w fun e w' => e = .returned (.bool true) ∧ Below w.heap.size w w' := by
  cases hb : badB bs with
  | true => exact stand_bad A N cap bs w hT hN hcap hcm hb
  | false => exact stand_ok A N cap bs w hT hN hcap hcm hb
end Go.Proofs.Ytdjeehnjodbmaaa.Wd
