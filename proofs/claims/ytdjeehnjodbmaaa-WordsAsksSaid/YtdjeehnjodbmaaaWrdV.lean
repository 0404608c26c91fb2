/- tollerlaw10.stand answers true, for any short row of bytes, and so does WordsStand; no conditions but those that each names. -/
import Derived.Test.YtdjeehnjodbmaaaWrdG
import Derived.Test.YtdjeehnjodbmaaaWrdW3
import Derived.Deep.CutRange
namespace Go.Proofs.Ytdjeehnjodbmaaa.Wd
open Go Go.RowKit
set_option linter.unusedVariables false
set_option linter.unusedSimpArgs false

/-- A part of a text. -/
def part (bs : List UInt8) (fr k : Nat) : List UInt8 := (bs.drop fr).take (k - fr)
theorem part_len {bs : List UInt8} {fr k : Nat} (h : fr ≤ k) (hk : k ≤ bs.length) : (part bs fr k).length = k - fr := by
  unfold part; rw [List.length_take, List.length_drop]; omega
theorem part_at {bs : List UInt8} {fr k j : Nat} (hj : j < k - fr) : (part bs fr k).getD j 0 = bs.getD (fr + j) 0 := by
  unfold part
  simp only [List.getD_eq_getElem?_getD, List.getElem?_take, if_pos hj, List.getElem?_drop]
theorem part_cut {bs : List UInt8} {fr k j L : Nat} (h : j + L ≤ k - fr) : ((part bs fr k).drop j).take L = (bs.drop (fr + j)).take L := by
  unfold part
  rw [List.drop_take, List.take_take, List.drop_drop]
  congr 1
  omega
theorem bad_mem {bs : List UInt8} (h : badB bs = false) {b : UInt8} (hb : b ∈ bs) : kd b ≠ 1 := by
  intro e
  have : badB bs = true := List.any_eq_true.2 ⟨b, hb, decide_eq_true e⟩
  rw [h] at this; cases this
theorem part_ok {bs : List UInt8} {fr k : Nat} (hb : badB bs = false) (hk : k ≤ bs.length) (h10 : ∀ j, fr ≤ j → j < k → bs.getD j 0 ≠ 10) : okL (part bs fr k) := by
  intro b hm
  have hm2 : b ∈ bs := List.mem_of_mem_drop (List.mem_of_mem_take hm)
  obtain ⟨j, hj, e⟩ := List.mem_iff_getElem.1 hm
  have hl : j < k - fr := by unfold part at hj; rw [List.length_take, List.length_drop] at hj; omega
  have e2 := part_at (bs := bs) hl
  rw [List.getD_eq_getElem?_getD, List.getElem?_eq_getElem hj] at e2
  simp only [Option.getD_some] at e2
  rw [e] at e2
  rcases aut_ways b with h | h | h | h
  · exact absurd h (bad_mem hb hm2)
  · exact .inl h
  · exact absurd ((kd_three b).1 h) (by rw [e2]; exact h10 _ (by omega) (by omega))
  · exact .inr h
theorem bad_drop {bs : List UInt8} (h : badB bs = false) (k : Nat) : badB (bs.drop k) = false := by
  have e : badB bs = (badB (bs.take k) || badB (bs.drop k)) := by rw [← bad_app, List.take_append_drop]
  rw [e, Bool.or_eq_false_iff] at h
  exact h.2
/-- A line's end. -/
theorem line_step {bs : List UInt8} {X : List (List Wo)} {nx fr nn k : Nat} (hb : badB bs = false) (hfr : fr ≤ k) (hk : k ≤ bs.length) (h10 : ∀ j, fr ≤ j → j < k → bs.getD j 0 ≠ 10) (hend : k = bs.length ∨ bs.getD k 0 = 10)
    (hX : X.drop nx = rowsN (bs.drop fr) nn) :
    (line0 (part bs fr k) nn = [] ∧ X.drop nx = rowsN (bs.drop (k + 1)) (nn + 1)) ∨ (line0 (part bs fr k) nn ≠ [] ∧ X[nx]? = some (line0 (part bs fr k) nn) ∧ X.drop (nx + 1) = rowsN (bs.drop (k + 1)) (nn + 1)) := by
  have hok := part_ok hb hk h10
  have e : rowsN (bs.drop fr) nn = flush (line0 (part bs fr k) nn) [] ++ rowsN (bs.drop (k + 1)) (nn + 1) := by
    rcases Nat.lt_or_ge k bs.length with hlt | hge
    · have h1 : bs.getD k 0 = 10 := hend.resolve_left (by omega)
      have h2 : bs.drop fr = part bs fr k ++ 10 :: bs.drop (k + 1) := by
        rw [← h1, ← drop_at hlt]
        have := (List.take_append_drop (k - fr) (bs.drop fr)).symm
        rw [List.drop_drop, show fr + (k - fr) = k by omega] at this
        exact this
      rw [h2, rows_line _ _ _ hok (bad_drop hb _)]
    · have hkl : k = bs.length := by omega
      have h2 : bs.drop fr = part bs fr k := by
        unfold part
        rw [List.take_of_length_le (by rw [List.length_drop]; omega)]
      rw [h2, rows_last _ _ hok, List.drop_eq_nil_of_le (by omega)]
      have : rowsN [] (nn + 1) = [] := rfl
      rw [this, List.append_nil]
  rw [e] at hX
  generalize line0 (part bs fr k) nn = ws at *
  unfold flush at hX
  by_cases h : ws = []
  · rw [if_pos h, List.nil_append] at hX
    exact .inl ⟨h, hX⟩
  · rw [if_neg h] at hX
    simp only [List.nil_append, List.singleton_append] at hX
    refine .inr ⟨h, ?_, ?_⟩
    · have := congrArg (fun l => l[0]?) hX
      simpa using this
    · have := congrArg (List.drop 1) hX
      rw [List.drop_drop] at this
      simpa using this
/-- What is told of a byte that may not be. -/
theorem spl_bad {bs : List UInt8} (h : bs.length ≤ 1048576) (hb : badB bs = true) : (spl bs).er = 20 ∧ 1 ≤ (spl bs).ln ∧ 1 ≤ (spl bs).cl ∧ (spl bs).rows = [] := by
  have h1 := spl_er bs h
  rw [if_pos hb] at h1
  refine ⟨h1, ?_⟩
  unfold spl at h1 ⊢
  rw [if_neg (by omega)] at h1 ⊢
  exact aut_place bs _ _ _ _ _ (by omega) (by omega) (by omega)
theorem spl_good {bs : List UInt8} (h : bs.length ≤ 1048576) (hb : badB bs = false) : (spl bs).er = 0 ∧ (spl bs).rows = rowsN bs 1 := by
  have h1 := spl_er bs h
  rw [if_neg (by rw [hb]; decide)] at h1
  refine ⟨h1, ?_⟩
  unfold spl rowsN
  rw [if_neg (by omega)]

set_option maxRecDepth 100000 in
theorem stand_bad (A : Option Addr) (N cap : Nat) (bs : List UInt8) (w : World) (hT : Txt w A N bs) (hN : N ≤ 1000) (hcap : N ≤ cap) (hcm : cap ≤ 9223372036854775807) (hb : badB bs = true) :
    Calls Try.prog 17 #[.slice A N cap] w fun e w' => e = .returned (.bool true) ∧ Below w.heap.size w w' := by
  have S1 := split_any A N cap bs w hT hcap hcm
  obtain ⟨h1, h2, h3, h4⟩ := spl_bad (by rw [hT.1]; omega) hb
  unfold SplitPost at S1
  rw [h1, h4] at S1
  generalize (spl bs).ln = L at *
  generalize (spl bs).cl = C at *
  have K1 := Lib.hid S1
  have hL : (0 : Int) < (L : Int) := by omega
  have hC : (0 : Int) < (C : Int) := by omega
  clear S1 hT h1 h4 h2 h3
  go_enter Try.func17, Try.ntmps17
  go_wp2_with ((go_at_call 14; ((with_reducible refine K1.out.mono ?_); rintro e w1 ⟨v1, rfl, r1, g1⟩; obtain ⟨A1, c1, rfl⟩ := r1.slice; have e1 := g1.alloc g1.size (.cells #[.int .i64 (L : Int), .int .i64 (C : Int)] 34))))
  go_ret
  exact ⟨by first | rfl | (simp; omega), e1⟩

theorem txt_cell {w : World} {b off N : Nat} {bs : List UInt8} (h : Txt w (some ⟨b, off, none⟩) N bs) {k : Nat} (hk : k < N) : w.cell? ⟨b, off + k, none⟩ = some (.int .u8 ((bs.getD k 0).toNat : Int)) := by
  obtain ⟨b', off', e, _, hc⟩ := h.2 (by omega)
  simp only [Option.some.injEq, Addr.mk.injEq] at e
  obtain ⟨rfl, rfl, _⟩ := e
  exact hc k hk
theorem bslice_mid (b off n cap i j : Nat) (h : i ≤ j) (hj : j ≤ cap) (hi : i < cap) (W : World) : (Instr.slice 22 (.slice (some ⟨b, off, none⟩) n cap) (some (.int .i64 (i : Int))) (some (.int .i64 (j : Int))) none).run Try.prog W = .ok (.slice (some ⟨b, off + i, none⟩) (j - i) (cap - i)) W := by
  obtain ⟨i0, hz, hz0, hz1, hz2⟩ := info_parts infoByte
  have hne : ¬ cap = i := by omega
  simp [go_sem, Try.underlying22, sizeOf, typeInfo, hz, hz1, h, hj, sliced, hne, Go.WideShapes.add_plain]
theorem u8_ten {x : UInt8} (h : x ≠ 10) : ¬ ((x.toNat : Int) = 10) := fun e => h (UInt8.toNat_inj.1 (by show _ = 10; omega))


/-- The rounds of every loop of a text of code, an outer one ahead of those in it. -/
def loopsOf : Code → List Code
  | .loop c => c :: loopsOf c
  | .block _ c => loopsOf c
  | .scope c => loopsOf c
  | .seq c d => loopsOf c ++ loopsOf d
  | .cond _ c d => loopsOf c ++ loopsOf d
  | _ => []
noncomputable def standIn : Code := ((Try.f17.body.map loopsOf).getD []).getD 1 .skip

set_option maxRecDepth 100000 in
set_option maxHeartbeats 4000000 in
theorem stand_in (b0 off0 N cap gx cX nn fr nx k hx fx : Nat) (bs : List UInt8) (X : List (List Wo)) (ws : List Wo) (W wr : World) (dd : Nat)
    (hN : N ≤ 1000) (hcap : N ≤ cap) (hcm : cap ≤ 9223372036854775807) (hct : X.length ≤ 1048576) (HT1 : Hid (Txt W (some ⟨b0, off0, none⟩) N bs)) (hb0 : b0 < W.heap.size)
    (HCell : Hid (∀ k, k < N → W.cell? ⟨b0, off0 + k, none⟩ = some (.int .u8 ((bs.getD k 0).toNat : Int)))) (hb4 : nn ≤ k + 1 ∧ fr ≤ k ∧ k ≤ N + 1 ∧ nx ≤ X.length) (hkN : k ≤ N) (hpl : (part bs fr k).length = k - fr)
    (BDW : Hid (∀ x ∈ ws, BdW 1048577 x)) (HG : Hid (∀ w ∈ ws, Good (part bs fr k) nn w)) (HRS : Hid (Rise ws dd)) (hlm : ws.length ≤ 9223372036854775807)
    (HCX : Hid (∀ j x, ws[j]? = some x → W.cell? ⟨hx, j * 3, none⟩ = some (.string (str x.1)) ∧ W.cell? ⟨hx, j * 3 + 1, none⟩ = some (.int .i64 (x.2.1 : Int)) ∧ W.cell? ⟨hx, j * 3 + 2, none⟩ = some (.int .i64 (x.2.2 : Int))))
    (CX0 : Hid (W.cell? ⟨gx, nx, none⟩ = some (.slice (some ⟨hx, 0, none⟩) ws.length fx))) (hnl : nx < X.length) (hnx' : (nx : Int) < (X.length : Int)) (hlx : (0 : Int) < (ws.length : Int)) (hB : Below W.heap.size W wr)
    (v1 v2 v4 v5 v11 v12 v13 v14 v15 v16 v17 v18 v19 v20 v21 v22 v23 v24 v25 v26 v27 v28 v29 v30 v31 v32 v33 v34 v35 v36 v37 v38 v39 v40 v41 v42 v43 v44 v45 v46 v47 v48 v49 v50 v51 v52 v53 v54 v55 v56 v57 v58 v59 v60 v61 v62 v63 v64 v65 v66 v67 v68 v69 v70 v71 v72 v73 v74 v75 v76 v77 v78 v79 v80 v81 v82 v83 v84 v85 v86 v87 v88 v89 v90 v91 v92 v93 v94 v95 v96 v97 v98 v99 v100 v101 v102 v103 v104 v105 v106 v107 v108 v109 v110 v111 v112 v113 v114 v115 v116 v117 v118 v119 v120 v121 v122 v123 v124 v125 v126 v127 v128 v129 v130 v131 v132 v133 v134 v135 v136 v137 v138 v139 v140 v141 v142 v143 v144 v145 v146 v147 v148 v149 v150 v151 v152 v153 v154 v155 v156 v157 v158 v159 v160 v161 v162 v163 v164 v165 v166 v167 v168 v169 v170 v171 v172 v173 v174 v175 v176 v177 v178 v179 v180 v181 v182 v183 v184 v185 v186 v187 v188 v189 v190 v191 v192 v193 v194 v195 : Value) (Q : Exit → Act → World → Prop)
    (hexit : ∀ (x2 x10 x11 x12 x13 x79 x80 x81 x82 x83 x84 x85 x86 x87 x88 x89 x90 x91 x92 x93 x94 x95 x96 x97 x98 x99 x100 x101 x102 x103 x104 x105 x106 x107 x108 x109 x110 x111 x112 x113 x114 x115 x116 x117 x118 x119 x120 x121 x122 x123 x124 x125 x126 x127 x128 x129 x130 x131 x132 x133 x134 x135 x136 x137 x138 x139 x140 x141 x142 x143 x144 x145 x146 x147 x148 x149 x150 x151 x152 x153 x154 x155 x156 x157 x158 x159 x160 x161 x162 x163 x164 x165 x166 x167 x168 x169 x170 x171 x172 x173 x174 x175 x176 x177 x178 x179 x180 x181 x182 x183 x184 x185 : Value) (wr' : World), Below W.heap.size W wr' → Q (.exit 2) { tmps := List.toArray ((Value.slice (some ⟨b0, off0, none⟩) N cap) :: v1 :: x2 :: (Value.slice (some ⟨gx, 0, none⟩) X.length cX) :: v4 :: v5 :: (Value.int .i64 (nn : Int)) :: (Value.int .i64 (fr : Int)) :: (Value.int .i64 (nx : Int)) :: (Value.int .i64 (k : Int)) :: x10 :: x11 :: x12 :: x13 :: v14 :: v15 :: v16 :: v17 :: v18 :: v19 :: v20 :: v21 :: v22 :: v23 :: v24 :: v25 :: v26 :: v27 :: v28 :: v29 :: v30 :: v31 :: v32 :: v33 :: v34 :: v35 :: v36 :: v37 :: v38 :: v39 :: v40 :: v41 :: v42 :: v43 :: v44 :: v45 :: v46 :: v47 :: v48 :: v49 :: v50 :: v51 :: v52 :: v53 :: v54 :: v55 :: v56 :: v57 :: v58 :: v59 :: v60 :: v61 :: v62 :: v63 :: v64 :: v65 :: v66 :: v67 :: v68 :: v69 :: v70 :: v71 :: v72 :: v73 :: v74 :: v75 :: v76 :: v77 :: v78 :: x79 :: x80 :: x81 :: x82 :: x83 :: x84 :: x85 :: x86 :: x87 :: x88 :: x89 :: x90 :: x91 :: x92 :: x93 :: x94 :: x95 :: x96 :: x97 :: x98 :: x99 :: x100 :: x101 :: x102 :: x103 :: x104 :: x105 :: x106 :: x107 :: x108 :: x109 :: x110 :: x111 :: x112 :: x113 :: x114 :: x115 :: x116 :: x117 :: x118 :: x119 :: x120 :: x121 :: x122 :: x123 :: x124 :: x125 :: x126 :: x127 :: x128 :: x129 :: x130 :: x131 :: x132 :: x133 :: x134 :: x135 :: x136 :: x137 :: x138 :: x139 :: x140 :: x141 :: x142 :: x143 :: x144 :: x145 :: x146 :: x147 :: x148 :: x149 :: x150 :: x151 :: x152 :: x153 :: x154 :: x155 :: x156 :: x157 :: x158 :: x159 :: x160 :: x161 :: x162 :: x163 :: x164 :: x165 :: x166 :: x167 :: x168 :: x169 :: x170 :: x171 :: x172 :: x173 :: x174 :: x175 :: x176 :: x177 :: x178 :: x179 :: x180 :: x181 :: x182 :: x183 :: x184 :: x185 :: v186 :: v187 :: v188 :: v189 :: v190 :: v191 :: v192 :: v193 :: v194 :: v195 :: []), defers := [] } wr') :
    (Code.loop standIn).wp Try.prog Q { tmps := List.toArray ((Value.slice (some ⟨b0, off0, none⟩) N cap) :: v1 :: v2 :: (Value.slice (some ⟨gx, 0, none⟩) X.length cX) :: v4 :: v5 :: (Value.int .i64 (nn : Int)) :: (Value.int .i64 (fr : Int)) :: (Value.int .i64 (nx : Int)) :: (Value.int .i64 (k : Int)) :: (Value.int .i64 0) :: v11 :: v12 :: v13 :: v14 :: v15 :: v16 :: v17 :: v18 :: v19 :: v20 :: v21 :: v22 :: v23 :: v24 :: v25 :: v26 :: v27 :: v28 :: v29 :: v30 :: v31 :: v32 :: v33 :: v34 :: v35 :: v36 :: v37 :: v38 :: v39 :: v40 :: v41 :: v42 :: v43 :: v44 :: v45 :: v46 :: v47 :: v48 :: v49 :: v50 :: v51 :: v52 :: v53 :: v54 :: v55 :: v56 :: v57 :: v58 :: v59 :: v60 :: v61 :: v62 :: v63 :: v64 :: v65 :: v66 :: v67 :: v68 :: v69 :: v70 :: v71 :: v72 :: v73 :: v74 :: v75 :: v76 :: v77 :: v78 :: v79 :: v80 :: v81 :: v82 :: v83 :: v84 :: v85 :: v86 :: v87 :: v88 :: v89 :: v90 :: v91 :: v92 :: v93 :: v94 :: v95 :: v96 :: v97 :: v98 :: v99 :: v100 :: v101 :: v102 :: v103 :: v104 :: v105 :: v106 :: v107 :: v108 :: v109 :: v110 :: v111 :: v112 :: v113 :: v114 :: v115 :: v116 :: v117 :: v118 :: v119 :: v120 :: v121 :: v122 :: v123 :: v124 :: v125 :: v126 :: v127 :: v128 :: v129 :: v130 :: v131 :: v132 :: v133 :: v134 :: v135 :: v136 :: v137 :: v138 :: v139 :: v140 :: v141 :: v142 :: v143 :: v144 :: v145 :: v146 :: v147 :: v148 :: v149 :: v150 :: v151 :: v152 :: v153 :: v154 :: v155 :: v156 :: v157 :: v158 :: v159 :: v160 :: v161 :: v162 :: v163 :: v164 :: v165 :: v166 :: v167 :: v168 :: v169 :: v170 :: v171 :: v172 :: v173 :: v174 :: v175 :: v176 :: v177 :: v178 :: v179 :: v180 :: v181 :: v182 :: v183 :: v184 :: v185 :: v186 :: v187 :: v188 :: v189 :: v190 :: v191 :: v192 :: v193 :: v194 :: v195 :: []), defers := [] } wr := by
  conv => arg 2; arg 1; whnf
  go_loopw [10] (fun i wr2 => ∃ i' : Nat, i' ≤ ws.length ∧ i = .int .i64 (i' : Int) ∧ Below W.heap.size W wr2) (fun i _ => ws.length - (intOf i).toNat)
  case atStart => exact ⟨0, Nat.zero_le _, rfl, hB⟩
  case round =>
    obtain ⟨i, hi, rfl, hB2⟩ := hrel
    have dx0 := celln hB2 CX0.out
    by_cases hil : i < ws.length
    · obtain ⟨⟨t0, n0, c0⟩, hx0⟩ : ∃ x, ws[i]? = some x := ⟨_, List.getElem?_eq_getElem hil⟩
      obtain ⟨a1, a2, a3⟩ := HCX.out i _ hx0
      have G := HG.out _ (List.mem_of_getElem? hx0)
      obtain ⟨G1, G2, G3, G4, G5, G6, G7⟩ := G
      simp only at G1 G2 G3 G4 G5 G6 G7 a1 a2 a3
      subst G1
      have hL0 : 0 < t0.length := List.length_pos_iff.2 G3
      rw [hpl] at G4 G7
      obtain ⟨aN, haN⟩ : ∃ aN, aN = fr + c0 - 1 := ⟨_, rfl⟩
      obtain ⟨bN, hbN⟩ : ∃ bN, bN = aN + t0.length := ⟨_, rfl⟩
      have hbk : bN ≤ k := by omega
      have hTx : (bs.drop aN).take t0.length = t0 := by
        rw [part_cut (by omega)] at G5
        rw [haN, show fr + c0 - 1 = fr + (c0 - 1) by omega]; exact G5
      have hcv := fun m => cut_str ((HT1.out.below hB2).below (below_drewN ((Below.refl _ wr).alloc (Nat.le_refl _) (.cells #[.string (str t0), .int .i64 (n0 : Int), .int .i64 (c0 : Int)] 39)) m)) aN t0.length (cap - aN) (by omega)
      rw [hTx] at hcv
      have hya : Hid (aN ≤ fr ∨ (fr < aN ∧ ∃ y : Nat, Hid (∀ W', Below W.heap.size W W' → W'.cell? ⟨b0, off0 + (aN - 1), none⟩ = some (.int .u8 (y : Int))) ∧ y ≤ 32)) := Lib.hid <| by
        by_cases h : fr < aN
        · refine .inr ⟨h, (bs.getD (aN - 1) 0).toNat, Lib.hid (fun W' hW' => (hW'.cell (p := ⟨b0, off0 + (aN - 1), none⟩) hb0).trans (HCell.out (aN - 1) (by omega))), ?_⟩
          have := G6 (by omega)
          rw [part_at (by omega)] at this
          rw [show aN - 1 = fr + (c0 - 2) by omega]; exact this
        · exact .inl (by omega)
      have hyb : Hid (k ≤ bN ∨ (bN < k ∧ ∃ y : Nat, Hid (∀ W', Below W.heap.size W W' → W'.cell? ⟨b0, off0 + bN, none⟩ = some (.int .u8 (y : Int))) ∧ y ≤ 32)) := Lib.hid <| by
        by_cases h : bN < k
        · refine .inr ⟨h, (bs.getD bN 0).toNat, Lib.hid (fun W' hW' => (hW'.cell (p := ⟨b0, off0 + bN, none⟩) hb0).trans (HCell.out bN (by omega))), ?_⟩
          have := G7 (by omega)
          rw [part_at (by omega)] at this
          rw [show bN = fr + (c0 - 1 + t0.length) by omega]; exact this
        · exact .inl (by omega)
      have hpr : Hid (i = 0 ∨ (0 < i ∧ ∃ (i1 : Nat) (t1 : List UInt8) (n1 c1 : Nat), (i : Int) - 1 = (i1 : Int) ∧ (i1 < ws.length) ∧ c1 + t1.length < c0 ∧ t1.length ≤ 1048577 ∧ (W.cell? ⟨hx, i1 * 3, none⟩ = some (.string (str t1)) ∧ W.cell? ⟨hx, i1 * 3 + 1, none⟩ = some (.int .i64 (n1 : Int)) ∧ W.cell? ⟨hx, i1 * 3 + 2, none⟩ = some (.int .i64 (c1 : Int))))) := Lib.hid <| by
        by_cases h : i = 0
        · exact .inl h
        · obtain ⟨i1, rfl⟩ : ∃ i1, i = i1 + 1 := ⟨i - 1, by omega⟩
          obtain ⟨⟨t1, n1, c1⟩, hx1⟩ : ∃ x, ws[i1]? = some x := ⟨_, List.getElem?_eq_getElem (by omega)⟩
          have hr := Rise.at i1 _ _ HRS.out hx1 hx0
          have hbd1 := (BDW.out _ (List.mem_of_getElem? hx1)).1
          exact .inr ⟨by omega, i1, t1, n1, c1, by omega, by omega, hr, hbd1, HCX.out i1 _ hx1⟩
      have hsz : (str t0).size = t0.length := rfl
      have hz0 : (str t0).toList.isEmpty = false := by
        rw [ByteArray.toList_eq, List.isEmpty_eq_false_iff]; exact G3
      have hwm := fun m => hcv m
      replace a1 := celln hB2 a1
      replace a2 := celln hB2 a2
      replace a3 := celln hB2 a3
      have q1 := lt_of_cell a1
      have q2 := lt_of_cell dx0
      have q3 : b0 < wr.heap.size := Nat.lt_of_lt_of_le hb0 hB2.size
      have hA1 : (fr : Int) + (c0 : Int) - 1 = (aN : Int) := by omega
      have hA2 : (aN : Int) + (t0.length : Int) = (bN : Int) := by omega
      have hab : bN - aN = t0.length := by omega
      have hil' : (i : Int) < (ws.length : Int) := by omega
      have d1 : decide ((aN : Int) < (fr : Int)) = false := decide_eq_false (by omega)
      have d2 : decide ((k : Int) < (bN : Int)) = false := decide_eq_false (by omega)
      have d1' : ¬ (aN < fr) := by omega
      have d2' : ¬ (k < bN) := by omega
      have hc0 : c0 ≤ 1001 := by omega
      have hcapa : ¬ cap = aN := by omega
      have HTX := Lib.hid hTx
      have HBN := Lib.hid (And.intro haN hbN)
      rw [← hab] at hcv
      have hsl := bslice_mid b0 off0 N cap aN bN (by omega) (by omega) (by omega)
      clear hab
      clear hx0 G2 G3 G4 G5 G6 G7 hTx hwm hbN haN
      generalize str t0 = sb at *
      go_upto_region 18 with fail
      go_cut [158] from 79 to 185 (fun c wx => c = .bool false ∧ ∃ m, wx = (wr.alloc (.cells #[.string sb, .int .i64 (n0 : Int), .int .i64 (c0 : Int)] 39)).drewN m)
      case first =>
        rcases hya.out with ya | ⟨ya, y1, Y1, hy1⟩
        · have da : decide ((fr : Int) < (aN : Int)) = false := decide_eq_false (by omega)
          have da' : ¬ (fr < aN) := by omega
          rcases hyb.out with yb | ⟨yb, y2, Y2, hy2⟩
          · have db : decide ((bN : Int) < (k : Int)) = false := decide_eq_false (by omega)
            have db' : ¬ (bN < k) := by omega
            go_wp2
            go_quiet (fail)
            go_wp2
            go_meet
            case rel => exact ⟨rfl, _, rfl⟩
          · have db : decide ((bN : Int) < (k : Int)) = true := decide_eq_true (by omega)
            have yc2 := Y2.out _ hB2
            have hbN' : (bN : Int) < (N : Int) := by omega
            have dy2 : decide ((32 : Int) < (y2 : Int)) = false := decide_eq_false (by omega)
            have dy2' : ¬ (32 < y2) := by omega
            go_wp2
            go_quiet (fail)
            go_wp2
            go_meet
            case rel => exact ⟨rfl, _, rfl⟩
        · have da : decide ((fr : Int) < (aN : Int)) = true := decide_eq_true (by omega)
          obtain ⟨am, ham⟩ : ∃ am, aN - 1 = am := ⟨_, rfl⟩
          rw [ham] at Y1
          have hA3 : (aN : Int) - 1 = (am : Int) := by omega
          have ham' : (am : Int) < (N : Int) := by omega
          have yc1 := Y1.out _ hB2
          have dy1 : decide ((32 : Int) < (y1 : Int)) = false := decide_eq_false (by omega)
          have dy1' : ¬ (32 < y1) := by omega
          clear ham
          rcases hyb.out with yb | ⟨yb, y2, Y2, hy2⟩
          · have db : decide ((bN : Int) < (k : Int)) = false := decide_eq_false (by omega)
            have db' : ¬ (bN < k) := by omega
            go_wp2
            go_quiet (fail)
            go_wp2
            go_meet
            case rel => exact ⟨rfl, _, rfl⟩
          · have db : decide ((bN : Int) < (k : Int)) = true := decide_eq_true (by omega)
            have yc2 := Y2.out _ hB2
            have hbN' : (bN : Int) < (N : Int) := by omega
            have dy2 : decide ((32 : Int) < (y2 : Int)) = false := decide_eq_false (by omega)
            have dy2' : ¬ (32 < y2) := by omega
            go_wp2
            go_quiet (fail)
            go_wp2
            go_meet
            case rel => exact ⟨rfl, _, rfl⟩
      case rest =>
        obtain ⟨rfl, m1, rfl⟩ := hcut
        go_wp2
        rcases hpr.out with i0 | ⟨i0, i1, t1, n1, c1, e1, l1, lt1, bd1, p1, p2, p3⟩
        · have di : decide ((0 : Int) < (i : Int)) = false := decide_eq_false (by omega)
          have di' : ¬ (0 < i) := by omega
          go_quiet (fail)
          go_wp2
          go_roundw
          case rel => exact ⟨i + 1, by omega, by go_num, (by first | exact kbq hB2 (below_drewN ((Below.refl _ _).alloc (Nat.le_refl _) _) _) | exact kbq hB2 (below_drewN (below_drewN ((Below.refl _ _).alloc (Nat.le_refl _) _) _) _))⟩
          case measure => simp [intOf]; omega
        · have di : decide ((0 : Int) < (i : Int)) = true := decide_eq_true (by omega)
          have r1 := celln hB2 p1
          have r3 := celln hB2 p3
          have hs1 : (str t1).size = t1.length := rfl
          have hl1 : (i1 : Int) < (ws.length : Int) := by omega
          have dg : decide ((c0 : Int) ≤ (c1 : Int) + (t1.length : Int)) = false := decide_eq_false (by omega)
          have dg' : ¬ (c0 ≤ c1 + t1.length) := by omega
          clear p1 p2 p3
          generalize str t1 = sb1 at *
          go_quiet (fail)
          go_wp2
          go_roundw
          case rel => exact ⟨i + 1, by omega, by go_num, (by first | exact kbq hB2 (below_drewN ((Below.refl _ _).alloc (Nat.le_refl _) _) _) | exact kbq hB2 (below_drewN (below_drewN ((Below.refl _ _).alloc (Nat.le_refl _) _) _) _))⟩
          case measure => simp [intOf]; omega
    · obtain rfl : i = ws.length := by omega
      go_wp2
      exact hB2
end Go.Proofs.Ytdjeehnjodbmaaa.Wd
