/- RuleAsks, walked; the kernels' names lie in the program's table. -/
import Derived.Test.YtpkpmbigljkneaaDoorRulW5
import Derived.Deep.CutRange
namespace Go.Proofs.YtpkpmbigljkneaaDoor.Wd
open Go Go.RowKit
set_option linter.unusedVariables false

/-- Seven words to bend a line with. -/
def sev (n : Nat) (name v : ByteArray) : List ByteArray := [dig n, v, ⟨#[48]⟩, name, gcraS, ⟨#[48, 55]⟩, rulS]
theorem sev_at (W : World) (n : Nat) (name v : ByteArray) (t : TypeId) (j : Nat) (h : j < 7) :
    (W.alloc (.cells #[.string (str (Lib.decDigits n)), .string v, .string ⟨#[48]⟩, .string name, .string ⟨#[103, 99, 114, 97]⟩, .string ⟨#[48, 55]⟩, .string ⟨#[114, 117, 108, 101]⟩] t)).cell? ⟨W.heap.size, j, none⟩ = some (.string ((sev n name v).getD j nob)) := by
  have hs := sts_alloc W (sev n name v) t
  unfold World.cell?
  rw [show (W.alloc (.cells #[.string (str (Lib.decDigits n)), .string v, .string ⟨#[48]⟩, .string name, .string ⟨#[103, 99, 114, 97]⟩, .string ⟨#[48, 55]⟩, .string ⟨#[114, 117, 108, 101]⟩] t)).heap[W.heap.size]? = some (.cells ((sev n name v).map Value.string).toArray t (0, 0)) from (MapKept.heap_alloc W _).1]
  have hl : j < (sev n name v).length := h
  simp [List.getD_eq_getElem?_getD, List.getElem?_eq_getElem hl]
theorem sev_lim (n : Nat) (name v : ByteArray) (j : Nat) (hn : n < 18446744073709551616) (h1 : name.size ≤ 600) (h2 : v.size ≤ 600) : ((sev n name v).getD j nob).size ≤ 281474976710656 := by
  refine Lim.at (fun x hx => ?_) j
  have := dig_size n hn
  unfold sev at hx
  simp only [List.mem_cons, List.not_mem_nil, or_false] at hx
  rcases hx with rfl | rfl | rfl | rfl | rfl | rfl | rfl
  · omega
  · omega
  · decide
  · omega
  · decide
  · decide
  · decide
theorem ORow.put {w : World} {base g n cap : Nat} {xs : List ByteArray} (h : ORow w base (.slice (some ⟨g, 0, none⟩) n cap) xs) (hn : xs.length = n) (j : Nat) (x : ByteArray) : ORow (w.setCell ⟨g, j, none⟩ (.string x)) base (.slice (some ⟨g, 0, none⟩) n cap) (xs.set j x) := by
  subst hn
  have h2 := (World.ownsRow.stored h j (.string x)).1
  unfold ORow tvs
  rw [List.map_set, List.length_set]
  exact h2
theorem ORow.cell {w : World} {base g n cap : Nat} {xs : List ByteArray} (h : ORow w base (.slice (some ⟨g, 0, none⟩) n cap) xs) (hn : xs.length = n) (j : Nat) (hj : j < n) : w.cell? ⟨g, j, none⟩ = some (.string (xs.getD j nob)) ∧ w.frozen? ⟨g, j, none⟩ = false := by
  subst hn
  refine ⟨?_, World.ownsRow.frozenAt h j⟩
  rw [World.ownsRow.cellAt h j (by omega), List.getD_eq_getElem?_getD]
  simp [List.getElem?_map, List.getElem?_eq_getElem hj]

set_option maxRecDepth 100000 in
set_option maxHeartbeats 8000000 in
theorem ruleAsks_core (p : ByteArray) (e b : Nat) (k : Int) (name : ByteArray) (A : Option Addr) (n cap : Nat) (xs : List ByteArray) (A2 : Option Addr) (n2 cap2 : Nat) (every burst kind which : Int) (q : Nat) (v : ByteArray) (w : World) (hN : Nam w)
    (hp : p.size ≤ 140737488351232) (he : e < 18446744073709551616) (hb : b < 18446744073709551616) (hk : 0 ≤ k ∧ k ≤ 255)
    (hnm : name.size ≤ 140737488351232) (hv : v.size ≤ 140737488351232) (hq : q < 18446744073709551616) (hwh : 0 ≤ which ∧ which ≤ 255)
    (hX : Sts w A n xs) (hf : Lim xs) (h : Byts w A2 n2) (hn : n2 ≤ 9223372036854775807)
    (hev : 0 ≤ every ∧ every ≤ 4294967295) (hbu : 0 ≤ burst ∧ burst ≤ 65535) (hki : 0 ≤ kind ∧ kind ≤ 255) (hnn : n ≤ 9223372036854775807) :
    Calls Tryd.prog 3 #[rul p e b k, .string name, .slice A n cap, .slice A2 n2 cap2, .int .u32 every, .int .u16 burst, .int .u8 kind, .int .u8 which, .int .u64 q, .string v] w fun r w' => r = .returned (.bool true) ∧ Below w.heap.size w w' := by
  have KN := Lib.hid (fun W (h : Nam W) => known_any W h)
  have hbx := (Below.refl w.heap.size w).alloc (Nat.le_refl _) (.cells #[.string p, .int .u64 e, .int .u64 b, .int .u8 k] 24)
  have a1 : IntKind.i64.wrap ((name.size : Int) + (p.size : Int)) = (name.size : Int) + (p.size : Int) := IntWalk.i64_in _ (by omega)
  have a2 : IntKind.i64.wrap ((name.size : Int) + (p.size : Int) + (v.size : Int)) = (name.size : Int) + (p.size : Int) + (v.size : Int) := IntWalk.i64_in _ (by omega)
  by_cases hl : 12 < n
  · go_enter Tryd.func3, Tryd.ntmps3
    go_wp2_with (go_at_call 9; refine (KN.out _ (hN.below hbx)).mono ?_; rintro r w1 ⟨rfl, g⟩)
    go_ret
    exact ⟨rfl, kbq hbx g⟩
  by_cases hl2 : (600 : Int) < (name.size : Int) + (p.size : Int) + (v.size : Int)
  · have a3 : ((12 : Int) < (n : Int)) = False := by simp; omega
    go_enter Tryd.func3, Tryd.ntmps3
    go_wp2_with (go_at_call 9; refine (KN.out _ (hN.below hbx)).mono ?_; rintro r w1 ⟨rfl, g⟩)
    go_ret
    exact ⟨rfl, kbq hbx g⟩
  have y1 : p.size ≤ 600 := by omega
  have y2 : name.size ≤ 600 := by omega
  have y3 : v.size ≤ 600 := by omega
  have OM := Lib.hid (fun s hs => own_mk s hs every burst kind hev hbu hki)
  have RC := Lib.hid (fun W hB => rule_core A2 n2 cap2 every burst kind W hB hn hev hbu hki)
  obtain ⟨c, hc⟩ : ∃ c, 1 + kind % 3 = c := ⟨_, rfl⟩
  have HX := Lib.hid hX
  have HF := Lib.hid hf
  have HB2 := Lib.hid h
  have HBX := Lib.hid hbx
  have HE := Lib.hid he
  have HBb := Lib.hid hb
  have HKk := Lib.hid hk
  have HQ := Lib.hid hq
  clear h hX hf hev hbu hn hp he hb hk hbx hnm hv hq
  go_enter Tryd.func3, Tryd.ntmps3
  go_wp2_with fail
  refine (KN.out _ (hN.below HBX.out)).mono ?_
  rintro r w0 ⟨rfl, g0⟩
  obtain ⟨r0, r1, r2, r3⟩ := new_cells w p e b k
  replace r0 := celln g0 r0; replace r1 := celln g0 r1; replace r2 := celln g0 r2; replace r3 := celln g0 r3
  have k0 := Lib.hid (kbq HBX.out g0)
  clear g0 HBX
  go_wp2_with fail
  refine (RC.out _ (HB2.out.below k0.out)).mono ?_
  rintro r w1 ⟨⟨s, rfl, hs⟩, g1⟩
  obtain ⟨E, B, hE, hB, O⟩ := OM.out s hs.out
  rw [hE, hB, hc]
  rw [hc] at O
  clear RC OM hs hE hB hc HB2 a1 a2 hl2
  have o1 := O.sz
  have o2 := O.e2
  have o3 := O.b2
  have o4 := O.k1
  have o5 := O.k2
  have hR := O.right
  have hL := pr_ok s E B c (by omega) (by omega) (by omega)
  have P2 := Lib.hid (fun W => refprint_any s E B c W (by omega) (by omega) (by omega) (by omega))
  replace r0 := celln g1 r0; replace r1 := celln g1 r1; replace r2 := celln g1 r2; replace r3 := celln g1 r3
  obtain ⟨x0, x1, x2, x3⟩ := new_cells w1 s E B c
  have g2 : Below w1.heap.size w1 (w1.alloc (.cells #[.string s, .int .u64 E, .int .u64 B, .int .u8 c] 24)) := (Below.refl _ _).alloc (Nat.le_refl _) _
  replace r0 := celln g2 r0; replace r1 := celln g2 r1; replace r2 := celln g2 r2; replace r3 := celln g2 r3
  have k2 := Lib.hid (kbq (kbq k0.out g1) g2)
  obtain ⟨X, hXe⟩ : ∃ X, X = w1.heap.size := ⟨_, rfl⟩
  clear g1 g2 k0
  go_wp2_with fail
  refine (P2.out _).mono ?_
  rintro r w2 ⟨⟨v1, rfl, HO⟩, g3⟩
  replace r0 := celln g3 r0; replace r1 := celln g3 r1; replace r2 := celln g3 r2; replace r3 := celln g3 r3
  replace x0 := celln g3 x0; replace x1 := celln g3 x1; replace x2 := celln g3 x2; replace x3 := celln g3 x3
  have k3 := Lib.hid (kbq k2.out g3)
  rw [← hXe] at x0 x1 x2 x3 ⊢
  obtain ⟨A1, c1, rfl, hc1, hc2, hS⟩ := HO.sts (small_words hL)
  have hm : (prW s E B c).length = 4 ∨ (prW s E B c).length = 5 := by
    unfold prW
    rw [if_neg (fun g => g hR)]
    split
    · exact .inl rfl
    · exact .inr rfl
  obtain ⟨L, hLe⟩ : ∃ L, L = prW s E B c := ⟨_, rfl⟩
  rw [← hLe] at hm hS hL hc1
  rw [← hLe]
  obtain ⟨m, hme⟩ : ∃ m, m = L.length := ⟨_, rfl⟩
  rw [← hme] at hm hS hc1
  rw [← hme]
  obtain ⟨b1, f1, rfl, hbl, _⟩ := hS.2.2 (by omega)
  obtain ⟨jm, hj1, hj2⟩ : ∃ jm : Nat, which.tmod (m : Int) = (jm : Int) ∧ jm < m := by
    have h1 := Int.tmod_eq_emod_of_nonneg hwh.1 (b := (m : Int))
    have h2 := Int.emod_nonneg which (b := (m : Int)) (by omega)
    have h3 := Int.emod_lt_of_pos which (b := (m : Int)) (by omega)
    exact ⟨(which % (m : Int)).toNat, by omega, by omega⟩
  obtain ⟨j7, hj3, hj4⟩ : ∃ j7 : Nat, (which / 8) % 7 = (j7 : Int) ∧ j7 < 7 := ⟨((which / 8) % 7).toNat, by omega, by omega⟩
  have d1 : which.tdiv 8 = which / 8 := Int.tdiv_eq_ediv_of_nonneg hwh.1
  have d2 : IntKind.u8.wrap (which / 8) = which / 8 := IntWalk.u8_in _ (by omega)
  have d3 : (which / 8).tmod 7 = (j7 : Int) := by rw [Int.tmod_eq_emod_of_nonneg (by omega), hj3]
  have d4 : IntKind.u8.wrap (j7 : Int) = (j7 : Int) := IntWalk.u8_in _ (by omega)
  have d5 : IntKind.i64.wrap which = which := IntWalk.i64_in _ (by omega)
  have d6 : IntKind.i64.wrap (jm : Int) = (jm : Int) := IntWalk.i64_in _ (by omega)
  have d7 : ((m : Int) == 0) = false := by simp; omega
  have d8 : (0 : Int) ≤ (jm : Int) := by omega
  have d9 : (jm : Int) < (m : Int) := by omega
  have d10 : (0 : Int) ≤ (j7 : Int) := by omega
  have d11 : (j7 : Int) < 7 := by omega
  have d12 : ¬ (m : Int) = 0 := by omega
  have HS := Lib.hid hS
  have HLm := Lib.hid hL
  have HM := Lib.hid hm
  have HME := Lib.hid hme
  clear g3 k2 P2 hXe HO hR o2 o3 o4 o5 hLe hc1 hc2 hwh hS hL hm hme hj3
  go_wp2_with (at_builtin; refine wpList_app_texts _ rfl _ _ rfl w2.heap.size (.slice none 0 0) [] rfl (ORow.nil _ _) b1 f1 m c1 L rfl HS.out (by have := HM.out; omega) m (by simp) (by have := HM.out; omega) (Nat.le_refl _) ?_; intro g4 cap4 w4 own4 b4; have B4 := Lib.hid b4; have V4 := Lib.hid own4; clear own4 b4; refine stopHere ?_)
  unfold Stop
  obtain ⟨e1, e2⟩ := V4.out.cell HME.out.symm jm hj2
  have e3 := lt_of_cell e1
  have e4 := Nat.ne_of_lt e3
  have SV := sev_at w4 q name v 9 j7 hj4
  have PQ := Lib.hid (fun W => refPrint_any q W HQ.out)
  generalize hT7 : (sev q name v).getD j7 nob = T7 at SV
  generalize L.getD jm nob = old at e1
  have hlen : (L.set jm T7).length = m := by rw [List.length_set]; exact HME.out.symm
  have VP := Lib.hid (V4.out.put HME.out.symm jm T7)
  go_upto_region 7 with fail
  go_cut [23] from 60 to 77 (fun cc wx => cc = .slice (some ⟨g4, 0, none⟩) m cap4 ∧ Below w2.heap.size w2 wx ∧ ORow wx w2.heap.size (.slice (some ⟨g4, 0, none⟩) m cap4) (L.set jm T7))
  case first =>
    have HL2 := Lib.hid hlen
    clear hlen
    have g40 : w2.heap.size ≤ g4 := own_lt V4.out g4 rfl
    have BP := Lib.hid (B4.out.setCell (p := ⟨g4, jm, none⟩) g40 (.string T7))
    clear g40
    go_region_with (first | (go_at_call 12; ((with_reducible refine (PQ.out _).mono ?_); rintro r w5 ⟨rfl, rfl⟩)))
    all_goals
      go_wp2
      go_meet
      case rel => exact ⟨rfl, (BP.out.alloc BP.out.size _).drew, (World.ownsRow.alloc VP.out _).drew⟩
  case rest =>
    obtain ⟨rfl, B5, V5⟩ := hcut
    have limB : Lim (L.set jm T7) := by
      intro x hx
      rcases List.mem_or_eq_of_mem_set hx with hx | rfl
      · exact HLm.out x hx
      · rw [← hT7]; exact sev_lim q name v j7 HQ.out y2 y3
    have limM : Lim (L.set jm T7 ++ [v]) := lim_app limB (lim_one (by omega))
    have k5 := kbq k3.out B5
    have S5 := (V5.rows limB).1
    replace r0 := celln B5 r0; replace r1 := celln B5 r1; replace r2 := celln B5 r2; replace r3 := celln B5 r3
    replace x0 := celln B5 x0; replace x1 := celln B5 x1; replace x2 := celln B5 x2; replace x3 := celln B5 x3
    have SL5 := Lib.hid (HS.out.below B5)
    have SX5 := Lib.hid (HX.out.below k5)
    have SB5 := Lib.hid S5
    have LB := Lib.hid limB
    have LM := Lib.hid limM
    have K5 := Lib.hid k5
    have C1 := Lib.hid (fun W (h : Nam W) => kind_any name W h)
    have C2 := Lib.hid (fun W => refKind_any name W)
    have hu := kin_U name
    generalize kinI name = ki at *
    generalize kinB name = kb at *
    have HMb := HM.out
    clear hT7 HS HX B4 V4 VP SV PQ e1 e2 e3 e4 k3 k5 B5 V5 S5 limB limM hlen hj1 hj2 hj4 d1 d2 d3 d4 d5 d6 d7 d8 d9 d10 d11 d12 hu HM
    go_wp2_with (first
      | (go_at_call 13; ((with_reducible refine (C1.out _ (hN.below K5.out)).mono ?_); rintro r w9 ⟨rfl, rfl⟩))
      | (go_at_call 14; ((with_reducible refine (C2.out _).mono ?_); rintro r w9 ⟨rfl, rfl⟩))
      | (at_builtin; refine wpList_app_texts _ rfl _ _ rfl wc.heap.size (.slice none 0 0) [] rfl (ORow.nil _ _) g4 0 m cap4 (L.set jm T7) rfl SB5.out (by omega) m (by simp) (by omega) (Nat.le_refl _) ?_; intro g6 cap6 w6 own6 b6; have B6 := Lib.hid b6; have V6 := Lib.hid own6; clear own6 b6; refine stopHere ?_))
    unfold Stop
    have k7 := B6.out.alloc B6.out.size (.cells #[.string v] 9)
    have S7 := Lib.hid (sts_alloc w6 [v] 9 (small_words (lim_one (by omega))))
    have V7 := Lib.hid (V6.out.below ((Below.refl _ w6).alloc (Nat.le_refl _) (.cells #[.string v] 9)))
    have K7 := Lib.hid k7
    have HL5 : Hid ((L.set jm T7).length = m) := Lib.hid (by rw [List.length_set]; exact HME.out.symm)
    clear k7
    go_wp2_with (at_builtin; refine wpList_app_texts _ rfl _ _ rfl wc.heap.size (.slice (some ⟨g6, 0, none⟩) m cap6) (L.set jm T7) rfl V7.out w6.heap.size 0 1 1 [v] rfl S7.out (by omega) (m + 1) (by rw [HL5.out]) (by omega) K7.out.size ?_; intro g8 cap8 w8 own8 b8; have B8 := Lib.hid (K7.out.trans b8); have V8 := Lib.hid own8; clear own8 b8; refine stopHere ?_)
    unfold Stop
    replace r0 := celln B8.out r0; replace r1 := celln B8.out r1; replace r2 := celln B8.out r2; replace r3 := celln B8.out r3
    replace x0 := celln B8.out x0; replace x1 := celln B8.out x1; replace x2 := celln B8.out x2; replace x3 := celln B8.out x3
    have X8 := Nat.ne_of_lt (lt_of_cell x0)
    have Y8 := Nat.ne_of_lt (lt_of_cell r0)
    have X9 := lt_of_cell x0
    have Y9 := lt_of_cell r0
    go_wp2_with fail
    obtain ⟨z0, z1, z2, z3⟩ := new_cells w8 s q B c
    have b9 : Below w8.heap.size w8 (w8.alloc (.cells #[.string s, .int .u64 q, .int .u64 B, .int .u8 c] 24)) := (Below.refl _ _).alloc (Nat.le_refl _) _
    replace r0 := celln b9 r0; replace r1 := celln b9 r1; replace r2 := celln b9 r2; replace r3 := celln b9 r3
    replace x0 := celln b9 x0; replace x1 := celln b9 x1; replace x2 := celln b9 x2; replace x3 := celln b9 x3
    obtain ⟨R8, _, _, _⟩ := V8.out.rows LM.out
    have SM9 := Lib.hid (R8.below b9)
    have B9 := kbq B8.out b9
    have SL9 := Lib.hid (SL5.out.below B9)
    have SX9 := Lib.hid (SX5.out.below B9)
    have SB9 := Lib.hid (SB5.out.below B9)
    have K9 := Lib.hid (kbq K5.out B9)
    have AR := Lib.hid (fun W hN => asks_any p e b k W hN (by omega) HE.out HBb.out HKk.out)
    have AO := Lib.hid (fun W hN => asks_any s E B c W hN (by omega) (by have := O.e2; omega) (by have := O.b2; omega) (by have := O.k1; have := O.k2; omega))
    have AB := Lib.hid (fun W hN => asks_any s q B c W hN (by omega) HQ.out (by have := O.b2; omega) (by have := O.k1; have := O.k2; omega))
    have NK := Lib.hid (fun W hN => name_any kind W hN hki)
    have NK5 := Lib.hid (fun W hN => name_any (kind % 5) W hN (by omega))
    have RK := Lib.hid (fun W => refName_any kind W)
    have RK5 := Lib.hid (fun W => refName_any (kind % 5) W)
    have t1 : kind.tmod 5 = kind % 5 := Int.tmod_eq_emod_of_nonneg hki.1
    have t2 : IntKind.u8.wrap (kind % 5) = kind % 5 := IntWalk.u8_in _ (by omega)
    have PL := Lib.hid (fun W hS hN => parses_any A n cap xs W hS HF.out hN)
    have Pl := Lib.hid (fun W hS hN => parses_any (some ⟨b1, f1, none⟩) m c1 L W hS HLm.out hN)
    have Pb := Lib.hid (fun W hS hN => parses_any (some ⟨g4, 0, none⟩) m cap4 (L.set jm T7) W hS LB.out hN)
    have Pm := Lib.hid (fun W hS hN => parses_any (some ⟨g8, 0, none⟩) (m + 1) cap8 (L.set jm T7 ++ [v]) W hS LM.out hN)
    have HN9 := Lib.hid (hN.below K9.out)
    have q1 : ((namS kind).toList == (namS kind).toList) = true := by simp
    have q2 : ((namS (kind % 5)).toList == (namS (kind % 5)).toList) = true := by simp
    generalize namS kind = nk1 at *
    generalize namS (kind % 5) = nk2 at *
    have KX : Hid (Below (w8.alloc (.cells #[.string s, .int .u64 q, .int .u64 B, .int .u8 c] 24)).heap.size (w8.alloc (.cells #[.string s, .int .u64 q, .int .u64 B, .int .u8 c] 24)) (w8.alloc (.cells #[.string s, .int .u64 q, .int .u64 B, .int .u8 c] 24))) := Lib.hid (Below.refl _ _)
    clear b9 B9 B8 V8 R8 V7 S7 K7 B6 V6 SL5 SX5 SB5 K5 C1 C2 O HF HLm LB LM HQ HE HBb HKk HL5 HME hki
    refine (AR.out _ (HN9.out.below KX.out)).mono ?_
    rintro r w9 ⟨rfl, g⟩
    replace r0 := celln g r0
    replace r1 := celln g r1
    replace r2 := celln g r2
    replace r3 := celln g r3
    replace x0 := celln g x0
    replace x1 := celln g x1
    replace x2 := celln g x2
    replace x3 := celln g x3
    replace z0 := celln g z0
    replace z1 := celln g z1
    replace z2 := celln g z2
    replace z3 := celln g z3
    replace KX := Lib.hid (kbq KX.out g)
    clear g
    go_wp2_with (first
      | (go_at_call 15; ((with_reducible refine (AR.out _ (HN9.out.below KX.out)).mono ?_); rintro r w9 ⟨rfl, g⟩; replace r0 := celln g r0; replace r1 := celln g r1; replace r2 := celln g r2; replace r3 := celln g r3; replace x0 := celln g x0; replace x1 := celln g x1; replace x2 := celln g x2; replace x3 := celln g x3; replace z0 := celln g z0; replace z1 := celln g z1; replace z2 := celln g z2; replace z3 := celln g z3; replace KX := Lib.hid (kbq KX.out g); clear g))
      | (go_at_call 15; ((with_reducible refine (AO.out _ (HN9.out.below KX.out)).mono ?_); rintro r w9 ⟨rfl, g⟩; replace r0 := celln g r0; replace r1 := celln g r1; replace r2 := celln g r2; replace r3 := celln g r3; replace x0 := celln g x0; replace x1 := celln g x1; replace x2 := celln g x2; replace x3 := celln g x3; replace z0 := celln g z0; replace z1 := celln g z1; replace z2 := celln g z2; replace z3 := celln g z3; replace KX := Lib.hid (kbq KX.out g); clear g))
      | (go_at_call 15; ((with_reducible refine (AB.out _ (HN9.out.below KX.out)).mono ?_); rintro r w9 ⟨rfl, g⟩; replace r0 := celln g r0; replace r1 := celln g r1; replace r2 := celln g r2; replace r3 := celln g r3; replace x0 := celln g x0; replace x1 := celln g x1; replace x2 := celln g x2; replace x3 := celln g x3; replace z0 := celln g z0; replace z1 := celln g z1; replace z2 := celln g z2; replace z3 := celln g z3; replace KX := Lib.hid (kbq KX.out g); clear g))
      | (go_at_call 16; ((with_reducible refine (PL.out _ (SX9.out.below KX.out) (HN9.out.below KX.out)).mono ?_); rintro r w9 ⟨rfl, g⟩; replace r0 := celln g r0; replace r1 := celln g r1; replace r2 := celln g r2; replace r3 := celln g r3; replace x0 := celln g x0; replace x1 := celln g x1; replace x2 := celln g x2; replace x3 := celln g x3; replace z0 := celln g z0; replace z1 := celln g z1; replace z2 := celln g z2; replace z3 := celln g z3; replace KX := Lib.hid (kbq KX.out g); clear g))
      | (go_at_call 16; ((with_reducible refine (Pl.out _ (SL9.out.below KX.out) (HN9.out.below KX.out)).mono ?_); rintro r w9 ⟨rfl, g⟩; replace r0 := celln g r0; replace r1 := celln g r1; replace r2 := celln g r2; replace r3 := celln g r3; replace x0 := celln g x0; replace x1 := celln g x1; replace x2 := celln g x2; replace x3 := celln g x3; replace z0 := celln g z0; replace z1 := celln g z1; replace z2 := celln g z2; replace z3 := celln g z3; replace KX := Lib.hid (kbq KX.out g); clear g))
      | (go_at_call 16; ((with_reducible refine (Pb.out _ (SB9.out.below KX.out) (HN9.out.below KX.out)).mono ?_); rintro r w9 ⟨rfl, g⟩; replace r0 := celln g r0; replace r1 := celln g r1; replace r2 := celln g r2; replace r3 := celln g r3; replace x0 := celln g x0; replace x1 := celln g x1; replace x2 := celln g x2; replace x3 := celln g x3; replace z0 := celln g z0; replace z1 := celln g z1; replace z2 := celln g z2; replace z3 := celln g z3; replace KX := Lib.hid (kbq KX.out g); clear g))
      | (go_at_call 16; ((with_reducible refine (Pm.out _ (SM9.out.below KX.out) (HN9.out.below KX.out)).mono ?_); rintro r w9 ⟨rfl, g⟩; replace r0 := celln g r0; replace r1 := celln g r1; replace r2 := celln g r2; replace r3 := celln g r3; replace x0 := celln g x0; replace x1 := celln g x1; replace x2 := celln g x2; replace x3 := celln g x3; replace z0 := celln g z0; replace z1 := celln g z1; replace z2 := celln g z2; replace z3 := celln g z3; replace KX := Lib.hid (kbq KX.out g); clear g))
      | (go_at_call 17; ((with_reducible refine (NK.out _ (HN9.out.below KX.out)).mono ?_); rintro r w9 ⟨rfl, rfl⟩))
      | (go_at_call 17; ((with_reducible refine (NK5.out _ (HN9.out.below KX.out)).mono ?_); rintro r w9 ⟨rfl, rfl⟩))
      | (go_at_call 18; ((with_reducible refine (RK.out _).mono ?_); rintro r w9 ⟨rfl, rfl⟩))
      | (go_at_call 18; ((with_reducible refine (RK5.out _).mono ?_); rintro r w9 ⟨rfl, rfl⟩)))
    go_ret
    exact ⟨rfl, kbq K9.out KX.out⟩

theorem ruleAsks_walk (p : ByteArray) (e b k : Int) (name : ByteArray) (A : Option Addr) (n cap : Nat) (xs : List ByteArray) (A2 : Option Addr) (n2 cap2 : Nat) (every burst kind which q : Int) (v : ByteArray) (w : World) (hN : Nam w)
    (hp : p.size ≤ 140737488351232) (he : 0 ≤ e ∧ e ≤ 18446744073709551615) (hb : 0 ≤ b ∧ b ≤ 18446744073709551615) (hk : 0 ≤ k ∧ k ≤ 255)
    (hnm : name.size ≤ 140737488351232) (hv : v.size ≤ 140737488351232) (hq : 0 ≤ q ∧ q ≤ 18446744073709551615) (hwh : 0 ≤ which ∧ which ≤ 255)
    (hX : Sts w A n xs) (hf : Lim xs) (h : Byts w A2 n2) (hn : n2 ≤ 9223372036854775807)
    (hev : 0 ≤ every ∧ every ≤ 4294967295) (hbu : 0 ≤ burst ∧ burst ≤ 65535) (hki : 0 ≤ kind ∧ kind ≤ 255) (hnn : n ≤ 9223372036854775807) :
    Calls Tryd.prog 3 #[rul p e b k, .string name, .slice A n cap, .slice A2 n2 cap2, .int .u32 every, .int .u16 burst, .int .u8 kind, .int .u8 which, .int .u64 q, .string v] w fun r w' => r = .returned (.bool true) ∧ Below w.heap.size w w' := by
  obtain ⟨E, rfl⟩ := Int.eq_ofNat_of_zero_le he.1
  obtain ⟨B, rfl⟩ := Int.eq_ofNat_of_zero_le hb.1
  obtain ⟨Q, rfl⟩ := Int.eq_ofNat_of_zero_le hq.1
  exact ruleAsks_core p E B k name A n cap xs A2 n2 cap2 every burst kind which Q v w hN hp (by omega) (by omega) hk hnm hv (by omega) hwh hX hf h hn hev hbu hki hnn
end Go.Proofs.YtpkpmbigljkneaaDoor.Wd
