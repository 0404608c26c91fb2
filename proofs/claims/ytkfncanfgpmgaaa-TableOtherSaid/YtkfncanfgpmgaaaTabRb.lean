/- TableRetry answers true, for any deeds and choices; no conditions. -/
import Derived.Test.YtkfncanfgpmgaaaTabRa
import Derived.Deep.LoopGhost
import Derived.Deep.CutRange
namespace Go.Proofs.Ytkfncanfgpmgaaa.Wd
open Go Go.RowKit Go.Shelf Go.Deep
set_option linter.unusedVariables false
set_option maxRecDepth 100000

theorem fld0 (a b c d e f g : Int) (t : Bool) (W : World) : (Instr.field 36 (.agg #[.int .u8 a, .int .u16 b, .int .u64 c, .int .u64 d, .int .u64 e, .int .u64 f, .int .u64 g, .bool t, .int .i64 0, .slice none 0 0]) 0).run Try.prog W = .ok (.int .u8 a) W := by kernel_rfl
theorem ruleK_ok (k : Int) (hk : 0 ≤ k ∧ k < 250) : Okr (ruleK k) ∧ ruE (ruleK k).p (ruleK k).e (ruleK k).b (ruleK k).k = 0 ∧ (ruleK k).e ≤ 3000000000 := by
  have h6 : k % 6 = 0 ∨ k % 6 = 1 ∨ k % 6 = 2 ∨ k % 6 = 3 ∨ k % 6 = 4 ∨ k % 6 = 5 := by omega
  have h3 : k / 6 % 3 = 0 ∨ k / 6 % 3 = 1 ∨ k / 6 % 3 = 2 := by omega
  unfold ruleK
  rw [if_neg (by omega)]
  rcases h6 with h | h | h | h | h | h <;> rcases h3 with g | g | g <;> (unfold ruleP; simp only [h, g]; refine ⟨⟨by decide, by unfold U; decide, by unfold U; decide, by decide⟩, by rw [ru_is]; decide, by decide⟩)
theorem first_vis {s : ByteArray} (h : (lb s).all (fun c => visB (c.toNat : Int)) = true) (h1 : 1 ≤ s.size) : rtB (lb (s.extract 0 1)) = true ∧ (s.extract 0 1).size = 1 := by
  have hs : (s.extract 0 1).size = 1 := by rw [ByteArray.size_extract]; omega
  refine ⟨rtB_of (by omega) (by omega) ?_, hs⟩
  rw [List.all_eq_true] at h ⊢
  intro c hc
  refine h c ?_
  have : lb (s.extract 0 1) = (lb s).extract 0 1 := by simp [lb, ByteArray.data_extract]
  rw [this] at hc
  exact List.mem_of_mem_take (by simpa [List.extract] using hc)
theorem Solo.later {k : ByteArray} {r : Rl} {m c c' f : Int} {S : List Sl} (h : Solo k r c S) (hw : Wf m c S) (hg : Good k r) (hf : Say c r (stOf c r (getS S k)) f) (hl : c ≤ c') (hc' : U c') :
    Say c' r (stOf c' r (getS (S.filter (actB c')) k)) (sbI f (c' - c)) := by
  have hn := Say.none (rule_is3 hg.rule) hg.ok hc' (r := r)
  cases e : getS S k with
  | none =>
    rw [e] at hf
    have h0 : f = 0 := by
      have a := hf.fill hw.cu
      have b := (Say.none (rule_is3 hg.rule) hg.ok hw.cu (r := r)).fill hw.cu
      rw [a] at b; exact b
    have e2 : getS (S.filter (actB c')) k = none := getS_none.2 (fun s hs => getS_none.1 e s (List.mem_filter.1 hs).1)
    rw [e2, h0, show sbI 0 (c' - c) = 0 by unfold sbI; split <;> omega]
    exact hn
  | some s =>
    rw [e] at hf
    obtain ⟨h1, h2⟩ := getS_some e
    have hr := (h s h1).2.1
    have hff : flS c' s = sbI f (c' - c) := by
      have := hf.tells c' hl hc'
      show kfI s.k s.a s.b c' (caI s.r.p s.r.e s.r.b s.r.k) = _
      rw [hr]; exact this
    cases ha : actB c' s with
    | true =>
      have e2 : getS (S.filter (actB c')) k = some s := getS_of (hw.ap.sublist List.filter_sublist) (List.mem_filter.2 ⟨h1, ha⟩) h2
      rw [e2]; exact hf.later hl
    | false =>
      have e2 : getS (S.filter (actB c')) k = none := getS_none.2 (fun t ht e3 => by
        obtain ⟨t1, t2⟩ := List.mem_filter.1 ht
        have := pw_one hw.ap t1 h1 (e3.trans h2.symm)
        rw [this, ha] at t2; cases t2)
      have hz : sbI f (c' - c) = 0 := by
        have h4 : ¬ 0 < flS c' s := by simpa [actB] using ha
        rw [hff] at h4
        have := hf.f0
        unfold sbI at h4 ⊢
        split at h4 <;> (first | (rw [if_pos (by assumption)]) | (rw [if_neg (by assumption)]; omega))
      rw [e2, hz]; exact hn
theorem Solo.code {k : ByteArray} {r : Rl} {m c n f : Int} {S : List Sl} (h : Solo k r c S) (hw : Wf m c S) (hg : Good k r) (hn : U n) (hs : c + capR r ≤ 18446744073709551615) (hf : Say c r (stOf c r (getS S k)) f) :
    (chA m c S k r n).code = if ftB f (wI r n) (capR r) = true then 1 else 2 := by
  rw [(h.charge hw hg hn hs).1, decA_code, (hf.charge hg.ok hw.cu hs hn).1]
theorem cellT {B : Nat → Prop} {w w' : World} {b o : Nat} {v : Value} (g : Tch B w w') (h : w.cell? ⟨b, o, none⟩ = some v) (hb : ¬ B b) : w'.cell? ⟨b, o, none⟩ = some v :=
  (World.cell?_of_block (g.block b (cell_lt h) hb)).trans h
theorem Tbl.drew {w w' : World} {T : Nat} {B : Nat → Prop} {m c : Int} {S : List Sl} (h : Tbl w T B m c S) (g : Drew w w') : Tbl w' T B m c S := by
  obtain ⟨j, rfl⟩ := g
  exact h.keep (fun k _ hl => rfl)
theorem Drew.size {w w' : World} (g : Drew w w') : w'.heap.size = w.heap.size := by obtain ⟨j, rfl⟩ := g; rfl
theorem charge_at (B : Nat → Prop) (T : Nat) (m c : Int) (S : List Sl) (k : ByteArray) (r : Rl) (n : Int) (W V : World) (h : Tbl W T B m c S) (hB : ∀ k, W.heap.size ≤ k → B k) (hk : k.size ≤ 281474976710656) (hr : Okr r) (hn : U n) (hd : Drew W V) :
    Calls Try.prog 10 #[ptr T, .string k, .agg #[.string r.p, .int .u64 r.e, .int .u64 r.b, .int .u8 r.k], .int .u64 n] V fun e w' => e = .returned (chA m c S k r n).v ∧ Hid (Tbl w' T B m c (chN m c S k r n)) ∧ Tch B V w' := by
  refine (charge_tab T _ m c S k r n V (h.drew hd) hk hr hn).mono ?_
  rintro e w' ⟨rfl, g, hT⟩
  exact ⟨rfl, Lib.hid (hT.mono (fun k hk => hk.elim id (fun x => hB k (by rw [hd.size] at x; exact x)))), g⟩
theorem tick_at (B : Nat → Prop) (T : Nat) (m c x : Int) (S : List Sl) (W V : World) (h : Tbl W T B m c S) (hB : ∀ k, W.heap.size ≤ k → B k) (hx : U x) (hd : Drew W V) :
    Calls Try.prog 11 #[ptr T, .int .u64 x] V fun e w' => e = .returned (.int .u64 (max c x)) ∧ Hid (Tbl w' T B m (max c x) (S.filter (actB (max c x)))) ∧ Tch B V w' := by
  refine (tick_any T _ m c x S V (h.drew hd) hx).mono ?_
  rintro e w' ⟨rfl, g, hT⟩
  exact ⟨rfl, Lib.hid (hT.mono (fun k hk => hk.elim id (fun x => hB k (by rw [hd.size] at x; exact x)))), g⟩
theorem clock_at (B : Nat → Prop) (T : Nat) (m c : Int) (S : List Sl) (W V : World) (h : Tbl W T B m c S) (hd : Drew W V) :
    Calls Try.prog 12 #[ptr T] V fun e w' => e = .returned (.int .u64 c) ∧ V = w' := clock_yes T c V (h.drew hd).cells.2.1
theorem Tch.lo {B : Nat → Prop} {n : Nat} {a b : World} (h : Tch B a b) (hn : ∀ k, B k → n ≤ k) (hs : n ≤ a.heap.size) : Below n a b := ⟨h.os, h.tape, h.output, h.size, fun k hk => h.block k (by omega) (fun x => by have := hn k x; omega)⟩
theorem Drew.one (w : World) : Drew w w.drew := ⟨1, rfl⟩
theorem Below_tr {n : Nat} {a b c : World} (h : Below n a b) (g : Below n b c) : Below n a c := h.trans g
theorem Drew.lo {n : Nat} {a b : World} (h : Drew a b) (hs : n ≤ a.heap.size) : Below n a b := by
  obtain ⟨j, rfl⟩ := h
  exact ⟨rfl, rfl, rfl, Nat.le_refl _, fun _ _ => rfl⟩
set_option maxHeartbeats 4000000 in
theorem retry_walk (A : Option Addr) (n cap : Nat) (ds : List Dd) (C : Option Addr) (cn cc : Nat) (cb : List UInt8) (k nn : Int) (w : World) (h : Dds w A n ds) (hC : Txt w C cn cb) (hcn : cn ≤ 9223372036854775807) (hk : 0 ≤ k ∧ k ≤ 255) (hnn : 0 ≤ nn ∧ nn ≤ 65535) :
    Calls Try.prog 3 #[.slice A n cap, .slice C cn cc, .int .u8 k, .int .u16 nn] w fun e w' => e = .returned (.bool true) ∧ Below w.heap.size w w' := by
  have K0 := Lib.hid known_any
  have HD := Lib.hid h
  have CH := Lib.hid (heavy_any A n cap ds w h)
  have CK := Lib.hid (fun W (g : Txt W C cn cb) => key_any C cn cc cb W g hcn)
  have HC := Lib.hid hC
  have hkk : 0 ≤ k % 240 ∧ k % 240 ≤ 255 := by omega
  have CR := Lib.hid (fun W => rule_any (k % 240) W hkk)
  have HR := Lib.hid (ruleK_ok (k % 240) (by omega))
  have HK := Lib.hid (keyT_ok cb)
  clear h hC hcn
  go_enter Try.func3, Try.ntmps3
  go_wp2_with (go_at_call 5; refine CH.out.mono ?_; rintro e W1 ⟨v, rfl, k1⟩; refine stopHere ?_)
  unfold Stop
  by_cases hv : 300 < v
  · have hq := decide_eq_true hv
    clear CH CK CR
    go_wp2_with (go_at_call 6; refine (K0.out _).mono ?_; rintro e W2 ⟨rfl, g⟩)
    go_ret
    exact ⟨rfl, kbq k1 g⟩
  · have hq := decide_eq_false hv
    have hT := Lib.hid (HC.out.below k1)
    have hs := HK.out.1
    go_wp2_with (go_at_call 7; refine (CK.out _ hT.out).mono ?_; rintro e W2 ⟨rfl, g2⟩; refine stopHere ?_)
    unfold Stop
    generalize hKK : keyT cb = kk at *
    obtain ⟨v1k, v2k⟩ := first_vis HK.out.2.2 hs
    have V1 := Lib.hid v1k
    have V2 := Lib.hid v2k
    have k2 := Lib.hid (kbq k1 g2)
    clear v1k v2k CH hT HC g2 CK
    go_wp2_with (go_at_call 8; refine (CR.out _).mono ?_; rintro e W3 ⟨rfl, g3⟩; refine stopHere ?_)
    unfold Stop
    generalize kk.extract 0 1 = nm at *
    generalize ruleK (k % 240) = r at *
    have HG := Lib.hid (show Good nm r from ⟨V1.out, HR.out.2.1, HR.out.1, by have := V2.out; omega⟩)
    clear hKK HK hs V1 V2
    have k4 := Lib.hid ((kbq k2.out g3).alloc (kbq k2.out g3).size (.cells #[.string r.p, .int .u64 r.e, .int .u64 r.b, .int .u8 r.k] 30))
    have b4 := Lib.hid (Blk.new W3 #[.string r.p, .int .u64 r.e, .int .u64 r.b, .int .u8 r.k] 30)
    have hRB := (kbq k2.out g3).size
    obtain ⟨m, hm⟩ : ∃ m : Int, 1 + nn % 8 = m := ⟨_, rfl⟩
    have hm1 : 1 ≤ m ∧ m ≤ 8 := by omega
    have hmw : IntKind.u64.wrap (1 + nn % 8) = m := by rw [IntKind.wrap_u64]; omega
    clear CR g3 k2 k1
    go_wp2_with fail
    generalize W3.alloc (.cells #[.string r.p, .int .u64 r.e, .int .u64 r.b, .int .u8 r.k] 30) = W4 at *
    generalize W3.heap.size = RB at *
    go_loopw [12] (fun v wr => ∃ late : Int, v = .int .u64 late ∧ (late = 0 ∨ late = 1 ∨ late = 2) ∧ Hid (Below w.heap.size w wr) ∧ Hid (Blk wr RB #[.string r.p, .int .u64 r.e, .int .u64 r.b, .int .u8 r.k] 30)) (fun v _ => 2 - (intOf v).toNat)
    case atStart => exact ⟨0, rfl, .inl rfl, k4, b4⟩
    case round =>
      clear k4 b4
      obtain ⟨late, rfl, hlate, kr, br⟩ := hrel
      by_cases hl2 : late = 2
      · subst hl2
        go_wp2_with (go_at_call 6; refine (K0.out _).mono ?_; rintro e W2 ⟨rfl, g⟩)
        go_ret
        exact ⟨rfl, kbq kr.out g⟩
      · have hlt : late < 2 := by omega
        have hl0 : late = 0 ∨ late = 1 := by omega
        clear hlate hl2
        go_wp2_with (go_at_call 9; refine (new_any 9 _).mono ?_; rintro e W5 ⟨rfl, g5, hT5, hs5⟩; refine stopHere ?_)
        unfold Stop
        have H5 := Lib.hid (show Tbl W5 (wr.heap.size + 1) (fun k => wr.heap.size ≤ k) 9 0 [] from hT5.mono (fun k hk => hk.1))
        have k5 := Lib.hid (show Below w.heap.size w W5 ∧ wr.heap.size ≤ W5.heap.size from ⟨kbq kr.out g5, g5.size⟩)
        have b5 := Lib.hid (br.out.below g5)
        have hRw : Hid (RB < wr.heap.size ∧ w.heap.size ≤ wr.heap.size) := Lib.hid ⟨br.out.lt, kr.out.size⟩
        obtain ⟨T, hTT⟩ : ∃ T, wr.heap.size + 1 = T := ⟨_, rfl⟩
        rw [hTT] at H5 ⊢
        obtain ⟨n0, hn0⟩ : ∃ n0, wr.heap.size = n0 := ⟨_, rfl⟩
        rw [hn0] at H5 hRw k5
        clear hTT hT5 g5 kr br hs5 hn0
        go_wp2_with fail
        go_loopw [14] (fun i wi => ∃ (j : Nat) (c : Int) (S : List Sl), i = .int .i64 (j : Int) ∧ (j ≤ n ∧ j ≤ 20) ∧ (0 ≤ c ∧ c ≤ 8 * (j : Int)) ∧ Hid (Tbl wi T (fun k => n0 ≤ k) 9 c S) ∧ Hid (Solo nm r c S) ∧ Hid (Below w.heap.size w wi ∧ n0 ≤ wi.heap.size) ∧ Hid (Blk wi RB #[.string r.p, .int .u64 r.e, .int .u64 r.b, .int .u8 r.k] 30)) (fun i _ => 20 - (intOf i).toNat)
        case atStart => exact ⟨0, 0, [], rfl, ⟨Nat.zero_le _, Nat.zero_le _⟩, ⟨Int.le_refl _, Int.le_refl _⟩, H5, Lib.hid (Solo.nil _ _ _), k5, b5⟩
        case round =>
          clear H5 k5 b5
          obtain ⟨j, c, S, rfl, ⟨hjn, hj20⟩, ⟨hc0, hc8⟩, HT, HS, HB, HRB⟩ := hrel
          go_upto_region 13 with fail
          go_cut [45] from 38 to 45 (fun v wx => ∃ t : Bool, v = .bool t ∧ Hid (t = true ↔ (j < n ∧ j < 20)) ∧ Hid (wx = wr))
          case first =>
            by_cases q1 : j < n
            · have q1' : (j : Int) < (n : Int) := by omega
              by_cases q2 : j < 20
              · have q2' : (j : Int) < 20 := by omega
                go_wp2
                go_meet
                case rel => exact ⟨true, rfl, Lib.hid (by simp [q1, q2]), Lib.hid rfl⟩
              · have q2' : decide ((j : Int) < 20) = false := decide_eq_false (by omega)
                go_wp2
                go_meet
                case rel => exact ⟨false, rfl, Lib.hid (by simp [q2]), Lib.hid rfl⟩
            · have q1' : decide ((j : Int) < (n : Int)) = false := decide_eq_false (by omega)
              go_wp2
              go_meet
              case rel => exact ⟨false, rfl, Lib.hid (by simp [q1]), Lib.hid rfl⟩
          case rest =>
          obtain ⟨tt, rfl, htt, hwx⟩ := hcut
          obtain rfl := hwx.out.symm
          clear hwx
          cases tt
          rotate_left
          · obtain ⟨hj1, hj2⟩ := htt.out.1 rfl
            clear htt
            obtain ⟨b, off, ka, kn, kc, rfl, hd0⟩ := HD.out.2.2.2 j hj1
            have hok := HD.out.ok hj1
            obtain ⟨d, hdd⟩ : ∃ d, ds.getD j dd0 = d := ⟨_, rfl⟩
            rw [hdd] at hd0 hok
            have hbw := cell_lt hd0.c0
            have hd := hd0.below HB.out.1
            have d1 := hd.c1
            have d5 := hd.c5
            have hdn := hok.n
            have hdw := hok.wait
            have nb : ¬ (n0 ≤ b) := by have := hRw.out; omega
            have nRB : ¬ (n0 ≤ RB) := by have := hRw.out; omega
            have hnw : n0 ≤ wr.heap.size := HB.out.2
            obtain ⟨x0, x1, x2, x3, _⟩ := blk4 HRB.out
            have CC := Lib.hid (fun V => charge_at _ T 9 c S nm r (d.n % 4) wr V HT.out (fun k hk => Nat.le_trans hnw hk) (by have := HG.out.size; omega) HG.out.ok (by unfold U; omega))
            have tm4 : d.n.tmod 4 = d.n % 4 := Int.tmod_eq_emod_of_nonneg hdn.1
            have wn4 : IntKind.u64.wrap (d.n % 4) = d.n % 4 := by rw [IntKind.wrap_u64]; omega
            have jn : (j : Int) < (n : Int) := by omega
            have j0 : (0 : Int) ≤ (j : Int) := by omega
            have j20 : (j : Int) < 20 := by omega
            clear hdd hd0 hok hd
            go_wp2_with fail
            go_region_held3 (fun w' => w'.cell? ⟨RB, 0, none⟩ = some (.string r.p) ∧ w'.cell? ⟨RB, 1, none⟩ = some (.int .u64 r.e) ∧ w'.cell? ⟨RB, 2, none⟩ = some (.int .u64 r.b) ∧ w'.cell? ⟨RB, 3, none⟩ = some (.int .u8 r.k) ∧ w'.cell? ⟨b, off + j * 7 + 5, none⟩ = some (.int .u16 d.n))
              (first | with_reducible exact ⟨x0, x1, x2, x3, d5⟩ | with_reducible exact ⟨dcell x0, dcell x1, dcell x2, dcell x3, dcell d5⟩)
              (first
                | (go_at_call 10; ((with_reducible refine (CC.out _ (by first | exact Drew.refl _ | exact Drew.one _)).mono ?_); rintro r W6 ⟨rfl, hT1, g⟩; (first | with_reducible (skip; replace x0 := cellT g x0 nRB; replace x1 := cellT g x1 nRB; replace x2 := cellT g x2 nRB; replace x3 := cellT g x3 nRB; replace d5 := cellT g d5 nb) | with_reducible (skip; replace x0 := cellT g (dcell x0) nRB; replace x1 := cellT g (dcell x1) nRB; replace x2 := cellT g (dcell x2) nRB; replace x3 := cellT g (dcell x3) nRB; replace d5 := cellT g (dcell d5) nb)))))
            rename_i hH
            clear hH
            have d1 := cellT g (dcell d1) nb
            have b6 := Lib.hid (g.blk (show Blk wr.drew RB #[.string r.p, .int .u64 r.e, .int .u64 r.b, .int .u8 r.k] 30 from HRB.out) nRB)
            have k6 := Lib.hid (show Below w.heap.size w W6 ∧ n0 ≤ W6.heap.size from ⟨HB.out.1.trans ((Drew.lo (Drew.one wr) HB.out.1.size).trans (g.lo (fun k hk => Nat.le_trans hRw.out.2 hk) HB.out.1.size)), Nat.le_trans hnw g.size⟩)
            have s6 := Lib.hid (HS.out.charge HT.out.wf HG.out (show U (d.n % 4) by unfold U; omega) (by have := HG.out.cap; omega)).2.2
            obtain ⟨S1, hS1⟩ : ∃ S1, chN 9 c S nm r (d.n % 4) = S1 := ⟨_, rfl⟩
            rw [hS1] at hT1 s6
            have CL := Lib.hid (fun V => clock_at _ T 9 c S1 W6 V hT1.out)
            have CT := Lib.hid (fun V => tick_at _ T 9 c (c + d.wait % 9) S1 W6 V hT1.out (fun k hk => Nat.le_trans k6.out.2 hk) (by unfold U; omega))
            have tm9 : d.wait.tmod 9 = d.wait % 9 := Int.tmod_eq_emod_of_nonneg hdw.1
            have wx : IntKind.u64.wrap (c + d.wait % 9) = c + d.wait % 9 := by rw [IntKind.wrap_u64]; omega
            have wx2 : IntKind.u64.wrap (d.wait % 9) = d.wait % 9 := by rw [IntKind.wrap_u64]; omega
            clear x0 x1 x2 x3 d5 CC HT HS HB HRB g hS1 hnw
            go_wp2_with fail
            go_region_held3 (fun w' => w'.cell? ⟨b, off + j * 7 + 1, none⟩ = some (.int .u32 d.wait))
              (first | with_reducible exact d1 | with_reducible exact dcell d1)
              (first
                | (go_at_call 12; ((with_reducible refine (CL.out _ (by first | exact Drew.refl _ | exact Drew.one _)).mono ?_); rintro r _ ⟨rfl, rfl⟩))
                | (go_at_call 11; ((with_reducible refine (CT.out _ (by first | exact Drew.refl _ | exact Drew.one _)).mono ?_); rintro r W7 ⟨rfl, hT2, g⟩; (first | with_reducible (skip; replace d1 := cellT g d1 nb) | with_reducible (skip; replace d1 := cellT g (dcell d1) nb)))))
            rename_i hH
            clear hH
            have b7 := Lib.hid (g.blk (show Blk W6.drew RB #[.string r.p, .int .u64 r.e, .int .u64 r.b, .int .u8 r.k] 30 from b6.out) nRB)
            have k7 := Lib.hid (show Below w.heap.size w W7 ∧ n0 ≤ W7.heap.size from ⟨k6.out.1.trans ((Drew.lo (Drew.one W6) k6.out.1.size).trans (g.lo (fun k hk => Nat.le_trans hRw.out.2 hk) k6.out.1.size)), Nat.le_trans k6.out.2 g.size⟩)
            have s7 := Lib.hid (s6.out.tick (show c ≤ max c (c + d.wait % 9) by omega))
            clear CL CT d1 g k6 b6 s6 hT1
            go_wp2
            go_roundw
            case rel => exact ⟨j + 1, _, _, by go_num, ⟨by omega, by omega⟩, ⟨by omega, by omega⟩, hT2, s7, k7, b7⟩
            case measure => simp [intOf]; omega
          · clear htt
            obtain ⟨f, hf⟩ := HS.out.st HT.out.wf HG.out
            have hcap := HG.out.cap
            have hmU : U m := by unfold U; omega
            obtain ⟨e1, e2, hS1⟩ := HS.out.charge HT.out.wf HG.out hmU (by omega)
            have CC := charge_at _ T 9 c S nm r m wr wr HT.out (fun k hk => Nat.le_trans HB.out.2 hk) (by have := HG.out.size; omega) HG.out.ok hmU (Drew.refl _)
            have hcu := HT.out.wf.cu
            obtain ⟨a1, a2, a3⟩ := hf.charge HG.out.ok hcu (by omega) hmU
            have hfl := hf.fill hcu
            obtain ⟨st, hst⟩ : ∃ st, stOf c r (getS S nm) = st := ⟨_, rfl⟩
            rw [e1, hst] at CC
            rw [hst] at hf a1 a2 a3 hfl
            obtain ⟨S1, hS⟩ : ∃ S1, chN 9 c S nm r m = S1 := ⟨_, rfl⟩
            rw [hS] at CC hS1
            -- what is told
            obtain ⟨wm, hwm⟩ : ∃ wm, m * r.e = wm := ⟨_, rfl⟩
            have hwr : wI r m = wm := by
              show sat (m * r.e) = wm
              have := HG.out.pos
              have := HR.out.2.2
              have : m * r.e ≤ 8 * 3000000000 := Int.mul_le_mul hm1.2 (by omega) (by omega) (by omega)
              rw [hwm] at this ⊢
              exact sat_id _ (by omega)
            have hret : (decA c r st m).retry = kwB f (capR r) wm := by show kwB (flT c r st) _ _ = _; rw [hfl, hwr]
            have hnan : (decA c r st m).nanos = kwI f (capR r) wm := by show kwI (flT c r st) _ _ = _; rw [hfl, hwr]
            have haft : (decA c r st m).after = clI (kwI f (capR r) wm) 1000000000 := by show clI (kwI (flT c r st) (capR r) (wI r m)) 1000000000 = _; rw [hfl, hwr]
            have hcod : (decA c r st m).code = if ftB f wm (capR r) = true then 1 else 2 := by rw [decA_code, a1, hwr]
            rw [hwr] at a1 a3
            have HF := Lib.hid hf
            have HS1 := Lib.hid hS1
            have nRB : ¬ (n0 ≤ RB) := by have := hRw.out; omega
            have h1m : hm1 = hm1 := rfl
            obtain ⟨x0, x1, x2, x3, _⟩ := blk4 HRB.out
            generalize decA c r st m = aa at CC hret hnan haft hcod
            obtain ⟨ac, ae, al, av, ar, af, an, at'⟩ := aa
            simp only at hret hnan haft hcod
            have CC := Lib.hid CC
            have E1 := Lib.hid a1
            have E3 := Lib.hid a3
            have HST := Lib.hid hst
            have HSS := Lib.hid (show S1 = decS c S nm r st m by rw [← hS, e2, hst])
            clear e1 e2 hS1 hf hfl a1 a2 a3 hst hS h1m
            have AN : Hid (∀ V : World, Hid (Tbl V T (fun k => n0 ≤ k) 9 c S1) → Blk V RB #[.string r.p, .int .u64 r.e, .int .u64 r.b, .int .u8 r.k] 30 → n0 ≤ V.heap.size → True) := Lib.hid (fun _ _ _ _ => trivial)
            clear AN
            go_wp2_with fail
            go_at_call 10
            with_reducible refine CC.out.mono ?_
            rintro e W8 ⟨rfl, hT8, g8⟩
            have b8 := Lib.hid (g8.blk HRB.out nRB)
            have k8 := Lib.hid (show Below w.heap.size w W8 ∧ n0 ≤ W8.heap.size from ⟨HB.out.1.trans (g8.lo (fun k hk => Nat.le_trans hRw.out.2 hk) HB.out.1.size), Nat.le_trans HB.out.2 g8.size⟩)
            clear CC HT HS HB HRB g8 x0 x1 x2 x3
            have b9 := Lib.hid (b8.out.alloc (.cells #[.int .u8 ac, .int .u16 ae, .int .u64 al, .int .u64 av, .int .u64 ar, .int .u64 af, .int .u64 an, .bool at', .int .i64 0, .slice none 0 0] 36))
            have a9 := Lib.hid (Blk.new W8 #[.int .u8 ac, .int .u16 ae, .int .u64 al, .int .u64 av, .int .u64 ar, .int .u64 af, .int .u64 an, .bool at', .int .i64 0, .slice none 0 0] 36)
            have k9 := Lib.hid (k8.out.1.alloc k8.out.1.size (.cells #[.int .u8 ac, .int .u16 ae, .int .u64 al, .int .u64 av, .int .u64 ar, .int .u64 af, .int .u64 an, .bool at', .int .i64 0, .slice none 0 0] 36))
            have hX8 := Lib.hid (show RB < W8.heap.size ∧ n0 ≤ W8.heap.size ∧ (W8.alloc (.cells #[.int .u8 ac, .int .u16 ae, .int .u64 al, .int .u64 av, .int .u64 ar, .int .u64 af, .int .u64 an, .bool at', .int .i64 0, .slice none 0 0] 36)).heap.size = W8.heap.size + 1 from ⟨b8.out.lt, k8.out.2, by simp⟩)
            have t9 := Lib.hid (show Tbl (W8.alloc (.cells #[.int .u8 ac, .int .u16 ae, .int .u64 al, .int .u64 av, .int .u64 ar, .int .u64 af, .int .u64 an, .bool at', .int .i64 0, .slice none 0 0] 36)) T (fun k => (n0 ≤ k ∧ k < W8.heap.size) ∨ W8.heap.size < k) 9 c S1 from (hT8.out.low.below ((Below.refl _ W8).alloc (Nat.le_refl _) (.cells #[.int .u8 ac, .int .u16 ae, .int .u64 al, .int .u64 av, .int .u64 ar, .int .u64 af, .int .u64 an, .bool at', .int .i64 0, .slice none 0 0] 36))).mono (fun k hk => .inl hk))
            obtain ⟨y0, y1, y2, y3, y4, y5, y6, y7, y8, y9, _⟩ := blk10 a9.out
            obtain ⟨x0, x1, x2, x3, _⟩ := blk4 b9.out
            clear b8 k8 hT8
            cases hin : ftB f wm (capR r)
            · rw [hin] at hcod
              simp only [Bool.false_eq_true, if_false] at hcod
              subst hcod
              have hSS : S1 = S := by rw [HSS.out]; unfold decS; rw [E1.out, hin]; rfl
              have HS2 := Lib.hid (show Solo nm r c S1 from HS1.out)
              have HF1 := Lib.hid (show Say c r (stOf c r (getS S1 nm)) f by rw [hSS, HST.out]; exact HF.out)
              have hf0 := HF.out.f0
              have hf1 := HF.out.f1
              have HIN := Lib.hid hin
              have hin' : ¬ f + wm ≤ capR r := by unfold ftB at hin; simpa using hin
              clear hSS HSS E1 E3 HST HF HS1
              by_cases hwc : wm ≤ capR r
              · have hb1 : kwB f (capR r) wm = true := by unfold kwB; simp; omega
                have hn1 : kwI f (capR r) wm = f + wm - capR r := by unfold kwI; rw [hb1]; rfl
                rw [hb1] at hret
                rw [hn1] at hnan haft
                subst hret
                have hwx1 : IntKind.u64.wrap (c + an) = c + an := by rw [IntKind.wrap_u64]; omega
                have hwx2 : IntKind.u64.wrap (c + an - late) = c + an - late := by rw [IntKind.wrap_u64]; omega
                have hU1 : U (c + an - late) := by unfold U; omega
                have hmx : max c (c + an - late) = c + an - late := by omega
                have hq0 : (af != (an + 999999999) / 1000000000) = false := by
                  have : af = (an + 999999999) / 1000000000 := by rw [haft, ← hnan]; unfold clI; rw [if_neg (by omega)]; split <;> omega
                  simp [this]
                have hwx3 : IntKind.u64.wrap (an + 999999999) = an + 999999999 := by rw [IntKind.wrap_u64]; omega
                have htd : (an + 999999999).tdiv 1000000000 = (an + 999999999) / 1000000000 := Int.tdiv_eq_ediv_of_nonneg (by omega)
                have hwx4 : IntKind.u64.wrap ((an + 999999999) / 1000000000) = (an + 999999999) / 1000000000 := by rw [IntKind.wrap_u64]; omega
                have haU : 0 ≤ an ∧ an ≤ 4611686018427387904 := by omega
                have hand : an = f + wm - capR r := hnan
                have HAN := Lib.hid hand
                have HNN := Lib.hid hf0
                clear haft hnan hand hb1 hn1
                go_wp2_with fail
                generalize hW9 : W8.alloc (.cells #[.int .u8 2, .int .u16 ae, .int .u64 al, .int .u64 av, .int .u64 ar, .int .u64 af, .int .u64 an, .bool true, .int .i64 0, .slice none 0 0] 36) = W9 at *
                generalize hXX : W8.heap.size = X at *
                clear hW9 hXX
                have nX : ¬ ((n0 ≤ X ∧ X < X) ∨ X < X) := by omega
                have nRB2 : ¬ ((n0 ≤ RB ∧ RB < X) ∨ X < RB) := by have := hX8.out; omega
                have hBz : ∀ V : World, V.heap.size ≥ W9.heap.size → ∀ k, V.heap.size ≤ k → ((n0 ≤ k ∧ k < X) ∨ X < k) := fun V hV k hk => by have := hX8.out.2.2; omega
                have CL := Lib.hid (fun V => clock_at _ T 9 c S1 W9 V t9.out)
                have CT := Lib.hid (fun V => tick_at _ T 9 c (c + an - late) S1 W9 V t9.out (hBz W9 (Nat.le_refl _)) hU1)
                have ZZ := Lib.hid (And.intro a9.out b9.out)
                have HBZ := Lib.hid hBz
                have HQ0 := Lib.hid hq0
                clear hBz x0 x1 x2 x3 y0 y1 y2 y3 y4 y5 y7 y8 y9 hq0 hwx3 htd hwx4
                go_region_held3 (fun w' => w'.cell? ⟨X, 6, none⟩ = some (.int .u64 an))
                  (first | with_reducible exact y6 | with_reducible exact dcell y6)
                  (first
                    | (go_at_call 12; ((with_reducible refine (CL.out _ (by first | exact Drew.refl _ | exact Drew.one _)).mono ?_); rintro r _ ⟨rfl, rfl⟩))
                    | (go_at_call 11; ((with_reducible refine (CT.out _ (by first | exact Drew.refl _ | exact Drew.one _)).mono ?_); rintro r W10 ⟨rfl, hT2, g⟩; (first | with_reducible (skip; replace y6 := cellT g y6 nX) | with_reducible (skip; replace y6 := cellT g (dcell y6) nX)))))
                rename_i hH
                clear hH
                have a10 := Lib.hid (g.blk (show Blk W9.drew X _ _ from ZZ.out.1) nX)
                have b10 := Lib.hid (g.blk (show Blk W9.drew RB _ _ from ZZ.out.2) nRB2)
                have k10 := Lib.hid (k9.out.trans ((Drew.lo (Drew.one W9) k9.out.size).trans (g.lo (fun k hk => by have := hRw.out; have := hX8.out; omega) k9.out.size)))
                have hsz10 := g.size
                have SF := HS2.out.later t9.out.wf HG.out HF1.out (show c ≤ c + an - late by omega) hU1
                rw [hmx] at hT2
                have cd := (HS2.out.tick (show c ≤ c + an - late by omega)).code hT2.out.wf HG.out hmU (by omega) SF
                have CC2 := charge_at _ T 9 (c + an - late) _ nm r m W10 W10 hT2.out (HBZ.out W10 hsz10) (by have := HG.out.size; omega) HG.out.ok hmU (Drew.refl _)
                have hcd : (chA 9 (c + an - late) (S1.filter (actB (c + an - late))) nm r m).code = if late = 0 then 1 else 2 := by
                  rw [cd, hwr]
                  have := HAN.out
                  unfold ftB sbI
                  rcases hl0 with h0 | h0
                  · rw [if_pos h0, if_pos (by split <;> simp <;> omega)]
                  · rw [if_neg (by split <;> simp <;> omega), if_neg (by omega)]
                clear cd SF
                generalize chA 9 (c + an - late) (S1.filter (actB (c + an - late))) nm r m = ba at CC2 hcd
                obtain ⟨bc, be, bl, bv, br', bf, bn, bt⟩ := ba
                simp only at hcd
                generalize chN 9 (c + an - late) (S1.filter (actB (c + an - late))) nm r m = S3 at CC2
                have CC2 := Lib.hid CC2
                obtain ⟨x0, x1, x2, x3, _⟩ := blk4 b10.out
                clear g y6 CL CT ZZ t9 a9 b9 k9 hT2
                go_wp2_with fail
                go_at_call 10
                refine CC2.out.mono ?_
                rintro e W11 ⟨rfl, hT11, g11⟩
                have a11 := Lib.hid ((g11.blk a10.out nX).alloc (.cells (An.cs ⟨bc, be, bl, bv, br', bf, bn, bt⟩) 36))
                have b11 := Lib.hid ((g11.blk b10.out nRB2).alloc (.cells (An.cs ⟨bc, be, bl, bv, br', bf, bn, bt⟩) 36))
                have k11 := Lib.hid ((k10.out.trans (g11.lo (fun k hk => by have := hRw.out; have := hX8.out; omega) k10.out.size)).alloc (k10.out.trans (g11.lo (fun k hk => by have := hRw.out; have := hX8.out; omega) k10.out.size)).size (.cells (An.cs ⟨bc, be, bl, bv, br', bf, bn, bt⟩) 36))
                have n11 := Lib.hid (Blk.new W11 (An.cs ⟨bc, be, bl, bv, br', bf, bn, bt⟩) 36)
                clear x0 x1 x2 x3 a10 b10 k10 g11 hT11 CC2
                obtain ⟨y0, y1, y2, y3, y4, y5, y6, y7, y8, y9, _⟩ := blk10 a11.out
                obtain ⟨v0, _⟩ := blk10 n11.out
                have hwx3 : IntKind.u64.wrap (an + 999999999) = an + 999999999 := by rw [IntKind.wrap_u64]; omega
                have htd : (an + 999999999).tdiv 1000000000 = (an + 999999999) / 1000000000 := Int.tdiv_eq_ediv_of_nonneg (by omega)
                have hq0 := HQ0.out
                rcases hl0 with h0 | h0
                · rw [if_pos h0] at hcd
                  subst h0 hcd
                  go_wp2_with fail
                  exact ⟨⟨1, rfl, .inr (.inl rfl), k11, b11⟩, by simp [intOf]⟩
                · rw [if_neg (by omega)] at hcd
                  subst h0 hcd
                  go_wp2_with fail
                  exact ⟨⟨2, rfl, .inr (.inr rfl), k11, b11⟩, by simp [intOf]⟩
              · have hb0 : kwB f (capR r) wm = false := by unfold kwB; simp; omega
                have hn0 : kwI f (capR r) wm = 0 := by unfold kwI; rw [hb0]; rfl
                rw [hb0] at hret
                rw [hn0] at hnan
                subst hret hnan
                clear haft
                have hwx1 : IntKind.u64.wrap (c + 4611686018427387904) = c + 4611686018427387904 := by rw [IntKind.wrap_u64]; omega
                have hmb : decide (r.b < m) = true := by
                  have hp := HG.out.pos
                  have : ¬ m ≤ r.b := fun x => by
                    have h1 : m * r.e ≤ r.b * r.e := Int.mul_le_mul_of_nonneg_right x (by omega)
                    rw [Int.mul_comm r.b r.e] at h1
                    omega
                  exact decide_eq_true (by omega)
                have CL := Lib.hid (clock_at _ T 9 c S1 _ _ t9.out (Drew.refl _))
                have CT := Lib.hid (tick_at _ T 9 c (c + 4611686018427387904) S1 _ _ t9.out (fun k hk => by have := hX8.out.2.2; omega) (by unfold U; omega) (Drew.refl _))
                rw [show max c (c + 4611686018427387904) = c + 4611686018427387904 by omega] at CT
                go_wp2_with fail
                go_at_call 12
                refine CL.out.mono ?_
                rintro e W10 ⟨rfl, rfl⟩
                go_wp2_with fail
                go_at_call 11
                refine CT.out.mono ?_
                rintro e W10 ⟨rfl, hT10, g10⟩
                have nRB2 : ¬ ((n0 ≤ RB ∧ RB < W8.heap.size) ∨ W8.heap.size < RB) := by have := hX8.out; omega
                have b10 := Lib.hid (g10.blk b9.out nRB2)
                have k10 := Lib.hid (k9.out.trans (g10.lo (fun k hk => by have := hRw.out; have := hX8.out; omega) k9.out.size))
                have s10 := hT10.out.low
                have SL := HS2.out.tick (show c ≤ c + 4611686018427387904 by omega)
                have SF := HS2.out.later t9.out.wf HG.out HF1.out (show c ≤ c + 4611686018427387904 by omega) (by unfold U; omega)
                have cd := Lib.hid (fun W (g : Tbl W T (fun k => ((n0 ≤ k ∧ k < W8.heap.size) ∨ W8.heap.size < k)) 9 (c + 4611686018427387904) (S1.filter (actB (c + 4611686018427387904)))) => SL.code g.wf HG.out hmU (by omega) SF)
                have hz0 := SF.f0
                generalize hc2 : c + 4611686018427387904 = c2 at *
                generalize hS2 : S1.filter (actB c2) = S2 at *
                have hsz10 := g10.size
                have W8x := hX8.out.2.2
                have CC2 := Lib.hid (fun W (hW : W10.heap.size ≤ W.heap.size) (g : Tbl W T (fun k => ((n0 ≤ k ∧ k < W8.heap.size) ∨ W8.heap.size < k)) 9 c2 S2) => charge_at _ T 9 c2 S2 nm r m W W g (fun k hk => by omega) (by have := HG.out.size; omega) HG.out.ok hmU (Drew.refl _))
                clear CL CT g10 a9 b9 t9 y0 y1 y2 y3 y4 y5 y6 y7 y8 y9 x0 x1 x2 x3 SL SF s10 hsz10 W8x
                obtain ⟨x0, x1, x2, x3, _⟩ := blk4 b10.out
                go_wp2_with fail
                go_at_call 6
                refine (K0.out _).mono ?_
                rintro e W11 ⟨rfl, g11⟩
                have hT11 := Lib.hid (hT10.out.below g11)
                have CC3 := CC2.out W11 g11.size hT11.out
                have cd3 := cd.out W11 hT11.out
                have hcd : (chA 9 c2 S2 nm r m).code = 2 := by rw [cd3, if_neg]; unfold ftB; rw [hwr]; simp; omega
                have k11 := Lib.hid (kbq k10.out g11)
                have b11 := Lib.hid (b10.out.below g11)
                clear cd cd3 CC2 x0 x1 x2 x3
                obtain ⟨x0, x1, x2, x3, _⟩ := blk4 b11.out
                generalize chA 9 c2 S2 nm r m = ba at CC3 hcd
                obtain ⟨bc, be, bl, bv, br', bf, bn, bt⟩ := ba
                simp only at hcd
                subst hcd
                dsimp only [An.v, An.cs] at CC3
                have CC3 := Lib.hid CC3
                clear g11
                go_wp2_with fail
                go_at_call 10
                refine CC3.out.mono ?_
                rintro e W12 ⟨rfl, hT12, g12⟩
                have k12 := k11.out.trans (g12.lo (fun k hk => by have := hRw.out; have := hX8.out; omega) k11.out.size)
                clear x0 x1 x2 x3
                have hfl := fld0 2 be bl bv br' bf bn bt W12
                go_wp2
                go_ret
                exact ⟨rfl, k12⟩
            · rw [hin] at hcod
              simp only [if_true] at hcod
              have hb0 : kwB f (capR r) wm = false := by unfold ftB at hin; unfold kwB; simp at hin ⊢; omega
              have hn0 : kwI f (capR r) wm = 0 := by unfold kwI; rw [hb0]; rfl
              rw [hb0] at hret
              rw [hn0] at hnan
              subst hcod hret hnan
              clear haft
              go_wp2_with (go_at_call 6; refine (K0.out _).mono ?_; rintro e W2 ⟨rfl, g⟩; have y6 := celln g y6; have y7 := celln g y7)
              go_ret
              exact ⟨rfl, kbq k9.out g⟩
end Go.Proofs.Ytkfncanfgpmgaaa.Wd
