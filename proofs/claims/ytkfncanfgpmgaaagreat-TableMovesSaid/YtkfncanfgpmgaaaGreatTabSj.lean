/- The iterator over a table; no conditions but those that each names. -/
import Derived.Test.YtkfncanfgpmgaaaGreatTabSi
namespace Go.Proofs.YtkfncanfgpmgaaaGreat.Wd
open Go Go.RowKit Go.Deep Go.Shelf
set_option linter.unusedVariables false
set_option maxRecDepth 100000

/-- What has come, behind all. -/
def Allk (S0 : List Sl) (ks : List ByteArray) : Prop := ∃ d : Array ByteArray, d.toList.Perm (S0.map (fun s => s.key)) ∧ Sort.SortedIn ltK 0 d.size d ∧ ks = d.toList
theorem take_more (g : Array ByteArray) (k : Nat) (hk : k < g.size) : g.toList.take k ++ [g[k]!] = g.toList.take (k + 1) := by
  rw [List.take_add_one, Array.getElem?_toList, Array.getElem?_eq_getElem hk, getElem!_pos g k hk]; rfl
set_option maxHeartbeats 4000000 in
theorem act1_stops (n : Nat) (hn : 4 ≤ n) (T M Tb : Nat) (m c : Int) (S0 : List Sl) (mv : Sl → Sl) (w : World) (hT : Boxed w Tb Ttp (ptr T)) (h : Tbm w T M (fun _ => True) m c S0) (hsort : SortC S0.length) :
    SeqStopsK Fence.wide n Tryz.prog 81 #[ptr Tb] (fun x : {x : Sl // Vr S0 mv x} => #[x.1.v]) (Kpt T M m c S0 mv) (fun xs => Allk S0 (xs.map (fun x => x.1.key))) (fun _ => True) S0.length w := by
  have h1 : 1 ≤ n := by omega
  intro l J Jx W hW hJ hJx hY h0
  have bT : Boxed W Tb Ttp (ptr T) := (hW.block Tb hT.lt).trans hT
  have hTm : Tbm W T M (fun _ => True) m c S0 := h.below hW
  clear hT h hW
  obtain ⟨F, bs, hM, hb1, hb2, hp, hc2⟩ := hTm.map
  have HS := Lib.hid hsort
  have HY := Lib.hid hY
  have HJ := Lib.hid hJ
  have H0 := Lib.hid h0
  have HT := Lib.hid hTm
  have CK := Lib.hid (fun W' => callsIn_wide (n := n - 1) |>.2 (mkeys_any M W'))
  have CC := Lib.hid (callsIn_wide (n := n - 1) |>.2 (collect_any M F bs W hM hb1 hb2))
  have HP := Lib.hid hp
  have cT := bT.cell
  have HB := Lib.hid bT
  have hTb := bT.lt
  clear hsort hY hJ h0 hTm hM hb2 hp bT hJx
  refine callsIn_of_wp Tryz.func81 rfl trivial ?_ rfl
  simp only [Tryz.ntmps81, List.size_toArray, List.length_cons, List.length_nil, Nat.reduceAdd, Nat.reduceSub, Array.replicate_succ, Array.replicate_zero, List.push_toArray, List.append_toArray, List.nil_append, List.cons_append]
  gi_wp2_with (first
    | (refine ⟨trivial, ?_⟩; gi_at_call 83; refine (CK.out _).mono ?_; rintro e w1 ⟨rfl, rfl⟩)
    | (refine ⟨trivial, ?_⟩; gi_at_call 82; refine CC.out.mono ?_; rintro e w2 ⟨v, d, rfl, hd, hky, hB2⟩; obtain ⟨⟨A, cap, rfl, _⟩⟩ := id hky)
    | (refine ⟨trivial, ?_⟩; gi_at_call 84; refine stopHere ?_))
  unfold Stop
  have hpk : d.toList.Perm (S0.map (fun s => s.key)) := hd.trans HP.out
  have hdz : d.size = S0.length := by have := hpk.length_eq; simpa using this
  have hK : Kys (w2.alloc (.cells #[.slice A d.size cap] Tstrs)) (W.alloc (.cells #[.map (some M)] Tmap)).heap.size w2.heap.size (.slice A d.size cap) d := (hky.kept ((Below.refl _ w2).alloc (Nat.le_refl _) _)).kys (by simp) (by
    intro cur e
    rw [World.alloc_heap_new] at e
    cases e)
  have hB3 : Below W.heap.size W (w2.alloc (.cells #[.slice A d.size cap] Tstrs)) := (((Below.refl _ W).alloc (Nat.le_refl _) _).trans (hB2.mono (by simp))).alloc (by have := hB2.size; simp at this; omega) _
  have hs2 := hB2.size
  simp only [World.size_alloc] at hs2
  have hRX : W.heap.size < w2.heap.size := by omega
  refine (callsIn_wide (n := n - 1) |>.2 (HS.out _ _ _ _ _ hK hdz (by simp; omega))).mono ?_
  rintro e w4 ⟨rfl, ⟨g, hg, hpm, hst⟩, hB4⟩
  have hgz : g.size = S0.length := by rw [hpm.1, hdz]
  have HG : Hid (Allk S0 g.toList) := Lib.hid (by
    refine ⟨g, ?_, by rw [hgz]; exact hst, rfl⟩
    have h1 := hpm.2.2
    rw [← hdz, Array.extract_size] at h1
    have h2 : g.extract 0 d.size = g := by rw [show d.size = g.size by omega, Array.extract_size]
    rw [h2] at h1
    exact h1.trans hpk)
  have hgd : g.size = d.size := by omega
  have hBW : Below W.heap.size W w4 := hB3.trans (hB4.mono (by simp))
  have J4 : J [] w4 := HJ.out _ _ _ none H0.out ⟨hBW.os, hBW.tape, hBW.output, hBW.size, fun k hk _ => hBW.block k hk⟩ (fun _ e => by cases e)
  have T4 : Tbm w4 T M (fun _ => True) m c S0 := HT.out.below hBW
  have b4 : Boxed w4 Tb Ttp (ptr T) := (hBW.block Tb hTb).trans HB.out
  have v4 := hg.var
  obtain ⟨KB, hKB⟩ : ∃ KB, 1 ≤ g.size → A = some ⟨KB, 0, none⟩ ∧ Row w4 KB g := by
    obtain ⟨A', cap', e, h1⟩ := hg.form
    by_cases z : 1 ≤ g.size
    · obtain ⟨KB, e1, _, e3⟩ := h1 z
      refine ⟨KB, fun _ => ⟨?_, e3.row⟩⟩
      have e := e
      simp only [Value.slice.injEq] at e
      rw [e.1, e1]
    · exact ⟨0, fun h => absurd h z⟩
  have hgn : (g.size : Int) ≤ 1000000 := by
    have := HP.out.length_eq
    simp only [List.length_map] at this
    omega
  have HKB := Lib.hid hKB
  have HN := Lib.hid hgz
  have HPK := Lib.hid HG
  rw [← hgd] at v4 ⊢
  clear hK hky hB2 hB3 hB4 hpm hst hd HP CK CC hg hpk hdz hs2 HS H0 HT HB cT hc2 hb1 hBW hKB hgd hgz
  dsimp only
  gi_wp2
  gi_loopw [18] (fun i wr => ∃ k : Nat, i = .int .i64 (k : Int) ∧ k ≤ g.size ∧ ∃ xs : List {x : Sl // Vr S0 mv x}, Hid (xs.map (fun x => x.1.key) = g.toList.take k) ∧ J xs wr ∧ Boxed wr Tb Ttp (ptr T) ∧ Hid (1 ≤ g.size → A = some ⟨KB, 0, none⟩ ∧ Row wr KB g) ∧ ∃ S1, Var S0 mv S1 ∧ Tbm wr T M (fun _ => True) m c S1) (fun i _ => g.size - (intOf i).toNat)
  case atStart => exact ⟨0, rfl, Nat.zero_le _, [], Lib.hid rfl, J4, b4, HKB, S0, Var.start _ _, T4⟩
  case round =>
    obtain ⟨k, rfl, hk, xs, hxs, hJs, hb, hkb, S1, hV, hT1⟩ := hrel
    clear J4 b4 T4 v4 HKB
    by_cases hlt : k < g.size
    · obtain ⟨eA, hrow⟩ := hkb.out (by omega)
      have hin : g[k]! ∈ S0.map (fun s => s.key) := by
        obtain ⟨d', p1, _, p3⟩ := HG.out
        refine p1.mem_iff.1 (by rw [← p3, getElem!_pos g k hlt]; exact Array.getElem_mem_toList _)
      obtain ⟨x, hx, hxk, hvr⟩ := hV.has hin
      obtain ⟨hz, c2, b, dd, ii, hlk, hbk⟩ := hT1.at hx
      have hl := hlk wr rfl
      rw [hxk] at hl
      have hmore := take_more g k hlt
      obtain ⟨k0, k1, k2, k3, k4, k5, k6, k7⟩ := kcs_cells hbk
      have cT := hb.cell
      have cr := hrow.at hlt
      obtain ⟨fn, tmps, assign, body, hy, hR⟩ := HY.out xs ⟨x, hvr⟩ wr hJs (by have := congrArg List.length hxs.out; simp only [List.length_map, List.length_take, Array.length_toList] at this; rw [← HN.out]; omega)
      have HR := Lib.hid (hR.mono (R' := fun e W' => ∃ o : Bool, e = .returned (.bool o) ∧ Hid ((o = true ∧ J (xs ++ [⟨x, hvr⟩]) W' ∧ Kpt T M m c S0 mv wr W') ∨ (o = false ∧ Jx (xs ++ [⟨x, hvr⟩]) W'))) (by
        rintro e W' (⟨rfl, h1, h2⟩ | ⟨rfl, h1⟩)
        · exact ⟨true, rfl, Lib.hid (.inl ⟨rfl, h1, h2⟩)⟩
        · exact ⟨false, rfl, Lib.hid (.inr ⟨rfl, h1⟩)⟩))
      have HXS : Hid ((xs ++ [(⟨x, hvr⟩ : {x : Sl // Vr S0 mv x})]).map (fun x => x.1.key) = g.toList.take (k + 1)) := Lib.hid (by
        rw [List.map_append, hxs.out, List.map_cons, List.map_nil, ← hmore, ← hxk])
      have HV := Lib.hid hV
      have HT1 := Lib.hid hT1
      have HROW := Lib.hid hrow
      have HEA := Lib.hid eA
      dsimp only at hy
      clear hR hV hT1 hrow hin hlk hbk hkb hx hxk hz HY HG hJs hxs
      subst eA
      generalize g[k]! = kk at *
      gi_wp2_with (refine HR.out.mono ?_; rintro e W3 ⟨o, rfl, h3⟩; refine stopHere ?_)
      unfold Stop
      rcases h3.out with ⟨rfl, hJ3, hk3⟩ | ⟨rfl, hJ3⟩
      · gi_wp2
        go_roundw
        case rel =>
          obtain ⟨S2, v2, t2⟩ := hk3.2 ⟨S1, HV.out, HT1.out⟩
          exact ⟨k + 1, by go_num, hlt, _, HXS, hJ3, hk3.1.boxed hb (.inr (.inr rfl)), Lib.hid (fun _ => ⟨trivial, HROW.out.tci hk3.1⟩), S2, v2, t2⟩
        case measure => simp [intOf]; omega
      · gi_wp2
        refine bodyPost_ret (results_none rfl _ _ _) rfl ?_
        exact ⟨⟨_, rfl⟩, .inr ⟨_, hJ3⟩⟩
    · gi_wp2
      go_end0
      refine ⟨⟨_, rfl⟩, .inl ⟨xs, ?_, hJs⟩⟩
      rw [hxs.out, List.take_of_length_le (by simp; omega)]
      exact HG.out
end Go.Proofs.YtkfncanfgpmgaaaGreat.Wd
