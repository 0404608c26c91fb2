/- One key alone in a table; calls at drawn worlds; no conditions but those that each names. -/
import Derived.Test.YtkfncanfgpmgaaaGreatTabRa
import Derived.Deep.LoopGhost
import Derived.Deep.CutRange
namespace Go.Proofs.YtkfncanfgpmgaaaGreat.Wd
open Go Go.RowKit Go.Shelf Go.Deep
set_option linter.unusedVariables false
set_option maxRecDepth 100000

theorem fld0 (a b c d e f g : Int) (t : Bool) (W : World) : (Instr.field 52 (.agg #[.int .u8 a, .int .u16 b, .int .u64 c, .int .u64 d, .int .u64 e, .int .u64 f, .int .u64 g, .bool t, .int .i64 0, .slice none 0 0]) 0).run Tryz.prog W = .ok (.int .u8 a) W := by kernel_rfl
theorem ruleK_ok (k : Int) (hk : 0 ≤ k ∧ k < 250) : Okr (ruleK k) ∧ ruE (ruleK k).p (ruleK k).e (ruleK k).b (ruleK k).k = 0 ∧ (ruleK k).e ≤ 3000000000 := by
  have h6 : k % 6 = 0 ∨ k % 6 = 1 ∨ k % 6 = 2 ∨ k % 6 = 3 ∨ k % 6 = 4 ∨ k % 6 = 5 := by omega
  have h3 : k / 6 % 3 = 0 ∨ k / 6 % 3 = 1 ∨ k / 6 % 3 = 2 := by omega
  unfold ruleK
  rw [if_neg (by omega)]
  rcases h6 with h | h | h | h | h | h <;> rcases h3 with g | g | g <;> (unfold ruleP; simp only [h, g]; refine ⟨⟨by decide, by unfold U; decide, by unfold U; decide, by decide⟩, by rw [ru_is]; decide, by decide⟩)
theorem first_vis {s : ByteArray} (h : (lb s).all (fun c => visB (c.toNat : Int)) = true) (h1 : 1 ≤ s.size) : rtB (lb (s.extract 0 1)) = true ∧ (s.extract 0 1).size = 1 := by
  have hs : (s.extract 0 1).size = 1 := by rw [ByteArray.size_extract]; omega
  refine ⟨rtB_of (by omega) (by omega) ?_, hs⟩
  rw [List.all_eq_true] at h ⊢
  intro c hc
  refine h c ?_
  have : lb (s.extract 0 1) = (lb s).extract 0 1 := by simp [lb, ByteArray.data_extract]
  rw [this] at hc
  exact List.mem_of_mem_take (by simpa [List.extract] using hc)
theorem Solo.later {k : ByteArray} {r : Rl} {m c c' f : Int} {S : List Sl} (h : Solo k r c S) (hw : Wf m c S) (hg : Good k r) (hf : Say c r (stOf c r (getS S k)) f) (hl : c ≤ c') (hc' : U c') :
    Say c' r (stOf c' r (getS (S.filter (actB c')) k)) (sbI f (c' - c)) := by
  have hn := Say.none (rule_is3 hg.rule) hg.ok hc' (r := r)
  cases e : getS S k with
  | none =>
    rw [e] at hf
    have h0 : f = 0 := by
      have a := hf.fill hw.cu
      have b := (Say.none (rule_is3 hg.rule) hg.ok hw.cu (r := r)).fill hw.cu
      rw [a] at b; exact b
    have e2 : getS (S.filter (actB c')) k = none := getS_none.2 (fun s hs => getS_none.1 e s (List.mem_filter.1 hs).1)
    rw [e2, h0, show sbI 0 (c' - c) = 0 by unfold sbI; split <;> omega]
    exact hn
  | some s =>
    rw [e] at hf
    obtain ⟨h1, h2⟩ := getS_some e
    have hr := (h s h1).2.1
    have hff : flS c' s = sbI f (c' - c) := by
      have := hf.tells c' hl hc'
      show kfI s.k s.a s.b c' (caI s.r.p s.r.e s.r.b s.r.k) = _
      rw [hr]; exact this
    cases ha : actB c' s with
    | true =>
      have e2 : getS (S.filter (actB c')) k = some s := getS_of (hw.ap.sublist List.filter_sublist) (List.mem_filter.2 ⟨h1, ha⟩) h2
      rw [e2]; exact hf.later hl
    | false =>
      have e2 : getS (S.filter (actB c')) k = none := getS_none.2 (fun t ht e3 => by
        obtain ⟨t1, t2⟩ := List.mem_filter.1 ht
        have := pw_one hw.ap t1 h1 (e3.trans h2.symm)
        rw [this, ha] at t2; cases t2)
      have hz : sbI f (c' - c) = 0 := by
        have h4 : ¬ 0 < flS c' s := by simpa [actB] using ha
        rw [hff] at h4
        have := hf.f0
        unfold sbI at h4 ⊢
        split at h4 <;> (first | (rw [if_pos (by assumption)]) | (rw [if_neg (by assumption)]; omega))
      rw [e2, hz]; exact hn
theorem Solo.code {k : ByteArray} {r : Rl} {m c n f : Int} {S : List Sl} (h : Solo k r c S) (hw : Wf m c S) (hg : Good k r) (hn : U n) (hs : c + capR r ≤ 18446744073709551615) (hf : Say c r (stOf c r (getS S k)) f) :
    (chA m c S k r n).code = if ftB f (wI r n) (capR r) = true then 1 else 2 := by
  rw [(h.charge hw hg hn hs).1, decA_code, (hf.charge hg.ok hw.cu hs hn).1]
theorem cellT {B : Nat → Prop} {w w' : World} {b o : Nat} {v : Value} (g : Tch B w w') (h : w.cell? ⟨b, o, none⟩ = some v) (hb : ¬ B b) : w'.cell? ⟨b, o, none⟩ = some v :=
  (World.cell?_of_block (g.block b (cell_lt h) hb)).trans h
theorem Tbl.drew {w w' : World} {T : Nat} {B : Nat → Prop} {m c : Int} {S : List Sl} (h : Tbl w T B m c S) (g : Drew w w') : Tbl w' T B m c S := by
  obtain ⟨j, rfl⟩ := g
  exact h.keep (fun k _ hl => rfl)
theorem Drew.size {w w' : World} (g : Drew w w') : w'.heap.size = w.heap.size := by obtain ⟨j, rfl⟩ := g; rfl
theorem charge_at (B : Nat → Prop) (T : Nat) (m c : Int) (S : List Sl) (k : ByteArray) (r : Rl) (n : Int) (W V : World) (h : Tbl W T B m c S) (hB : ∀ k, W.heap.size ≤ k → B k) (hk : k.size ≤ 281474976710656) (hr : Okr r) (hn : U n) (hd : Drew W V) :
    Calls Tryz.prog 18 #[ptr T, .string k, .agg #[.string r.p, .int .u64 r.e, .int .u64 r.b, .int .u8 r.k], .int .u64 n] V fun e w' => e = .returned (chA m c S k r n).v ∧ Hid (Tbl w' T B m c (chN m c S k r n)) ∧ Tch B V w' := by
  refine (charge_tab T _ m c S k r n V (h.drew hd) hk hr hn).mono ?_
  rintro e w' ⟨rfl, g, hT⟩
  exact ⟨rfl, Lib.hid (hT.mono (fun k hk => hk.elim id (fun x => hB k (by rw [hd.size] at x; exact x)))), g⟩
theorem tick_at (B : Nat → Prop) (T : Nat) (m c x : Int) (S : List Sl) (W V : World) (h : Tbl W T B m c S) (hB : ∀ k, W.heap.size ≤ k → B k) (hx : U x) (hd : Drew W V) :
    Calls Tryz.prog 20 #[ptr T, .int .u64 x] V fun e w' => e = .returned (.int .u64 (max c x)) ∧ Hid (Tbl w' T B m (max c x) (S.filter (actB (max c x)))) ∧ Tch B V w' := by
  refine (tick_any T _ m c x S V (h.drew hd) hx).mono ?_
  rintro e w' ⟨rfl, g, hT⟩
  exact ⟨rfl, Lib.hid (hT.mono (fun k hk => hk.elim id (fun x => hB k (by rw [hd.size] at x; exact x)))), g⟩
theorem clock_at (B : Nat → Prop) (T : Nat) (m c : Int) (S : List Sl) (W V : World) (h : Tbl W T B m c S) (hd : Drew W V) :
    Calls Tryz.prog 21 #[ptr T] V fun e w' => e = .returned (.int .u64 c) ∧ V = w' := clock_yes T c V (h.drew hd).cells.2.1
theorem Tch.lo {B : Nat → Prop} {n : Nat} {a b : World} (h : Tch B a b) (hn : ∀ k, B k → n ≤ k) (hs : n ≤ a.heap.size) : Below n a b := ⟨h.os, h.tape, h.output, h.size, fun k hk => h.block k (by omega) (fun x => by have := hn k x; omega)⟩
theorem Drew.one (w : World) : Drew w w.drew := ⟨1, rfl⟩
theorem Below_tr {n : Nat} {a b c : World} (h : Below n a b) (g : Below n b c) : Below n a c := h.trans g
theorem Drew.lo {n : Nat} {a b : World} (h : Drew a b) (hs : n ≤ a.heap.size) : Below n a b := by
  obtain ⟨j, rfl⟩ := h
  exact ⟨rfl, rfl, rfl, Nat.le_refl _, fun _ _ => rfl⟩
end Go.Proofs.YtkfncanfgpmgaaaGreat.Wd
