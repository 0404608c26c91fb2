/- Deeds of choices in memory, how heavy they are, their rules; when answers are the same; the chapter's example; no conditions but those that each names. -/
import Derived.Test.YtkfncanfgpmgaaaGreatTabJ
namespace Go.Proofs.YtkfncanfgpmgaaaGreat.Wd
open Go Go.RowKit Go.Shelf Go.Deep
set_option linter.unusedVariables false
set_option maxRecDepth 100000

/-- A deed, as data. -/
structure Dd where
  kind : Int
  wait : Int
  big : Int
  kb : List UInt8
  rule : Int
  n : Int
  dest : Int
structure Dd.Ok (d : Dd) : Prop where
  kind : 0 ≤ d.kind ∧ d.kind ≤ 255
  wait : 0 ≤ d.wait ∧ d.wait ≤ 4294967295
  big : 0 ≤ d.big ∧ d.big ≤ 255
  rule : 0 ≤ d.rule ∧ d.rule ≤ 255
  n : 0 ≤ d.n ∧ d.n ≤ 65535
  dest : 0 ≤ d.dest ∧ d.dest ≤ 255
abbrev dd0 : Dd := ⟨0, 0, 0, [], 0, 0, 0⟩
/-- A deed in seven cells. -/
structure D7 (w : World) (b o : Nat) (d : Dd) (ka : Option Addr) (kn kc : Nat) : Prop where
  c0 : w.cell? ⟨b, o, none⟩ = some (.int .u8 d.kind)
  c1 : w.cell? ⟨b, o + 1, none⟩ = some (.int .u32 d.wait)
  c2 : w.cell? ⟨b, o + 2, none⟩ = some (.int .u8 d.big)
  c3 : w.cell? ⟨b, o + 3, none⟩ = some (.slice ka kn kc)
  c4 : w.cell? ⟨b, o + 4, none⟩ = some (.int .u8 d.rule)
  c5 : w.cell? ⟨b, o + 5, none⟩ = some (.int .u16 d.n)
  c6 : w.cell? ⟨b, o + 6, none⟩ = some (.int .u8 d.dest)
  txt : Txt w ka kn d.kb
  few : kn ≤ 9223372036854775807
theorem D7.below {w w' : World} {b o : Nat} {d : Dd} {ka : Option Addr} {kn kc : Nat} (h : D7 w b o d ka kn kc) (g : Below w.heap.size w w') : D7 w' b o d ka kn kc :=
  ⟨celln g h.c0, celln g h.c1, celln g h.c2, celln g h.c3, celln g h.c4, celln g h.c5, celln g h.c6, h.txt.below g, h.few⟩
/-- A row of deeds. -/
def Dds (w : World) (A : Option Addr) (n : Nat) (ds : List Dd) : Prop :=
  ds.length = n ∧ n ≤ 9223372036854775807 ∧ (∀ d ∈ ds, d.Ok) ∧ ∀ i, i < n → ∃ b off ka kn kc, A = some ⟨b, off, none⟩ ∧ D7 w b (off + i * 7) (ds.getD i dd0) ka kn kc
theorem Dds.below {w w' : World} {A : Option Addr} {n : Nat} {ds : List Dd} (h : Dds w A n ds) (g : Below w.heap.size w w') : Dds w' A n ds :=
  ⟨h.1, h.2.1, h.2.2.1, fun i hi => by
    obtain ⟨b, off, ka, kn, kc, e, hd⟩ := h.2.2.2 i hi
    exact ⟨b, off, ka, kn, kc, e, hd.below g⟩⟩
theorem Dds.ok {w : World} {A : Option Addr} {n : Nat} {ds : List Dd} (h : Dds w A n ds) {i : Nat} (hi : i < n) : (ds.getD i dd0).Ok := by
  have hl : i < ds.length := by rw [h.1]; exact hi
  have : ds.getD i dd0 = ds[i] := by simp [List.getD, hl]
  rw [this]; exact h.2.2.1 _ (List.getElem_mem hl)

theorem heavy_any (A : Option Addr) (n cap : Nat) (ds : List Dd) (w : World) (h : Dds w A n ds) :
    Calls Tryz.prog 8 #[.slice A n cap] w fun e w' => ∃ v : Int, e = .returned (.int .i64 v) ∧ Below w.heap.size w w' := by
  have H := Lib.hid h
  have hn := h.2.1
  clear h
  go_enter Tryz.func8, Tryz.ntmps8
  go_wp2
  go_loopw [3, 4] (fun s i wr => ∃ (k : Nat) (v : Int), i = .int .i64 (k : Int) ∧ s = .int .i64 v ∧ k ≤ n ∧ Below w.heap.size w wr) (fun _ i _ => n - (intOf i).toNat)
  case atStart => exact ⟨0, 0, rfl, rfl, Nat.zero_le _, Below.refl _ _⟩
  case round =>
    obtain ⟨k, v, rfl, rfl, hk, hB⟩ := hrel
    by_cases c1 : k < n
    · obtain ⟨b, off, ka, kn, kc, rfl, hd⟩ := (H.out.below hB).2.2.2 k c1
      have c3 := hd.c3
      have kk : (k : Int) < (n : Int) := by omega
      have k0 : (0 : Int) ≤ (k : Int) := by omega
      clear hd
      by_cases c2 : v ≤ 1000
      · have hq := decide_eq_true c2
        go_wp2
        go_roundw
        case rel => exact ⟨k + 1, _, by go_num, rfl, by omega, hB⟩
        case measure => simp [intOf]; omega
      · have hq := decide_eq_false c2
        go_wp2
        go_ret
        exact ⟨⟨_, rfl⟩, hB⟩
    · go_wp2
      go_ret
      exact ⟨_, rfl, hB⟩

/-- Which of a few rules. -/
def ruleP (k : Int) : ByteArray × Int × Int :=
  if k % 6 = 0 then (⟨#[]⟩, 10, 3) else if k % 6 = 1 then (⟨#[]⟩, 1000, 2) else if k % 6 = 2 then (⟨#[97]⟩, 10, 3) else if k % 6 = 3 then (⟨#[]⟩, 3000000000, 4) else if k % 6 = 4 then (⟨#[]⟩, 2147483648, 2147483648) else (⟨#[]⟩, 1, 1)
/-- A rule of choices. -/
def ruleK (k : Int) : Rl := ⟨(ruleP k).1, (ruleP k).2.1, if 250 ≤ k then 0 else (ruleP k).2.2, 1 + k / 6 % 3⟩
set_option maxHeartbeats 16000000 in
theorem rule_any (k : Int) (w : World) (hk : 0 ≤ k ∧ k ≤ 255) :
    Calls Tryz.prog 15 #[.int .u8 k] w fun e w' => e = .returned (ruleK k).v ∧ Below w.heap.size w w' := by
  have h6 : k % 6 = 0 ∨ k % 6 = 1 ∨ k % 6 = 2 ∨ k % 6 = 3 ∨ k % 6 = 4 ∨ k % 6 = 5 := by omega
  have hw : 1 + k / 6 % 3 ≤ 255 := by omega
  rcases h6 with h | h | h | h | h | h
  all_goals
    by_cases c : 250 ≤ k
    · have hq := decide_eq_true c
      have HK : Hid (ruleK k = ⟨(ruleP k).1, (ruleP k).2.1, 0, 1 + k / 6 % 3⟩) := Lib.hid (by unfold ruleK; rw [if_pos c])
      have HP : Hid (∃ P, ruleP k = P) := Lib.hid ⟨_, rfl⟩
      have HH := Lib.hid h
      clear c
      go_enter Tryz.func15, Tryz.ntmps15
      go_wp2
      generalize hV : World.alloc _ _ = V
      have kb : Below w.heap.size w V := by rw [← hV]; exact ((((Below.refl _ w).alloc (Nat.le_refl _) _).alloc (by simp) _).alloc (by simp; omega) _)
      have bz : ∃ a b c d, Blk V w.heap.size #[a, b, c, d] 42 ∧ Value.agg #[a, b, c, d] = .agg #[.string (ruleP k).1, .int .u64 (ruleP k).2.1, .int .u64 0, .int .u8 (1 + k / 6 % 3)] :=
        ⟨_, _, _, _, by rw [← hV]; exact ((Blk.new _ _ _).alloc _).alloc _, by have h := HH.out; unfold ruleP; simp [h]⟩
      obtain ⟨a, b, c, d, bz, ez⟩ := bz
      obtain ⟨q0, q1, q2, q3, _⟩ := blk4 bz
      clear hV
      refine bodyPost_ret (v := .agg #[a, b, c, d]) ?_ rfl ⟨by rw [ez, HK.out], kb⟩
      simp [results, Tryz.results15, go_sem, q0, q1, q2, q3]
    · have hq := decide_eq_false c
      have HK : Hid (ruleK k = ⟨(ruleP k).1, (ruleP k).2.1, (ruleP k).2.2, 1 + k / 6 % 3⟩) := Lib.hid (by unfold ruleK; rw [if_neg c])
      have HP : Hid (∃ P, ruleP k = P) := Lib.hid ⟨_, rfl⟩
      have HH := Lib.hid h
      clear c
      go_enter Tryz.func15, Tryz.ntmps15
      go_wp2
      generalize hV : World.alloc _ _ = V
      have kb : Below w.heap.size w V := by rw [← hV]; exact ((((Below.refl _ w).alloc (Nat.le_refl _) _).alloc (by simp) _).alloc (by simp; omega) _)
      have bz : ∃ a b c d, Blk V w.heap.size #[a, b, c, d] 42 ∧ Value.agg #[a, b, c, d] = .agg #[.string (ruleP k).1, .int .u64 (ruleP k).2.1, .int .u64 (ruleP k).2.2, .int .u8 (1 + k / 6 % 3)] :=
        ⟨_, _, _, _, by rw [← hV]; exact ((Blk.new _ _ _).alloc _).alloc _, by have h := HH.out; unfold ruleP; simp [h]⟩
      obtain ⟨a, b, c, d, bz, ez⟩ := bz
      obtain ⟨q0, q1, q2, q3, _⟩ := blk4 bz
      clear hV
      refine bodyPost_ret (v := .agg #[a, b, c, d]) ?_ rfl ⟨by rw [ez, HK.out], kb⟩
      simp [results, Tryz.results15, go_sem, q0, q1, q2, q3]
end Go.Proofs.YtkfncanfgpmgaaaGreat.Wd
