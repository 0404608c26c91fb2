/- A charge of no table; keys of choices; no conditions but those that each names. -/
import Derived.Test.YtkfncanfgpmgaaaGreatTabMo
import Derived.Test.YtkfncanfgpmgaaaGreatTabMb
namespace Go.Proofs.YtkfncanfgpmgaaaGreat.Wd
open Go Go.RowKit Go.Deep Go.Shelf
set_option linter.unusedVariables false
set_option maxRecDepth 100000

set_option maxHeartbeats 4000000 in
theorem charge_nil (k : ByteArray) (r : Rl) (n : Int) (w : World) (hk : k.size ≤ 281474976710656) (hr : Okr r) (hn : U n) (h0 : wkE k r = 0) :
    Calls Tryz.prog 18 #[.pointer none, .string k, r.v, .int .u64 n] w fun e w' => (∃ v, e = .returned v) ∧ Below w.heap.size w w' := by
  obtain ⟨st, hst⟩ : ∃ st, stOf 0 r (getS [] k) = st := ⟨_, rfl⟩
  have b0 := Lib.hid ((Blk.new w #[.string r.p, .int .u64 r.e, .int .u64 r.b, .int .u8 r.k] 42).alloc (.cells #[.int .u8 0, .int .u16 0, .int .u64 0, .int .u64 0, .int .u64 0, .int .u64 0, .int .u64 0, .bool false, .int .i64 0, .slice none 0 0] 52))
  have a0 := Lib.hid (Blk.new (w.alloc (.cells #[.string r.p, .int .u64 r.e, .int .u64 r.b, .int .u8 r.k] 42)) #[.int .u8 0, .int .u16 0, .int .u64 0, .int .u64 0, .int .u64 0, .int .u64 0, .int .u64 0, .bool false, .int .i64 0, .slice none 0 0] 52)
  have k0 := Lib.hid (((Below.refl _ w).alloc (Nat.le_refl _) (.cells #[.string r.p, .int .u64 r.e, .int .u64 r.b, .int .u8 r.k] 42)).alloc (by simp) (.cells #[.int .u8 0, .int .u16 0, .int .u64 0, .int .u64 0, .int .u64 0, .int .u64 0, .int .u64 0, .bool false, .int .i64 0, .slice none 0 0] 52))
  have s0 := Lib.hid (show ((w.alloc (.cells #[.string r.p, .int .u64 r.e, .int .u64 r.b, .int .u8 r.k] 42)).alloc (.cells #[.int .u8 0, .int .u16 0, .int .u64 0, .int .u64 0, .int .u64 0, .int .u64 0, .int .u64 0, .bool false, .int .i64 0, .slice none 0 0] 52)).heap.size = w.heap.size + 2 by simp)
  rw [show (w.alloc (.cells #[.string r.p, .int .u64 r.e, .int .u64 r.b, .int .u8 r.k] 42)).heap.size = w.heap.size + 1 by simp] at a0
  have CN := Lib.hid (fun W => ornew_no W)
  have CW := Lib.hid (fun W => wrongkey_any k r W (by omega) hr)
  rw [h0] at CW
  go_enter Tryz.func18, Tryz.ntmps18
  go_wp2_with fail
  generalize ((w.alloc (.cells #[.string r.p, .int .u64 r.e, .int .u64 r.b, .int .u8 r.k] 42)).alloc (.cells #[.int .u8 0, .int .u16 0, .int .u64 0, .int .u64 0, .int .u64 0, .int .u64 0, .int .u64 0, .bool false, .int .i64 0, .slice none 0 0] 52)) = W at *
  go_wp2_with (go_at_call 39; with_reducible refine (CN.out _).mono ?_; rintro e w1 ⟨rfl, g1, hT, hs1⟩; refine stopHere ?_)
  unfold Stop
  have b1 := Lib.hid (b0.out.below g1)
  have a1 := Lib.hid (a0.out.below g1)
  have k1 := Lib.hid (kbq k0.out g1)
  have H1 := Lib.hid (hT.mono (C := fun k => w.heap.size + 2 ≤ k) (fun k hk => by have := s0.out; omega))
  have hz1 := Lib.hid (show w.heap.size + 2 ≤ w1.heap.size by have := s0.out; have := g1.size; omega)
  generalize W.heap.size + 1 = T at *
  obtain ⟨x0, x1, x2, x3, _⟩ := blk4 b1.out
  clear g1 hT hs1 b0 a0 k0 s0 CN
  go_wp2_with (go_at_call 41; with_reducible refine (CW.out _).mono ?_; rintro e W1 ⟨rfl, g⟩; refine stopHere ?_)
  unfold Stop
  have hz2 := Lib.hid (Nat.le_trans hz1.out g.size)
  have BB := Lib.hid (b1.out.below g)
  have ZB := Lib.hid (a1.out.below g)
  have HT := Lib.hid (H1.out.below g)
  have KB := Lib.hid (kbq k1.out g)
  clear g CW b1 a1 H1 k1 hz1 x0 x1 x2 x3
  obtain ⟨z0, z1, z2, z3, z4, z5, z6, z7, z8, z9, zf0, zf1, zf2, zf3, zf4, zf5, zf6, zf7, zf8, zf9⟩ := blk10 ZB.out
  obtain ⟨x0, x1, x2, x3, _⟩ := blk4 BB.out
  obtain ⟨M, Ml, hM, hLen, hL⟩ := HT.out.look k (by omega)
  have hl0 : ∀ j, (Instr.lookup Tmap (.map (some M)) (.string k) true).run Tryz.prog (W1.drewN j) = .ok (.tuple #[.pointer none, .bool false]) (W1.drewN j) := fun j => by
    rcases hL with ⟨_, hL⟩ | ⟨s, b, d, i, e, _⟩
    · exact hL (W1.drewN j) rfl
    · cases e
  have hl1 : (Instr.lookup Tmap (.map (some M)) (.string k) true).run Tryz.prog W1 = .ok (.tuple #[.pointer none, .bool false]) W1 := hl0 0
  have hl9 : ∀ (j : Nat) (ty : TypeId), (Builtin.len_ #[Tmap] ty #[.map (some M)]).run Tryz.prog (W1.drewN j) = .ok (.int .i64 0) (W1.drewN j) := fun j ty => hLen (W1.drewN j) rfl ty
  have c0 := HT.out.cells.1
  clear hL hLen
  go_wp2_with fail
  go_quiet (fail)
  go_wp2_with fail
  go_quiet (fail)
  generalize hV : World.drewN (World.drewN W1 _) _ = V at *
  have zb : Blk V (w.heap.size + 1) #[.int .u8 0, .int .u16 0, .int .u64 0, .int .u64 0, .int .u64 0, .int .u64 0, .int .u64 0, .bool false, .int .i64 0, .slice none 0 0] 52 := by rw [← hV]; exact ZB.out
  have b2 : Blk V w.heap.size #[.string r.p, .int .u64 r.e, .int .u64 r.b, .int .u8 r.k] 42 := by rw [← hV]; exact BB.out
  have H2 := Lib.hid (show Tbl V T (fun k => w.heap.size + 2 ≤ k) 1 0 [] by rw [← hV]; exact HT.out.keep (fun k _ hl => rfl))
  have k2 := Lib.hid (show Below w.heap.size w V by rw [← hV]; exact ⟨KB.out.os, KB.out.tape, KB.out.output, KB.out.size, KB.out.block⟩)
  have hz3 := Lib.hid (show w.heap.size + 2 ≤ V.heap.size by rw [← hV]; exact hz2.out)
  clear hV
  have CD := Lib.hid (decide_tab T _ 1 0 [] k r n st V H2.out hk hr hn h0 hst (fun _ => by decide))
  clear x0 x1 x2 x3 z0 z1 z2 z3 z4 z5 z6 z7 z8 z9 zf0 zf1 zf2 zf3 zf4 zf5 zf6 zf7 zf8 zf9 hst
  obtain ⟨x0, x1, x2, x3, _⟩ := blk4 b2
  have ZB2 := Lib.hid zb
  clear zb b2
  go_wp2_with fail
  go_at_call 43
  with_reducible refine CD.out.mono ?_
  rintro e V3 ⟨rfl, g, hT3⟩
  have zb := g.blk ZB2.out (fun x => by omega)
  have k3 := Lib.hid (k2.out.trans (g.lo (n := w.heap.size) (fun k hk => by omega) (by have := hz3.out; omega)))
  obtain ⟨z0, z1, z2, z3, z4, z5, z6, z7, z8, z9, zf0, zf1, zf2, zf3, zf4, zf5, zf6, zf7, zf8, zf9⟩ := blk10 zb
  clear g hT3 x0 x1 x2 x3
  go_wp2
  have hB := bset10 (p0 := .int .u8 (decA 0 r st n).code) (p1 := .int .u16 (decA 0 r st n).err) (p2 := .int .u64 (decA 0 r st n).lim) (p3 := .int .u64 (decA 0 r st n).left) (p4 := .int .u64 (decA 0 r st n).reset) (p5 := .int .u64 (decA 0 r st n).after) (p6 := .int .u64 (decA 0 r st n).nanos) (p7 := .bool (decA 0 r st n).retry) (p8 := .int .i64 0) (p9 := .slice none 0 0) zb
  have hk9 := ts10 (p0 := .int .u8 (decA 0 r st n).code) (p1 := .int .u16 (decA 0 r st n).err) (p2 := .int .u64 (decA 0 r st n).lim) (p3 := .int .u64 (decA 0 r st n).left) (p4 := .int .u64 (decA 0 r st n).reset) (p5 := .int .u64 (decA 0 r st n).after) (p6 := .int .u64 (decA 0 r st n).nanos) (p7 := .bool (decA 0 r st n).retry) (p8 := .int .i64 0) (p9 := .slice none 0 0) (Tch.refl (fun k => k = w.heap.size + 1) V3) (.inl rfl)
  have HB := Lib.hid hB
  have HK9 := Lib.hid hk9
  clear z0 z1 z2 z3 z4 z5 z6 z7 z8 z9 zf0 zf1 zf2 zf3 zf4 zf5 zf6 zf7 zf8 zf9 zb hB hk9
  have V9 := HB.out
  revert HB HK9 V9
  generalize World.setCell _ ⟨w.heap.size + 1, 9, none⟩ _ = V
  intro HB HK9 V9
  obtain ⟨q0, q1, q2, q3, q4, q5, q6, q7, q8, q9, _⟩ := blk10 HB.out
  refine bodyPost_ret (v := An.v (decA 0 r st n)) ?_ rfl ⟨⟨_, rfl⟩, ?_⟩
  · simp [results, Tryz.results18, go_sem, q0, q1, q2, q3, q4, q5, q6, q7, q8, q9]
  · exact k3.out.trans (HK9.out.lo (n := w.heap.size) (fun k hk => by omega) (by have := k3.out.size; omega))
/-- A key of choices is not so. -/
theorem pk_nox (v : Nat) : ∀ c ∈ pk v, c ≠ 120 := by unfold pk; split <;> decide
theorem keyL_nox (kb : List UInt8) (k : Nat) : ∀ c ∈ keyL kb k, c ≠ 120 := by
  intro c hc
  obtain ⟨x, _, hx⟩ := List.mem_flatMap.1 hc
  exact pk_nox _ c hx
theorem nameT_nox (d : Dd) : ∀ c ∈ lb (nameT d), c ≠ 120 := by
  have hk : ∀ c ∈ lb (keyT d.kb), c ≠ 120 := by
    unfold keyT
    split
    · decide
    · exact keyL_nox d.kb 6
  unfold nameT
  split
  · exact fun c hc => nomatch hc
  · split
    · intro c hc
      have : lb ((keyT d.kb).extract 0 1) = (lb (keyT d.kb)).extract 0 1 := by simp [lb, ByteArray.data_extract]
      rw [this] at hc
      exact hk c (List.mem_of_mem_take (by simpa [List.extract] using hc))
    · exact hk
/-- No key is so. -/
def Nox (S : List Sl) : Prop := ∀ s ∈ S, s.key ≠ ⟨#[120]⟩
theorem name_nox (d : Dd) : nameT d ≠ ⟨#[120]⟩ := by
  intro e
  have := nameT_nox d 120 (by rw [e]; decide)
  exact this rfl
theorem Nox.charge {m c n : Int} {S : List Sl} {d : Dd} {r : Rl} (h : Nox S) : Nox (chN m c S (nameT d) r n) := by
  intro s hs
  unfold chN at hs
  split at hs
  · split at hs
    · exact h s (dropS_sub hs)
    · unfold decS at hs
      split at hs
      · unfold putS at hs
        split at hs
        · exact h s (dropS_sub (offS_mem.1 hs).1)
        · rcases List.mem_cons.1 hs with rfl | hs
          · exact name_nox d
          · exact h s (dropS_sub (offS_mem.1 hs).1)
      · exact h s (dropS_sub hs)
  · exact h s hs
end Go.Proofs.YtkfncanfgpmgaaaGreat.Wd
