/- pack.Decode of any bytes, however they came in; no conditions but those that each names. -/
import Derived.Test.YtbejkcdaefkibaaPacQ
import Derived.Test.YtbejkcdaefkibaaPacZ
import Derived.Test.YtbejkcdaefkibaaPacW1
namespace Go.Proofs.Ytbejkcdaefkibaa.Wd
open Go Go.RowKit Go.Shelf Go.Deep Go.Lib
set_option linter.unusedVariables false
set_option maxRecDepth 100000

set_option maxHeartbeats 1000000 in
theorem piece_lack (R k n : Nat) (A : Option Addr) (cap : Nat) (w : World) (c0 : w.cell? ⟨R, 0, none⟩ = some (.slice A n cap)) (hk : n < k) :
    Calls Try.prog 31 #[.pointer (some ⟨R, 0, none⟩), .int .i64 (k : Int)] w fun e w' => e = .returned (.tuple #[.slice none 0 0, .bool false]) ∧ w = w' := by
  have hd : decide ((n : Int) < (k : Int)) = true := decide_eq_true (by omega)
  go_enter Try.func31, Try.ntmps31
  go_wp2
  refine bodyPost_ret (v := .tuple #[.slice none 0 0, .bool false]) ?_ rfl ⟨rfl, rfl⟩
  simp [results, Try.results31, go_sem]
set_option maxHeartbeats 1000000 in
theorem head_lack (R n : Nat) (A : Option Addr) (cap : Nat) (w : World) (c0 : w.cell? ⟨R, 0, none⟩ = some (.slice A n cap)) (h4 : n < 4) :
    Calls Try.prog 23 #[.pointer (some ⟨R, 0, none⟩)] w fun e w' => e = .returned (.tuple #[.int .u64 0, .int .u64 0, .int .u16 40]) ∧ w = w' := by
  have P4 := Lib.hid (piece_lack R 4 n A cap w c0 h4)
  rw [show ((4 : Nat) : Int) = 4 from rfl] at P4
  go_enter Try.func23, Try.ntmps23
  go_wp2_with fail
  refine wp_scope_label 0 rfl ?_
  go_wp2_with (first
    | (go_at_call 31; (with_reducible refine P4.out.mono ?_); rintro e w1 ⟨rfl, rfl⟩))
  simp only [Exit.jump]
  refine bodyPost_ret (v := .tuple #[.int .u64 0, .int .u64 0, .int .u16 40]) ?_ rfl ⟨rfl, rfl⟩
  simp [results, Try.results23, go_sem]
set_option maxHeartbeats 2000000 in
theorem decode_none (A : Option Addr) (cap : Nat) (w : World) :
    Calls Try.prog 12 #[.slice A 0 cap] w fun r w' => ∃ v, r = .returned (.tuple #[.agg #[.int .u64 ((0 : Nat) : Int), v], .int .u16 ((40 : Nat) : Int)]) ∧ OwE w' w.heap.size v [] ∧ Below w.heap.size w w' := by
  have k0 := Lib.hid (((Below.refl _ w).alloc (Nat.le_refl _) (.cells #[.int .u64 0, .slice none 0 0] Tsn)).alloc (by simp) (.cells #[.slice A 0 cap] Trd))
  have q0 := Lib.hid ((Blk.new w #[.int .u64 0, .slice none 0 0] Tsn).alloc (.cells #[.slice A 0 cap] Trd))
  have r0 := Blk.new (w.alloc (.cells #[.int .u64 0, .slice none 0 0] Tsn)) #[.slice A 0 cap] Trd
  rw [show (w.alloc (.cells #[.int .u64 0, .slice none 0 0] Tsn)).heap.size = w.heap.size + 1 by simp] at r0
  replace r0 := Lib.hid r0
  go_enter Try.func12, Try.ntmps12
  go_upto_region 2 with fail
  generalize (w.alloc (.cells #[.int .u64 0, .slice none 0 0] Tsn)).alloc (.cells #[.slice A 0 cap] Trd) = W at *
  have HD := Lib.hid (head_lack (w.heap.size + 1) 0 A cap W (r0.out.cell 0) (by decide))
  go_upto_region 3 with (go_at_call 23; refine HD.out.mono ?_; rintro e w1 ⟨rfl, rfl⟩)
  have x0 := q0.out.cell 0
  have x1 := q0.out.cell 1
  have f0 := q0.out.fz 0
  have f1 := q0.out.fz 1
  simp at x0 x1
  clear r0 HD
  go_wp2
  have z := (q0.out.set 0 (.int .u64 0)).set 1 (.slice none 0 0)
  have y0 := z.cell 0
  have y1 := z.cell 1
  simp at y0 y1
  refine bodyPost_ret (v := .tuple #[.agg #[.int .u64 0, .slice none 0 0], .int .u16 40]) ?_ rfl ⟨_, rfl, OwE.nil _ _, (k0.out.setCell (p := ⟨w.heap.size, 0, none⟩) (Nat.le_refl _) _).setCell (p := ⟨w.heap.size, 1, none⟩) (Nat.le_refl _) _⟩
  simp [results, Try.f12, go_sem, y0, y1]
/-- Decode of any bytes. -/
theorem decode_all (A : Option Addr) (n cap : Nat) (l : List UInt8) (w : World) (hT : Txt w A n l) (hc1 : n ≤ cap) (hc2 : cap ≤ 9223372036854775807) (hl : l.length ≤ 100000) (e c : Nat) (xs : List En) (hX : dcA l = (e, c, xs)) :
    Calls Try.prog 12 #[.slice A n cap] w fun r w' => ∃ v, r = .returned (.tuple #[.agg #[.int .u64 (c : Int), v], .int .u16 (e : Int)]) ∧ OwE w' w.heap.size v xs ∧ Below w.heap.size w w' := by
  by_cases h0 : 0 < n
  · obtain ⟨b, off, rfl, hb, _⟩ := hT.2 h0
    exact decode_any _ n cap l w hT hc1 hc2 (fun ad e => by cases e; exact ⟨rfl, hb⟩) hl e c xs hX
  · obtain rfl : n = 0 := by omega
    obtain rfl : l = [] := List.eq_nil_of_length_eq_zero hT.1
    have hd : dcA [] = (40, 0, []) := by decide
    rw [hd] at hX
    simp only [Prod.mk.injEq] at hX
    obtain ⟨rfl, rfl, rfl⟩ := hX
    exact decode_none A cap w
/-- Bytes behind bytes, however they came in. -/
theorem wpList_app_txt (w : World) {ops : Array Oper} {rest : List Oper} {o : Oper} {a : Act} {Q : Exit → Act → World → Prop} (hgd : o.guard = none) (s x : Operand)
    (ho : o.op = .call { callee := .builtin .append, args := #[s, x], argTypes := #[26, 26] })
    (base : Nat) (v : Value) (acc : List UInt8) (hs : a.eval s = v) (hown : BRow w base v acc) (ao : Option Addr) (m c : Nat) (l : List UInt8) (hx : a.eval x = .slice ao m c) (hT : Txt w ao m l) (hn : ao = none → c = 0)
    (hsz : acc.length + m ≤ 140737488355328) (hbase : base ≤ w.heap.size)
    (h : ∀ v' w', BRow w' base v' (acc ++ l) → w.grownBy w' v.ownBlock → wpList Try.prog ops Q rest (a.put o.dst v') w') : wpList Try.prog ops Q (o :: rest) a w := by
  obtain ⟨i0, hz, hz0, hz1, hz2⟩ := info_parts infoByte
  cases ao with
  | none => exact wpList_app_bytes w hgd s x ho base v acc hs hown none m c l hx hT hn (fun ad e => by cases e) hsz hbase h
  | some ad =>
    by_cases h0 : 0 < m
    · obtain ⟨b, off, e, _, _⟩ := hT.2 h0
      exact wpList_app_bytes w hgd s x ho base v acc hs hown (some ad) m c l hx hT hn (fun ad' e' => by cases e'; cases e; rfl) hsz hbase h
    · obtain rfl : m = 0 := by omega
      obtain rfl : l = [] := List.eq_nil_of_length_eq_zero hT.1
      refine wpList_append_own w hgd s x 26 ho base 5 i0 (.int .u8 0) 1 1 Try.underlying26 hz hz0 hz1 hz2 rfl (by decide) v acc.length (bvs acc) hs hown ad 0 c (bvs []) hx rfl (fun j u hu => by simp [bvs] at hu) (bvs_one _) (by unfold maxLen; omega) (by omega) hbase ?_
      intro v' w' own grow _
      refine h v' w' ?_ grow
      rw [List.append_nil]
      unfold BRow
      rw [show bvs [] = [] from rfl, List.append_nil] at own
      exact own
theorem open_txt2 {H : Type} {enc : TypeId × Value → H} {w : World} {base : Nat} {sp : Nat → Bool} {held : Bool} {fuel : Nat} {a : Option Addr} {len cap : Nat} {x : DataW H × List MemPlace}
    (h : DataW.trod enc Try.prog w base sp held fuel 26 [.slice a len cap] = some x) : (len ≤ cap ∧ cap ≤ 9223372036854775807) ∧ (a = none → cap = 0) ∧ ∃ bs : List UInt8, Txt w a len bs := by
  obtain ⟨h1, h2, h3⟩ := open_txt h
  refine ⟨⟨h1, h2⟩, fun e => ?_, h3⟩
  subst e
  rcases open_slice1 Try.underlying26 (by kernel_rfl) h with ⟨h0, _⟩ | ⟨ad, l, c, m, n, V, D, Pl, hcs, _⟩
  · simp at h0; exact h0.2
  · simp at hcs
end Go.Proofs.Ytbejkcdaefkibaa.Wd
