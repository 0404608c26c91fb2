/- What digit.Print and digit.Width answer, for any number of 64 bits; no conditions. -/
import Derived.Test.YtpkpmbigljkneaaDoorDigA
namespace Go.Proofs.YtpkpmbigljkneaaDoor.Wd
open Go.RowKit Go.Lib

theorem wpList_store_new {P : Program} {ops : Array Oper} {rest : List Oper} {o : Oper} {a : Act} {w : World} {Q : Exit → Act → World → Prop} (hgd : o.guard = none) (ty : TypeId) (x y : Operand) (ho : o.op = .store ty x y)
    (cells old : Array Value) (t : TypeId) (hx : a.eval x = .pointer (some ⟨w.heap.size, 0, none⟩)) (hy : a.eval y = .agg cells)
    (hi : (P.info? ty).map (·.size) = some cells.size) (hold : old.size = cells.size) (h1 : cells.all (·.oneCell') = true)
    (h : wpList P ops Q rest (a.put o.dst undef) (w.alloc (.cells cells t))) : wpList P ops Q (o :: rest) a (w.alloc (.cells old t)) :=
  wpList_store_row hgd ty x y ho w.heap.size cells hx hy t old (heap_alloc_new _ _) hi hold h1 (by rw [World.setRow_alloc_new]; exact h)

/-- A byte array as a text. -/
def str (l : List UInt8) : ByteArray := ⟨l.toArray⟩

set_option maxRecDepth 100000 in
theorem print_any (n : Nat) (w : World) (hn : n < 18446744073709551616) :
    Calls Tryd.prog 32 #[.int .u64 n] w fun e w' => e = .returned (.string (str (decDigits n))) ∧ Kept w w' := by
  have hL := dec_len20 n hn
  have hL1 := dec_len1 n
  have hal : Tryd.prog.arrayLen 81 = 20 := by kernel_rfl
  have hsl : ∀ (b : Nat) (W : World), (Instr.sliceAt 81 (.pointer (some ⟨b, 0, none⟩)) (some (.int .i64 ((20 - (decDigits n).length : Nat) : Int))) none none).run Tryd.prog W = .ok (.slice (some ⟨b, 20 - (decDigits n).length, none⟩) (decDigits n).length (decDigits n).length) W := fun b W => by
    rw [run_sliceAt_array_l W 81 ⟨b, 0, none⟩ (by kernel_rfl) .i64 _ (by omega) (by rw [hal]; omega)]
    rw [hal]
    go_simp
    omega
  have hcv : ∀ W : World, (convert 26 9 (.slice (some ⟨W.heap.size, 20 - (decDigits n).length, none⟩) (decDigits n).length (decDigits n).length)).run Tryd.prog (W.alloc (.cells (rowOf (decDigits n)) 81)) = .ok (.string (str (decDigits n))) (W.alloc (.cells (rowOf (decDigits n)) 81)) := fun W =>
    run_convert_bytes_back _ 26 9 5 _ _ (decDigits n) Tryd.underlying26 Tryd.underlying5 Tryd.underlying9 (fun j hj => by
      have e : (⟨W.heap.size, 20 - (decDigits n).length, none⟩ : Addr).add j = ⟨W.heap.size, 20 - (decDigits n).length + j, none⟩ := by unfold Addr.add; split <;> simp_all
      rw [e, cell_of_row _ _ _ _ _ _ (heap_alloc_new _ _)]
      exact rowOf_at _ j hL hj)
  clear hal
  go_enter Tryd.func32, Tryd.ntmps32
  go_wp2_with (first
    | (go_at_call 46; refine (lay_any n _ hn).mono ?_; rintro e w' ⟨rfl, gw⟩)
    | (refine wpList_store_new rfl 81 _ _ rfl (rowOf (decDigits n)) _ _ rfl rfl (rowOf_info _ hL) (by rw [rowOf_size _ hL]; rfl) (rowOf_one _) ?_))
  go_ret
  exact ⟨rfl, gw.alloc _ _⟩
end Go.Proofs.YtpkpmbigljkneaaDoor.Wd
