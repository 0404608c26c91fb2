/- How many bits a number has; sort.Slice at keys; no conditions but those that each names. -/
import Derived.Test.YtkfncanfgpmgaaaGreatTabSc
import Derived.Shelf.Small.Bits
namespace Go.Proofs.YtkfncanfgpmgaaaGreat.Wd
open Go Go.RowKit Go.Deep Go.Shelf
set_option linter.unusedVariables false
set_option maxRecDepth 100000

def biRen : Go.Shelf.Ren := ⟨fun | 125 => 129 | 128 => 164 | 129 => 165 | n => n, fun | 3 => 3 | 4 => 4 | 5 => 5 | 9 => 9 | 46 => 30 | 51 => 36 | 53 => 27 | n => n, fun | n => n⟩
theorem biLays : Lays.n125 Tryz.prog biRen := {
  mixed := by kernel_rfl
  f125 := Tryz.func129.trans (congrArg some (by kernel_rfl))
  f128 := Tryz.func164.trans (congrArg some (by kernel_rfl))
  f129 := Tryz.func165.trans (congrArg some (by kernel_rfl))
  t3 := Tryz.underlying3
  a3 := Tryz.isAgg3
  z3 := Tryz.sizeOf3
  v3 := Tryz.zeroValue3
  t4 := Tryz.underlying4
  a4 := Tryz.isAgg4
  z4 := Tryz.sizeOf4
  v4 := Tryz.zeroValue4
  t5 := Tryz.underlying5
  a5 := Tryz.isAgg5
  z5 := Tryz.sizeOf5
  v5 := Tryz.zeroValue5
  t9 := Tryz.underlying9
  a9 := Tryz.isAgg9
  z9 := Tryz.sizeOf9
  v9 := Tryz.zeroValue9
  t46 := Tryz.underlying30
  a46 := Tryz.isAgg30
  z46 := Tryz.sizeOf30
  v46 := Tryz.zeroValue30
  t51 := Tryz.underlying36
  a51 := Tryz.isAgg36
  z51 := Tryz.sizeOf36
  v51 := Tryz.zeroValue36
  t53 := Tryz.underlying27
  a53 := Tryz.isAgg27
  z53 := Tryz.sizeOf27
  v53 := Tryz.zeroValue27 }
theorem blen_any (x : Nat) (w : World) (h : x ≤ 18446744073709551615) : Calls Tryz.prog 129 #[.int .u64 (x : Int)] w fun e w' => e = .returned (.int .i64 (Lib.bitLen x)) ∧ w' = w :=
  Any.bits_Len biLays (x : Int) w (by omega) (by omega)

/-- The variable in block RX holds the keys d, in a row from block base on (a row of none may be nil). -/
structure Kys (W : World) (base RX : Nat) (v : Value) (d : Array ByteArray) : Prop where
  form : ∃ A cap, v = .slice A d.size cap ∧ (1 ≤ d.size → ∃ KB, A = some ⟨KB, 0, none⟩ ∧ base ≤ KB ∧ SoT W KB RX cap d)
  var : W.cell? ⟨RX, 0, none⟩ = some v
/-- What sort.Slice is asked of. -/
def SortC (n : Nat) : Prop := ∀ (base RX : Nat) (v : Value) (d : Array ByteArray) (W : World), Kys W base RX v d → d.size = n → base ≤ W.heap.size →
    Calls Tryz.prog 84 #[.iface 122 v, lesV RX] W fun e w' => e = .returned (.tuple #[]) ∧ (∃ g, Kys w' base RX v g ∧ Sort.PermIn 0 n d g ∧ Sort.SortedIn ltK 0 n g) ∧ Below base W w'
theorem bitLen_64 (n : Nat) (h : n ≤ 1099511627776) : Lib.bitLen n ≤ 64 := Lib.bitLen_le n 64 (by omega) (by omega)

set_option maxHeartbeats 1000000 in
theorem sort_head (n lim : Nat) (hlim : lim = Lib.bitLen n) (hn : n ≤ 1099511627776) (A : Option Addr) (KB cap RX : Nat) (hA : 2 ≤ n → A = some ⟨KB, 0, none⟩) (W : World) (R : World → Prop)
    (C : ∀ W', Below W.heap.size W W' → Calls Tryz.prog 130 #[datV RX (swK n) (swB KB cap n), .int .i64 0, .int .i64 (n : Int), .int .i64 (lim : Int)] W' fun e w' => e = .returned (.tuple #[]) ∧ R w') :
    Calls Tryz.prog 84 #[.iface 122 (.slice A n cap), lesV RX] W fun e w' => e = .returned (.tuple #[]) ∧ R w' := by
  obtain ⟨i, hi, hd⟩ := info_strs
  have hv := Lib.run_valueOf_slice (P := Tryz.prog) 122 Tstr i hi hd A n cap W
  have hs := fun w => swapper_run A KB cap n hA w
  have hl := fun a w ha => Lib.run_valueLen_slice (P := Tryz.prog) 122 Tstr i hi hd (by kernel_rfl) a A n cap w ha
  have hb := fun w => blen_any n w (by omega)
  rw [← hlim] at hb
  unfold datV lesV at C
  unfold lesV
  generalize swK n = sf at *
  generalize swB KB cap n = sb at *
  have n0 : (0 : Int) ≤ n := by omega
  have n1 : (n : Int) < 18446744073709551616 := by omega
  clear hi hd hlim hA
  have hgs : Tryz.prog.globals.size = 0 := by kernel_rfl
  simp only [typeHandle, hgs] at hv hl
  go_enter Tryz.func84, Tryz.ntmps84
  go_wp2
  rw [run_callFunc_extern Tryz.func126 (by kernel_rfl) (by kernel_rfl) (by kernel_rfl) (e := fun args => Extern.ReflectliteValue.unpack (args.getD 0 (.tuple #[]))) (by kernel_rfl),
    show Sem.run Tryz.prog ((fun args : Array Value => Extern.ReflectliteValue.unpack (args.getD 0 (.tuple #[]))) #[.iface 122 (.slice A n cap)]) W = _ from hv]
  simp only [Result.andThen]
  rw [Oper.upon_value]
  go_wp2
  rw [run_callFunc_extern Tryz.func127 (by kernel_rfl) (by kernel_rfl) (by kernel_rfl) (e := Extern.ReflectliteSwapper.swapper "internal/reflectlite" (Extern.ReflectliteValue.valueError "Swapper")) (by kernel_rfl), hs]
  simp only [Result.andThen]
  rw [Oper.upon_value]
  go_wp2
  rw [run_callFunc_extern Tryz.func128 (by kernel_rfl) (by kernel_rfl) (by kernel_rfl) (e := Extern.ReflectliteValue.method (Extern.ReflectliteValue.valueError "reflectlite.Value.Len" 0) Extern.ReflectliteValue.len) (by kernel_rfl),
    hl _ _ (by simp)]
  simp only [Result.andThen]
  rw [Oper.upon_value]
  go_wp2_with (first | (go_at_call 129; refine (hb _).mono ?_; rintro e w' ⟨rfl, rfl⟩) | (go_at_call 130; refine (C _ (((Below.refl _ W).alloc (Nat.le_refl _) _).alloc (by simp) _)).mono ?_; rintro e w' ⟨rfl, hR⟩))
  go_end0
  exact ⟨rfl, hR⟩
end Go.Proofs.YtkfncanfgpmgaaaGreat.Wd
