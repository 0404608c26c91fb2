/- Keys in a row that is put in order: what is exchanged, what is less; no conditions but those that each names. -/
import Derived.Test.YtkfncanfgpmgaaaGreatTabCk
import Derived.Test.YtkfncanfgpmgaaaGreatTabE
import Derived.Sort.AssemblyPlain
import Derived.Sort.WalkA
import Derived.Sort.Walk13a
import Derived.Lib.ReflectliteSwap
import Derived.LoopTactic
import Derived.Deep.RegionHeld3
namespace Go.Proofs.YtkfncanfgpmgaaaGreat.Wd
open Go Go.RowKit Go.Deep
set_option linter.unusedVariables false
set_option maxRecDepth 100000

/-- Which of two keys is less. -/
abbrev ltK : ByteArray → ByteArray → Bool := fun x y => ls (lb x) (lb y)
theorem ltK_swo : Sort.SWO ltK where
  irrefl x := ls_irrefl _
  trans x y z h1 h2 := ls_trans _ _ _ h1 h2
  ntrans x y z h1 h2 := by
    cases h : ls (lb x) (lb z) with
    | false => exact h
    | true =>
      have h1 : ls (lb x) (lb y) = false := h1
      have h2 : ls (lb y) (lb z) = false := h2
      have t1 := ls_total (lb x) (lb y)
      have t2 := ls_total (lb y) (lb z)
      rw [h1] at t1
      rw [h2] at t2
      cases e1 : (lb x == lb y) with
      | true => rw [eq_of_beq e1] at h; rw [h] at h2; cases h2
      | false =>
        rw [e1] at t1
        simp at t1
        cases e2 : (lb y == lb z) with
        | true => rw [← eq_of_beq e2] at h; rw [h] at h1; cases h1
        | false =>
          rw [e2] at t2
          simp at t2
          have := ls_trans _ _ _ t2 t1
          rw [ls_asymm _ _ h] at this
          cases this
abbrev one (B : Nat) : Nat → Prop := fun k => k = B
/-- The keys d lie in block KB; the variable in block RX holds them. -/
structure SoT (W : World) (KB RX cap : Nat) (d : Array ByteArray) : Prop where
  lt : KB < W.heap.size
  ne : RX ≠ KB
  fit : ∀ k, k < d.size → d[k]!.size ≤ 9223372036854775807
  var : W.cell? ⟨RX, 0, none⟩ = some (.slice (some ⟨KB, 0, none⟩) d.size cap)
  rows : ∀ k, k < d.size → W.cell? ⟨KB, k, none⟩ = some (.string d[k]!) ∧ W.frozen? ⟨KB, k, none⟩ = false
  typ : ∃ cur, Blk W KB cur Tstr
theorem SoT.below {W W' : World} {KB RX cap : Nat} {d : Array ByteArray} (h : SoT W KB RX cap d) (g : Below W.heap.size W W') : SoT W' KB RX cap d :=
  ⟨Nat.lt_of_lt_of_le h.lt g.size, h.ne, h.fit, celln g h.var, fun k hk => ⟨(World.cell?_of_block (w := W) (g.block _ h.lt)).trans (h.rows k hk).1, (World.frozen?_of_block (w := W) (g.block _ h.lt)).trans (h.rows k hk).2⟩, by obtain ⟨cur, hb⟩ := h.typ; exact ⟨cur, (g.block _ h.lt).trans hb⟩⟩
theorem SoT.alloc {W : World} {KB RX cap : Nat} {d : Array ByteArray} (h : SoT W KB RX cap d) (o : Obj) : SoT (W.alloc o) KB RX cap d := h.below ((Below.refl _ W).alloc (Nat.le_refl _) o)
theorem SoT.dr {W : World} {KB RX cap : Nat} {d : Array ByteArray} (h : SoT W KB RX cap d) : SoT W.drew KB RX cap d := ⟨h.lt, h.ne, h.fit, h.var, h.rows, h.typ⟩
theorem tcell {S : Nat → Prop} {a b : World} (h : Tch S a b) {k o : Nat} {v : Value} (hk : ¬ S k) (c : a.cell? ⟨k, o, none⟩ = some v) : b.cell? ⟨k, o, none⟩ = some v :=
  (World.cell?_of_block (w := a) (h.block k (cell_lt c) hk)).trans c
theorem SoT.swap {W : World} {KB RX cap : Nat} {d : Array ByteArray} (h : SoT W KB RX cap d) (i j : Nat) (hi : i < d.size) (hj : j < d.size) :
    SoT ((W.setCell ⟨KB, i, none⟩ (.string d[j]!)).setCell ⟨KB, j, none⟩ (.string d[i]!)) KB RX cap (Sort.swp d i j) ∧ Tch (one KB) W ((W.setCell ⟨KB, i, none⟩ (.string d[j]!)).setCell ⟨KB, j, none⟩ (.string d[i]!)) := by
  have g : Tch (one KB) W ((W.setCell ⟨KB, i, none⟩ (.string d[j]!)).setCell ⟨KB, j, none⟩ (.string d[i]!)) := Tch.trans (S := one KB) (Tch.set (S := one KB) W KB i _ rfl) (Tch.set (S := one KB) _ KB j _ rfl)
  refine ⟨⟨by simpa using h.lt, h.ne, fun k hk => ?_, ?_, fun k hk => ?_, by obtain ⟨cur, hb⟩ := h.typ; exact ⟨_, (hb.set i _).set j _⟩⟩, g⟩
  · rw [Sort.size_swp] at hk
    rw [Sort.swp_get d hi hj]
    split
    · first | exact h.fit _ hj | exact h.fit _ hi
    · split
      · first | exact h.fit _ hi | exact h.fit _ hj
      · exact h.fit _ hk
  · rw [Sort.size_swp]
    exact tcell g (by show ¬ RX = KB; exact h.ne) h.var
  · rw [Sort.size_swp] at hk
    refine ⟨?_, by simp only [World.frozen?_setCell]; exact (h.rows k hk).2⟩
    by_cases c : k = j
    · subst c
      have := World.cell?_setCell_same' (W.setCell ⟨KB, i, none⟩ (.string d[k]!)) ⟨KB, k, none⟩ (.string d[i]!) (by
        by_cases e : k = i
        · subst e; rw [World.cell?_setCell_same _ _ _ (h.rows k hk).1]; rfl
        · rw [cs_other _ _ _ _ _ _ (.inr e), (h.rows k hk).1]; rfl)
      rw [this, Sort.swp_right d i k hj]
    · rw [cs_other _ _ _ _ _ _ (.inr c)]
      by_cases e : k = i
      · subst e
        rw [World.cell?_setCell_same _ _ _ (h.rows k hk).1, Sort.swp_left d k j hi c]
      · rw [cs_other _ _ _ _ _ _ (.inr e), (h.rows k hk).1, Sort.swp_other d i j k e c]

/-- What is asked of the function that exchanges. -/
def SwapC (sf : Nat) (sb : Array Value) (KB RX cap n : Nat) : Prop :=
  ∀ (W : World) (d : Array ByteArray) (i j : Nat), SoT W KB RX cap d → d.size = n → i < n → j < n →
    ∃ W', (callFunc sf (#[.int .i64 (i : Int), .int .i64 (j : Int)] ++ sb)).run Tryz.prog W = .ok (.value (.tuple #[])) W' ∧ SoT W' KB RX cap (Sort.swp d i j) ∧ Tch (one KB) W W'
/-- What is asked of the function that says what is less. -/
def LessC (KB RX cap n : Nat) : Prop :=
  ∀ (W : World) (d : Array ByteArray) (i j : Nat), SoT W KB RX cap d → d.size = n → i < n → j < n →
    Calls Tryz.prog 85 #[.int .i64 (i : Int), .int .i64 (j : Int), ptr RX] W fun e w' => e = .returned (.bool (ltK d[i]! d[j]!)) ∧ Below W.heap.size W w'
abbrev lesV (RX : Nat) : Value := .func (Fn.func 85) #[] #[ptr RX]
abbrev datV (RX sf : Nat) (sb : Array Value) : Value := .agg #[lesV RX, .func (Fn.func sf) #[] sb]
abbrev boxO (RX sf : Nat) (sb : Array Value) : Obj := .cells #[lesV RX, .func (Fn.func sf) #[] sb] 173

theorem less1_any (KB RX cap n : Nat) (hn : n ≤ 1099511627776) : LessC KB RX cap n := by
  intro W d i j hS hd hi hj
  subst hd
  have C := fun W => kless_any d[i]! d[j]! W (hS.fit i hi) (hS.fit j hj)
  have a1 := (hS.rows i hi).1
  have a2 := (hS.rows j hj).1
  have a3 := hS.var
  have i1 : (i : Int) < (d.size : Int) := by omega
  have j1 : (j : Int) < (d.size : Int) := by omega
  have i0 : (0 : Int) ≤ (i : Int) := by omega
  have j0 : (0 : Int) ≤ (j : Int) := by omega
  show Calls Tryz.prog 85 _ W fun e w' => e = .returned (.bool (ls (lb d[i]!) (lb d[j]!))) ∧ Below W.heap.size W w'
  generalize d[i]! = x at *
  generalize d[j]! = y at *
  clear hS
  generalize d.size = n at *
  go_enter Tryz.func85, Tryz.ntmps85
  go_wp2_with fail
  go_region_held3 (fun w' => w'.cell? ⟨RX, 0, none⟩ = some (.slice (some ⟨KB, 0, none⟩) n cap) ∧ w'.cell? ⟨KB, i, none⟩ = some (.string x) ∧ w'.cell? ⟨KB, j, none⟩ = some (.string y) ∧ Below W.heap.size W w')
    (first | with_reducible exact ⟨dcell a3, dcell a1, dcell a2, (Below.refl _ W).drew⟩ | with_reducible exact ⟨a3, a1, a2, kb⟩)
    (first | (go_at_call 86; refine (C _).mono ?_; rintro e w2 ⟨rfl, kb⟩; replace a3 := celln kb (dcell a3); replace a1 := celln kb (dcell a1); replace a2 := celln kb (dcell a2); replace kb := kbq (Below.refl _ W).drew kb))
  go_wp2
  go_ret
  exact ⟨rfl, kb⟩

/-! ### The library's Swapper, at texts -/
theorem infoStr : (Tryz.prog.info? Tstr).map (fun i => (i.size, i.hasPointers, i.bytes)) = some (1, true, 16) := by kernel_rfl
theorem infoStrs : (Tryz.prog.info? 122).map (fun i => i.desc) = some (.slice Tstr) := by kernel_rfl
theorem kindStr (w : World) : (Extern.Rtype.kind Tstr).run Tryz.prog w = .ok 24 w := by kernel_rfl
theorem aggStr (w : World) : (isAgg Tstr).run Tryz.prog w = .ok false w := by kernel_rfl
theorem info_str : ∃ ie, Tryz.prog.info? Tstr = some ie ∧ ie.size = 1 ∧ ie.hasPointers = true ∧ ie.bytes = 16 := by
  have h := infoStr
  cases e : Tryz.prog.info? Tstr with
  | none => rw [e] at h; cases h
  | some ie => rw [e] at h; simp at h; exact ⟨ie, rfl, h.1, h.2.1, h.2.2⟩
theorem info_strs : ∃ i, Tryz.prog.info? 122 = some i ∧ i.desc = .slice Tstr := by
  have h := infoStrs
  cases e : Tryz.prog.info? 122 with
  | none => rw [e] at h; cases h
  | some i => rw [e] at h; simp at h; exact ⟨i, rfl, h⟩
def swK (n : Nat) : Nat := if n = 0 then 155 else if n = 1 then 156 else 158
noncomputable def swB (KB cap n : Nat) : Array Value := if n ≤ 1 then #[] else #[.slice (some ⟨KB, 0, none⟩) n cap, typeHandle Tryz.prog Tstr]
theorem sw_enters (args : Array Value) (W : World) : (callFunc 158 args).run Tryz.prog W = ((Extern.ReflectliteSwapper.swap true args).run Tryz.prog W).andThen fun v w' => .ok (.value v) w' :=
  run_callFunc_extern Tryz.func158 (by kernel_rfl) (by kernel_rfl) (by kernel_rfl) (e := Extern.ReflectliteSwapper.swap true) (by kernel_rfl) args W
theorem swapC_any (KB RX cap n : Nat) (h2 : 2 ≤ n) : SwapC (swK n) (swB KB cap n) KB RX cap n := by
  intro W d i j hS hd hi hj
  obtain ⟨ie, hie, z1, z2, z3⟩ := info_str
  have e1 : swK n = 158 := by unfold swK; rw [if_neg (by omega), if_neg (by omega)]
  have e2 : swB KB cap n = #[.slice (some ⟨KB, 0, none⟩) n cap, typeHandle Tryz.prog Tstr] := by unfold swB; rw [if_neg (by omega)]
  obtain ⟨s1, s2⟩ := hS.swap i j (by omega) (by omega)
  refine ⟨_, ?_, s1, s2⟩
  rw [e1, e2, sw_enters]
  have R := Lib.run_swap_one (P := Tryz.prog) true Tstr ie hie z1 aggStr KB 0 n cap i j hi hj (.string d[i]!) (.string d[j]!) rfl rfl W
    (by rw [Nat.zero_add]; exact (hS.rows i (by omega)).1) (by rw [Nat.zero_add]; exact (hS.rows j (by omega)).1) (by rw [Nat.zero_add]; exact (hS.rows i (by omega)).2) (by rw [Nat.zero_add]; exact (hS.rows j (by omega)).2)
  rw [Nat.zero_add, Nat.zero_add] at R
  rw [show (#[Value.int .i64 (i : Int), .int .i64 (j : Int)] ++ #[.slice (some ⟨KB, 0, none⟩) n cap, typeHandle Tryz.prog Tstr] : Array Value) = #[.int .i64 i, .int .i64 j, .slice (some ⟨KB, 0, none⟩) n cap, typeHandle Tryz.prog Tstr] from rfl, R]
  rfl
theorem swk_is (ie : TypeInfo) (h : ie.hasPointers = true) (hb : ie.bytes = 16) (n : Nat) : Lib.swapperK n ie 24 = if n = 0 then 1 else if n = 1 then 2 else 4 := by
  unfold Lib.swapperK
  simp [h, hb]
theorem lit1 : Tryz.prog.funcs.findIdx? (·.name == "internal/reflectlite" ++ ".Swapper$" ++ toString 1) = some 155 := by kernel_rfl
theorem lit2 : Tryz.prog.funcs.findIdx? (·.name == "internal/reflectlite" ++ ".Swapper$" ++ toString 2) = some 156 := by kernel_rfl
theorem lit4 : Tryz.prog.funcs.findIdx? (·.name == "internal/reflectlite" ++ ".Swapper$" ++ toString 4) = some 158 := by kernel_rfl
/-- Where the row lies; none of a row that is nil. -/
abbrev rowA (KB n : Nat) : Option Addr := if n = 0 then none else some ⟨KB, 0, none⟩
theorem swapper_run (A : Option Addr) (KB cap n : Nat) (hA : 2 ≤ n → A = some ⟨KB, 0, none⟩) (w : World) : (Extern.ReflectliteSwapper.swapper "internal/reflectlite" (Extern.ReflectliteValue.valueError "Swapper") #[.iface 122 (.slice A n cap)]).run Tryz.prog w
      = .ok (.func (.func (swK n)) #[] (swB KB cap n)) w := by
  obtain ⟨ie, hie, z1, z2, z3⟩ := info_str
  obtain ⟨i, hi, hd⟩ := info_strs
  have hk := swk_is ie z2 z3 n
  have R := fun f hf => Lib.run_swapper_slice (P := Tryz.prog) 122 Tstr i ie hi hd hie 24 kindStr A n cap f hf w
  rw [hk] at R
  unfold swK swB
  by_cases h0 : n = 0
  · rw [if_pos h0] at R ⊢
    rw [R _ lit1, if_pos (by omega), if_pos (by omega)]
  · by_cases h1 : n = 1
    · rw [if_neg h0, if_pos h1] at R
      rw [if_neg h0, if_pos h1, R _ lit2, if_pos (by omega), if_pos (by omega)]
    · rw [if_neg h0, if_neg h1] at R
      rw [if_neg h0, if_neg h1, R _ lit4, if_neg (by omega), if_neg (by omega), hA (by omega)]
end Go.Proofs.YtkfncanfgpmgaaaGreat.Wd
