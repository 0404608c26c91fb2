/- What rule.Parse answers of a line of four words, or of five, that begins as it has to; no conditions but those that each names. -/
import Derived.Test.YtpkpmbigljkneaaDoorRulA
import Derived.LoopTactic
import Derived.StillTailTactics
namespace Go.Proofs.YtpkpmbigljkneaaDoor.Wd
open Go Go.RowKit
set_option linter.unusedVariables false

/-- What stands behind k rounds of reading: the answer's block Z (all noughts), the rule's block R, the parts T, the map M and its two closures' cells. -/
structure PI (w wr : World) (d n T M q1 q2 Z R : Nat) (p : ByteArray) (e b k : Int) : Prop where
  bel : Below w.heap.size w wr
  z : Bx wr Z ⟨#[]⟩ 0 0 0
  r : Bx wr R p e b k
  told : ∀ i, i < n → wr.cell? ⟨T, i, none⟩ = some (.int .u8 ((i + d : Nat) : Int))
  map : wr.heap[M]? = some (rdMap q1 q2)
  c1 : wr.cell? ⟨q1, 0, none⟩ = some (fnV 41)
  c2 : wr.cell? ⟨q2, 0, none⟩ = some (fnV 42)
  low : w.heap.size ≤ R
  zR : Z ≠ R
  tR : T ≠ R
  mR : M ≠ R
  q1R : q1 ≠ R
  q2R : q2 ≠ R
theorem PI.later {w wr w2 : World} {d n T M q1 q2 Z R : Nat} {p : ByteArray} {e b k : Int} (h : PI w wr d n T M q1 q2 Z R p e b k) (g : Below wr.heap.size wr w2) : PI w w2 d n T M q1 q2 Z R p e b k :=
  ⟨h.bel.trans (g.mono h.bel.size), h.z.below g, h.r.below g, fun i hi => celln g (h.told i hi), (g.block _ (lt_heap h.map)).trans h.map, celln g h.c1, celln g h.c2, h.low, h.zR, h.tR, h.mR, h.q1R, h.q2R⟩
theorem cell_other {w : World} {R o b o2 : Nat} {v x : Value} (hn : b ≠ R) (h : w.cell? ⟨b, o2, none⟩ = some v) : (w.setCell ⟨R, o, none⟩ x).cell? ⟨b, o2, none⟩ = some v :=
  (World.cell?_of_block (Below.heap_setCell _ _ _ _ hn)).trans h
theorem PI.put {w wr : World} {d n T M q1 q2 Z R : Nat} {p : ByteArray} {e b k : Int} (h : PI w wr d n T M q1 q2 Z R p e b k) (o : Nat) (x : Value) {p' : ByteArray} {e' b' k' : Int} (hx : Bx (wr.setCell ⟨R, o, none⟩ x) R p' e' b' k') : PI w (wr.setCell ⟨R, o, none⟩ x) d n T M q1 q2 Z R p' e' b' k' :=
  ⟨h.bel.setCell h.low x, h.z.other _ _ h.zR.symm, hx, fun i hi => cell_other h.tR (h.told i hi), (Below.heap_setCell _ _ _ _ h.mR).trans h.map, cell_other h.q1R h.c1, cell_other h.q2R h.c2, h.low, h.zR, h.tR, h.mR, h.q1R, h.q2R⟩
theorem PI.drew {w wr : World} {d n T M q1 q2 Z R : Nat} {p : ByteArray} {e b k : Int} (h : PI w wr d n T M q1 q2 Z R p e b k) : PI w wr.drew d n T M q1 q2 Z R p e b k := h.later (Below.refl _ _).drew

/-! ### The readers, by what stands -/
section
variable {w : World} {d n T M q1 q2 Z R : Nat} {p : ByteArray} {e b k : Int}
theorem rd0_none (s : ByteArray) (W : World) (h : PI w W d n T M q1 q2 Z R p e b k) (hs : s.size = 0) :
    Calls Tryd.prog 39 #[.pointer (some ⟨R, 0, none⟩), .string s] W fun r w' => r = .returned (.int .u16 23) ∧ PI w w' d n T M q1 q2 Z R p e b k := by
  refine (readPrefix_none R s W hs).mono ?_
  rintro r w' ⟨rfl, rfl⟩
  exact ⟨rfl, h⟩
theorem rd0_some (s : ByteArray) (W : World) (h : PI w W d n T M q1 q2 Z R p e b k) (hs : 0 < s.size) (hs2 : s.size ≤ 281474976710656) :
    Calls Tryd.prog 39 #[.pointer (some ⟨R, 0, none⟩), .string s] W fun r w' => r = .returned (.int .u16 0) ∧ PI w w' d n T M q1 q2 Z R s e b k := by
  refine (readPrefix_some R s p e b k W h.r hs hs2).mono ?_
  rintro r w' ⟨rfl, w1, b1, rfl⟩
  exact ⟨rfl, (h.later b1).put _ _ ((h.later b1).r.put0 s)⟩
theorem rd1_any (s : ByteArray) (W : World) (h : PI w W d n T M q1 q2 Z R p e b k) (hs : s.size ≤ 9223372036854775807) :
    Calls Tryd.prog 50 #[.pointer (some ⟨R, 0, none⟩), .string s, .pointer (some ⟨q1, 0, none⟩)] W fun r w' => r = .returned (.int .u16 (paE (lb s))) ∧ PI w w' d n T M q1 q2 Z R p (paN (lb s)) b k := by
  refine (number1_any R q1 s p e b k W h.r h.c1 hs).mono ?_
  rintro r w' ⟨rfl, w1, b1, rfl⟩
  exact ⟨rfl, (h.later b1).put _ _ ((h.later b1).r.put1 _)⟩
theorem rd2_any (s : ByteArray) (W : World) (h : PI w W d n T M q1 q2 Z R p e b k) (hs : s.size ≤ 9223372036854775807) :
    Calls Tryd.prog 50 #[.pointer (some ⟨R, 0, none⟩), .string s, .pointer (some ⟨q2, 0, none⟩)] W fun r w' => r = .returned (.int .u16 (paE (lb s))) ∧ PI w w' d n T M q1 q2 Z R p e (paN (lb s)) k := by
  refine (number2_any R q2 s p e b k W h.r h.c2 hs).mono ?_
  rintro r w' ⟨rfl, w1, b1, rfl⟩
  exact ⟨rfl, (h.later b1).put _ _ ((h.later b1).r.put2 _)⟩
theorem rd3_any (s : ByteArray) (W : World) (h : PI w W d n T M q1 q2 Z R p e b k) (hN : Nam w) :
    Calls Tryd.prog 43 #[.pointer (some ⟨R, 0, none⟩), .string s] W fun r w' => r = .returned (.int .u16 0) ∧ PI w w' d n T M q1 q2 Z R p e b (kinI s) := by
  refine (readKind_any R s p e b k W h.r (hN.below h.bel)).mono ?_
  rintro r w' ⟨rfl, rfl⟩
  exact ⟨rfl, h.put _ _ (h.r.put3 _)⟩
/-- What is asked of one part alone. -/
theorem wrong_one (x : Nat) (B : Nat) (W : World) (hc : W.cell? ⟨B, 0, none⟩ = some (.int .u8 (x : Int))) (hs : p.size ≤ 9223372036854775807) (he : U e) (hb : U b) :
    Calls Tryd.prog 31 #[rul p e b k, .slice (some ⟨B, 0, none⟩) 1 1] W fun r w' => r = .returned (.int .u16 (wrE [x] p e b k)) ∧ Kept W w' :=
  wrong_any (some ⟨B, 0, none⟩) 1 1 [x] p e b k W (fun _ => ⟨B, 0, rfl, fun j hj => by
    match j, hj with
    | 0, _ => simpa using hc⟩) rfl (by omega) hs he hb
end

theorem ePr_none (s : ByteArray) (h : s.size = 0) : ePr s = 23 := by
  unfold ePr rtB; rw [list_size, decide_eq_false (by omega)]; rfl
theorem ePr_some (s : ByteArray) (e b k : Int) (h : 0 < s.size) : wrE [0] s e b k = ePr s := by
  unfold wrE badB pfB ePr
  rw [decide_eq_false (show ¬ s.size = 0 by omega)]
  simp
  cases rtB (lb s) <;> simp
theorem eEv_no (s : ByteArray) (h : paE (lb s) ≠ 0) : eEv s = paE (lb s) := by unfold eEv; rw [if_pos h]
theorem eEv_yes (s p : ByteArray) (b k : Int) (h : paE (lb s) = 0) : wrE [1] p (paN (lb s)) b k = eEv s := by
  have hu := paN_U (lb s)
  rw [show eEv s = (if paN (lb s) = 0 then 24 else 0) from by unfold eEv; rw [if_neg (by simp [h])]]
  unfold wrE badB
  simp
  by_cases c : paN (lb s) = 0
  · rw [if_pos c, if_pos (by omega)]
  · rw [if_neg c, if_neg (by omega)]
theorem eBu_no (x s : ByteArray) (h : paE (lb s) ≠ 0) : eBu x s = paE (lb s) := by unfold eBu; rw [if_pos h]
theorem eBu_yes (x s p : ByteArray) (k : Int) (h : paE (lb s) = 0) : wrE [2] p (paN (lb x)) (paN (lb s)) k = eBu x s := by
  have hu := paN_U (lb s)
  rw [show eBu x s = (if paN (lb s) = 0 then 25 else if sat (paN (lb x) * paN (lb s)) ≤ 4611686018427387904 then 0 else 26) from by unfold eBu; rw [if_neg (by simp [h])]]
  unfold wrE badB
  simp
  by_cases c : paN (lb s) = 0
  · rw [if_pos c, if_pos (by omega)]
  · rw [if_neg c, if_neg (by omega)]
    by_cases g : sat (paN (lb x) * paN (lb s)) ≤ 4611686018427387904
    · rw [if_pos g, if_neg (by omega)]
    · rw [if_neg g, if_pos (by omega)]
theorem isK_kin (z : ByteArray) : isK (kinI z) = kinB z := by
  unfold isK kinI kinB
  by_cases h1 : z = gcraS
  · simp [h1]
  · by_cases h2 : z = bucketS
    · simp [h2]
    · by_cases h3 : z = leakyS
      · simp [h3]
      · simp [h1, h2, h3]
theorem eKi_is (z p : ByteArray) (e b : Int) : wrE [3] p e b (kinI z) = eKi z := by
  unfold wrE badB eKi
  rw [isK_kin]
  simp
  cases kinB z <;> simp
theorem numA_1 (p x y z : ByteArray) (o : Int) (h : eEv x ≠ 0) : numA p o x y z = zeroA (eEv x) o := by unfold numA; rw [if_pos h]
theorem numA_2 (p x y z : ByteArray) (o : Int) (h1 : eEv x = 0) (h : eBu x y ≠ 0) : numA p o x y z = zeroA (eBu x y) (o + 1) := by unfold numA; rw [if_neg (by simp [h1]), if_pos h]
theorem numA_3 (p x y z : ByteArray) (o : Int) (h1 : eEv x = 0) (h2 : eBu x y = 0) (h : eKi z ≠ 0) : numA p o x y z = zeroA (eKi z) (o + 2) := by unfold numA; rw [if_neg (by simp [h1]), if_neg (by simp [h2]), if_pos h]
theorem numA_4 (p x y z : ByteArray) (o : Int) (h1 : eEv x = 0) (h2 : eBu x y = 0) (h : eKi z = 0) : numA p o x y z = ⟨p, paN (lb x), paN (lb y), kinI z, 0, 0⟩ := by unfold numA; rw [if_neg (by simp [h1]), if_neg (by simp [h2]), if_neg (by simp [h])]

theorem hp_size (w : World) (o : Obj) : (w.alloc o).heap.size = w.heap.size + 1 := by simp
theorem start_PI (w : World) (d n : Nat) (ps : Array Value) (ht : ∀ i, i < n → ps[i]? = some (.int .u8 ((i + d : Nat) : Int))) :
    PI w ((((((w.alloc (.cells #[.string ⟨#[]⟩, .int .u64 0, .int .u64 0, .int .u8 0] 24)).alloc (.cells ps 61)).alloc (rdMap (w.heap.size + 1 + 1 + 1) (w.heap.size + 1 + 1 + 1 + 1))).alloc (.cells #[fnV 41] 74)).alloc (.cells #[fnV 42] 74)).alloc (.cells #[.string ⟨#[]⟩, .int .u64 0, .int .u64 0, .int .u8 0] 24))
      d n (w.heap.size + 1) (w.heap.size + 1 + 1) (w.heap.size + 1 + 1 + 1) (w.heap.size + 1 + 1 + 1 + 1) w.heap.size (w.heap.size + 1 + 1 + 1 + 1 + 1) ⟨#[]⟩ 0 0 0 := by
  generalize ho1 : Obj.cells #[.string ⟨#[]⟩, .int .u64 0, .int .u64 0, .int .u8 0] 24 = o1
  generalize ho2 : Obj.cells ps 61 = o2
  generalize ho3 : rdMap (w.heap.size + 1 + 1 + 1) (w.heap.size + 1 + 1 + 1 + 1) = o3
  generalize ho4 : Obj.cells #[fnV 41] 74 = o4
  generalize ho5 : Obj.cells #[fnV 42] 74 = o5
  obtain ⟨W1, h1⟩ : ∃ W1, W1 = w.alloc o1 := ⟨_, rfl⟩
  obtain ⟨W2, h2⟩ : ∃ W2, W2 = W1.alloc o2 := ⟨_, rfl⟩
  obtain ⟨W3, h3⟩ : ∃ W3, W3 = W2.alloc o3 := ⟨_, rfl⟩
  obtain ⟨W4, h4⟩ : ∃ W4, W4 = W3.alloc o4 := ⟨_, rfl⟩
  obtain ⟨W5, h5⟩ : ∃ W5, W5 = W4.alloc o5 := ⟨_, rfl⟩
  obtain ⟨W6, h6⟩ : ∃ W6, W6 = W5.alloc o1 := ⟨_, rfl⟩
  have z1 : W1.heap.size = w.heap.size + 1 := by rw [h1, hp_size]
  have z2 : W2.heap.size = w.heap.size + 1 + 1 := by rw [h2, hp_size, z1]
  have z3 : W3.heap.size = w.heap.size + 1 + 1 + 1 := by rw [h3, hp_size, z2]
  have z4 : W4.heap.size = w.heap.size + 1 + 1 + 1 + 1 := by rw [h4, hp_size, z3]
  have z5 : W5.heap.size = w.heap.size + 1 + 1 + 1 + 1 + 1 := by rw [h5, hp_size, z4]
  have b0 : Below w.heap.size w W1 := by rw [h1]; exact (Below.refl _ _).alloc (by omega) _
  have b1 : Below W1.heap.size W1 W2 := by rw [h2]; exact (Below.refl _ _).alloc (by omega) _
  have b2 : Below W2.heap.size W2 W3 := by rw [h3]; exact (Below.refl _ _).alloc (by omega) _
  have b3 : Below W3.heap.size W3 W4 := by rw [h4]; exact (Below.refl _ _).alloc (by omega) _
  have b4 : Below W4.heap.size W4 W5 := by rw [h5]; exact (Below.refl _ _).alloc (by omega) _
  have b5 : Below W5.heap.size W5 W6 := by rw [h6]; exact (Below.refl _ _).alloc (by omega) _
  have e1 : W1.heap[w.heap.size]? = some o1 := by rw [h1]; exact (MapKept.heap_alloc w _).1
  have e2 : W2.heap[w.heap.size + 1]? = some o2 := by rw [h2, ← z1]; exact (MapKept.heap_alloc W1 _).1
  have e3 : W3.heap[w.heap.size + 1 + 1]? = some o3 := by rw [h3, ← z2]; exact (MapKept.heap_alloc W2 _).1
  have e4 : W4.heap[w.heap.size + 1 + 1 + 1]? = some o4 := by rw [h4, ← z3]; exact (MapKept.heap_alloc W3 _).1
  have e5 : W5.heap[w.heap.size + 1 + 1 + 1 + 1]? = some o5 := by rw [h5, ← z4]; exact (MapKept.heap_alloc W4 _).1
  have e6 : W6.heap[w.heap.size + 1 + 1 + 1 + 1 + 1]? = some o1 := by rw [h6, ← z5]; exact (MapKept.heap_alloc W5 _).1
  rw [← h1, ← h2, ← h3, ← h4, ← h5, ← h6]
  have k4 := kbq b4 b5
  have k3 := kbq b3 k4
  have k2 := kbq b2 k3
  have k1 := kbq b1 k2
  have k0 := kbq b0 k1
  refine ⟨k0, (Bx.below (w := W1) ⟨_, by rw [e1, ← ho1]⟩ k1), ⟨_, by rw [e6, ← ho1]⟩, fun i hi => ?_, ?_, ?_, ?_, by omega, by omega, by omega, by omega, by omega, by omega⟩
  · refine celln k2 ?_
    unfold World.cell?
    simp [e2, ← ho2, ht i hi]
  · exact (k3.block _ (lt_heap e3)).trans (by rw [e3, ho3])
  · refine celln k4 ?_
    unfold World.cell?
    simp [e4, ← ho4]
  · refine celln b5 ?_
    unfold World.cell?
    simp [e5, ← ho5]

set_option maxRecDepth 100000 in
set_option maxHeartbeats 4000000 in
theorem parse_def (b off cap : Nat) (x0 x1 x2 x3 : ByteArray) (A : Ans) (w : World) (hA : A = numA ⟨#[]⟩ 1 x1 x2 x3) (hN : Nam w)
    (c0 : w.cell? ⟨b, off, none⟩ = some (.string x0)) (c1 : w.cell? ⟨b, off + 1, none⟩ = some (.string x1)) (c2 : w.cell? ⟨b, off + 2, none⟩ = some (.string x2)) (c3 : w.cell? ⟨b, off + 3, none⟩ = some (.string x3))
    (hx : x0.toList = defL) (s1 : x1.size ≤ 281474976710656) (s2 : x2.size ≤ 281474976710656) (s3 : x3.size ≤ 281474976710656) :
    Calls Tryd.prog 19 #[.slice (some ⟨b, off, none⟩) 4 cap] w fun r w' => r = .returned (.tuple #[A.rule, .int .u16 A.err, .int .i64 A.at_]) ∧ Below w.heap.size w w' := by
  have HA := Lib.hid hA
  clear hA
  have hb := lt_of_cell c0
  have PA (o : Obj) := parts_def b off cap x0 (w.alloc o) (celln ((Below.refl _ w).alloc (Nat.le_refl _) o) c0) hx
  go_enter Tryd.func19, Tryd.ntmps19
  go_wp2_with (first
    | (go_at_call 29; refine (PA _).mono ?_; rintro r w1 ⟨rfl, rfl⟩)
    | (go_at_call 30; refine (readers_any _).mono ?_; rintro r w1 ⟨rfl, rfl⟩))
  clear PA
  have P0 := start_PI w 1 3 #[.int .u8 1, .int .u8 2, .int .u8 3] (fun i hi => by
    match i, hi with
    | 0, _ => rfl
    | 1, _ => rfl
    | 2, _ => rfl)
  generalize hW : World.alloc _ _ = W0 at *
  clear hW
  generalize w.heap.size + 1 + 1 + 1 + 1 + 1 = R at *
  generalize w.heap.size + 1 + 1 + 1 + 1 = q2 at *
  generalize w.heap.size + 1 + 1 + 1 = q1 at *
  generalize w.heap.size + 1 + 1 = M at *
  generalize w.heap.size + 1 = T at *
  go_loopw [20] (fun i wr => Hid ((i = .int .i64 0 ∧ PI w wr 1 3 T M q1 q2 w.heap.size R ⟨#[]⟩ 0 0 0) ∨ (i = .int .i64 1 ∧ PI w wr 1 3 T M q1 q2 w.heap.size R ⟨#[]⟩ (paN (lb x1)) 0 0 ∧ eEv x1 = 0) ∨ (i = .int .i64 2 ∧ PI w wr 1 3 T M q1 q2 w.heap.size R ⟨#[]⟩ (paN (lb x1)) (paN (lb x2)) 0 ∧ eEv x1 = 0 ∧ eBu x1 x2 = 0) ∨ (i = .int .i64 3 ∧ PI w wr 1 3 T M q1 q2 w.heap.size R ⟨#[]⟩ (paN (lb x1)) (paN (lb x2)) (kinI x3) ∧ eEv x1 = 0 ∧ eBu x1 x2 = 0 ∧ eKi x3 = 0))) (fun i _ => 3 - (intOf i).toNat)
  case atStart => exact Lib.hid (.inl ⟨rfl, P0⟩)
  case round =>
    clear P0
    obtain ⟨rfl, I⟩ | ⟨rfl, I, z1⟩ | ⟨rfl, I, z1, z2⟩ | ⟨rfl, I, z1, z2, z3⟩ := hrel.out
    · have t0 : wr.cell? ⟨T, 0, none⟩ = some (.int .u8 1) := by simpa using I.told 0 (by omega)
      have lk := (run_read wr.drew M q1 q2 I.map).2.1
      have cw : wr.cell? ⟨b, off + 1, none⟩ = some (.string x1) := celln I.bel c1
      have hw : IntKind.i64.wrap 1 = 1 := rfl
      clear c0 hx hrel hb
      go_wp2
      go_region_held3 (fun w' => (Instr.lookup 59 (.map (some M)) (.int .u8 1) false).run Tryd.prog w' = .ok (numV q1) w' ∧ w'.cell? ⟨b, off + 1, none⟩ = some (.string x1))
        (first | with_reducible exact ⟨lk, dcell cw⟩ | with_reducible exact ⟨lk, cw⟩)
        (first | (go_at_call 50; refine (rd1_any _ _ I.drew (by omega)).mono ?_; rintro r w2 ⟨rfl, I2⟩; replace lk := (run_read w2 M q1 q2 I2.map).2.1; replace cw := celln I2.bel c1))
      by_cases hE : paE (lb x1) = 0
      · obtain ⟨r0, r1, r2, r3⟩ := I2.r.cells
        by_cases hV : eEv x1 = 0
        · have g1 := hV
          go_wp2_with (go_at_call 31; refine (wrong_one 1 _ _ (by simp) (by decide) (paN_U _) U_zero).mono ?_; rintro r w3 ⟨rfl, k3⟩; rw [eEv_yes x1 _ _ _ hE]; have I3 := (I2.later ((Below.refl _ _).alloc (Nat.le_refl _) _)).later k3.2; obtain ⟨a0, a1, a2, a3⟩ := I3.z.cells; have y0 := I3.z.soft 0; have y1 := I3.z.soft 1; have y2 := I3.z.soft 2; have y3 := I3.z.soft 3)
          go_roundw
          case rel => exact Lib.hid (.inr (.inl ⟨rfl, I3, hV⟩))
          case measure => simp [intOf]
        · have g1 : (eEv x1 == 0) = false := by simpa using hV
          have g2 : (eEv x1 != 0) = true := by simpa using hV
          go_wp2_with (go_at_call 31; refine (wrong_one 1 _ _ (by simp) (by decide) (paN_U _) U_zero).mono ?_; rintro r w3 ⟨rfl, k3⟩; rw [eEv_yes x1 _ _ _ hE]; have I3 := (I2.later ((Below.refl _ _).alloc (Nat.le_refl _) _)).later k3.2; obtain ⟨a0, a1, a2, a3⟩ := I3.z.cells; have y0 := I3.z.soft 0; have y1 := I3.z.soft 1; have y2 := I3.z.soft 2; have y3 := I3.z.soft 3)
          obtain rfl : A = zeroA (eEv x1) 1 := by (rw [HA.out, numA_1 _ _ _ _ _ hV] <;> rfl)
          obtain ⟨f0, f1, f2, f3⟩ := ((((I3.z.put0 ⟨#[]⟩).put1 0).put2 0).put3 0).cells
          exact bodyPost_ret (v := .tuple #[rul ⟨#[]⟩ 0 0 0, .int .u16 (eEv x1), .int .i64 1]) (by simp [results, Tryd.results19, go_sem, f0, f1, f2, f3]) rfl ⟨rfl, (((I3.bel.setCell (Nat.le_refl _) _).setCell (Nat.le_refl _) _).setCell (Nat.le_refl _) _).setCell (Nat.le_refl _) _⟩
      · have hV : eEv x1 ≠ 0 := by rw [eEv_no x1 hE]; exact hE
        have hV2 := eEv_no x1 hE
        have g1 : (paE (lb x1) == 0) = false := by simpa using hE
        have g2 : (paE (lb x1) != 0) = true := by simpa using hE
        obtain ⟨a0, a1, a2, a3⟩ := I2.z.cells
        have y0 := I2.z.soft 0
        have y1 := I2.z.soft 1
        have y2 := I2.z.soft 2
        have y3 := I2.z.soft 3
        go_wp2
        rw [← hV2]
        obtain rfl : A = zeroA (eEv x1) 1 := by (rw [HA.out, numA_1 _ _ _ _ _ hV] <;> rfl)
        obtain ⟨f0, f1, f2, f3⟩ := ((((I2.z.put0 ⟨#[]⟩).put1 0).put2 0).put3 0).cells
        exact bodyPost_ret (v := .tuple #[rul ⟨#[]⟩ 0 0 0, .int .u16 (eEv x1), .int .i64 1]) (by simp [results, Tryd.results19, go_sem, f0, f1, f2, f3]) rfl ⟨rfl, (((I2.bel.setCell (Nat.le_refl _) _).setCell (Nat.le_refl _) _).setCell (Nat.le_refl _) _).setCell (Nat.le_refl _) _⟩
    · have t0 : wr.cell? ⟨T, 1, none⟩ = some (.int .u8 2) := by simpa using I.told 1 (by omega)
      have lk := (run_read wr.drew M q1 q2 I.map).2.2.1
      have cw : wr.cell? ⟨b, off + 2, none⟩ = some (.string x2) := celln I.bel c2
      have hw : IntKind.i64.wrap 2 = 2 := rfl
      clear c0 hx hrel hb
      go_wp2
      go_region_held3 (fun w' => (Instr.lookup 59 (.map (some M)) (.int .u8 2) false).run Tryd.prog w' = .ok (numV q2) w' ∧ w'.cell? ⟨b, off + 2, none⟩ = some (.string x2))
        (first | with_reducible exact ⟨lk, dcell cw⟩ | with_reducible exact ⟨lk, cw⟩)
        (first | (go_at_call 50; refine (rd2_any _ _ I.drew (by omega)).mono ?_; rintro r w2 ⟨rfl, I2⟩; replace lk := (run_read w2 M q1 q2 I2.map).2.2.1; replace cw := celln I2.bel c2))
      by_cases hE : paE (lb x2) = 0
      · obtain ⟨r0, r1, r2, r3⟩ := I2.r.cells
        by_cases hV : eBu x1 x2 = 0
        · have g1 := hV
          go_wp2_with (go_at_call 31; refine (wrong_one 2 _ _ (by simp) (by decide) (paN_U _) (paN_U _)).mono ?_; rintro r w3 ⟨rfl, k3⟩; rw [eBu_yes _ x2 _ _ hE]; have I3 := (I2.later ((Below.refl _ _).alloc (Nat.le_refl _) _)).later k3.2; obtain ⟨a0, a1, a2, a3⟩ := I3.z.cells; have y0 := I3.z.soft 0; have y1 := I3.z.soft 1; have y2 := I3.z.soft 2; have y3 := I3.z.soft 3)
          go_roundw
          case rel => exact Lib.hid (.inr (.inr (.inl ⟨rfl, I3, z1, hV⟩)))
          case measure => simp [intOf]
        · have g1 : (eBu x1 x2 == 0) = false := by simpa using hV
          have g2 : (eBu x1 x2 != 0) = true := by simpa using hV
          go_wp2_with (go_at_call 31; refine (wrong_one 2 _ _ (by simp) (by decide) (paN_U _) (paN_U _)).mono ?_; rintro r w3 ⟨rfl, k3⟩; rw [eBu_yes _ x2 _ _ hE]; have I3 := (I2.later ((Below.refl _ _).alloc (Nat.le_refl _) _)).later k3.2; obtain ⟨a0, a1, a2, a3⟩ := I3.z.cells; have y0 := I3.z.soft 0; have y1 := I3.z.soft 1; have y2 := I3.z.soft 2; have y3 := I3.z.soft 3)
          obtain rfl : A = zeroA (eBu x1 x2) 2 := by (rw [HA.out, numA_2 _ _ _ _ _ z1 hV] <;> rfl)
          obtain ⟨f0, f1, f2, f3⟩ := ((((I3.z.put0 ⟨#[]⟩).put1 0).put2 0).put3 0).cells
          exact bodyPost_ret (v := .tuple #[rul ⟨#[]⟩ 0 0 0, .int .u16 (eBu x1 x2), .int .i64 2]) (by simp [results, Tryd.results19, go_sem, f0, f1, f2, f3]) rfl ⟨rfl, (((I3.bel.setCell (Nat.le_refl _) _).setCell (Nat.le_refl _) _).setCell (Nat.le_refl _) _).setCell (Nat.le_refl _) _⟩
      · have hV : eBu x1 x2 ≠ 0 := by rw [eBu_no _ x2 hE]; exact hE
        have hV2 := eBu_no x1 x2 hE
        have g1 : (paE (lb x2) == 0) = false := by simpa using hE
        have g2 : (paE (lb x2) != 0) = true := by simpa using hE
        obtain ⟨a0, a1, a2, a3⟩ := I2.z.cells
        have y0 := I2.z.soft 0
        have y1 := I2.z.soft 1
        have y2 := I2.z.soft 2
        have y3 := I2.z.soft 3
        go_wp2
        rw [← hV2]
        obtain rfl : A = zeroA (eBu x1 x2) 2 := by (rw [HA.out, numA_2 _ _ _ _ _ z1 hV] <;> rfl)
        obtain ⟨f0, f1, f2, f3⟩ := ((((I2.z.put0 ⟨#[]⟩).put1 0).put2 0).put3 0).cells
        exact bodyPost_ret (v := .tuple #[rul ⟨#[]⟩ 0 0 0, .int .u16 (eBu x1 x2), .int .i64 2]) (by simp [results, Tryd.results19, go_sem, f0, f1, f2, f3]) rfl ⟨rfl, (((I2.bel.setCell (Nat.le_refl _) _).setCell (Nat.le_refl _) _).setCell (Nat.le_refl _) _).setCell (Nat.le_refl _) _⟩
    · have t0 : wr.cell? ⟨T, 2, none⟩ = some (.int .u8 3) := by simpa using I.told 2 (by omega)
      have lk := (run_read wr.drew M q1 q2 I.map).2.2.2
      have cw : wr.cell? ⟨b, off + 3, none⟩ = some (.string x3) := celln I.bel c3
      have hw : IntKind.i64.wrap 3 = 3 := rfl
      clear c0 hx hrel hb
      go_wp2
      go_region_held3 (fun w' => (Instr.lookup 59 (.map (some M)) (.int .u8 3) false).run Tryd.prog w' = .ok (fnV 43) w' ∧ w'.cell? ⟨b, off + 3, none⟩ = some (.string x3))
        (first | with_reducible exact ⟨lk, dcell cw⟩ | with_reducible exact ⟨lk, cw⟩)
        (first | (go_at_call 43; refine (rd3_any _ _ I.drew hN).mono ?_; rintro r w2 ⟨rfl, I2⟩; replace lk := (run_read w2 M q1 q2 I2.map).2.2.2; replace cw := celln I2.bel c3))
      obtain ⟨r0, r1, r2, r3⟩ := I2.r.cells
      by_cases hV : eKi x3 = 0
      · have g1 := hV
        go_wp2_with (go_at_call 31; refine (wrong_one 3 _ _ (by simp) (by decide) (paN_U _) (paN_U _)).mono ?_; rintro r w3 ⟨rfl, k3⟩; rw [eKi_is x3 _ _ _]; have I3 := (I2.later ((Below.refl _ _).alloc (Nat.le_refl _) _)).later k3.2; obtain ⟨a0, a1, a2, a3⟩ := I3.z.cells; have y0 := I3.z.soft 0; have y1 := I3.z.soft 1; have y2 := I3.z.soft 2; have y3 := I3.z.soft 3)
        go_roundw
        case rel => exact Lib.hid (.inr (.inr (.inr (⟨rfl, I3, z1, z2, hV⟩))))
        case measure => simp [intOf]
      · have g1 : (eKi x3 == 0) = false := by simpa using hV
        have g2 : (eKi x3 != 0) = true := by simpa using hV
        go_wp2_with (go_at_call 31; refine (wrong_one 3 _ _ (by simp) (by decide) (paN_U _) (paN_U _)).mono ?_; rintro r w3 ⟨rfl, k3⟩; rw [eKi_is x3 _ _ _]; have I3 := (I2.later ((Below.refl _ _).alloc (Nat.le_refl _) _)).later k3.2; obtain ⟨a0, a1, a2, a3⟩ := I3.z.cells; have y0 := I3.z.soft 0; have y1 := I3.z.soft 1; have y2 := I3.z.soft 2; have y3 := I3.z.soft 3)
        obtain rfl : A = zeroA (eKi x3) 3 := by (rw [HA.out, numA_3 _ _ _ _ _ z1 z2 hV] <;> rfl)
        obtain ⟨f0, f1, f2, f3⟩ := ((((I3.z.put0 ⟨#[]⟩).put1 0).put2 0).put3 0).cells
        exact bodyPost_ret (v := .tuple #[rul ⟨#[]⟩ 0 0 0, .int .u16 (eKi x3), .int .i64 3]) (by simp [results, Tryd.results19, go_sem, f0, f1, f2, f3]) rfl ⟨rfl, (((I3.bel.setCell (Nat.le_refl _) _).setCell (Nat.le_refl _) _).setCell (Nat.le_refl _) _).setCell (Nat.le_refl _) _⟩
    · obtain ⟨r0, r1, r2, r3⟩ := I.r.cells
      obtain ⟨a0, a1, a2, a3⟩ := I.z.cells
      have y0 := I.z.soft 0
      have y1 := I.z.soft 1
      have y2 := I.z.soft 2
      have y3 := I.z.soft 3
      clear hrel
      go_wp2
      obtain rfl : A = ⟨⟨#[]⟩, (paN (lb x1)), (paN (lb x2)), (kinI x3), 0, 0⟩ := by rw [HA.out, numA_4 _ _ _ _ _ z1 z2 z3]
      obtain ⟨f0, f1, f2, f3⟩ := ((((I.z.put0 ⟨#[]⟩).put1 (paN (lb x1))).put2 (paN (lb x2))).put3 (kinI x3)).cells
      exact bodyPost_ret (v := .tuple #[rul ⟨#[]⟩ (paN (lb x1)) (paN (lb x2)) (kinI x3), .int .u16 0, .int .i64 0]) (by simp [results, Tryd.results19, go_sem, f0, f1, f2, f3]) rfl ⟨rfl, (((I.bel.setCell (Nat.le_refl _) _).setCell (Nat.le_refl _) _).setCell (Nat.le_refl _) _).setCell (Nat.le_refl _) _⟩

set_option maxRecDepth 100000 in
set_option maxHeartbeats 4000000 in
theorem parse_rule (b off cap : Nat) (x0 x1 x2 x3 x4 : ByteArray) (A : Ans) (w : World) (hA : A = (if ePr x1 ≠ 0 then zeroA 23 1 else numA x1 2 x2 x3 x4)) (hN : Nam w)
    (c0 : w.cell? ⟨b, off, none⟩ = some (.string x0)) (c1 : w.cell? ⟨b, off + 1, none⟩ = some (.string x1)) (c2 : w.cell? ⟨b, off + 2, none⟩ = some (.string x2)) (c3 : w.cell? ⟨b, off + 3, none⟩ = some (.string x3)) (c4 : w.cell? ⟨b, off + 4, none⟩ = some (.string x4))
    (hx : x0.toList = rulL) (s1 : x1.size ≤ 281474976710656) (s2 : x2.size ≤ 281474976710656) (s3 : x3.size ≤ 281474976710656) (s4 : x4.size ≤ 281474976710656) :
    Calls Tryd.prog 19 #[.slice (some ⟨b, off, none⟩) 5 cap] w fun r w' => r = .returned (.tuple #[A.rule, .int .u16 A.err, .int .i64 A.at_]) ∧ Below w.heap.size w w' := by
  have HA := Lib.hid hA
  clear hA
  have hb := lt_of_cell c0
  have PA (o : Obj) := parts_rule b off cap x0 (w.alloc o) (celln ((Below.refl _ w).alloc (Nat.le_refl _) o) c0) hx
  go_enter Tryd.func19, Tryd.ntmps19
  go_wp2_with (first
    | (go_at_call 29; refine (PA _).mono ?_; rintro r w1 ⟨rfl, rfl⟩)
    | (go_at_call 30; refine (readers_any _).mono ?_; rintro r w1 ⟨rfl, rfl⟩))
  clear PA
  have P0 := start_PI w 0 4 #[.int .u8 0, .int .u8 1, .int .u8 2, .int .u8 3] (fun i hi => by
    match i, hi with
    | 0, _ => rfl
    | 1, _ => rfl
    | 2, _ => rfl
    | 3, _ => rfl)
  generalize hW : World.alloc _ _ = W0 at *
  clear hW
  generalize w.heap.size + 1 + 1 + 1 + 1 + 1 = R at *
  generalize w.heap.size + 1 + 1 + 1 + 1 = q2 at *
  generalize w.heap.size + 1 + 1 + 1 = q1 at *
  generalize w.heap.size + 1 + 1 = M at *
  generalize w.heap.size + 1 = T at *
  go_loopw [20] (fun i wr => Hid ((i = .int .i64 0 ∧ PI w wr 0 4 T M q1 q2 w.heap.size R ⟨#[]⟩ 0 0 0) ∨ (i = .int .i64 1 ∧ PI w wr 0 4 T M q1 q2 w.heap.size R x1 0 0 0 ∧ ePr x1 = 0) ∨ (i = .int .i64 2 ∧ PI w wr 0 4 T M q1 q2 w.heap.size R x1 (paN (lb x2)) 0 0 ∧ ePr x1 = 0 ∧ eEv x2 = 0) ∨ (i = .int .i64 3 ∧ PI w wr 0 4 T M q1 q2 w.heap.size R x1 (paN (lb x2)) (paN (lb x3)) 0 ∧ ePr x1 = 0 ∧ eEv x2 = 0 ∧ eBu x2 x3 = 0) ∨ (i = .int .i64 4 ∧ PI w wr 0 4 T M q1 q2 w.heap.size R x1 (paN (lb x2)) (paN (lb x3)) (kinI x4) ∧ ePr x1 = 0 ∧ eEv x2 = 0 ∧ eBu x2 x3 = 0 ∧ eKi x4 = 0))) (fun i _ => 4 - (intOf i).toNat)
  case atStart => exact Lib.hid (.inl ⟨rfl, P0⟩)
  case round =>
    clear P0
    obtain ⟨rfl, I⟩ | ⟨rfl, I, z0⟩ | ⟨rfl, I, z0, z1⟩ | ⟨rfl, I, z0, z1, z2⟩ | ⟨rfl, I, z0, z1, z2, z3⟩ := hrel.out
    · have t0 : wr.cell? ⟨T, 0, none⟩ = some (.int .u8 0) := by simpa using I.told 0 (by omega)
      have lk := (run_read wr.drew M q1 q2 I.map).1
      have cw : wr.cell? ⟨b, off + 1, none⟩ = some (.string x1) := celln I.bel c1
      have hw : IntKind.i64.wrap 1 = 1 := rfl
      clear c0 hx hrel hb
      by_cases hp : 0 < x1.size
      · go_wp2
        go_region_held3 (fun w' => (Instr.lookup 59 (.map (some M)) (.int .u8 0) false).run Tryd.prog w' = .ok (fnV 39) w' ∧ w'.cell? ⟨b, off + 1, none⟩ = some (.string x1))
          (first | with_reducible exact ⟨lk, dcell cw⟩ | with_reducible exact ⟨lk, cw⟩)
          (first | (go_at_call 39; refine (rd0_some _ _ I.drew hp (by omega)).mono ?_; rintro r w2 ⟨rfl, I2⟩; replace lk := (run_read w2 M q1 q2 I2.map).1; replace cw := celln I2.bel c1))
        obtain ⟨r0, r1, r2, r3⟩ := I2.r.cells
        by_cases hV : ePr x1 = 0
        · have g1 := hV
          go_wp2_with (go_at_call 31; refine (wrong_one 0 _ _ (by simp) (by omega) U_zero U_zero).mono ?_; rintro r w3 ⟨rfl, k3⟩; rw [ePr_some x1 _ _ _ hp]; have I3 := (I2.later ((Below.refl _ _).alloc (Nat.le_refl _) _)).later k3.2; obtain ⟨a0, a1, a2, a3⟩ := I3.z.cells; have y0 := I3.z.soft 0; have y1 := I3.z.soft 1; have y2 := I3.z.soft 2; have y3 := I3.z.soft 3)
          go_roundw
          case rel => exact Lib.hid (.inr (.inl ⟨rfl, I3, hV⟩))
          case measure => simp [intOf]
        · have g1 : (ePr x1 == 0) = false := by simpa using hV
          have g2 : (ePr x1 != 0) = true := by simpa using hV
          go_wp2_with (go_at_call 31; refine (wrong_one 0 _ _ (by simp) (by omega) U_zero U_zero).mono ?_; rintro r w3 ⟨rfl, k3⟩; rw [ePr_some x1 _ _ _ hp]; have I3 := (I2.later ((Below.refl _ _).alloc (Nat.le_refl _) _)).later k3.2; obtain ⟨a0, a1, a2, a3⟩ := I3.z.cells; have y0 := I3.z.soft 0; have y1 := I3.z.soft 1; have y2 := I3.z.soft 2; have y3 := I3.z.soft 3)
          have hV2 : ePr x1 = 23 := by unfold ePr at hV ⊢; split at hV <;> simp_all
          rw [hV2]
          obtain rfl : A = zeroA (23) 1 := by (rw [HA.out, if_pos hV] <;> rfl)
          obtain ⟨f0, f1, f2, f3⟩ := ((((I3.z.put0 ⟨#[]⟩).put1 0).put2 0).put3 0).cells
          exact bodyPost_ret (v := .tuple #[rul ⟨#[]⟩ 0 0 0, .int .u16 (23), .int .i64 1]) (by simp [results, Tryd.results19, go_sem, f0, f1, f2, f3]) rfl ⟨rfl, (((I3.bel.setCell (Nat.le_refl _) _).setCell (Nat.le_refl _) _).setCell (Nat.le_refl _) _).setCell (Nat.le_refl _) _⟩
      · have hV : ePr x1 ≠ 0 := by rw [ePr_none x1 (by omega)]; decide
        go_wp2
        go_region_held3 (fun w' => (Instr.lookup 59 (.map (some M)) (.int .u8 0) false).run Tryd.prog w' = .ok (fnV 39) w' ∧ w'.cell? ⟨b, off + 1, none⟩ = some (.string x1))
          (first | with_reducible exact ⟨lk, dcell cw⟩ | with_reducible exact ⟨lk, cw⟩)
          (first | (go_at_call 39; refine (rd0_none _ _ I.drew (by omega)).mono ?_; rintro r w2 ⟨rfl, I2⟩; replace lk := (run_read w2 M q1 q2 I2.map).1; replace cw := celln I2.bel c1))
        obtain ⟨a0, a1, a2, a3⟩ := I2.z.cells
        have y0 := I2.z.soft 0
        have y1 := I2.z.soft 1
        have y2 := I2.z.soft 2
        have y3 := I2.z.soft 3
        go_wp2
        obtain rfl : A = zeroA (23) 1 := by (rw [HA.out, if_pos hV] <;> rfl)
        obtain ⟨f0, f1, f2, f3⟩ := ((((I2.z.put0 ⟨#[]⟩).put1 0).put2 0).put3 0).cells
        exact bodyPost_ret (v := .tuple #[rul ⟨#[]⟩ 0 0 0, .int .u16 (23), .int .i64 1]) (by simp [results, Tryd.results19, go_sem, f0, f1, f2, f3]) rfl ⟨rfl, (((I2.bel.setCell (Nat.le_refl _) _).setCell (Nat.le_refl _) _).setCell (Nat.le_refl _) _).setCell (Nat.le_refl _) _⟩
    · have t0 : wr.cell? ⟨T, 1, none⟩ = some (.int .u8 1) := by simpa using I.told 1 (by omega)
      have lk := (run_read wr.drew M q1 q2 I.map).2.1
      have cw : wr.cell? ⟨b, off + 2, none⟩ = some (.string x2) := celln I.bel c2
      have hw : IntKind.i64.wrap 2 = 2 := rfl
      clear c0 hx hrel hb
      go_wp2
      go_region_held3 (fun w' => (Instr.lookup 59 (.map (some M)) (.int .u8 1) false).run Tryd.prog w' = .ok (numV q1) w' ∧ w'.cell? ⟨b, off + 2, none⟩ = some (.string x2))
        (first | with_reducible exact ⟨lk, dcell cw⟩ | with_reducible exact ⟨lk, cw⟩)
        (first | (go_at_call 50; refine (rd1_any _ _ I.drew (by omega)).mono ?_; rintro r w2 ⟨rfl, I2⟩; replace lk := (run_read w2 M q1 q2 I2.map).2.1; replace cw := celln I2.bel c2))
      by_cases hE : paE (lb x2) = 0
      · obtain ⟨r0, r1, r2, r3⟩ := I2.r.cells
        by_cases hV : eEv x2 = 0
        · have g1 := hV
          go_wp2_with (go_at_call 31; refine (wrong_one 1 _ _ (by simp) (by omega) (paN_U _) U_zero).mono ?_; rintro r w3 ⟨rfl, k3⟩; rw [eEv_yes x2 _ _ _ hE]; have I3 := (I2.later ((Below.refl _ _).alloc (Nat.le_refl _) _)).later k3.2; obtain ⟨a0, a1, a2, a3⟩ := I3.z.cells; have y0 := I3.z.soft 0; have y1 := I3.z.soft 1; have y2 := I3.z.soft 2; have y3 := I3.z.soft 3)
          go_roundw
          case rel => exact Lib.hid (.inr (.inr (.inl ⟨rfl, I3, z0, hV⟩)))
          case measure => simp [intOf]
        · have g1 : (eEv x2 == 0) = false := by simpa using hV
          have g2 : (eEv x2 != 0) = true := by simpa using hV
          go_wp2_with (go_at_call 31; refine (wrong_one 1 _ _ (by simp) (by omega) (paN_U _) U_zero).mono ?_; rintro r w3 ⟨rfl, k3⟩; rw [eEv_yes x2 _ _ _ hE]; have I3 := (I2.later ((Below.refl _ _).alloc (Nat.le_refl _) _)).later k3.2; obtain ⟨a0, a1, a2, a3⟩ := I3.z.cells; have y0 := I3.z.soft 0; have y1 := I3.z.soft 1; have y2 := I3.z.soft 2; have y3 := I3.z.soft 3)
          obtain rfl : A = zeroA (eEv x2) 2 := by (rw [HA.out, if_neg (by simp [z0]), numA_1 _ _ _ _ _ hV] <;> rfl)
          obtain ⟨f0, f1, f2, f3⟩ := ((((I3.z.put0 ⟨#[]⟩).put1 0).put2 0).put3 0).cells
          exact bodyPost_ret (v := .tuple #[rul ⟨#[]⟩ 0 0 0, .int .u16 (eEv x2), .int .i64 2]) (by simp [results, Tryd.results19, go_sem, f0, f1, f2, f3]) rfl ⟨rfl, (((I3.bel.setCell (Nat.le_refl _) _).setCell (Nat.le_refl _) _).setCell (Nat.le_refl _) _).setCell (Nat.le_refl _) _⟩
      · have hV : eEv x2 ≠ 0 := by rw [eEv_no x2 hE]; exact hE
        have hV2 := eEv_no x2 hE
        have g1 : (paE (lb x2) == 0) = false := by simpa using hE
        have g2 : (paE (lb x2) != 0) = true := by simpa using hE
        obtain ⟨a0, a1, a2, a3⟩ := I2.z.cells
        have y0 := I2.z.soft 0
        have y1 := I2.z.soft 1
        have y2 := I2.z.soft 2
        have y3 := I2.z.soft 3
        go_wp2
        rw [← hV2]
        obtain rfl : A = zeroA (eEv x2) 2 := by (rw [HA.out, if_neg (by simp [z0]), numA_1 _ _ _ _ _ hV] <;> rfl)
        obtain ⟨f0, f1, f2, f3⟩ := ((((I2.z.put0 ⟨#[]⟩).put1 0).put2 0).put3 0).cells
        exact bodyPost_ret (v := .tuple #[rul ⟨#[]⟩ 0 0 0, .int .u16 (eEv x2), .int .i64 2]) (by simp [results, Tryd.results19, go_sem, f0, f1, f2, f3]) rfl ⟨rfl, (((I2.bel.setCell (Nat.le_refl _) _).setCell (Nat.le_refl _) _).setCell (Nat.le_refl _) _).setCell (Nat.le_refl _) _⟩
    · have t0 : wr.cell? ⟨T, 2, none⟩ = some (.int .u8 2) := by simpa using I.told 2 (by omega)
      have lk := (run_read wr.drew M q1 q2 I.map).2.2.1
      have cw : wr.cell? ⟨b, off + 3, none⟩ = some (.string x3) := celln I.bel c3
      have hw : IntKind.i64.wrap 3 = 3 := rfl
      clear c0 hx hrel hb
      go_wp2
      go_region_held3 (fun w' => (Instr.lookup 59 (.map (some M)) (.int .u8 2) false).run Tryd.prog w' = .ok (numV q2) w' ∧ w'.cell? ⟨b, off + 3, none⟩ = some (.string x3))
        (first | with_reducible exact ⟨lk, dcell cw⟩ | with_reducible exact ⟨lk, cw⟩)
        (first | (go_at_call 50; refine (rd2_any _ _ I.drew (by omega)).mono ?_; rintro r w2 ⟨rfl, I2⟩; replace lk := (run_read w2 M q1 q2 I2.map).2.2.1; replace cw := celln I2.bel c3))
      by_cases hE : paE (lb x3) = 0
      · obtain ⟨r0, r1, r2, r3⟩ := I2.r.cells
        by_cases hV : eBu x2 x3 = 0
        · have g1 := hV
          go_wp2_with (go_at_call 31; refine (wrong_one 2 _ _ (by simp) (by omega) (paN_U _) (paN_U _)).mono ?_; rintro r w3 ⟨rfl, k3⟩; rw [eBu_yes _ x3 _ _ hE]; have I3 := (I2.later ((Below.refl _ _).alloc (Nat.le_refl _) _)).later k3.2; obtain ⟨a0, a1, a2, a3⟩ := I3.z.cells; have y0 := I3.z.soft 0; have y1 := I3.z.soft 1; have y2 := I3.z.soft 2; have y3 := I3.z.soft 3)
          go_roundw
          case rel => exact Lib.hid (.inr (.inr (.inr (.inl ⟨rfl, I3, z0, z1, hV⟩))))
          case measure => simp [intOf]
        · have g1 : (eBu x2 x3 == 0) = false := by simpa using hV
          have g2 : (eBu x2 x3 != 0) = true := by simpa using hV
          go_wp2_with (go_at_call 31; refine (wrong_one 2 _ _ (by simp) (by omega) (paN_U _) (paN_U _)).mono ?_; rintro r w3 ⟨rfl, k3⟩; rw [eBu_yes _ x3 _ _ hE]; have I3 := (I2.later ((Below.refl _ _).alloc (Nat.le_refl _) _)).later k3.2; obtain ⟨a0, a1, a2, a3⟩ := I3.z.cells; have y0 := I3.z.soft 0; have y1 := I3.z.soft 1; have y2 := I3.z.soft 2; have y3 := I3.z.soft 3)
          obtain rfl : A = zeroA (eBu x2 x3) 3 := by (rw [HA.out, if_neg (by simp [z0]), numA_2 _ _ _ _ _ z1 hV] <;> rfl)
          obtain ⟨f0, f1, f2, f3⟩ := ((((I3.z.put0 ⟨#[]⟩).put1 0).put2 0).put3 0).cells
          exact bodyPost_ret (v := .tuple #[rul ⟨#[]⟩ 0 0 0, .int .u16 (eBu x2 x3), .int .i64 3]) (by simp [results, Tryd.results19, go_sem, f0, f1, f2, f3]) rfl ⟨rfl, (((I3.bel.setCell (Nat.le_refl _) _).setCell (Nat.le_refl _) _).setCell (Nat.le_refl _) _).setCell (Nat.le_refl _) _⟩
      · have hV : eBu x2 x3 ≠ 0 := by rw [eBu_no _ x3 hE]; exact hE
        have hV2 := eBu_no x2 x3 hE
        have g1 : (paE (lb x3) == 0) = false := by simpa using hE
        have g2 : (paE (lb x3) != 0) = true := by simpa using hE
        obtain ⟨a0, a1, a2, a3⟩ := I2.z.cells
        have y0 := I2.z.soft 0
        have y1 := I2.z.soft 1
        have y2 := I2.z.soft 2
        have y3 := I2.z.soft 3
        go_wp2
        rw [← hV2]
        obtain rfl : A = zeroA (eBu x2 x3) 3 := by (rw [HA.out, if_neg (by simp [z0]), numA_2 _ _ _ _ _ z1 hV] <;> rfl)
        obtain ⟨f0, f1, f2, f3⟩ := ((((I2.z.put0 ⟨#[]⟩).put1 0).put2 0).put3 0).cells
        exact bodyPost_ret (v := .tuple #[rul ⟨#[]⟩ 0 0 0, .int .u16 (eBu x2 x3), .int .i64 3]) (by simp [results, Tryd.results19, go_sem, f0, f1, f2, f3]) rfl ⟨rfl, (((I2.bel.setCell (Nat.le_refl _) _).setCell (Nat.le_refl _) _).setCell (Nat.le_refl _) _).setCell (Nat.le_refl _) _⟩
    · have t0 : wr.cell? ⟨T, 3, none⟩ = some (.int .u8 3) := by simpa using I.told 3 (by omega)
      have lk := (run_read wr.drew M q1 q2 I.map).2.2.2
      have cw : wr.cell? ⟨b, off + 4, none⟩ = some (.string x4) := celln I.bel c4
      have hw : IntKind.i64.wrap 4 = 4 := rfl
      clear c0 hx hrel hb
      go_wp2
      go_region_held3 (fun w' => (Instr.lookup 59 (.map (some M)) (.int .u8 3) false).run Tryd.prog w' = .ok (fnV 43) w' ∧ w'.cell? ⟨b, off + 4, none⟩ = some (.string x4))
        (first | with_reducible exact ⟨lk, dcell cw⟩ | with_reducible exact ⟨lk, cw⟩)
        (first | (go_at_call 43; refine (rd3_any _ _ I.drew hN).mono ?_; rintro r w2 ⟨rfl, I2⟩; replace lk := (run_read w2 M q1 q2 I2.map).2.2.2; replace cw := celln I2.bel c4))
      obtain ⟨r0, r1, r2, r3⟩ := I2.r.cells
      by_cases hV : eKi x4 = 0
      · have g1 := hV
        go_wp2_with (go_at_call 31; refine (wrong_one 3 _ _ (by simp) (by omega) (paN_U _) (paN_U _)).mono ?_; rintro r w3 ⟨rfl, k3⟩; rw [eKi_is x4 _ _ _]; have I3 := (I2.later ((Below.refl _ _).alloc (Nat.le_refl _) _)).later k3.2; obtain ⟨a0, a1, a2, a3⟩ := I3.z.cells; have y0 := I3.z.soft 0; have y1 := I3.z.soft 1; have y2 := I3.z.soft 2; have y3 := I3.z.soft 3)
        go_roundw
        case rel => exact Lib.hid (.inr (.inr (.inr (.inr (⟨rfl, I3, z0, z1, z2, hV⟩)))))
        case measure => simp [intOf]
      · have g1 : (eKi x4 == 0) = false := by simpa using hV
        have g2 : (eKi x4 != 0) = true := by simpa using hV
        go_wp2_with (go_at_call 31; refine (wrong_one 3 _ _ (by simp) (by omega) (paN_U _) (paN_U _)).mono ?_; rintro r w3 ⟨rfl, k3⟩; rw [eKi_is x4 _ _ _]; have I3 := (I2.later ((Below.refl _ _).alloc (Nat.le_refl _) _)).later k3.2; obtain ⟨a0, a1, a2, a3⟩ := I3.z.cells; have y0 := I3.z.soft 0; have y1 := I3.z.soft 1; have y2 := I3.z.soft 2; have y3 := I3.z.soft 3)
        obtain rfl : A = zeroA (eKi x4) 4 := by (rw [HA.out, if_neg (by simp [z0]), numA_3 _ _ _ _ _ z1 z2 hV] <;> rfl)
        obtain ⟨f0, f1, f2, f3⟩ := ((((I3.z.put0 ⟨#[]⟩).put1 0).put2 0).put3 0).cells
        exact bodyPost_ret (v := .tuple #[rul ⟨#[]⟩ 0 0 0, .int .u16 (eKi x4), .int .i64 4]) (by simp [results, Tryd.results19, go_sem, f0, f1, f2, f3]) rfl ⟨rfl, (((I3.bel.setCell (Nat.le_refl _) _).setCell (Nat.le_refl _) _).setCell (Nat.le_refl _) _).setCell (Nat.le_refl _) _⟩
    · obtain ⟨r0, r1, r2, r3⟩ := I.r.cells
      obtain ⟨a0, a1, a2, a3⟩ := I.z.cells
      have y0 := I.z.soft 0
      have y1 := I.z.soft 1
      have y2 := I.z.soft 2
      have y3 := I.z.soft 3
      clear hrel
      go_wp2
      obtain rfl : A = ⟨x1, (paN (lb x2)), (paN (lb x3)), (kinI x4), 0, 0⟩ := by rw [HA.out, if_neg (by simp [z0]), numA_4 _ _ _ _ _ z1 z2 z3]
      obtain ⟨f0, f1, f2, f3⟩ := ((((I.z.put0 x1).put1 (paN (lb x2))).put2 (paN (lb x3))).put3 (kinI x4)).cells
      exact bodyPost_ret (v := .tuple #[rul x1 (paN (lb x2)) (paN (lb x3)) (kinI x4), .int .u16 0, .int .i64 0]) (by simp [results, Tryd.results19, go_sem, f0, f1, f2, f3]) rfl ⟨rfl, (((I.bel.setCell (Nat.le_refl _) _).setCell (Nat.le_refl _) _).setCell (Nat.le_refl _) _).setCell (Nat.le_refl _) _⟩
end Go.Proofs.YtpkpmbigljkneaaDoor.Wd
