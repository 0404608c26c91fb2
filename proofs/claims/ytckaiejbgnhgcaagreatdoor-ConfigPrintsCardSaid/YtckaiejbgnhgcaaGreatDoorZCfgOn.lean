/- What tollerref12.one answers, for any words; no conditions but those that each names. -/
import Derived.Test.YtckaiejbgnhgcaaGreatDoorZCfgRz
import Derived.Test.YtckaiejbgnhgcaaGreatDoorZE
namespace Go.Proofs.YtckaiejbgnhgcaaGreatDoor.Wd
open Go Go.RowKit
set_option linter.unusedVariables false
set_option maxRecDepth 100000
/-- A row as append may take it. -/
def GoodS (A : Option Addr) (n c : Nat) : Prop := n ≤ c ∧ (A = none → c = 0) ∧ ∀ ad, A = some ad → ad.spot = none
/-- What one answers. -/
def OPost (w : World) (A : Option Addr) (X : LR) (r : Ending) (w' : World) : Prop :=
  (∃ M A' n' c', r = .returned (.tuple #[.agg #[.int .i64 M, .slice A' n' c'], .int .i64 X.e, .int .i64 (X.k : Int)]) ∧ (X.e = 0 → M = X.m ∧ Rls w' A' n' X.rs ∧ GoodS A' n' c' ∧ (∀ b off, A' = some ⟨b, off, none⟩ → A' = A ∨ w.heap.size ≤ b))) ∧ Below w.heap.size w w'
theorem opost {w w' : World} {A : Option Addr} (M : Int) (A' : Option Addr) (n' c' : Nat) (X : LR) (h : X.e = 0 → M = X.m ∧ Rls w' A' n' X.rs ∧ GoodS A' n' c' ∧ (∀ b off, A' = some ⟨b, off, none⟩ → A' = A ∨ w.heap.size ≤ b)) (hB : Below w.heap.size w w') : OPost w A X (.returned (.tuple #[.agg #[.int .i64 M, .slice A' n' c'], .int .i64 X.e, .int .i64 (X.k : Int)])) w' := ⟨⟨M, A', n', c', rfl, h⟩, hB⟩
theorem lnS_rs {m : Int} {rs : List Rl} {xs : List ByteArray} (h : (lnS m rs xs).e = 0) : (lnS m rs xs).rs = rs := by
  unfold lnS at h ⊢
  by_cases c1 : xs.length ≠ 2
  · rw [if_pos c1] at h; cases h
  · rw [if_neg c1] at h ⊢
    by_cases c2 : m ≠ 0
    · rw [if_pos c2] at h; cases h
    · rw [if_neg c2] at h ⊢
      by_cases c3 : paE (lb (xs.getD 1 nob)) ≠ 0
      · rw [if_pos c3] at h; exact absurd h c3
      · rw [if_neg c3] at h ⊢
        by_cases c4 : ¬ (1 ≤ paN (lb (xs.getD 1 nob)) ∧ paN (lb (xs.getD 1 nob)) ≤ 1000000)
        · rw [if_pos c4] at h; cases h
        · rw [if_neg c4]
theorem toList_emp (t : ByteArray) (h : t.size = 0) : t.toList = [] := by
  rw [ByteArray.toList_eq]
  exact List.eq_nil_of_length_eq_zero (by rw [list_size]; exact h)
theorem siz_list : sizS.toList = [115, 105, 122, 101] := by rw [ByteArray.toList_eq]
theorem siz_same (x : ByteArray) : (x.toList == [115, 105, 122, 101]) = decide (x = sizS) := by rw [← siz_list, text_same]
/-- Rules in memory stay, whatever is written into blocks of the call's own. -/
theorem rls_two {W : World} {A : Option Addr} {n P : Nat} {rs : List Rl} (h : Rls W A n rs) (hlo : ∀ b off, A = some ⟨b, off, none⟩ → 0 < n → b ≠ P) (a b : Value) : Rls ((W.setCell ⟨P, 0, none⟩ a).setCell ⟨P, 1, none⟩ b) A n rs := by
  refine ⟨h.1, h.2.1, fun hn => ?_⟩
  obtain ⟨b1, o, e, hlt, hc⟩ := h.2.2 hn
  have hne := hlo b1 o e hn
  refine ⟨b1, o, e, by simpa using hlt, fun k hk => ?_⟩
  obtain ⟨z0, z1, z2, z3⟩ := hc k hk
  have hf : ∀ (o' : Nat) (u : Value), W.cell? ⟨b1, o', none⟩ = some u → ((W.setCell ⟨P, 0, none⟩ a).setCell ⟨P, 1, none⟩ b).cell? ⟨b1, o', none⟩ = some u := fun o' u hu => (cs_other _ _ _ _ _ _ (by first | exact .inl hne | exact .inl (fun e => hne e.symm))).trans ((cs_other _ _ _ _ _ _ (by first | exact .inl hne | exact .inl (fun e => hne e.symm))).trans hu)
  exact ⟨hf _ _ z0, hf _ _ z1, hf _ _ z2, hf _ _ z3⟩

set_option maxHeartbeats 2000000 in
theorem rone12_any (m : Int) (A : Option Addr) (n cap : Nat) (rs : List Rl) (B : Option Addr) (k cb : Nat) (xs : List ByteArray) (w : World) (h : Rls w A n rs) (hcap : n ≤ cap) (hn : n ≤ 1000) (hA0 : A = none → cap = 0) (hAs : ∀ ad, A = some ad → ad.spot = none) (hS : Sts w B k xs) (hk : 0 < k) (hf : Lim xs) (hm : 0 ≤ m ∧ m ≤ 1000000) :
    Calls Tryz.prog 47 #[.agg #[.int .i64 m, .slice A n cap], .slice B k cb] w (OPost w A (lnA m rs xs)) := by
  have kA := (Below.refl _ w).alloc (Nat.le_refl _) (.cells #[.int .i64 m, .slice A n cap] 28)
  have kB := (Below.refl _ (w.alloc (.cells #[.int .i64 m, .slice A n cap] 28))).alloc (Nat.le_refl _) (.cells #[.int .i64 0, .slice none 0 0] 28)
  have hs : (w.alloc (.cells #[.int .i64 m, .slice A n cap] 28)).heap.size = w.heap.size + 1 := by simp
  have P1 := (PB.new w m (.slice A n cap)).below kB
  have P2 := PB.new (w.alloc (.cells #[.int .i64 m, .slice A n cap] 28)) 0 (.slice none 0 0)
  have B1 := kbq kA kB
  rw [hs] at P2
  have hl := hS.1
  have hS1 := hS.below B1
  have hR1 := h.below B1
  have hlow : ∀ b off, A = some ⟨b, off, none⟩ → 0 < n → b < w.heap.size := fun b off e hn => by
    obtain ⟨b1, o, e1, hlt, _⟩ := h.2.2 hn
    rw [e] at e1; injection e1 with e1; injection e1 with e1; omega
  have hRl := h.1
  have hok := h.2.1
  clear hs kA kB hS h
  obtain ⟨X, hX⟩ : ∃ X, lnA m rs xs = X := ⟨_, rfl⟩
  rw [hX]
  have CS := fun W (hS : Sts W B k xs) => rsize12_any m A n cap rs B k cb xs W hS hf hm
  have CP := fun W (hS : Sts W B k xs) => refparse_any B k cb xs W hS hf
  obtain ⟨bb, bo, rfl, hbb, hc⟩ := hS1.2.2 hk
  have x0 := hc 0 hk
  rw [Nat.add_zero] at x0
  have hxe := siz_same (xs.getD 0 nob)
  have hk0 : (0 : Int) < (k : Int) := by omega
  unfold lnA at hX
  go_enter Tryz.func47, Tryz.ntmps47
  go_upto_region 1 with fail
  generalize hW : (w.alloc (.cells #[.int .i64 m, .slice A n cap] 28)).alloc (.cells #[.int .i64 0, .slice none 0 0] 28) = W1 at *
  clear hW
  have HP1 := Lib.hid P1
  have HP2 := Lib.hid P2
  obtain ⟨p0, p1, f0, f1⟩ := P1
  obtain ⟨r0, r1, g0, g1⟩ := P2
  by_cases cs : xs.getD 0 nob = sizS
  · rw [if_pos cs] at hX
    rw [decide_eq_true cs] at hxe
    have CS1 := CS _ hS1
    have hrs := lnS_rs (m := m) (rs := rs) (xs := xs)
    rw [hX] at CS1 hrs
    generalize xs.getD 0 nob = x at *
    clear cs hX hc CS CP
    go_wp2_with (go_at_call 69; refine CS1.mono ?_; rintro r w2 ⟨⟨M, rfl, hM⟩, k2⟩; refine stopHere ?_)
    unfold Stop
    have kC := (Below.refl _ w2).alloc (Nat.le_refl _) (.cells #[.int .i64 M, .slice A n cap] 28)
    have c0 : (w2.alloc (.cells #[.int .i64 M, .slice A n cap] 28)).cell? ⟨w2.heap.size, 0, none⟩ = some (.int .i64 M) := by simp
    have c1 : (w2.alloc (.cells #[.int .i64 M, .slice A n cap] 28)).cell? ⟨w2.heap.size, 1, none⟩ = some (.slice A n cap) := by simp
    have k3 := kbq k2 kC
    have P3 := HP2.out.below k3
    have B3 := kbq B1 k3
    have hR3 := hR1.below k3
    clear CS1 kC k2
    go_upto_region 3 with fail
    generalize hW : w2.alloc (.cells #[.int .i64 M, .slice A n cap] 28) = W3 at *
    clear hW
    have HZ := two_end P3 (by omega) B3 M (.slice A n cap)
    have RZ := Lib.hid (rls_two hR3 (fun b off e h0 => by have := hlow b off e h0; omega : ∀ b off, A = some ⟨b, off, none⟩ → 0 < n → b ≠ w.heap.size + 1) (.int .i64 M) (.slice A n cap))
    have HM := Lib.hid hM
    have HRS := Lib.hid hrs
    obtain ⟨r0, r1, g0, g1⟩ := P3
    obtain ⟨E, K, Xm, Xr⟩ := X
    clear hM hrs hR3 hR1 B3
    go_wp2
    obtain ⟨q0, q1, BZ⟩ := HZ.out
    show bodyPost Tryz.prog Tryz.f47 _ _ _ _
    refine bodyPost_ret (v := .tuple #[.agg #[.int .i64 M, .slice A n cap], .int .i64 E, .int .i64 (K : Int)]) ?_ rfl (opost M A n cap ⟨E, K, Xm, Xr⟩ (fun he => ⟨HM.out he, by rw [HRS.out he]; exact RZ.out, ⟨hcap, hA0, hAs⟩, fun b off _ => .inl rfl⟩) BZ)
    simp [results, Tryz.results47, go_sem, q0, q1]
  · rw [if_neg cs] at hX
    rw [decide_eq_false cs] at hxe
    have CP1 := CP _ hS1
    have hat := ans_at xs (by omega)
    have hokA := ans_ok xs
    unfold lnR at hX
    unfold Ans.rule at CP1
    generalize xs.getD 0 nob = x at *
    generalize (ansA xs).p = ap at *
    generalize (ansA xs).e = ae at *
    generalize (ansA xs).b = ab at *
    generalize (ansA xs).k = ak at *
    generalize (ansA xs).err = er at *
    generalize (ansA xs).at_ = pt at *
    clear cs hc CS CP hS1
    go_wp2_with (go_at_call 70; refine CP1.mono ?_; rintro r w2 ⟨rfl, k2⟩; replace k2 := k2.2; refine stopHere ?_)
    unfold Stop
    have kC := (Below.refl _ w2).alloc (Nat.le_refl _) (.cells #[.string ap, .int .u64 ae, .int .u64 ab, .int .u8 ak] 37)
    have R4 := r4_new w2 ⟨ap, ae, ab, ak⟩
    have k3 := kbq k2 kC
    have P1' := HP1.out.below k3
    have P3 := HP2.out.below k3
    have B3 := kbq B1 k3
    have hR3 := hR1.below k3
    have hsz2 : w.heap.size + 1 < w2.heap.size := Nat.lt_of_lt_of_le HP2.out.lt k2.size
    clear CP1 kC k2 k3 p0 p1 f0 f1 r0 r1 g0 g1 hR1 B1
    go_upto_region 5 with fail
    generalize hW : w2.alloc (.cells #[.string ap, .int .u64 ae, .int .u64 ab, .int .u8 ak] 37) = W3 at *
    clear hW
    have HP1 := Lib.hid P1'
    have HP2 := Lib.hid P3
    obtain ⟨p0, p1, f0, f1⟩ := P1'
    obtain ⟨r0, r1, g0, g1⟩ := P3
    obtain ⟨y0, y1, y2, y3⟩ := R4
    dsimp only at y0 y1 y2 y3
    have HZ := two_end HP2.out (by omega) B3 m (.slice A n cap)
    by_cases c1 : er ≠ 0
    · obtain ⟨pk, rfl, _⟩ := hat c1
      rw [if_pos c1] at hX
      have t1 : (er != 0) = true := by simpa using c1
      have HC := Lib.hid c1
      subst hX
      have hpk : ((pk : Int)).toNat = pk := rfl
      clear c1 hat
      go_wp2
      obtain ⟨q0, q1, BZ⟩ := HZ.out
      show bodyPost Tryz.prog Tryz.f47 _ _ _ _
      refine bodyPost_ret (v := .tuple #[.agg #[.int .i64 m, .slice A n cap], .int .i64 er, .int .i64 (pk : Int)]) ?_ rfl (opost m A n cap (.bad er pk) (fun he => absurd he HC.out) BZ)
      simp [results, Tryz.results47, go_sem, q0, q1]
    · have c1' : er = 0 := by simpa using c1
      rw [if_neg c1] at hX
      subst c1'
      clear c1 hat
      have CF := find_any A n cap rs ap W3 hR3 (by omega)
      have hfd : hasB rs ap = decide (0 ≤ fdI rs ap) := rfl
      generalize fdI rs ap = fd at CF hfd
      by_cases c2 : hasB rs ap = true
      · rw [if_pos c2] at hX
        rw [c2] at hfd
        have d1 : decide (0 ≤ fd) = true := hfd.symm
        have d2 : 0 ≤ fd := of_decide_eq_true d1
        have d3 : decide (fd < 0) = false := decide_eq_false (by omega)
        clear c2 hfd
        by_cases c3 : ap.size = 0
        · have hz := toList_emp ap c3
          have hz2 : ap.toList.isEmpty = true := by rw [hz]; rfl
          rw [if_pos c3] at hX
          subst hX
          clear c3
          go_wp2_with (go_at_call 48; refine CF.mono ?_; rintro r w4 ⟨rfl, rfl⟩)
          obtain ⟨q0, q1, BZ⟩ := HZ.out
          show bodyPost Tryz.prog Tryz.f47 _ _ _ _
          refine bodyPost_ret (v := .tuple #[.agg #[.int .i64 m, .slice A n cap], .int .i64 28, .int .i64 0]) ?_ rfl (opost m A n cap (.bad 28 0) (fun he => by cases he) BZ)
          simp [results, Tryz.results47, go_sem, q0, q1]
        · have hz := toList_ne ap (by omega)
          rw [if_neg c3] at hX
          subst hX
          clear c3
          go_wp2_with (go_at_call 48; refine CF.mono ?_; rintro r w4 ⟨rfl, rfl⟩)
          obtain ⟨q0, q1, BZ⟩ := HZ.out
          show bodyPost Tryz.prog Tryz.f47 _ _ _ _
          refine bodyPost_ret (v := .tuple #[.agg #[.int .i64 m, .slice A n cap], .int .i64 28, .int .i64 1]) ?_ rfl (opost m A n cap (.bad 28 1) (fun he => by cases he) BZ)
          simp [results, Tryz.results47, go_sem, q0, q1]
      · have c2' : hasB rs ap = false := by simpa using c2
        rw [if_neg c2] at hX
        rw [c2'] at hfd
        have d1 : decide (0 ≤ fd) = false := hfd.symm
        have d2 : ¬ 0 ≤ fd := of_decide_eq_false d1
        have d3 : decide (fd < 0) = true := decide_eq_true (by omega)
        clear c2 hfd
        by_cases c4 : ¬ rs.length < 1000
        · rw [if_pos c4] at hX
          subst hX
          have i1 : (1000 : Int) ≤ (n : Int) := by omega
          have i2 : decide ((n : Int) < 1000) = false := decide_eq_false (by omega)
          clear c4
          go_wp2_with (go_at_call 48; refine CF.mono ?_; rintro r w4 ⟨rfl, rfl⟩)
          obtain ⟨q0, q1, BZ⟩ := HZ.out
          show bodyPost Tryz.prog Tryz.f47 _ _ _ _
          refine bodyPost_ret (v := .tuple #[.agg #[.int .i64 m, .slice A n cap], .int .i64 32, .int .i64 0]) ?_ rfl (opost m A n cap (.bad 32 0) (fun he => by cases he) BZ)
          simp [results, Tryz.results47, go_sem, q0, q1]
        · rw [if_neg c4] at hX
          subst hX
          have i1 : ¬ (1000 : Int) ≤ (n : Int) := by omega
          have i2 : decide ((n : Int) < 1000) = true := decide_eq_true (by omega)
          clear c4 HZ hf
          have HR3 := Lib.hid hR3
          have HOK := Lib.hid hok
          have HRL := Lib.hid hRl
          have HA := Lib.hid (hokA rfl)
          have hsz3 : w.heap.size + 1 < W3.heap.size := HP2.out.lt
          have B3' := Lib.hid B3
          clear hR3 hok hRl hokA B3 hlow
          go_wp2_with (first
            | (go_at_call 48; refine CF.mono ?_; rintro r w4 ⟨rfl, rfl⟩)
            | (at_builtin; refine wpList_app_rls _ rfl _ _ rfl W3.heap.size (.slice none 0 0) [] rfl (ORls.nil _ _) A n cap rs rfl HR3.out hA0 hAs (by simp; omega) (Nat.le_refl _) ?_; intro v5 w5 hO5 b5 gw5; rw [List.nil_append] at hO5; obtain ⟨A5, c5, rfl, ⟨hc5, hc5'⟩, _, _, _⟩ := hO5.form3 HOK.out HRL.out; refine stopHere ?_))
          unfold Stop
          have kE := (Below.refl _ w5).alloc (Nat.le_refl _) (.cells #[.string ap, .int .u64 ae, .int .u64 ab, .int .u8 ak] 37)
          have hR1 := Lib.hid (rls_one w5 ⟨ap, ae, ab, ak⟩ HA.out)
          have HO6 := Lib.hid (ownR_below hO5 kE)
          have b6 := Lib.hid (b5.trans (kE.mono b5.size))
          have hbz : W3.heap.size ≤ (w5.alloc (.cells #[.string ap, .int .u64 ae, .int .u64 ab, .int .u8 ak] 37)).heap.size := b6.out.size
          have y0' := celln b5 y0
          have y1' := celln b5 y1
          have y2' := celln b5 y2
          have y3' := celln b5 y3
          clear hO5 b5 gw5 kE
          go_wp2_with (at_builtin; refine wpList_app_rls _ rfl _ _ rfl W3.heap.size (.slice A5 n c5) rs rfl HO6.out (some ⟨w5.heap.size, 0, none⟩) 1 1 [⟨ap, ae, ab, ak⟩] rfl hR1.out (fun h => nomatch h) (fun ad h => by cases h; rfl) (by have := HRL.out; omega) hbz ?_; intro v6 w6 hO7 b7 gw7; obtain ⟨A6, c6, rfl, ⟨hc6, hc6'⟩, _, _, _⟩ := hO7.form3 (n := n + 1) (fun r hr => by (rcases List.mem_append.1 hr with hr | hr); exact HOK.out r hr; (simp only [List.mem_cons, List.not_mem_nil, or_false] at hr); subst hr; exact HA.out) (by rw [List.length_append, HRL.out]; rfl); refine stopHere ?_)
          unfold Stop
          have B7 := b6.out.trans b7
          have P7 := HP1.out.under B7 (by omega)
          have R7 := HP2.out.under B7 hsz3
          have B8 := kbq B3'.out B7
          have hO7' : w6.ownsRow W3.heap.size 37 4 (.slice A6 (n + 1) c6) (rs ++ [(⟨ap, ae, ab, ak⟩ : Rl)]).length (flatR (rs ++ [⟨ap, ae, ab, ak⟩])) := hO7
          have HZ := two_end (R7.far (Q := w.heap.size) (o := 1) (u := (.slice A6 (n + 1) c6)) (by omega)) (by omega) (B8.setCell (p := ⟨w.heap.size, 1, none⟩) (Nat.le_refl _) (.slice A6 (n + 1) c6)) m (.slice A6 (n + 1) c6)
          have OZ : ORls (((w6.setCell ⟨w.heap.size, 1, none⟩ (.slice A6 (n + 1) c6)).setCell ⟨w.heap.size + 1, 0, none⟩ (.int .i64 m)).setCell ⟨w.heap.size + 1, 1, none⟩ (.slice A6 (n + 1) c6)) W3.heap.size (.slice A6 (n + 1) c6) (rs ++ [⟨ap, ae, ab, ak⟩]) :=
            ownsRow_setCell_below (ownsRow_setCell_below (ownsRow_setCell_below hO7' (by show w.heap.size < W3.heap.size; omega) _) (by show w.heap.size + 1 < W3.heap.size; omega) _) (by show w.heap.size + 1 < W3.heap.size; omega) _
          obtain ⟨A9, c9, e9, k9, R9, m9, s9⟩ := OZ.form3 (n := n + 1) (fun r hr => by
            rcases List.mem_append.1 hr with hr | hr
            · exact HOK.out r hr
            · simp only [List.mem_cons, List.not_mem_nil, or_false] at hr; subst hr; exact HA.out) (by rw [List.length_append, HRL.out]; rfl)
          simp only [Value.slice.injEq, true_and] at e9
          obtain ⟨rfl, rfl⟩ := e9
          have RZ := Lib.hid R9
          have hgd : Hid (GoodS A6 (n + 1) c6) := Lib.hid ⟨k9.1, m9, s9⟩
          have hhi : Hid (∀ b off, A6 = some ⟨b, off, none⟩ → A6 = A ∨ w.heap.size ≤ b) := Lib.hid (fun b off e => .inr (by
            have := (World.ownsRow.lt OZ b (by rw [e]; rfl)).1
            omega))
          clear k9 m9 s9
          have RR := R7.far (Q := w.heap.size) (o := 1) (u := (.slice A6 (n + 1) c6)) (by omega)
          have z0 : (w6.setCell ⟨w.heap.size, 1, none⟩ (.slice A6 (n + 1) c6)).cell? ⟨w.heap.size, 0, none⟩ = some (.int .i64 m) := (cs_other _ _ _ _ _ _ (.inr (by omega))).trans P7.p0
          have z1 : (w6.setCell ⟨w.heap.size, 1, none⟩ (.slice A6 (n + 1) c6)).cell? ⟨w.heap.size, 1, none⟩ = some (.slice A6 (n + 1) c6) := World.cell?_setCell_same _ _ _ P7.p1
          obtain ⟨r0, r1, g0, g1⟩ := RR
          have h70 := P7.p0
          have h71 := P7.p1
          have h72 := P7.f1
          clear hO7 b7 gw7 B7 R7 B8 hO7' OZ R9 P7
          go_wp2
          obtain ⟨q0, q1, BZ⟩ := HZ.out
          show bodyPost Tryz.prog Tryz.f47 _ _ _ _
          refine bodyPost_ret (v := .tuple #[.agg #[.int .i64 m, .slice A6 (n + 1) c6], .int .i64 0, .int .i64 0]) ?_ rfl (opost m A6 (n + 1) c6 (.ok m (rs ++ [⟨ap, ae, ab, ak⟩])) (fun he => ⟨rfl, RZ.out, hgd.out, hhi.out⟩) BZ)
          simp [results, Tryz.results47, go_sem, q0, q1]
end Go.Proofs.YtckaiejbgnhgcaaGreatDoor.Wd
