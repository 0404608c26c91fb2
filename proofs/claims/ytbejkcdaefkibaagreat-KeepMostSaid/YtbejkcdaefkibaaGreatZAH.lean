/- keep: how many stay, and what is told of a size; no conditions but those that each names. keep, plain and called: who stays and who goes, one behind the other; no conditions but those that each names. -/
import Derived.Test.YtbejkcdaefkibaaGreatZAG
namespace Go.Proofs.YtbejkcdaefkibaaGreat.Wd
open Go Go.RowKit Go.Deep Go.Shelf
set_option linter.unusedVariables false
set_option maxRecDepth 100000
/-- What is told of a size where n stay. -/
def moE (mo : Int) (n : Nat) : Int := if mo < 1 ∨ 1000000 < mo then 29 else if mo < (n : Int) then 50 else 0
theorem wo_is {rs : List Rl} {m mo c : Int} {S xs : List Sl} (hw : Wf m c S) (TL : Told S xs) (hT : ∀ s ∈ S, Twi c s s) (hok : ∀ K r, findR rs K = some r → Okr r) (hc2 : c ≤ 4611686018427387904) : woE mo c (xs.filterMap (stayS rs c)) = moE mo (S.filterMap (stayS rs c)).length := by
  have hl : (xs.filterMap (stayS rs c)).length = (S.filterMap (stayS rs c)).length := ((told_rise TL hw.ap).2.filterMap _).length_eq
  have hf : fsE c (xs.filterMap (stayS rs c)) = 0 := fs_zero (fun z hz => by
    obtain ⟨s, hs, e⟩ := List.mem_filterMap.1 hz
    have hs' := (TL.mem s).1 hs
    have q := stay_twi (hT s hs') (hw.ok s hs') hok hw.cu hc2 e
    exact ws_zero q.2 (twi_cap q.1 hw.cu))
  have hs := rise_so (rise_stay (rs := rs) (c := c) (told_rise TL hw.ap).1)
  unfold woE moE
  rw [if_pos hf, if_pos hs, hl]
theorem gone_len {rs : List Rl} {c : Int} : ∀ (S : List Sl), (S.filter (fun s => (stayS rs c s).isNone)).length + (S.filterMap (stayS rs c)).length = S.length
  | [] => rfl
  | a :: r => by
    have ih := gone_len (rs := rs) (c := c) r
    rw [List.filter_cons, List.filterMap_cons]
    cases e : stayS rs c a with
    | none => simp; omega
    | some z => simp; omega
/-- Keep, of any size. -/
theorem keep_num (T : Nat) (B : Nat → Prop) (m c mo : Int) (S : List Sl) (A : Option Addr) (n cap L : Nat) (rs : List Rl) (w : World) (h : Tbl w T B m c S) (hT : ∀ s ∈ S, Twi c s s) (hc2 : c ≤ 4611686018427387904) (hr : Rls w A n rs) (hn : n ≤ 1000000) (hL : (S.filterMap (stayS rs c)).length = L) :
    Calls Tryz.prog 39 #[ptr T, .agg #[.int .i64 mo, .slice A n cap]] w fun e w' => (∃ (o : Option Addr) (g : Int), e = .returned (.tuple #[.pointer o, .int .i64 g, .int .u16 (moE mo L)]) ∧ (moE mo L ≠ 0 → o = none ∧ g = 0)) ∧ Below w.heap.size w w' := by
  have hw := h.wf
  have hok : ∀ K r, findR rs K = some r → Okr r := fun K r e => find_okr hr.2.1 K r e
  refine (keep_any (some ⟨T, 0, none⟩) _ B m c mo S A n cap rs w (Ent.yes h) (fun s hs => (hw.ok s hs).oks) (fun s hs z e => (stay_twi (hT s hs) (hw.ok s hs) hok hw.cu hc2 e).2.oks) (by have := hw.len; have := hw.m2; omega) hw.cu hr (by omega) hok).mono ?_
  rintro e w' ⟨xs, TL, g, hk⟩
  have e1 := wo_is (mo := mo) hw TL hT hok hc2
  rw [hL] at e1
  refine ⟨?_, g⟩
  rcases hk with ⟨q, T2, B2, S2, he, _⟩ | ⟨q, he⟩
  · rw [e1] at q
    exact ⟨some ⟨T2, 0, none⟩, _, by rw [he, q], fun h => absurd q h⟩
  · rw [e1] at he
    exact ⟨none, 0, he, fun _ => ⟨rfl, rfl⟩⟩
theorem lost_num (T : Nat) (B : Nat → Prop) (m c mo : Int) (S : List Sl) (A : Option Addr) (n cap L G : Nat) (rs : List Rl) (w : World) (h : Tbl w T B m c S) (hr : Rls w A n rs) (hn : n ≤ 1000000) (hL : (S.filterMap (stayS rs c)).length = L) (hG : G + L = S.length) :
    Calls Tryz.prog 40 #[ptr T, .agg #[.int .i64 mo, .slice A n cap]] w fun e w' => ∃ A2 cap2, e = .returned (.slice A2 G cap2) ∧ Below w.heap.size w w' := by
  have hw := h.wf
  refine (lost_any (some ⟨T, 0, none⟩) _ B m c mo S A n cap rs w (Ent.yes h) (fun s hs => (hw.ok s hs).oks) (by have := hw.len; have := hw.m2; omega) hw.cu hr (by omega) (fun K r e => find_okr hr.2.1 K r e)).mono ?_
  rintro e w' ⟨xs, u, TL, g, rfl, ho⟩
  obtain ⟨A2, cap2, e2, _⟩ := ho.sts (fun x hx => by
    obtain ⟨s, hs, rfl⟩ := List.mem_map.1 hx
    have := (hw.ok s ((TL.mem s).1 (List.mem_filter.1 hs).1)).oks.key
    omega)
  have hl : ((xs.filter (fun s => (stayS rs c s).isNone)).map (fun s => s.key)).length = G := by
    rw [List.length_map, ((told_rise TL hw.ap).2.filter _).length_eq]
    have := gone_len (rs := rs) (c := c) S
    omega
  rw [hl] at e2
  exact ⟨A2, cap2, by rw [e2], g⟩
/-- Of no table nobody is there. -/
theorem keep_no (w : World) : Calls Tryz.prog 39 #[.pointer none, .agg #[.int .i64 3, .slice none 0 0]] w fun e w' => ∃ T2 B2, e = .returned (.tuple #[ptr T2, .int .i64 0, .int .u16 0]) ∧ Tbl w' T2 B2 3 0 [] ∧ Below w.heap.size w w' := by
  refine (keep_any none _ _ 1 0 3 [] none 0 0 [] w (Ent.no w) (fun s hs => (List.not_mem_nil hs).elim) (fun s hs => (List.not_mem_nil hs).elim) (by decide) U_zero (Rls.nil _ _) (by decide) (fun K r e => find_okr (fun r hr => (List.not_mem_nil hr).elim) K r e)).mono ?_
  rintro e w' ⟨xs, TL, g, hk⟩
  have : xs = [] := List.eq_nil_of_length_eq_zero TL.len
  subst this
  rcases hk with ⟨_, T2, B2, S2, he, ht, hp, _⟩ | ⟨q, _⟩
  · have : S2 = [] := List.eq_nil_of_length_eq_zero (by simpa using hp.length_eq)
    subst this
    exact ⟨T2, B2, he, ht, g⟩
  · exact absurd (show woE 3 0 [] = 0 by unfold woE; simp [fsE, soB]) q
end Go.Proofs.YtbejkcdaefkibaaGreat.Wd
namespace Go.Proofs.YtbejkcdaefkibaaGreat.Wd
open Go Go.RowKit Go.Deep Go.Shelf
set_option linter.unusedVariables false
set_option maxRecDepth 100000
/-- How many of the first k are told something, and how many nothing. -/
def aNk {α β : Type} (f : α → Option β) (X : List α) (k : Nat) : Nat := ((X.take k).filterMap f).length
def gNk {α β : Type} (f : α → Option β) (X : List α) (k : Nat) : Nat := ((X.take k).filter (fun s => (f s).isNone)).length
theorem cut_at {α : Type} {X : List α} {k : Nat} (h : k < X.length) : X = X.take k ++ X[k] :: X.drop (k + 1) := by
  rw [← List.drop_eq_getElem_cons h, List.take_append_drop]
theorem take_next {α : Type} {X : List α} {k : Nat} (h : k < X.length) : X.take (k + 1) = X.take k ++ [X[k]] := by
  rw [List.take_add_one, List.getElem?_eq_getElem h]; rfl
theorem aN_all {α β : Type} (f : α → Option β) (X : List α) : aNk f X X.length = (X.filterMap f).length := by unfold aNk; rw [List.take_length]
theorem gN_all {α β : Type} (f : α → Option β) (X : List α) : gNk f X X.length = (X.filter (fun s => (f s).isNone)).length := by unfold gNk; rw [List.take_length]
theorem aN_le {α β : Type} (f : α → Option β) (X : List α) (k : Nat) : aNk f X k ≤ (X.filterMap f).length := by
  unfold aNk; exact ((List.take_sublist k X).filterMap f).length_le
theorem gN_le {α β : Type} (f : α → Option β) (X : List α) (k : Nat) : gNk f X k ≤ (X.filter (fun s => (f s).isNone)).length := by
  unfold gNk; exact ((List.take_sublist k X).filter _).length_le
theorem aN_some {α β : Type} {f : α → Option β} {X : List α} {k : Nat} (h : k < X.length) {z : β} (e : f X[k] = some z) : aNk f X (k + 1) = aNk f X k + 1 ∧ gNk f X (k + 1) = gNk f X k ∧ (X.filterMap f)[aNk f X k]? = some z := by
  refine ⟨?_, ?_, ?_⟩
  · unfold aNk; rw [take_next h, List.filterMap_append, List.length_append, List.filterMap_cons, e]; rfl
  · unfold gNk; rw [take_next h, List.filter_append, List.length_append, List.filter_cons, e]; simp
  · have c := cut_at h
    have c2 : X.filterMap f = (X.take k).filterMap f ++ z :: (X.drop (k + 1)).filterMap f := by
      conv => lhs; rw [c]
      rw [List.filterMap_append, List.filterMap_cons, e]
    rw [c2]; unfold aNk
    rw [List.getElem?_append_right (Nat.le_refl _), Nat.sub_self]; rfl
theorem gN_none {α β : Type} {f : α → Option β} {X : List α} {k : Nat} (h : k < X.length) (e : f X[k] = none) : aNk f X (k + 1) = aNk f X k ∧ gNk f X (k + 1) = gNk f X k + 1 ∧ (X.filter (fun s => (f s).isNone))[gNk f X k]? = some X[k] ∧ ∀ y, (X.filterMap f)[aNk f X k]? = some y → y ∈ (X.drop (k + 1)).filterMap f := by
  have c := cut_at h
  refine ⟨?_, ?_, ?_, fun y hy => ?_⟩
  · unfold aNk; rw [take_next h, List.filterMap_append, List.length_append, List.filterMap_cons, e]; rfl
  · unfold gNk; rw [take_next h, List.filter_append, List.length_append, List.filter_cons, e]; simp
  · have c2 : X.filter (fun s => (f s).isNone) = (X.take k).filter (fun s => (f s).isNone) ++ X[k] :: (X.drop (k + 1)).filter (fun s => (f s).isNone) := by
      conv => lhs; rw [c]
      rw [List.filter_append, List.filter_cons, e]; simp
    rw [c2]; unfold gNk
    rw [List.getElem?_append_right (Nat.le_refl _), Nat.sub_self]; rfl
  · have c2 : X.filterMap f = (X.take k).filterMap f ++ (X.drop (k + 1)).filterMap f := by
      conv => lhs; rw [c]
      rw [List.filterMap_append, List.filterMap_cons, e]
    rw [c2] at hy; unfold aNk at hy
    rw [List.getElem?_append_right (Nat.le_refl _), Nat.sub_self] at hy
    exact List.mem_of_getElem? hy
/-- Who goes has no key of who stays behind him. -/
theorem gone_key {rs : List Rl} {c : Int} {X : List Sl} {k : Nat} (hX : Rise X) (h : k < X.length) {y : Sl} (hy : y ∈ (X.drop (k + 1)).filterMap (stayS rs c)) : y.key ≠ X[k].key := by
  obtain ⟨s, hs, e⟩ := List.mem_filterMap.1 hy
  rw [stay_key e]
  have q := cut_at h
  rw [q] at hX
  have := (List.pairwise_cons.1 (List.pairwise_append.1 hX).2.1).1 s hs
  intro e2
  have this : ltK X[k].key s.key = true := this
  rw [e2] at this
  exact absurd this (by simp [ltK, ls_irrefl])
/-- Keep, where all who stay have a place. -/
theorem keep_full (T : Nat) (B : Nat → Prop) (m c mo : Int) (S : List Sl) (A : Option Addr) (n cap G : Nat) (rs : List Rl) (w : World) (h : Tbl w T B m c S) (hT : ∀ s ∈ S, Twi c s s) (hc2 : c ≤ 4611686018427387904) (hr : Rls w A n rs) (hn : n ≤ 1000000) (hm : m ≤ mo) (hm2 : mo ≤ 1000000) (hG : (S.filter (fun s => (stayS rs c s).isNone)).length = G) :
    Calls Tryz.prog 39 #[ptr T, .agg #[.int .i64 mo, .slice A n cap]] w fun e w' => ∃ T2 B2 S2, e = .returned (.tuple #[ptr T2, .int .i64 (G : Int), .int .u16 0]) ∧ Tbl w' T2 B2 mo c S2 ∧ S2.Perm (S.filterMap (stayS rs c)) ∧ Below w.heap.size w w' := by
  have hw := h.wf
  have hok : ∀ K r, findR rs K = some r → Okr r := fun K r e => find_okr hr.2.1 K r e
  refine (keep_any (some ⟨T, 0, none⟩) _ B m c mo S A n cap rs w (Ent.yes h) (fun s hs => (hw.ok s hs).oks) (fun s hs z e => (stay_twi (hT s hs) (hw.ok s hs) hok hw.cu hc2 e).2.oks) (by have := hw.len; have := hw.m2; omega) hw.cu hr (by omega) hok).mono ?_
  rintro e w' ⟨xs, TL, g, hk⟩
  have hp := (told_rise TL hw.ap).2
  have e0 := wo_stay (rs := rs) (mo := mo) hw TL hT hok hc2 hm hm2
  rcases hk with ⟨q, T2, B2, S2, he, ht, hs, _⟩ | ⟨q, he⟩
  · refine ⟨T2, B2, S2, ?_, ht, hs.trans (hp.filterMap _), g⟩
    rw [he, (hp.filter _).length_eq, hG]
  · exact absurd e0 q
theorem lost_full (T : Nat) (B : Nat → Prop) (m c mo : Int) (S : List Sl) (A : Option Addr) (n cap : Nat) (rs : List Rl) (w : World) (h : Tbl w T B m c S) (hr : Rls w A n rs) (hn : n ≤ 1000000) :
    Calls Tryz.prog 40 #[ptr T, .agg #[.int .i64 mo, .slice A n cap]] w fun e w' => ∃ X u, e = .returned u ∧ Told S X ∧ ORow w' w.heap.size u ((X.filter (fun s => (stayS rs c s).isNone)).map (fun s => s.key)) ∧ Below w.heap.size w w' := by
  have hw := h.wf
  refine (lost_any (some ⟨T, 0, none⟩) _ B m c mo S A n cap rs w (Ent.yes h) (fun s hs => (hw.ok s hs).oks) (by have := hw.len; have := hw.m2; omega) hw.cu hr (by omega) (fun K r e => find_okr hr.2.1 K r e)).mono ?_
  rintro e w' ⟨xs, u, TL, g, rfl, ho⟩
  exact ⟨xs, u, rfl, TL, ho, g⟩
theorem clock_n {T : Nat} {B : Nat → Prop} {m c : Int} {S : List Sl} {w : World} (h : Tbl w T B m c S) :
    Calls Tryz.prog 29 #[ptr T] w fun e w' => e = .returned (.int .u64 c) ∧ w' = w :=
  (clock_yes T c w h.cells.2.1).mono (fun e w' ⟨h1, h2⟩ => ⟨h1, h2.symm⟩)
/-- Who is told of those who stayed: in the order of all. -/
theorem told_stay {rs : List Rl} {m mo c : Int} {S S2 X Y : List Sl} (hw : Wf m c S) (hw2 : Wf mo c S2) (hX : Told S X) (hY : Told S2 Y) (hp : S2.Perm (S.filterMap (stayS rs c))) : Y = X.filterMap (stayS rs c) :=
  rise_one (told_rise hY hw2.ap).1 (rise_stay (told_rise hX hw.ap).1) ((told_rise hY hw2.ap).2.trans (hp.trans ((told_rise hX hw.ap).2.symm.filterMap _)))
end Go.Proofs.YtbejkcdaefkibaaGreat.Wd
