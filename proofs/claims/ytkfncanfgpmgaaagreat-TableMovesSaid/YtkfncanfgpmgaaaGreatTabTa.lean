/- Two tables of the same keys, by whatever kernels, as data: they tell the same, now and later; no conditions but those that each names. -/
import Derived.Test.YtkfncanfgpmgaaaGreatTabMo
import Derived.Test.YtkfncanfgpmgaaaGreatTabOa
namespace Go.Proofs.YtkfncanfgpmgaaaGreat.Wd
open Go Go.RowKit Go.Shelf Go.Deep
set_option linter.unusedVariables false
set_option maxRecDepth 100000

/-- One by one. -/
inductive All2 (R : Sl → Sl → Prop) : List Sl → List Sl → Prop
  | nil : All2 R [] []
  | cons {x y : Sl} {xs ys : List Sl} (h : R x y) (t : All2 R xs ys) : All2 R (x :: xs) (y :: ys)
theorem All2.imp {R R' : Sl → Sl → Prop} {xs ys : List Sl} (h : All2 R xs ys) (f : ∀ x y, R x y → R' x y) : All2 R' xs ys := by
  induction h with
  | nil => exact .nil
  | cons h _ ih => exact .cons (f _ _ h) ih
theorem All2.len {R : Sl → Sl → Prop} {xs ys : List Sl} (h : All2 R xs ys) : xs.length = ys.length := by
  induction h with
  | nil => rfl
  | cons _ _ ih => rw [List.length_cons, List.length_cons, ih]
/-- Two slots of one key that tell the same FILL, now and later. -/
structure Twi (c : Int) (s t : Sl) : Prop where
  key : s.key = t.key
  e : s.r.e = t.r.e
  b : s.r.b = t.r.b
  cap : capR s.r = capR t.r
  say : ∃ f, Say c s.r ⟨s.k, s.a, s.b⟩ f ∧ Say c t.r ⟨t.k, t.a, t.b⟩ f
theorem Twi.fl {c c' : Int} {s t : Sl} (h : Twi c s t) (hl : c ≤ c') (hc' : U c') : flS c' s = flS c' t := by
  obtain ⟨f, h1, h2⟩ := h.say
  exact ((h1.later hl).fill hc').trans ((h2.later hl).fill hc').symm
theorem Twi.due {c : Int} {s t : Sl} (h : Twi c s t) (hc : U c) : dueS c s = dueS c t := by
  have := h.fl (Int.le_refl c) hc
  unfold dueS; rw [this]
theorem Twi.later {c c' : Int} {s t : Sl} (h : Twi c s t) (hl : c ≤ c') : Twi c' s t := by
  obtain ⟨f, h1, h2⟩ := h.say
  exact ⟨h.key, h.e, h.b, h.cap, _, h1.later hl, h2.later hl⟩
section
variable {c : Int} {S S' : List Sl}
theorem All2.get (h : All2 (Twi c) S S') (k : ByteArray) : (getS S k = none ∧ getS S' k = none) ∨ ∃ s t, getS S k = some s ∧ getS S' k = some t ∧ Twi c s t := by
  induction h with
  | nil => exact .inl ⟨rfl, rfl⟩
  | @cons x y xs ys h _ ih =>
    rw [getS_cons, getS_cons, ← h.key]
    by_cases e : x.key = k
    · rw [if_pos e, if_pos e]; exact .inr ⟨_, _, rfl, rfl, h⟩
    · rw [if_neg e, if_neg e]; exact ih
theorem All2.off (h : All2 (Twi c) S S') (k : ByteArray) : All2 (Twi c) (offS k S) (offS k S') := by
  induction h with
  | nil => exact .nil
  | @cons x y xs ys h _ ih =>
    rw [offS_cons, offS_cons, ← h.key]
    by_cases e : x.key = k
    · rw [if_pos e, if_pos e]; exact ih
    · rw [if_neg e, if_neg e]; exact .cons h ih
theorem All2.tick (h : All2 (Twi c) S S') {c' : Int} (hl : c ≤ c') (hc' : U c') : All2 (Twi c') (S.filter (actB c')) (S'.filter (actB c')) := by
  induction h with
  | nil => exact .nil
  | @cons x y xs ys h _ ih =>
    have e : actB c' x = actB c' y := by unfold actB; rw [h.fl hl hc']
    rw [List.filter_cons, List.filter_cons, ← e]
    cases actB c' x with
    | true => exact .cons (h.later hl) ih
    | false => exact ih
theorem All2.keys (h : All2 (Twi c) S S') : S.map (fun s => s.key) = S'.map (fun s => s.key) := by
  induction h with
  | nil => rfl
  | cons h _ ih => rw [List.map_cons, List.map_cons, ih, h.key]
end
theorem capR_mul {r : Rl} (hr : Okr r) (h0 : ruE r.p r.e r.b r.k = 0) : capR r = r.e * r.b ∧ r.e * r.b ≤ 4611686018427387904 := by
  obtain ⟨h1, _, h3⟩ := ru_fit r.p r.e r.b r.k hr.e hr.b h0
  exact ⟨by show caI r.p r.e r.b r.k = _; unfold caI; rw [if_pos h0, h1], h3⟩
theorem Say.cast {c : Int} {r q : Rl} {s : St} {f : Int} (h : Say c r s f) (e : capR r = capR q) : Say c q s f := ⟨h.st, by rw [← e]; exact h.tells, h.f0, by rw [← e]; exact h.f1⟩
/-- What is told, by the FILL alone. -/
def decF (f cap v e b : Int) : An :=
  ⟨if ftB f v cap = true then 1 else 2, 0, b, dvI (sbI cap (if ftB f v cap = true then f + v else f)) e, secI (if ftB f v cap = true then f + v else f), secI (kwI f cap v), kwI f cap v, kwB f cap v⟩
theorem decA_say {c : Int} {r : Rl} {s : St} {f n : Int} (h : Say c r s f) (hr : Okr r) (hc : U c) (hs : c + capR r ≤ 18446744073709551615) (hn : U n) : decA c r s n = decF f (capR r) (wI r n) r.e r.b := by
  obtain ⟨a1, _, a3⟩ := h.charge hr hc hs hn
  unfold decA decF
  rw [a1, h.fill hc, a3.fill hc]
theorem getS_wf {m c : Int} {S : List Sl} {k : ByteArray} {s : Sl} (hw : Wf m c S) (h : getS S k = some s) : s ∈ S ∧ s.key = k ∧ Okt c s := ⟨(getS_some h).1, (getS_some h).2, hw.ok s (getS_some h).1⟩
/-- A charge of both. -/
theorem twi_charge {m c n : Int} {S S' : List Sl} {k : ByteArray} {r q : Rl} (h : All2 (Twi c) S S') (hw : Wf m c S) (hw' : Wf m c S') (hr : Okr r) (hq : Okr q) (ee : q.e = r.e) (eb : q.b = r.b) (hv : ruE r.p r.e r.b r.k = 0) (hv' : ruE q.p q.e q.b q.k = 0)
    (hc2 : c ≤ 4611686018427387904) (hn : U n) : chA m c S k r n = chA m c S' k q n ∧ All2 (Twi c) (chN m c S k r n) (chN m c S' k q n) := by
  have hc := hw.cu
  obtain ⟨c1, c2⟩ := capR_mul hr hv
  obtain ⟨c1', _⟩ := capR_mul hq hv'
  have ecap : capR r = capR q := by rw [c1, c1', ee, eb]
  have hs : c + capR r ≤ 18446744073709551615 := by omega
  have hs' : c + capR q ≤ 18446744073709551615 := by omega
  have ew : wI r n = wI q n := by show sat (n * r.e) = sat (n * q.e); rw [ee]
  have hwk : wkE k r = wkE k q := by unfold wkE; rw [hv, hv']
  have hcast : ∀ {m' : Int} {S0 : List Sl} {k0 : ByteArray} {s : Sl}, Wf m' c S0 → getS S0 k0 = some s → s.r.e = r.e → s.r.b = r.b → capR s.r = capR r := by
    intro m' S0 k0 s hw0 hg e1 e2
    have ho := (getS_wf hw0 hg).2.2
    rw [(capR_mul ho.oks.r ho.rule).1, c1, e1, e2]
  -- who has the key, by this very rule
  have hD : All2 (Twi c) (dropS S k r) (dropS S' k q) := by
    unfold dropS
    rcases h.get k with ⟨e1, e2⟩ | ⟨s, t, e1, e2, ht⟩
    · rw [e1, e2]; exact h
    · rw [e1, e2]
      dsimp only
      rw [← ht.e, ← ht.b, ee, eb]
      by_cases z : s.r.e = r.e ∧ s.r.b = r.b
      · rw [if_pos z, if_pos z]; exact h
      · rw [if_neg z, if_neg z]; exact h.off k
  have hF : fullB m (dropS S k r) k = fullB m (dropS S' k q) k := by
    unfold fullB
    rw [hD.len]
    rcases hD.get k with ⟨e1, e2⟩ | ⟨s, t, e1, e2, ht⟩ <;> rw [e1, e2]
    rfl
  obtain ⟨f, hf, hf'⟩ : ∃ f, Say c r (stOf c r (getS (dropS S k r) k)) f ∧ Say c q (stOf c q (getS (dropS S' k q) k)) f := by
    have hg := dropS_get S k r
    have hg' := dropS_get S' k q
    rcases h.get k with ⟨e1, e2⟩ | ⟨s, t, e1, e2, ht⟩
    · rw [e1] at hg; rw [e2] at hg'
      rw [hg, hg']
      exact ⟨0, Say.none (rule_is3 hv) hr hc, Say.none (rule_is3 hv') hq hc⟩
    · rw [e1] at hg; rw [e2] at hg'
      dsimp only at hg hg'
      rw [← ht.e, ← ht.b, ee, eb] at hg'
      by_cases z : s.r.e = r.e ∧ s.r.b = r.b
      · rw [if_pos z] at hg hg'
        rw [hg, hg']
        obtain ⟨f, h1, h2⟩ := ht.say
        have ec := hcast hw e1 z.1 z.2
        exact ⟨f, h1.cast ec, h2.cast (by rw [← ht.cap, ec, ecap])⟩
      · rw [if_neg z] at hg hg'
        rw [hg, hg']
        exact ⟨0, Say.none (rule_is3 hv) hr hc, Say.none (rule_is3 hv') hq hc⟩
  have hA := decA_say hf hr hc hs hn
  have hA' := decA_say hf' hq hc hs' hn
  obtain ⟨a1, _, a3⟩ := hf.charge hr hc hs hn
  obtain ⟨b1, _, b3⟩ := hf'.charge hq hc hs' hn
  rw [← ew, ← ecap] at b1 b3 hA'
  unfold chA chN
  rw [← hwk, ← hF]
  by_cases z : wkE k r = 0
  · rw [if_pos z, if_pos z, if_pos z, if_pos z]
    by_cases y : fullB m (dropS S k r) k = true
    · rw [if_pos y, if_pos y, if_pos y, if_pos y, eb]; exact ⟨rfl, hD⟩
    · rw [if_neg y, if_neg y, if_neg y, if_neg y]
      refine ⟨by rw [hA, hA', ee, eb], ?_⟩
      generalize stOf c r (getS (dropS S k r) k) = st at *
      generalize stOf c q (getS (dropS S' k q) k) = st' at *
      unfold decS
      rw [a1, b1]
      by_cases x : ftB f (wI r n) (capR r) = true
      · rw [if_pos x, if_pos x]
        have tw : Twi c (slOf k r (stNx c r st n)) (slOf k q (stNx c q st' n)) := ⟨rfl, ee.symm, eb.symm, ecap, _, a3, b3⟩
        unfold putS
        rw [tw.fl (Int.le_refl c) hc]
        by_cases v : flS c (slOf k q (stNx c q st' n)) = 0
        · rw [if_pos v, if_pos v]; exact hD.off k
        · rw [if_neg v, if_neg v]; exact .cons tw (hD.off k)
      · rw [if_neg x, if_neg x]; exact hD
  · rw [if_neg z, if_neg z, if_neg z, if_neg z]; exact ⟨rfl, h⟩
/-! ### One goes over -/
theorem Twi.moved {c k2 : Int} {s t : Sl} (h : Twi c s t) (ho : Okt c s) (h2 : Is3 k2) (hc : U c) (hc2 : c ≤ 4611686018427387904) : Twi c (mvS c k2 s) t := by
  obtain ⟨f, h1, h3⟩ := h.say
  have hcap := (capR_mul ho.oks.r ho.rule)
  have hU := capR_U ho.oks.r
  have hff : kfI s.k s.a s.b c (capR s.r) = f := h1.fill hc
  have ea : (mvS c k2 s).a = koA k2 c (capR s.r) f := by
    show kmA s.k s.a s.b k2 c (capS s) = _
    rw [kmA_is ho.kind, show kfI s.k s.a s.b c (capS s) = f from hff]
  have eb : (mvS c k2 s).b = koB k2 c := by show kmB s.k k2 c = _; rw [kmB_is ho.kind]
  have ek : (mvS c k2 s).k = k2 := (mvS_oks ho.oks hc ho.kind h2).2
  have hf0 := h1.f0
  have hf1 := h1.f1
  refine ⟨h.key, h.e, h.b, h.cap, f, ⟨⟨?_, ?_, ?_⟩, ?_, hf0, hf1⟩, h3⟩
  · show Is3 (mvS c k2 s).k; rw [ek]; exact h2
  · show U (mvS c k2 s).a; exact (mvS_oks ho.oks hc ho.kind h2).1.a
  · show U (mvS c k2 s).b; exact (mvS_oks ho.oks hc ho.kind h2).1.b
  · show Tells (mvS c k2 s).k (mvS c k2 s).a (mvS c k2 s).b (capR s.r) c f
    rw [ea, eb, ek]
    exact tells_of h2 c (capR s.r) f hc.1 hf0 hf1 (by omega)
theorem twi_fill {m c k2 : Int} {S S' : List Sl} (h : All2 (Twi c) S S') (hw : Wf m c S) (hw' : Wf m c S') (h2 : Is3 k2) (hc2 : c ≤ 4611686018427387904) : ∀ s ∈ S, flS c (mvS c k2 s) ≠ 0 := by
  intro s hs
  have hc := hw.cu
  rcases h.get s.key with ⟨e1, _⟩ | ⟨s', t, e1, e2, ht⟩
  · exact absurd rfl (getS_none.1 e1 s hs)
  · rw [getS_of hw.ap hs rfl] at e1
    cases e1
    rw [(ht.moved (hw.ok s hs) h2 hc hc2).fl (Int.le_refl c) hc]
    have := (getS_wf hw' e2).2.2.pos
    omega
theorem getS_perm {S : List Sl} {k : ByteArray} {s : Sl} (hp : S.Pairwise (fun x y => x.key ≠ y.key)) (h : getS S k = some s) : S.Perm (s :: offS k S) := by
  induction S with
  | nil => cases h
  | cons x xs ih =>
    obtain ⟨h1, h2⟩ := List.pairwise_cons.1 hp
    rw [getS_cons] at h
    rw [offS_cons]
    by_cases e : x.key = k
    · rw [if_pos e] at h; cases h
      rw [if_pos e, offS_no (fun y hy e2 => h1 y hy (by rw [e, e2]))]
    · rw [if_neg e] at h
      rw [if_neg e]
      exact ((ih h2 h).cons x).trans (List.Perm.swap _ _ _)
theorem twi_move {m c k2 : Int} {S S' : List Sl} {k : ByteArray} (h : All2 (Twi c) S S') (hw : Wf m c S) (hw' : Wf m c S') (h2 : Is3 k2) (hc2 : c ≤ 4611686018427387904) : ∃ S2, S'.Perm S2 ∧ All2 (Twi c) (mvN c k2 S k) S2 := by
  have hfl := twi_fill h hw hw' h2 hc2
  unfold mvN
  rcases h.get k with ⟨e1, e2⟩ | ⟨s, t, e1, e2, ht⟩
  · rw [e1]; exact ⟨S', List.Perm.refl _, h⟩
  · rw [e1]
    obtain ⟨hs, rfl, ho⟩ := getS_wf hw e1
    refine ⟨_, getS_perm hw'.ap e2, ?_⟩
    dsimp only
    unfold putS
    rw [if_neg (hfl s hs)]
    exact .cons (ht.moved ho h2 hw.cu hc2) (h.off _)
theorem All2.moved {c k2 : Int} {S S' : List Sl} (h : All2 (Twi c) S S') (ho : ∀ s ∈ S, Okt c s) (h2 : Is3 k2) (hc : U c) (hc2 : c ≤ 4611686018427387904) : All2 (Twi c) (S.map (mvS c k2)) S' := by
  induction h with
  | nil => exact .nil
  | cons h _ ih => exact .cons (h.moved (ho _ List.mem_cons_self) h2 hc hc2) (ih (fun s hs => ho s (List.mem_cons_of_mem _ hs)))
/-! ### Entries -/
/-- Until when a key is active. -/
def untK (c : Int) (S : List Sl) (k : ByteArray) : Int := match getS S k with
  | some s => dueS c s
  | none => 0
theorem entS_keys {c : Int} {S xs : List Sl} (hp : S.Pairwise (fun x y => x.key ≠ y.key)) (h : ∀ x ∈ xs, x ∈ S) : xs.map (entS c) = (xs.map (fun x => x.key)).map (fun k => (k, untK c S k)) := by
  rw [List.map_map]
  refine List.map_congr_left (fun x hx => ?_)
  show (x.key, dueS c x) = (x.key, untK c S x.key)
  unfold untK
  rw [getS_of hp (h x hx) rfl]
theorem untK_twi {c : Int} {S S' : List Sl} (h : All2 (Twi c) S S') (hc : U c) (k : ByteArray) : untK c S k = untK c S' k := by
  unfold untK
  rcases h.get k with ⟨e1, e2⟩ | ⟨s, t, e1, e2, ht⟩
  · rw [e1, e2]
  · rw [e1, e2]; exact ht.due hc
/-- Keys in order, in one way alone. -/
theorem allk_one {S S' : List Sl} {ks ks' : List ByteArray} (h : Allk S ks) (h' : Allk S' ks') (e : S.map (fun s => s.key) = S'.map (fun s => s.key)) : ks = ks' := by
  obtain ⟨d, p1, p2, rfl⟩ := h
  obtain ⟨d', q1, q2, rfl⟩ := h'
  have inc : ∀ {d : Array ByteArray}, Sort.SortedIn ltK 0 d.size d → d.toList.Pairwise (fun a b => ltK b a = false) := by
    intro d hs
    rw [List.pairwise_iff_getElem]
    intro i j hi hj hij
    have h1 := hs i j (Nat.zero_le _) hij (by simpa using hj)
    rw [getElem!_pos d i (by simpa using hi), getElem!_pos d j (by simpa using hj)] at h1
    simpa using h1
  refine List.Perm.eq_of_pairwise (le := fun a b => ltK b a = false) (fun a b _ _ h1 h2 => ?_) (inc p2) (inc q2) (p1.trans (by rw [e]; exact q1.symm))
  have t := ls_total (lb a) (lb b)
  rw [show ls (lb a) (lb b) = false from h2, show ls (lb b) (lb a) = false from h1] at t
  simp at t
  exact lb_inj (eq_of_beq (by simpa using t))
theorem ents_same {c : Int} {S S' xs ys : List Sl} (h : All2 (Twi c) S S') (hc : U c) (hp : S.Pairwise (fun x y => x.key ≠ y.key)) (hp' : S'.Pairwise (fun x y => x.key ≠ y.key)) (h1 : ∀ x ∈ xs, x ∈ S) (h2 : ∀ x ∈ ys, x ∈ S') (k1 : Allk S (xs.map (fun x => x.key))) (k2 : Allk S' (ys.map (fun x => x.key))) : xs.map (entS c) = ys.map (entS c) := by
  rw [entS_keys hp h1, entS_keys hp' h2, allk_one k1 k2 h.keys]
  exact List.map_congr_left (fun k _ => by rw [untK_twi h hc k])
end Go.Proofs.YtkfncanfgpmgaaaGreat.Wd
