/- Plain facts on trees of nodes: a node more, a node between, a rule more; what is found by a tree is what is found by the row of rules; no conditions but those that each names. -/
import Derived.Test.YtekpmepcacbloaaPreM
import Derived.Test.YtekpmepcacbloaaPreP
namespace Go.Proofs.Ytekpmepcacbloaa.Wd
open Go Go.RowKit
set_option linter.unusedVariables false

/-- A node more, below n, where there was none. -/
theorem Wood.leaf {F : Nat → Option Nd} {R n t : Nat} {nd : Nd} {r : ByteArray} {m' : Option Nat} (h : Wood F R) (hn : F n = some nd) (hf : F t = none) (hc : look nd.dn (hdB r) = none) (h0 : 0 < r.size) :
    Wood (upd (upd F n { nd with mp := m', dn := putD nd.dn (hdB r) t }) t ⟨nd.path ++ lb r, r, none, [], none⟩) R := by
  have htn : t ≠ n := fun e => by rw [e, hn] at hf; cases hf
  obtain ⟨n', hn'⟩ : ∃ n' : Nd, n' = { nd with mp := m', dn := putD nd.dn (hdB r) t } := ⟨_, rfl⟩
  obtain ⟨lf, hlf⟩ : ∃ lf : Nd, lf = ⟨nd.path ++ lb r, r, none, [], none⟩ := ⟨_, rfl⟩
  rw [← hn', ← hlf]
  obtain ⟨G, hG⟩ : ∃ G, G = upd (upd F n n') t lf := ⟨_, rfl⟩
  rw [← hG]
  have Gt : G t = some lf := by rw [hG]; exact upd_same _ _ _
  have Gn : G n = some n' := by rw [hG, upd_other _ _ (Ne.symm htn)]; exact upd_same _ _ _
  have Go' : ∀ x, x ≠ t → x ≠ n → G x = F x := fun x h1 h2 => by rw [hG, upd_other _ _ h1, upd_other _ _ h2]
  have keep : ∀ x nx, F x = some nx → ∃ nx', G x = some nx' ∧ nx'.path = nx.path ∧ nx'.step = nx.step := fun x nx hx => by
    by_cases e : x = n
    · subst e; rw [hn] at hx; cases hx; exact ⟨n', Gn, by rw [hn'], by rw [hn']⟩
    · exact ⟨nx, by rw [Go' x (fun e => by rw [e, hf] at hx; cases hx) e]; exact hx, rfl, rfl⟩
  have chi : ∀ p np c z, G p = some np → look np.dn c = some z → (p = n ∧ z = t ∧ c = hdB r) ∨ (∃ np0, F p = some np0 ∧ np0.path = np.path ∧ look np0.dn c = some z) := fun p np c z hp hl => by
    by_cases e1 : p = t
    · subst e1; rw [Gt] at hp; cases hp; rw [hlf] at hl; cases hl
    · by_cases e2 : p = n
      · subst e2
        rw [Gn] at hp; cases hp
        rw [hn', look_put] at hl
        by_cases e3 : hdB r = c
        · rw [if_pos e3] at hl; cases hl; exact .inl ⟨rfl, rfl, e3.symm⟩
        · rw [if_neg e3] at hl; exact .inr ⟨nd, hn, by rw [hn'], hl⟩
      · rw [Go' p e1 e2] at hp; exact .inr ⟨np, hp, rfl, hl⟩
  have notT : ∀ p np c, F p = some np → look np.dn c ≠ some t := fun p np c hp hl => by
    obtain ⟨x, hx, _⟩ := h.down p np c t hp hl
    rw [hf] at hx; cases hx
  refine ⟨?_, ?_, ?_, ?_⟩
  · obtain ⟨r0, f1, f2, f3⟩ := h.root
    obtain ⟨x, g1, g2, g3⟩ := keep R r0 f1
    exact ⟨x, g1, by rw [g2, f2], by rw [g3, f3]⟩
  · intro b nb c z hb hl
    rcases chi b nb c z hb hl with ⟨rfl, rfl, rfl⟩ | ⟨n0, e1, e2, e3⟩
    · rw [Gn] at hb; cases hb
      exact ⟨lf, Gt, by rw [hlf, hn'], by rw [hlf]; exact hd_some h0⟩
    · obtain ⟨x, g1, g2, g3⟩ := h.down b n0 c z e1 e3
      obtain ⟨y, k1, k2, k3⟩ := keep z x g1
      exact ⟨y, k1, by rw [k2, k3, g2, e2], by rw [k3]; exact g3⟩
  · intro b nb hb hR
    by_cases e1 : b = t
    · subst e1
      exact ⟨n, n', hdB r, Gn, by rw [hn', look_put, if_pos rfl]⟩
    · have hFb : ∃ x, F b = some x := by
        by_cases e2 : b = n
        · exact ⟨nd, by rw [e2]; exact hn⟩
        · rw [Go' b e1 e2] at hb; exact ⟨nb, hb⟩
      obtain ⟨x, hx⟩ := hFb
      obtain ⟨p, np, c, g1, g2⟩ := h.up b x hx hR
      by_cases e3 : p = n
      · subst e3
        rw [hn] at g1; cases g1
        exact ⟨p, n', c, Gn, by rw [hn', look_put, if_neg (fun e => by rw [← e, hc] at g2; cases g2)]; exact g2⟩
      · exact ⟨p, np, c, by rw [Go' p (fun e => by rw [e, hf] at g1; cases g1) e3]; exact g1, g2⟩
  · intro b p np c q nq d hp hl hq hm
    rcases chi p np c b hp hl with ⟨rfl, rfl, _⟩ | ⟨p0, e1, _, e3⟩
    · rcases chi q nq d b hq hm with ⟨rfl, _, _⟩ | ⟨q0, k1, _, k3⟩
      · rfl
      · exact absurd k3 (notT q q0 d k1)
    · rcases chi q nq d b hq hm with ⟨rfl, rfl, _⟩ | ⟨q0, k1, _, k3⟩
      · exact absurd e3 (notT p p0 c e1)
      · exact h.one b p p0 c q q0 d e1 e3 k1 k3

/-- A node between n and b, where both have x in common. -/
theorem Wood.split {F : Nat → Option Nd} {R n b t : Nat} {nd bd : Nd} {x y : ByteArray} {m' m2 : Option Nat} (h : Wood F R) (hn : F n = some nd) (hf : F t = none) (hb : F b = some bd) (hc : look nd.dn (hdB x) = some b) (hxy : lb bd.step = lb x ++ lb y) (hx0 : 0 < x.size) (hy0 : 0 < y.size) :
    Wood (upd (upd (upd F n { nd with mp := m', dn := putD nd.dn (hdB x) t }) b { bd with step := y }) t ⟨nd.path ++ lb x, x, m2, [(hdB y, b)], none⟩) R := by
  obtain ⟨hbp, hbh, hbl⟩ := h.longer hn hc hb
  have htn : t ≠ n := fun e => by rw [e, hn] at hf; cases hf
  have htb : t ≠ b := fun e => by rw [e, hb] at hf; cases hf
  have hbn : b ≠ n := fun e => by rw [e, hn] at hb; cases hb; omega
  obtain ⟨n', hn'⟩ : ∃ n' : Nd, n' = { nd with mp := m', dn := putD nd.dn (hdB x) t } := ⟨_, rfl⟩
  obtain ⟨b', hb'⟩ : ∃ b' : Nd, b' = { bd with step := y } := ⟨_, rfl⟩
  obtain ⟨tn, ht⟩ : ∃ tn : Nd, tn = ⟨nd.path ++ lb x, x, m2, [(hdB y, b)], none⟩ := ⟨_, rfl⟩
  rw [← hn', ← hb', ← ht]
  obtain ⟨G, hG⟩ : ∃ G, G = upd (upd (upd F n n') b b') t tn := ⟨_, rfl⟩
  rw [← hG]
  have Gt : G t = some tn := by rw [hG]; exact upd_same _ _ _
  have Gb : G b = some b' := by rw [hG, upd_other _ _ (Ne.symm htb)]; exact upd_same _ _ _
  have Gn : G n = some n' := by rw [hG, upd_other _ _ (Ne.symm htn), upd_other _ _ (Ne.symm hbn)]; exact upd_same _ _ _
  have Go' : ∀ z, z ≠ t → z ≠ b → z ≠ n → G z = F z := fun z h1 h2 h3 => by rw [hG, upd_other _ _ h1, upd_other _ _ h2, upd_other _ _ h3]
  have keep : ∀ z nz, F z = some nz → z ≠ b → ∃ nz', G z = some nz' ∧ nz'.path = nz.path ∧ nz'.step = nz.step := fun z nz hz e => by
    by_cases e2 : z = n
    · subst e2; rw [hn] at hz; cases hz; exact ⟨n', Gn, by rw [hn'], by rw [hn']⟩
    · exact ⟨nz, by rw [Go' z (fun e => by rw [e, hf] at hz; cases hz) e e2]; exact hz, rfl, rfl⟩
  have chi : ∀ p np c z, G p = some np → look np.dn c = some z → (p = n ∧ z = t ∧ c = hdB x) ∨ (p = t ∧ z = b ∧ c = hdB y) ∨ (z ≠ b ∧ ∃ np0, F p = some np0 ∧ np0.path = np.path ∧ look np0.dn c = some z) := fun p np c z hp hl => by
    by_cases e1 : p = t
    · subst e1
      rw [Gt] at hp; cases hp
      rw [ht] at hl
      by_cases e4 : hdB y = c
      · simp only [look, if_pos e4, Option.some.injEq] at hl
        exact .inr (.inl ⟨rfl, hl.symm, e4.symm⟩)
      · simp [look, e4] at hl
    · by_cases e2 : p = n
      · subst e2
        rw [Gn] at hp; cases hp
        rw [hn', look_put] at hl
        by_cases e3 : hdB x = c
        · rw [if_pos e3] at hl; cases hl; exact .inl ⟨rfl, rfl, e3.symm⟩
        · rw [if_neg e3] at hl
          refine .inr (.inr ⟨fun e => ?_, nd, hn, by rw [hn'], hl⟩)
          subst e
          obtain ⟨_, g2, _⟩ := h.longer hn hl hb
          rw [hbh] at g2; cases g2; exact e3 rfl
      · by_cases e5 : p = b
        · subst e5
          rw [Gb] at hp; cases hp
          rw [hb'] at hl
          refine .inr (.inr ⟨fun e => ?_, bd, hb, by rw [hb'], hl⟩)
          subst e
          obtain ⟨_, _, g3⟩ := h.longer hb hl hb
          omega
        · rw [Go' p e1 e5 e2] at hp
          exact .inr (.inr ⟨fun e => by subst e; exact e2 (h.one z p np c n nd (hdB x) hp hl hn hc), np, hp, rfl, hl⟩)
  have notT : ∀ p np c, F p = some np → look np.dn c ≠ some t := fun p np c hp hl => by
    obtain ⟨z, hz, _⟩ := h.down p np c t hp hl
    rw [hf] at hz; cases hz
  have hRb : R ≠ b := fun e => h.notRoot hn (by rw [e]; exact hc)
  refine ⟨?_, ?_, ?_, ?_⟩
  · obtain ⟨r0, f1, f2, f3⟩ := h.root
    obtain ⟨z, g1, g2, g3⟩ := keep R r0 f1 hRb
    exact ⟨z, g1, by rw [g2, f2], by rw [g3, f3]⟩
  · intro p np c z hp hl
    rcases chi p np c z hp hl with ⟨rfl, rfl, rfl⟩ | ⟨rfl, rfl, rfl⟩ | ⟨hz, n0, e1, e2, e3⟩
    · rw [Gn] at hp; cases hp
      exact ⟨tn, Gt, by rw [ht, hn'], by rw [ht]; exact hd_some hx0⟩
    · rw [Gt] at hp; cases hp
      exact ⟨b', Gb, by rw [hb', ht]; show bd.path = _; rw [hbp, hxy, List.append_assoc], by rw [hb']; exact hd_some hy0⟩
    · obtain ⟨z1, g1, g2, g3⟩ := h.down p n0 c z e1 e3
      obtain ⟨z2, k1, k2, k3⟩ := keep z z1 g1 hz
      exact ⟨z2, k1, by rw [k2, k3, g2, e2], by rw [k3]; exact g3⟩
  · intro z nz hz hR
    by_cases e1 : z = t
    · subst e1
      exact ⟨n, n', hdB x, Gn, by rw [hn', look_put, if_pos rfl]⟩
    · by_cases e4 : z = b
      · subst e4
        exact ⟨t, tn, hdB y, Gt, by rw [ht]; simp [look]⟩
      · have hFz : ∃ z1, F z = some z1 := by
          by_cases e2 : z = n
          · exact ⟨nd, by rw [e2]; exact hn⟩
          · rw [Go' z e1 e4 e2] at hz; exact ⟨nz, hz⟩
        obtain ⟨z1, hz1⟩ := hFz
        obtain ⟨p, np, c, g1, g2⟩ := h.up z z1 hz1 hR
        by_cases e3 : p = n
        · subst e3
          rw [hn] at g1; cases g1
          refine ⟨p, n', c, Gn, ?_⟩
          rw [hn', look_put, if_neg (fun e => ?_)]
          · exact g2
          · rw [← e, hc] at g2; cases g2; exact e4 rfl
        · by_cases e5 : p = b
          · subst e5
            rw [hb] at g1; cases g1
            exact ⟨p, b', c, Gb, by rw [hb']; exact g2⟩
          · exact ⟨p, np, c, by rw [Go' p (fun e => by rw [e, hf] at g1; cases g1) e5 e3]; exact g1, g2⟩
  · intro z p np c q nq d hp hl hq hm
    rcases chi p np c z hp hl with ⟨rfl, rfl, _⟩ | ⟨rfl, rfl, _⟩ | ⟨hz, p0, e1, _, e3⟩
    · rcases chi q nq d z hq hm with ⟨rfl, _, _⟩ | ⟨_, e, _⟩ | ⟨_, q0, k1, _, k3⟩
      · rfl
      · exact absurd e htb
      · exact absurd k3 (notT q q0 d k1)
    · rcases chi q nq d z hq hm with ⟨_, e, _⟩ | ⟨rfl, _, _⟩ | ⟨g, _⟩
      · exact absurd e.symm htb
      · rfl
      · exact absurd rfl g
    · rcases chi q nq d z hq hm with ⟨rfl, rfl, _⟩ | ⟨_, e, _⟩ | ⟨_, q0, k1, _, k3⟩
      · exact absurd e3 (notT p p0 c e1)
      · exact absurd e hz
      · exact h.one z p p0 c q q0 d e1 e3 k1 k3

/-- A wood that has more nodes, without rules; what was there leads there, and has its rule. -/
structure Ext (F G : Nat → Option Nd) : Prop where
  old : ∀ b nd, F b = some nd → ∃ nd', G b = some nd' ∧ nd'.path = nd.path ∧ nd'.rule = nd.rule
  new : ∀ b nd', F b = none → G b = some nd' → nd'.rule = none
theorem Ext.refl (F : Nat → Option Nd) : Ext F F := ⟨fun b nd h => ⟨nd, h, rfl, rfl⟩, fun b nd h g => by rw [h] at g; cases g⟩
theorem Ext.trans {F G H : Nat → Option Nd} (h : Ext F G) (g : Ext G H) : Ext F H := by
  refine ⟨fun b nd hb => ?_, fun b nd hb hh => ?_⟩
  · obtain ⟨x, e1, e2, e3⟩ := h.old b nd hb
    obtain ⟨y, k1, k2, k3⟩ := g.old b x e1
    exact ⟨y, k1, by rw [k2, e2], by rw [k3, e3]⟩
  · cases e : G b with
    | none => exact g.new b nd e hh
    | some x =>
      obtain ⟨y, k1, k2, k3⟩ := g.old b x e
      rw [hh] at k1; cases k1
      rw [k3]; exact h.new b x hb e
theorem ext_leaf {F : Nat → Option Nd} {n t : Nat} {nd n' lf : Nd} (hn : F n = some nd) (hf : F t = none) (hp : n'.path = nd.path) (hr : n'.rule = nd.rule) (hl : lf.rule = none) : Ext F (upd (upd F n n') t lf) := by
  refine ⟨fun b x hb => ?_, fun b x hb hx => ?_⟩
  · have e1 : b ≠ t := fun e => by rw [e, hf] at hb; cases hb
    rw [upd_other _ _ e1]
    by_cases e2 : b = n
    · subst e2; rw [hn] at hb; cases hb; exact ⟨n', upd_same _ _ _, hp, hr⟩
    · rw [upd_other _ _ e2]; exact ⟨x, hb, rfl, rfl⟩
  · by_cases e1 : b = t
    · subst e1; rw [upd_same] at hx; cases hx; exact hl
    · rw [upd_other _ _ e1] at hx
      by_cases e2 : b = n
      · subst e2; rw [hn] at hb; cases hb
      · rw [upd_other _ _ e2, hb] at hx; cases hx
theorem ext_split {F : Nat → Option Nd} {n b t : Nat} {nd bd n' b' tn : Nd} (hn : F n = some nd) (hb : F b = some bd) (hbn : b ≠ n) (hf : F t = none) (hp : n'.path = nd.path) (hr : n'.rule = nd.rule) (hp' : b'.path = bd.path) (hr' : b'.rule = bd.rule) (hl : tn.rule = none) : Ext F (upd (upd (upd F n n') b b') t tn) := by
  refine ⟨fun z x hz => ?_, fun z x hz hx => ?_⟩
  · have e1 : z ≠ t := fun e => by rw [e, hf] at hz; cases hz
    rw [upd_other _ _ e1]
    by_cases e3 : z = b
    · subst e3; rw [hb] at hz; cases hz; exact ⟨b', upd_same _ _ _, hp', hr'⟩
    · rw [upd_other _ _ e3]
      by_cases e2 : z = n
      · subst e2; rw [hn] at hz; cases hz; exact ⟨n', upd_same _ _ _, hp, hr⟩
      · rw [upd_other _ _ e2]; exact ⟨x, hz, rfl, rfl⟩
  · by_cases e1 : z = t
    · subst e1; rw [upd_same] at hx; cases hx; exact hl
    · rw [upd_other _ _ e1] at hx
      by_cases e3 : z = b
      · subst e3; rw [hb] at hz; cases hz
      · rw [upd_other _ _ e3] at hx
        by_cases e2 : z = n
        · subst e2; rw [hn] at hz; cases hz
        · rw [upd_other _ _ e2, hz] at hx; cases hx

/-! ### The rules of a wood -/
/-- The first rule whose prefix is just that. -/
def fstR (rs : List Rl) (p : List UInt8) : Option Rl := rs.find? (fun r => decide (lb r.p = p))
theorem fst_snoc (rs : List Rl) (r : Rl) (p : List UInt8) : fstR (rs ++ [r]) p = (fstR rs p).or (if lb r.p = p then some r else none) := by
  unfold fstR
  rw [List.find?_append]
  congr 1
  by_cases h : lb r.p = p <;> simp [h]
theorem fst_none {rs : List Rl} {p : List UInt8} (h : fstR rs p = none) : ∀ r ∈ rs, lb r.p ≠ p := fun r hr e => by
  have := List.find?_eq_none.1 h r hr
  simp [e] at this
theorem fst_some {rs : List Rl} {p : List UInt8} {r : Rl} (h : fstR rs p = some r) : ∃ j, j < rs.length ∧ fnOf rs j = r ∧ lb r.p = p ∧ ∀ i, i < j → lb (fnOf rs i).p ≠ p := by
  obtain ⟨h1, us, vs, h2, h3⟩ := List.find?_eq_some_iff_append.1 h
  refine ⟨us.length, by rw [h2]; simp, ?_, by simpa using h1, fun i hi => ?_⟩
  · rw [h2, fnOf, List.getD_eq_getElem?_getD]; simp
  · have hm : fnOf rs i ∈ us := by
      rw [h2, fnOf, List.getD_eq_getElem?_getD, List.getElem?_append_left hi, List.getElem?_eq_getElem hi]
      exact List.getElem_mem _
    simpa using h3 _ hm
/-- A wood whose nodes have the rules of a row. -/
structure Grove (F : Nat → Option Nd) (R : Nat) (rs : List Rl) : Prop where
  wood : Wood F R
  rule : ∀ b nd, F b = some nd → nd.rule = fstR rs nd.path
  all : ∀ r ∈ rs, ∃ b nd, F b = some nd ∧ nd.path = lb r.p
theorem Grove.ext {F G : Nat → Option Nd} {R : Nat} {rs : List Rl} (h : Grove F R rs) (W : Wood G R) (E : Ext F G) : Grove G R rs := by
  have A : ∀ r ∈ rs, ∃ b nd nd', F b = some nd ∧ G b = some nd' ∧ nd'.path = lb r.p := fun r hr => by
    obtain ⟨b, nd, e1, e2⟩ := h.all r hr
    obtain ⟨x, k1, k2, k3⟩ := E.old b nd e1
    exact ⟨b, nd, x, e1, k1, by rw [k2, e2]⟩
  refine ⟨W, fun b x hx => ?_, fun r hr => ?_⟩
  · cases e : F b with
    | some nd =>
      obtain ⟨y, k1, k2, k3⟩ := E.old b nd e
      rw [hx] at k1; cases k1
      rw [k2, k3]; exact h.rule b nd e
    | none =>
      rw [E.new b x e hx]
      cases e2 : fstR rs x.path with
      | none => rfl
      | some r =>
        obtain ⟨j, hj, e3, e4, _⟩ := fst_some e2
        obtain ⟨b0, nd0, nd1, g1, g2, g3⟩ := A r (by rw [← e3]; exact fn_mem hj)
        have := W.inj hx g2 (by rw [g3, e4])
        subst this
        rw [e] at g1; cases g1
  · obtain ⟨b, nd, x, e1, k1, k2⟩ := A r hr
    exact ⟨b, x, k1, k2⟩
/-- A rule more, at a node without one. -/
theorem Grove.add {G : Nat → Option Nd} {R n : Nat} {rs : List Rl} {nd : Nd} {r : Rl} (h : Grove G R rs) (hn : G n = some nd) (hp : nd.path = lb r.p) (h0 : nd.rule = none) : Grove (upd G n { nd with rule := some r }) R (rs ++ [r]) := by
  obtain ⟨n', hn'⟩ : ∃ n' : Nd, n' = { nd with rule := some r } := ⟨_, rfl⟩
  rw [← hn']
  have ep : n'.path = nd.path := by rw [hn']
  have es : n'.step = nd.step := by rw [hn']
  have ed : n'.dn = nd.dn := by rw [hn']
  have er : n'.rule = some r := by rw [hn']
  have fw : ∀ x nx, G x = some nx → ∃ nx', upd G n n' x = some nx' ∧ nx'.path = nx.path ∧ nx'.step = nx.step ∧ nx'.dn = nx.dn := fun x nx hx => by
    by_cases e : x = n
    · subst e; rw [hn] at hx; cases hx; exact ⟨n', upd_same _ _ _, ep, es, ed⟩
    · exact ⟨nx, by rw [upd_other _ _ e]; exact hx, rfl, rfl, rfl⟩
  have bw : ∀ x nx', upd G n n' x = some nx' → ∃ nx, G x = some nx ∧ nx'.path = nx.path ∧ nx'.step = nx.step ∧ nx'.dn = nx.dn := fun x nx hx => by
    by_cases e : x = n
    · subst e; rw [upd_same] at hx; cases hx; exact ⟨nd, hn, ep, es, ed⟩
    · rw [upd_other _ _ e] at hx; exact ⟨nx, hx, rfl, rfl, rfl⟩
  refine ⟨⟨?_, ?_, ?_, ?_⟩, ?_, ?_⟩
  · obtain ⟨r0, f1, f2, f3⟩ := h.wood.root
    obtain ⟨x, k1, k2, k3, _⟩ := fw R r0 f1
    exact ⟨x, k1, by rw [k2, f2], by rw [k3, f3]⟩
  · intro b nb c z hb hl
    obtain ⟨b0, k1, k2, k3, k4⟩ := bw b nb hb
    obtain ⟨z0, g1, g2, g3⟩ := h.wood.down b b0 c z k1 (by rw [← k4]; exact hl)
    obtain ⟨z1, l1, l2, l3, _⟩ := fw z z0 g1
    exact ⟨z1, l1, by rw [l2, l3, g2, k2], by rw [l3]; exact g3⟩
  · intro b nb hb hR
    obtain ⟨b0, k1, _⟩ := bw b nb hb
    obtain ⟨p, np, c, g1, g2⟩ := h.wood.up b b0 k1 hR
    obtain ⟨p1, l1, _, _, l4⟩ := fw p np g1
    exact ⟨p, p1, c, l1, by rw [l4]; exact g2⟩
  · intro b p np c q nq d hp1 hl hq hm
    obtain ⟨p0, k1, _, _, k4⟩ := bw p np hp1
    obtain ⟨q0, l1, _, _, l4⟩ := bw q nq hq
    exact h.wood.one b p p0 c q q0 d k1 (by rw [← k4]; exact hl) l1 (by rw [← l4]; exact hm)
  · intro b nb hb
    rw [fst_snoc]
    by_cases e : b = n
    · subst e
      rw [upd_same] at hb; cases hb
      have := h.rule b nd hn
      rw [er, ep, ← this, h0, if_pos hp.symm]; rfl
    · rw [upd_other _ _ e] at hb
      rw [if_neg (fun e2 => e (h.wood.inj hb hn (by rw [hp, e2]))), Option.or_none]
      exact h.rule b nb hb
  · intro r' hr'
    rcases List.mem_append.1 hr' with hr' | hr'
    · obtain ⟨b, nb, k1, k2⟩ := h.all r' hr'
      obtain ⟨x, l1, l2, _⟩ := fw b nb k1
      exact ⟨b, x, l1, by rw [l2, k2]⟩
    · simp only [List.mem_cons, List.not_mem_nil, or_false] at hr'
      subst hr'
      exact ⟨n, n', upd_same _ _ _, by rw [ep, hp]⟩
/-- A rule more, at a node that has one. -/
theorem Grove.not {G : Nat → Option Nd} {R n : Nat} {rs : List Rl} {nd : Nd} {r r0 : Rl} (h : Grove G R rs) (hn : G n = some nd) (hp : nd.path = lb r.p) (h0 : nd.rule = some r0) : Grove G R (rs ++ [r]) := by
  refine ⟨h.wood, fun b nb hb => ?_, fun r' hr' => ?_⟩
  · rw [fst_snoc]
    by_cases e : b = n
    · subst e
      rw [hn] at hb; cases hb
      rw [← h.rule b nd hn, h0]; rfl
    · rw [if_neg (fun e2 => e (h.wood.inj hb hn (by rw [hp, e2]))), Option.or_none]
      exact h.rule b nb hb
  · rcases List.mem_append.1 hr' with hr' | hr'
    · exact h.all r' hr'
    · simp only [List.mem_cons, List.not_mem_nil, or_false] at hr'
      subst hr'
      exact ⟨n, nd, hn, hp⟩
/-- How many prefixes there are among the first n. -/
def cntT (rs : List Rl) : Nat → Nat
  | 0 => 0
  | i + 1 => cntT rs i + (if (fstR (rs.take i) (lb (fnOf rs i).p)).isNone then 1 else 0)
theorem cnt_le (rs : List Rl) : ∀ n, cntT rs n ≤ n
  | 0 => Nat.le_refl _
  | n + 1 => by have := cnt_le rs n; unfold cntT; split <;> omega
theorem nd_root : (⟨[], ⟨#[]⟩, none, [], none⟩ : Nd).step.size = 0 := rfl
theorem grove_new (R : Nat) : Grove (upd (fun _ => none) R ⟨[], ⟨#[]⟩, none, [], none⟩) R [] := by
  have bw : ∀ x nx, upd (fun _ => none) R (⟨[], ⟨#[]⟩, none, [], none⟩ : Nd) x = some nx → x = R ∧ nx = ⟨[], ⟨#[]⟩, none, [], none⟩ := fun x nx h => by
    by_cases e : x = R
    · subst e; rw [upd_same] at h; cases h; exact ⟨rfl, rfl⟩
    · rw [upd_other _ _ e] at h; cases h
  refine ⟨⟨⟨_, upd_same _ _ _, rfl, rfl⟩, fun b nb c z hb hl => ?_, fun b nb hb hR => ?_, fun b p np c q nq d hp hl _ _ => ?_⟩, fun b nb hb => ?_, fun r hr => by cases hr⟩
  · obtain ⟨_, rfl⟩ := bw b nb hb; cases hl
  · exact absurd (bw b nb hb).1 hR
  · obtain ⟨_, rfl⟩ := bw p np hp; cases hl
  · obtain ⟨_, rfl⟩ := bw b nb hb; rfl

/-! ### What is found -/
def hsK (K p : ByteArray) : Bool := decide (cm (lb K) (lb p) = p.size)
theorem hsK_iff (K p : ByteArray) : hsK K p = true ↔ lb p <+: lb K := by
  unfold hsK; rw [decide_eq_true_eq, ← cm_has, lb_len]
/-- Where the best rule is among the first n. -/
def bestT (rs : List Rl) (K : ByteArray) : Nat → Option Nat
  | 0 => none
  | i + 1 => if hsK K (fnOf rs i).p && (match bestT rs K i with | none => true | some j => decide ((fnOf rs j).p.size < (fnOf rs i).p.size)) then some i else bestT rs K i
/-- The rule with the longest prefix. -/
def findR (rs : List Rl) (K : ByteArray) : Option Rl := (bestT rs K rs.length).map (fnOf rs)
/-- j is where the best rule is. -/
structure Best (rs : List Rl) (K : ByteArray) (n j : Nat) : Prop where
  lt : j < n
  has : hsK K (fnOf rs j).p = true
  most : ∀ i, i < n → hsK K (fnOf rs i).p = true → (fnOf rs i).p.size ≤ (fnOf rs j).p.size
  first : ∀ i, i < j → hsK K (fnOf rs i).p = true → (fnOf rs i).p.size < (fnOf rs j).p.size
theorem best_is (rs : List Rl) (K : ByteArray) : ∀ n, (bestT rs K n = none ∧ ∀ i, i < n → hsK K (fnOf rs i).p = false) ∨ ∃ j, bestT rs K n = some j ∧ Best rs K n j
  | 0 => .inl ⟨rfl, fun i hi => absurd hi (Nat.not_lt_zero _)⟩
  | n + 1 => by
    have ih := best_is rs K n
    rw [bestT]
    cases hh : hsK K (fnOf rs n).p with
    | false =>
      rw [if_neg (by simp)]
      rcases ih with ⟨e, h⟩ | ⟨j, e, B⟩
      · refine .inl ⟨e, fun i hi => ?_⟩
        by_cases c : i = n
        · subst c; exact hh
        · exact h i (by omega)
      · refine .inr ⟨j, e, by have := B.lt; omega, B.has, fun i hi g => ?_, B.first⟩
        by_cases c : i = n
        · subst c; rw [hh] at g; cases g
        · exact B.most i (by omega) g
    | true =>
      rcases ih with ⟨e, h⟩ | ⟨j, e, B⟩
      · rw [e, if_pos (by simp)]
        refine .inr ⟨n, rfl, by omega, hh, fun i hi g => ?_, fun i hi g => by rw [h i hi] at g; cases g⟩
        by_cases c : i = n
        · subst c; exact Nat.le_refl _
        · rw [h i (by omega)] at g; cases g
      · rw [e]
        by_cases c : (fnOf rs j).p.size < (fnOf rs n).p.size
        · rw [if_pos (by show (true && decide ((fnOf rs j).p.size < (fnOf rs n).p.size)) = true; rw [decide_eq_true c]; rfl)]
          refine .inr ⟨n, rfl, by omega, hh, fun i hi g => ?_, fun i hi g => by have := B.most i hi g; omega⟩
          by_cases c2 : i = n
          · subst c2; exact Nat.le_refl _
          · have := B.most i (by omega) g; omega
        · rw [if_neg (by show ¬ (true && decide ((fnOf rs j).p.size < (fnOf rs n).p.size)) = true; rw [decide_eq_false c]; decide)]
          refine .inr ⟨j, rfl, by have := B.lt; omega, B.has, fun i hi g => ?_, B.first⟩
          by_cases c2 : i = n
          · subst c2; omega
          · exact B.most i (by omega) g
theorem Best.uniq {rs : List Rl} {K : ByteArray} {n j k : Nat} (h : Best rs K n j) (g : Best rs K n k) : j = k := by
  rcases Nat.lt_trichotomy j k with c | c | c
  · have := g.first j c h.has; have := h.most k g.lt g.has; omega
  · exact c
  · have := h.first k c g.has; have := g.most j h.lt h.has; omega
theorem find_best {rs : List Rl} {K : ByteArray} {j : Nat} (h : Best rs K rs.length j) : findR rs K = some (fnOf rs j) := by
  unfold findR
  rcases best_is rs K rs.length with ⟨_, g⟩ | ⟨k, e, B⟩
  · have := g j h.lt; rw [h.has] at this; cases this
  · rw [e, h.uniq B]; rfl
theorem find_none {rs : List Rl} {K : ByteArray} (h : ∀ r ∈ rs, hsK K r.p = false) : findR rs K = none := by
  unfold findR
  rcases best_is rs K rs.length with ⟨e, _⟩ | ⟨k, e, B⟩
  · rw [e]; rfl
  · have := h _ (fn_mem B.lt); rw [B.has] at this; cases this
theorem find_ways (rs : List Rl) (K : ByteArray) : (findR rs K = none ∧ ∀ r ∈ rs, hsK K r.p = false) ∨ ∃ j, findR rs K = some (fnOf rs j) ∧ Best rs K rs.length j := by
  rcases best_is rs K rs.length with ⟨e, g⟩ | ⟨k, e, B⟩
  · refine .inl ⟨by unfold findR; rw [e]; rfl, fun r hr => ?_⟩
    obtain ⟨i, hi, e2⟩ := List.getElem_of_mem hr
    rw [← e2, ← fn_at hi]; exact g i hi
  · exact .inr ⟨k, by unfold findR; rw [e]; rfl, B⟩

def hasF (F : Nat → Option Nd) (b : Nat) : Bool := match F b with | some nd => nd.rule.isSome | none => false
/-- The last node on a way that has a rule. -/
def lastR (F : Nat → Option Nd) (xs : List (Nat × ByteArray)) : Option Nat := xs.foldl (fun o x => if hasF F x.1 then some x.1 else o) none
theorem last_snoc (F : Nat → Option Nd) (xs : List (Nat × ByteArray)) (x : Nat × ByteArray) : lastR F (xs ++ [x]) = if hasF F x.1 then some x.1 else lastR F xs := by
  unfold lastR; rw [List.foldl_append]; rfl
theorem last_is (F : Nat → Option Nd) : ∀ (n : Nat) (xs : List (Nat × ByteArray)), xs.length = n → (lastR F xs = none ∧ ∀ x ∈ xs, hasF F x.1 = false) ∨ ∃ b l ys zs, lastR F xs = some b ∧ xs = ys ++ (b, l) :: zs ∧ hasF F b = true ∧ ∀ z ∈ zs, hasF F z.1 = false
  | 0, xs, h => by
    obtain rfl := List.eq_nil_of_length_eq_zero h
    exact .inl ⟨rfl, fun x hx => by cases hx⟩
  | n + 1, xs, h => by
    have hne : xs ≠ [] := fun e => by rw [e] at h; cases h
    have ed := List.dropLast_concat_getLast hne
    have hl : xs.dropLast.length = n := by rw [List.length_dropLast, h]; rfl
    generalize xs.getLast hne = x at ed
    generalize xs.dropLast = ys at ed hl
    subst ed
    rw [last_snoc]
    cases hx : hasF F x.1 with
    | true => exact .inr ⟨x.1, x.2, ys, [], rfl, rfl, hx, fun z hz => by cases hz⟩
    | false =>
      rcases last_is F n ys hl with ⟨e, g⟩ | ⟨b, l, us, vs, e1, e2, e3, e4⟩
      · refine .inl ⟨e, fun y hy => ?_⟩
        rcases List.mem_append.1 hy with hy | hy
        · exact g y hy
        · simp only [List.mem_cons, List.not_mem_nil, or_false] at hy
          subst hy; exact hx
      · refine .inr ⟨b, l, us, vs ++ [x], e1, by rw [e2]; simp, e3, fun z hz => ?_⟩
        rcases List.mem_append.1 hz with hz | hz
        · exact e4 z hz
        · simp only [List.mem_cons, List.not_mem_nil, or_false] at hz
          subst hz; exact hx

/-- What is found by a tree is what is found by the row of rules. -/
theorem Grove.find {F : Nat → Option Nd} {R : Nat} {rs : List Rl} {K : ByteArray} {xs : List (Nat × ByteArray)} (h : Grove F R rs) (hw : Way F (some R) K xs) :
    (lastR F xs = none ∧ findR rs K = none) ∨ ∃ b nd r, lastR F xs = some b ∧ F b = some nd ∧ nd.rule = some r ∧ findR rs K = some r := by
  have here : ∀ r ∈ rs, hsK K r.p = true → ∃ b nd, F b = some nd ∧ nd.path = lb r.p ∧ hasF F b = true ∧ (b, cutB K r.p.size) ∈ xs := fun r hr hk => by
    obtain ⟨b, nd, e1, e2⟩ := h.all r hr
    have hf := hw.full h.wood _ b nd (Nat.le_refl _) e1 (by rw [e2]; exact (hsK_iff _ _).1 hk)
    rw [e2, lb_len] at hf
    refine ⟨b, nd, e1, e2, ?_, hf⟩
    unfold hasF
    rw [e1]
    show nd.rule.isSome = true
    rw [h.rule b nd e1]
    cases e3 : fstR rs nd.path with
    | none => exact absurd e2.symm (fst_none e3 r hr)
    | some _ => rfl
  have hpr := hw.ofRoot h.wood
  have hso := (hw.less h.wood).2
  rcases last_is F _ xs rfl with ⟨e, g⟩ | ⟨b, l, ys, zs, e1, e2, e3, e4⟩
  · refine .inl ⟨e, find_none (fun r hr => ?_)⟩
    cases hk : hsK K r.p with
    | false => rfl
    | true =>
      obtain ⟨b, nd, _, _, g1, g2⟩ := here r hr hk
      have := g _ g2
      rw [g1] at this; cases this
  · obtain ⟨nd, k1, k2⟩ := hpr (b, l) (by rw [e2]; simp)
    have hr : ∃ r, nd.rule = some r := by
      unfold hasF at e3
      simp only at k1
      rw [k1] at e3
      exact Option.isSome_iff_exists.1 e3
    obtain ⟨r, hr⟩ := hr
    obtain ⟨j, hj, g1, g2, g3⟩ := fst_some ((h.rule b nd k1).symm.trans hr)
    refine .inr ⟨b, nd, r, e1, k1, hr, ?_⟩
    have hKj : K.size = (fnOf rs j).p.size + l.size := by
      have := congrArg List.length k2
      rw [lb_len, List.length_append, ← g2, lb_len, lb_len, ← g1] at this
      exact this
    have look2 : ∀ i, i < rs.length → hsK K (fnOf rs i).p = true → (fnOf rs i).p.size < (fnOf rs j).p.size ∨ lb (fnOf rs i).p = nd.path := fun i hi hk => by
      obtain ⟨bi, ni, f1, f2, f3, f4⟩ := here _ (fn_mem hi) hk
      have hle : (fnOf rs i).p.size ≤ K.size := pre_size ((hsK_iff _ _).1 hk)
      rw [e2] at f4
      rcases List.mem_append.1 f4 with f4 | f4
      · left
        rw [e2, List.pairwise_append] at hso
        have := hso.2.2 _ f4 _ List.mem_cons_self
        rw [cut_size] at this
        show _ < _
        simp only at this
        omega
      · rcases List.mem_cons.1 f4 with f4 | f4
        · right
          have e5 := (Prod.mk.inj f4).1
          subst e5
          rw [f1] at k1; cases k1
          exact f2.symm
        · have := e4 _ f4
          simp only at this
          rw [f3] at this; cases this
    rw [← g1]
    refine find_best ⟨hj, ?_, fun i hi hk => ?_, fun i hi hk => ?_⟩
    · rw [hsK_iff, g1, g2]; exact ⟨_, k2.symm⟩
    · rcases look2 i hi hk with g | g
      · omega
      · have : lb (fnOf rs i).p = lb (fnOf rs j).p := by rw [g, g1, g2]
        rw [lb_inj this]; exact Nat.le_refl _
    · rcases look2 i (by omega) hk with g | g
      · exact g
      · exact absurd g (g3 i hi)
end Go.Proofs.Ytekpmepcacbloaa.Wd
