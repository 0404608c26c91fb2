/- What pack's reader tells of entries, and pack.Decode; no conditions but those that each names. -/
import Derived.Test.YtbejkcdaefkibaaPacH
namespace Go.Proofs.Ytbejkcdaefkibaa.Wd
open Go Go.RowKit Go.Shelf Go.Deep Go.Lib
set_option linter.unusedVariables false
set_option maxRecDepth 100000

theorem entry_lack (R B : Nat) (l : List UInt8) (w : World) (h : Rd w R B l) (hs : stp l = none) :
    Calls Try.prog 34 #[.pointer (some ⟨R, 0, none⟩)] w fun e w' => e = .returned (.tuple #[.agg #[.string ⟨#[]⟩, .int .u64 0], .bool false]) ∧ Tch (fun b => b = R) w w' := by
  cases l with
  | nil => exact entry_none R B w h
  | cons c t =>
    rw [stp] at hs
    by_cases h1 : t.length < c.toNat + 8
    · by_cases h2 : t.length < c.toNat
      · exact entry_nokey R B c t w h h2
      · exact entry_nountil R B c t w h (by omega) h1
    · rw [if_neg h1] at hs; cases hs
theorem entry_ok (R B : Nat) (l k r : List UInt8) (u : Nat) (w : World) (h : Rd w R B l) (hs : stp l = some (k, u, r)) :
    Calls Try.prog 34 #[.pointer (some ⟨R, 0, none⟩)] w fun e w' => e = .returned (.tuple #[.agg #[.string (str k), .int .u64 (u : Int)], .bool true]) ∧ Rd w' R B r ∧ Tch (fun b => b = R) w w' := by
  cases l with
  | nil => cases hs
  | cons c t =>
    rw [stp] at hs
    by_cases h1 : t.length < c.toNat + 8
    · rw [if_pos h1] at hs; cases hs
    · rw [if_neg h1] at hs
      simp only [Option.some.injEq, Prod.mk.injEq] at hs
      obtain ⟨e1, e2, e3⟩ := hs
      rw [← e1, ← e2, ← e3]
      exact entry_yes R B c t w h (by omega)
theorem make_en (c : Nat) (hc : c ≤ 1000000000) : ∃ arr : Array Value, (∀ W : World, (Instr.makeSlice Tens (.int .i64 0) (.int .u64 (c : Int))).run Try.prog W = .ok (.slice (some ⟨W.heap.size, 0, none⟩) 0 c) (W.alloc (.cells arr Tae))) ∧
    ∀ (W : World) (base : Nat), base ≤ W.heap.size → OwE (W.alloc (.cells arr Tae)) base (.slice (some ⟨W.heap.size, 0, none⟩) 0 c) [] := by
  obtain ⟨i0, hz, hz0, hz1, hz2⟩ := info_parts zeroAe
  refine ⟨madeCells #[.string ⟨#[]⟩, .int .u64 0] (c * 2), fun W => ?_, fun W base hb => World.ownsRow_made W _ c hb (by unfold maxLen; omega) (size_madeCells _ _)⟩
  have h := run_make (P := Try.prog) W Tens Tae i0 _ Try.underlying23 hz hz0 .i64 .u64 0 (c : Int) (by omega) (by omega) (by rw [hz2]; omega) (by omega)
  rw [hz1] at h
  rw [h]
  simp [Value.cells]
theorem Tch.own {w w' : World} {base : Nat} {v : Value} {e : TypeId} {size n : Nat} {xs : List Value} (h : w.ownsRow base e size v n xs) (g : w.grownBy w' v.ownBlock) : Tch (fun b => base ≤ b) w w' :=
  ⟨g.os, g.tape, g.output, g.size, fun k hk hn => g.block k hk (fun e => hn (World.ownsRow.lt h k e.symm).1)⟩
theorem Tch.far {w0 a b : World} {R : Nat} (h : Tch (fun x => x = R) w0 a) (g : Tch (fun x => w0.heap.size ≤ x) a b) : Tch (fun x => x = R) w0 b :=
  h.next (g.mono (fun k _ e => .inr e))
/-- What the reader has behind some entries. -/
structure Es (w0 wr : World) (R B : Nat) (l : List UInt8) (v : Value) (acc : List En) : Prop where
  rd : Rd wr R B l
  own : OwE wr w0.heap.size v acc
  tch : Tch (fun b => b = R) w0 wr
theorem Es.bel {w0 a b : World} {R B : Nat} {l : List UInt8} {v : Value} {acc : List En} (h : Es w0 a R B l v acc) (g : Below a.heap.size a b) : Es w0 b R B l v acc := ⟨h.rd.below g, h.own.below g, tb h.tch g⟩
theorem Es.read {w0 a b : World} {R B : Nat} {l r : List UInt8} {v : Value} {acc : List En} (h : Es w0 a R B l v acc) (hR : R < w0.heap.size) (g : Tch (fun b => b = R) a b) (hr : Rd b R B r) : Es w0 b R B r v acc :=
  ⟨hr, own_tch h.own g (fun k hk _ e => by omega), h.tch.trans g⟩
theorem Es.app {w0 a b : World} {R B : Nat} {l : List UInt8} {v v' : Value} {acc acc' : List En} (h : Es w0 a R B l v acc) (hR : R < w0.heap.size) (o : OwE b w0.heap.size v' acc') (g : a.grownBy b v.ownBlock) : Es w0 b R B l v' acc' :=
  have t := Tch.own h.own g
  ⟨h.rd.tch t (by omega) (fun k hk e => by have := h.rd.lt.1; omega), o, h.tch.far t⟩
theorem rd_none {n : Nat} {ah l : List UInt8} {acc : List En} (h : stp l = none) : rdA (n + 1) ah l acc = (41, [], []) := by rw [rdA, h]
theorem rd_one {n : Nat} {ah l k r : List UInt8} {u : Nat} {acc : List En} (h : stp l = some (k, u, r)) : rdA (n + 1) ah l acc = if rtB k = true then (if ls ah k = true then rdA n k r (acc ++ [(str k, u)]) else (42, [], [])) else (12, [], []) := by rw [rdA, h]

theorem ens_one (w : World) (x : En) : Ens (w.alloc (.cells (En.cs x) Tae)) (some ⟨w.heap.size, 0, none⟩) 1 [x] := by
  refine ⟨rfl, fun _ => ⟨w.heap.size, 0, rfl, by simp, fun j hj => ?_⟩⟩
  obtain rfl : j = 0 := by omega
  exact (Blk.new w (En.cs x) Tae).two
set_option maxHeartbeats 4000000 in
theorem entries_any (R B m : Nat) (l : List UInt8) (w : World) (h : Rd w R B l) (hm : m < 4294967296) (hl : l.length ≤ 100000) (E : Nat) (ys : List En) (r : List UInt8) (hX : rdA m [] l [] = (E, ys, r)) :
    Calls Try.prog 24 #[.pointer (some ⟨R, 0, none⟩), .int .u64 (m : Int)] w fun e w' => ∃ v, e = .returned (.tuple #[v, .int .u16 (E : Int)]) ∧ OwE w' w.heap.size v ys ∧ Hid (E = 0 → Rd w' R B r) ∧ Tch (fun b => b = R) w w' := by
  obtain ⟨hBR, hRl⟩ := h.lt
  have RM := Lib.hid (fun W (g : Rd W R B l) => room_any R B m l W g (by omega))
  obtain ⟨c, hc⟩ : ∃ c, c = min m (l.length / 10) := ⟨_, rfl⟩
  rw [← hc] at RM
  obtain ⟨arr, hmk, hbr⟩ := make_en c (by omega)
  have HX := Lib.hid hX
  have hR := Lib.hid h
  clear hX hc h
  go_enter Try.func24, Try.ntmps24
  go_upto_region 2 with (go_at_call 33; refine (RM.out _ hR.out).mono ?_; rintro e w1 ⟨rfl, rfl⟩)
  have S0 : Es w (w.alloc (.cells arr Tae)) R B l (.slice (some ⟨w.heap.size, 0, none⟩) 0 c) [] :=
    ⟨hR.out.below ((Below.refl _ w).alloc (Nat.le_refl _) _), hbr w w.heap.size (Nat.le_refl _), ta (Tch.refl _ _)⟩
  replace S0 := Lib.hid S0
  clear hmk hbr hR RM
  generalize w.alloc (.cells arr Tae) = W at *
  generalize Value.slice (some ⟨w.heap.size, 0, none⟩) 0 c = v0 at *
  go_wp2_with fail
  go_loopw [6, 7, 8, 9, 15] (fun s6 s7 s8 s9 s15 wr => ∃ (k : Nat) (v p b : Value) (ah : ByteArray) (l' : List UInt8) (acc : List En), s6 = v ∧ s7 = .string ah ∧ s8 = p ∧ s9 = b ∧ s15 = .int .u64 (k : Int) ∧ k ≤ m ∧ ah.size ≤ 255 ∧ acc.length = k ∧ Hid (rdA (m - k) (lb ah) l' acc = (E, ys, r)) ∧ Es w wr R B l' v acc) (fun _ _ _ _ s15 _ => m - (intOf s15).toNat)
  case atStart => exact ⟨0, _, _, _, ⟨#[]⟩, l, [], rfl, rfl, rfl, rfl, rfl, by omega, by decide, rfl, Lib.hid HX.out, S0.out⟩
  case round =>
    obtain ⟨k, v, p, b, ah, l', acc, rfl, rfl, rfl, rfl, rfl, hk, hah, hacc, D, S⟩ := hrel
    by_cases hlt : k < m
    · obtain ⟨d, hd⟩ : ∃ d, m - k = d + 1 := ⟨m - k - 1, by omega⟩
      cases hs : stp l' with
      | none =>
        have e := D.out
        rw [hd, rd_none hs] at e
        simp only [Prod.mk.injEq] at e
        obtain ⟨rfl, rfl, rfl⟩ := e
        have EN := Lib.hid (entry_lack R B l' wr S.rd hs)
        have SS := Lib.hid S
        clear S0 S HX D hs hd hacc
        go_wp2_with (go_at_call 34; refine EN.out.mono ?_; rintro e w1 ⟨rfl, t1⟩)
        refine bodyPost_ret (v := .tuple #[.slice none 0 0, .int .u16 41]) ?_ rfl ⟨_, rfl, OwE.nil _ _, Lib.hid (fun e => by cases e), ta (SS.out.tch.trans t1)⟩
        simp [results, Try.results24, go_sem]
      | some x =>
        obtain ⟨key, u, t⟩ := x
        have hst := stp_some hs
        have e := D.out
        rw [hd, rd_one hs] at e
        have EN := Lib.hid (entry_ok R B l' key t u wr S.rd hs)
        have CR := Lib.hid (fun W' => right_any (str key) W' (by rw [← list_size]; show key.length ≤ _; omega))
        have CL := Lib.hid (fun W' => less_any ah (str key) W' (by omega) (by rw [← list_size]; show key.length ≤ _; omega))
        rw [lb_str] at CR CL
        have hks : (str key).size ≤ 255 := by rw [← list_size]; show key.length ≤ _; omega
        have hlk : lb (str key) = key := rfl
        have HLK := Lib.hid hlk
        have SS := Lib.hid S
        have HACC := Lib.hid hacc
        have HE := Lib.hid e
        have hkb : acc.length + 1 ≤ 1099511627776 := by omega
        clear S0 S HX D hs e hst hlk hacc
        generalize rtB key = r1 at *
        generalize ls (lb ah) key = r2 at *
        obtain ⟨s, hS⟩ : ∃ s, s = str key := ⟨_, rfl⟩
        rw [← hS] at EN CR CL hks HLK HE
        have HS := Lib.hid hS
        clear hS
        go_upto_region 6 with (go_at_call 34; refine EN.out.mono ?_; rintro e w1 ⟨rfl, rr, t1⟩)
        have q1 := Lib.hid (Blk.new w1 (En.cs (s, u)) Tae)
        have HOB := Lib.hid (fun k (e : _ = some k) => (World.ownsRow.lt (SS.out.read hRl t1 rr).own k e).2)
        have S2 := Lib.hid ((SS.out.read hRl t1 rr).bel ((Below.refl _ w1).alloc (Nat.le_refl _) (.cells (En.cs (s, u)) Tae)))
        clear SS EN t1 rr
        generalize w1.alloc (.cells #[.string s, .int .u64 (u : Int)] Tae) = W2 at *
        obtain ⟨y0, y1⟩ := q1.out.two
        dsimp only at y0 y1
        cases r1 with
        | false =>
          have e := HE.out
          rw [if_neg (by decide)] at e
          simp only [Prod.mk.injEq] at e
          obtain ⟨rfl, rfl, rfl⟩ := e
          clear HE
          go_wp2_with (go_at_call 28; refine (CR.out _).mono ?_; rintro e w3 ⟨rfl, rfl⟩)
          refine bodyPost_ret (v := .tuple #[.slice none 0 0, .int .u16 12]) ?_ rfl ⟨_, rfl, OwE.nil _ _, Lib.hid (fun e => by cases e), S2.out.tch⟩
          simp [results, Try.results24, go_sem]
        | true =>
          cases r2 with
          | false =>
            have e := HE.out
            rw [if_pos rfl, if_neg (by decide)] at e
            simp only [Prod.mk.injEq] at e
            obtain ⟨rfl, rfl, rfl⟩ := e
            clear HE
            go_wp2_with (first
              | (go_at_call 28; refine (CR.out _).mono ?_; rintro e w3 ⟨rfl, rfl⟩)
              | (go_at_call 35; refine (CL.out _).mono ?_; rintro e w3 ⟨rfl, g3⟩))
            refine bodyPost_ret (v := .tuple #[.slice none 0 0, .int .u16 42]) ?_ rfl ⟨_, rfl, OwE.nil _ _, Lib.hid (fun e => by cases e), tb S2.out.tch g3⟩
            simp [results, Try.results24, go_sem]
          | true =>
            have e := HE.out
            rw [if_pos rfl, if_pos rfl] at e
            replace HE := Lib.hid e
            clear e
            go_upto_region 12 with (first
              | (go_at_call 28; refine (CR.out _).mono ?_; rintro e w3 ⟨rfl, rfl⟩)
              | (go_at_call 35; refine (CL.out _).mono ?_; rintro e w3 ⟨rfl, g3⟩))
            have q3 := Lib.hid (q1.out.below g3)
            have S3 := Lib.hid (S2.out.bel g3)
            clear q1 S2 g3 y0 y1 CR CL
            obtain ⟨y0, y1⟩ := q3.out.two
            dsimp only at y0 y1
            have NE := Lib.hid (ens_one w3 (s, u))
            have S4 := Lib.hid (S3.out.bel ((Below.refl _ w3).alloc (Nat.le_refl _) (.cells (En.cs (s, u)) Tae)))
            have hbs : w.heap.size ≤ (w3.alloc (.cells (En.cs (s, u)) Tae)).heap.size := S4.out.tch.size
            go_upto_region 13 with (refine wpList_app_en _ rfl _ _ rfl w.heap.size _ acc rfl S4.out.own (some ⟨w3.heap.size, 0, none⟩) 1 1 [(s, u)] rfl NE.out (fun e => by cases e) (fun ad e => by cases e; rfl) hkb hbs ?_; intro v4 w4 o4 g4)
            have S5 := Lib.hid (S4.out.app hRl o4 g4)
            have q5 := Lib.hid (show Blk w4 w1.heap.size (En.cs (s, u)) Tae from (g4.block w1.heap.size (q3.out.alloc _).lt (fun e => by have := HOB.out _ e.symm; omega)).trans (q3.out.alloc _))
            clear y0 y1 S3 S4 NE q3 HOB o4 g4
            obtain ⟨y0, y1⟩ := q5.out.two
            dsimp only at y0 y1
            have hw1 : IntKind.u64.wrap ((k : Int) + 1) = (k : Int) + 1 := by rw [IntKind.wrap_u64]; omega
            go_wp2
            go_roundw
            case rel =>
              refine ⟨k + 1, _, _, _, s, t, acc ++ [(s, u)], rfl, rfl, rfl, rfl, by go_num, by omega, hks, by rw [List.length_append, HACC.out]; rfl, Lib.hid ?_, S5.out⟩
              rw [show m - (k + 1) = d by omega, HLK.out, HS.out, ← HE.out, HS.out]
            case measure => simp [intOf]; omega
    · obtain rfl : k = m := by omega
      have e := D.out
      rw [Nat.sub_self] at e
      simp only [rdA, Prod.mk.injEq] at e
      obtain ⟨rfl, rfl, rfl⟩ := e
      have SS := Lib.hid S
      clear S S0 D HX
      go_wp2
      refine bodyPost_ret (v := .tuple #[_, .int .u16 0]) ?_ rfl ⟨_, rfl, SS.out.own, Lib.hid SS.out.rd, SS.out.tch⟩
      simp [results, Try.results24, go_sem]

theorem OwE.mono {w : World} {a b : Nat} {v : Value} {l : List En} (h : OwE w a v l) (hb : b ≤ a) : OwE w b v l := ⟨h.1, by
  rcases h.2 with e | ⟨g, cap, cur, e, hg, r⟩
  · exact .inl e
  · exact .inr ⟨g, cap, cur, e, Nat.le_trans hb hg, r⟩⟩
/-- Where what is told lies, and the reader. -/
theorem dec_start (A : Option Addr) (n cap : Nat) (l : List UInt8) (w : World) (hT : Txt w A n l) (hc1 : n ≤ cap) (hc2 : cap ≤ 9223372036854775807) (hA : ∀ ad, A = some ad → ad.spot = none ∧ ad.block < w.heap.size) :
    Blk ((w.alloc (.cells #[.int .u64 0, .slice none 0 0] Tsn)).alloc (.cells #[.slice A n cap] Trd)) w.heap.size #[.int .u64 0, .slice none 0 0] Tsn ∧ Rd ((w.alloc (.cells #[.int .u64 0, .slice none 0 0] Tsn)).alloc (.cells #[.slice A n cap] Trd)) (w.heap.size + 1) w.heap.size l ∧ Below w.heap.size w ((w.alloc (.cells #[.int .u64 0, .slice none 0 0] Tsn)).alloc (.cells #[.slice A n cap] Trd)) := by
  have k0 := (((Below.refl _ w).alloc (Nat.le_refl _) (.cells #[.int .u64 0, .slice none 0 0] Tsn)).alloc (by simp) (.cells #[.slice A n cap] Trd))
  have q := Blk.new (w.alloc (.cells #[.int .u64 0, .slice none 0 0] Tsn)) #[.slice A n cap] Trd
  rw [show (w.alloc (.cells #[.int .u64 0, .slice none 0 0] Tsn)).heap.size = w.heap.size + 1 by simp] at q
  refine ⟨(Blk.new w _ Tsn).alloc _, ⟨A, cap, by rw [hT.1]; exact q, by rw [hT.1]; exact hc1, hc2, by have := hT.below k0; rwa [hT.1], hA, Nat.le_succ _⟩, k0⟩
set_option maxHeartbeats 4000000 in
theorem decode_any (A : Option Addr) (n cap : Nat) (l : List UInt8) (w : World) (hT : Txt w A n l) (hc1 : n ≤ cap) (hc2 : cap ≤ 9223372036854775807) (hA : ∀ ad, A = some ad → ad.spot = none ∧ ad.block < w.heap.size) (hl : l.length ≤ 100000) (e c : Nat) (xs : List En) (hX : dcA l = (e, c, xs)) :
    Calls Try.prog 12 #[.slice A n cap] w fun r w' => ∃ v, r = .returned (.tuple #[.agg #[.int .u64 (c : Int), v], .int .u16 (e : Int)]) ∧ OwE w' w.heap.size v xs ∧ Below w.heap.size w w' := by
  obtain ⟨q0, r0, k0⟩ := dec_start A n cap l w hT hc1 hc2 hA
  replace q0 := Lib.hid q0
  replace r0 := Lib.hid r0
  replace k0 := Lib.hid k0
  unfold dcA at hX
  by_cases h4 : l.take 4 = mg
  · rw [if_pos h4] at hX
    by_cases h16 : 16 ≤ l.length
    · rw [if_pos h16] at hX
      generalize hv : rdA (vl ((l.drop 12).take 4)) [] (l.drop 16) [] = v at hX
      obtain ⟨E, ys, r⟩ := v
      simp only at hX
      have hm : vl ((l.drop 12).take 4) < 4294967296 := vl_lt 4 _ (by rw [List.length_take, List.length_drop]; omega)
      have hEr := rd_er (vl ((l.drop 12).take 4)) [] (l.drop 16) []
      rw [hv] at hEr
      simp only at hEr
      go_enter Try.func12, Try.ntmps12
      go_upto_region 2 with fail
      generalize (w.alloc (.cells #[.int .u64 0, .slice none 0 0] Tsn)).alloc (.cells #[.slice A n cap] Trd) = W at *
      have HD := Lib.hid (head_yes (w.heap.size + 1) w.heap.size l W r0.out h4 h16)
      have HE := Lib.hid (fun W' (g : Rd W' (w.heap.size + 1) w.heap.size (l.drop 16)) => entries_any (w.heap.size + 1) w.heap.size _ (l.drop 16) W' g hm (by rw [List.length_drop]; omega) E ys r hv)
      generalize vl ((l.drop 12).take 4) = m at *
      have hc64 : vl ((l.drop 4).take 8) < 18446744073709551616 := vl_lt 8 _ (by rw [List.length_take, List.length_drop]; omega)
      generalize vl ((l.drop 4).take 8) = ck at *
      go_upto_region 3 with (go_at_call 23; refine HD.out.mono ?_; rintro e w1 ⟨rfl, r1, t1⟩)
      go_upto_region 6 with (go_at_call 24; refine (HE.out _ r1).mono ?_; rintro e w2 ⟨v, rfl, o2, r2, t2⟩)
      have q2 := Lib.hid (t2.blk (t1.blk q0.out (fun e => by omega)) (fun e => by omega))
      have k2 := Lib.hid ((((Tch.of k0.out).trans t1).trans t2).below (Nat.le_refl _) (fun k e => by omega))
      have O2 := Lib.hid (o2.mono (b := w.heap.size + 1) (Nat.le_trans (Nat.le_of_lt r0.out.lt.2) t1.size))
      have x0 := q2.out.cell 0
      have x1 := q2.out.cell 1
      have f0 := q2.out.fz 0
      have f1 := q2.out.fz 1
      simp at x0 x1
      clear t1 t2 q0 k0 r0 HD HE r1 o2
      by_cases h0 : E = 0
      · subst h0
        rw [if_pos rfl] at hX
        have R2 := r2.out rfl
        obtain ⟨A2, cap2, b2, _, _, _, _⟩ := R2
        have d0 := b2.cell 0
        simp at d0
        by_cases hr : r = []
        · subst hr
          rw [if_pos rfl] at hX
          simp only [Prod.mk.injEq] at hX
          obtain ⟨rfl, rfl, rfl⟩ := hX
          obtain ⟨Av, cv, rfl, _, _, _, _⟩ := O2.out.form
          simp only [List.length_nil] at d0
          clear r2 b2 hEr hv
          have HB := Lib.hid hc2
          go_wp2
          have z := (q2.out.set 0 (.int .u64 (ck : Int))).set 1 (.slice Av ys.length cv)
          have y0 := z.cell 0
          have y1 := z.cell 1
          simp at y0 y1
          refine bodyPost_ret (v := .tuple #[.agg #[.int .u64 (ck : Int), .slice Av ys.length cv], .int .u16 0]) ?_ rfl ⟨_, rfl, ?_, (k2.out.setCell (p := ⟨w.heap.size, 0, none⟩) (Nat.le_refl _) _).setCell (p := ⟨w.heap.size, 1, none⟩) (Nat.le_refl _) _⟩
          · simp [results, Try.f12, go_sem, y0, y1]
          · refine OwE.mono (a := w.heap.size + 1) (own_tch O2.out (tset (tset (Tch.refl (fun b => b = w.heap.size) _) (.inl rfl)) (.inl rfl)) (fun k hk _ e => by omega)) (Nat.le_succ _)
        · rw [if_neg hr] at hX
          simp only [Prod.mk.injEq] at hX
          obtain ⟨rfl, rfl, rfl⟩ := hX
          have hpos : 0 < r.length := List.length_pos_iff.2 hr
          have hposI : (0 : Int) < (r.length : Int) := by omega
          clear r2 b2 hEr hv hr
          go_wp2
          have z := (q2.out.set 0 (.int .u64 0)).set 1 (.slice none 0 0)
          have y0 := z.cell 0
          have y1 := z.cell 1
          simp at y0 y1
          refine bodyPost_ret (v := .tuple #[.agg #[.int .u64 0, .slice none 0 0], .int .u16 43]) ?_ rfl ⟨_, rfl, OwE.nil _ _, (k2.out.setCell (p := ⟨w.heap.size, 0, none⟩) (Nat.le_refl _) _).setCell (p := ⟨w.heap.size, 1, none⟩) (Nat.le_refl _) _⟩
          simp [results, Try.f12, go_sem, y0, y1]
      · rw [if_neg h0] at hX
        simp only [Prod.mk.injEq] at hX
        obtain ⟨rfl, rfl, rfl⟩ := hX
        have hne : ((E : Int) != 0) = true := by simp; omega
        clear r2 hv hEr
        go_wp2
        have z := (q2.out.set 0 (.int .u64 0)).set 1 (.slice none 0 0)
        have y0 := z.cell 0
        have y1 := z.cell 1
        simp at y0 y1
        refine bodyPost_ret (v := .tuple #[.agg #[.int .u64 0, .slice none 0 0], .int .u16 (E : Int)]) ?_ rfl ⟨_, rfl, OwE.nil _ _, (k2.out.setCell (p := ⟨w.heap.size, 0, none⟩) (Nat.le_refl _) _).setCell (p := ⟨w.heap.size, 1, none⟩) (Nat.le_refl _) _⟩
        simp [results, Try.f12, go_sem, y0, y1]
    · rw [if_neg h16] at hX
      simp only [Prod.mk.injEq] at hX
      obtain ⟨rfl, rfl, rfl⟩ := hX
      go_enter Try.func12, Try.ntmps12
      go_upto_region 2 with fail
      generalize (w.alloc (.cells #[.int .u64 0, .slice none 0 0] Tsn)).alloc (.cells #[.slice A n cap] Trd) = W at *
      have HD := Lib.hid (head_short (w.heap.size + 1) w.heap.size l W r0.out h4 (by omega))
      go_upto_region 3 with (go_at_call 23; refine HD.out.mono ?_; rintro e w1 ⟨rfl, t1⟩)
      have q1 := Lib.hid (t1.blk q0.out (fun e => by omega))
      have k1 := Lib.hid (((Tch.of k0.out).trans t1).below (Nat.le_refl _) (fun k e => by omega))
      have x0 := q1.out.cell 0
      have x1 := q1.out.cell 1
      have f0 := q1.out.fz 0
      have f1 := q1.out.fz 1
      simp at x0 x1
      clear t1 q0 k0 r0 HD
      go_wp2
      have z := (q1.out.set 0 (.int .u64 0)).set 1 (.slice none 0 0)
      have y0 := z.cell 0
      have y1 := z.cell 1
      simp at y0 y1
      refine bodyPost_ret (v := .tuple #[.agg #[.int .u64 0, .slice none 0 0], .int .u16 41]) ?_ rfl ⟨_, rfl, OwE.nil _ _, (k1.out.setCell (p := ⟨w.heap.size, 0, none⟩) (Nat.le_refl _) _).setCell (p := ⟨w.heap.size, 1, none⟩) (Nat.le_refl _) _⟩
      simp [results, Try.f12, go_sem, y0, y1]
  · rw [if_neg h4] at hX
    simp only [Prod.mk.injEq] at hX
    obtain ⟨rfl, rfl, rfl⟩ := hX
    go_enter Try.func12, Try.ntmps12
    go_upto_region 2 with fail
    generalize (w.alloc (.cells #[.int .u64 0, .slice none 0 0] Tsn)).alloc (.cells #[.slice A n cap] Trd) = W at *
    have HD := Lib.hid (head_magic (w.heap.size + 1) w.heap.size l W r0.out h4)
    go_upto_region 3 with (go_at_call 23; refine HD.out.mono ?_; rintro e w1 ⟨rfl, t1⟩)
    have q1 := Lib.hid (t1.blk q0.out (fun e => by omega))
    have k1 := Lib.hid (((Tch.of k0.out).trans t1).below (Nat.le_refl _) (fun k e => by omega))
    have x0 := q1.out.cell 0
    have x1 := q1.out.cell 1
    have f0 := q1.out.fz 0
    have f1 := q1.out.fz 1
    simp at x0 x1
    clear t1 q0 k0 r0 HD
    go_wp2
    have z := (q1.out.set 0 (.int .u64 0)).set 1 (.slice none 0 0)
    have y0 := z.cell 0
    have y1 := z.cell 1
    simp at y0 y1
    refine bodyPost_ret (v := .tuple #[.agg #[.int .u64 0, .slice none 0 0], .int .u16 40]) ?_ rfl ⟨_, rfl, OwE.nil _ _, (k1.out.setCell (p := ⟨w.heap.size, 0, none⟩) (Nat.le_refl _) _).setCell (p := ⟨w.heap.size, 1, none⟩) (Nat.le_refl _) _⟩
    simp [results, Try.f12, go_sem, y0, y1]
end Go.Proofs.Ytbejkcdaefkibaa.Wd
