/- What bucket's calls answer, for any numbers of 64 bits; no conditions. -/
import Derived.Test.YtodmjnbepfkibaaNumC
namespace Go.Proofs.Ytodmjnbepfkibaa.Wd
open Go.RowKit
set_option linter.unusedVariables false

/-- How many tokens a bucket has. -/
def tkI (a b now cap : Int) : Int := if a + sbI now b ≤ cap then a + sbI now b else cap
theorem tkI_U (a b now cap : Int) (ha : U a) (hb : U b) (hn : U now) (hc : U cap) : U (tkI a b now cap) := by
  have := sbI_U now b hn hb
  unfold tkI U at *; split <;> omega
theorem tkI_le (a b now cap : Int) : tkI a b now cap ≤ cap := by
  unfold tkI; split <;> omega
/-- How full a bucket is. -/
def biI (a b now cap : Int) : Int := cap - tkI a b now cap
theorem biI_U (a b now cap : Int) (ha : U a) (hb : U b) (hn : U now) (hc : U cap) : U (biI a b now cap) := by
  have h1 := tkI_U a b now cap ha hb hn hc
  have h2 := tkI_le a b now cap
  unfold biI U at *; omega

/-- The closure keeps the cap in a cell of its own. -/
theorem btokens_any (cap : Int) (w : World) :
    Calls Try.prog 63 #[.int .u64 cap] w fun e w' => ∃ p : Nat, e = .returned (.func (Fn.func 66) #[] #[.pointer (some ⟨p, 0, none⟩)]) ∧ w'.cell? ⟨p, 0, none⟩ = some (.int .u64 cap) ∧ Kept w w' := by
  go_enter Try.func63, Try.ntmps63
  go_wp2
  go_ret
  exact ⟨w.heap.size, rfl, by simp, (Kept.refl w).alloc _ _⟩

theorem btok_any (k a b now cap : Int) (p : Nat) (w : World) (ha : U a) (hb : U b) (hn : U now) (hc : U cap) (hp : w.cell? ⟨p, 0, none⟩ = some (.int .u64 cap)) :
    Calls Try.prog 66 #[sta k a b, .int .u64 now, .pointer (some ⟨p, 0, none⟩)] w fun e w' => e = .returned (.int .u64 (tkI a b now cap)) ∧ Kept w w' := by
  have h1 := sbI_U now b hn hb
  have c1 (w : World) := num_sub now b w hn hb
  have c2 (w : World) := num_fits a (sbI now b) cap w ha h1 hc
  have hp1 (c : Array Value) (t : TypeId) : (w.alloc (.cells c t)).cell? ⟨p, 0, none⟩ = some (.int .u64 cap) := ((Kept.refl w).alloc c t).cell hp
  cases h : ftB a (sbI now b) cap
  · have e : tkI a b now cap = cap := by unfold ftB at h; unfold tkI; simp at h; split <;> omega
    rw [e]
    rw [h] at c2
    have C1 := Lib.hid c1
    have C2 := Lib.hid c2
    clear c1 c2 h e
    generalize sbI now b = x at *
    go_enter Try.func66, Try.ntmps66
    go_wp2_with (first
      | (go_at_call 34; ((with_reducible refine (C1.out _).mono ?_); rintro e w1 ⟨rfl, rfl⟩))
      | (go_at_call 31; ((with_reducible refine (C2.out _).mono ?_); rintro e w2 ⟨rfl, rfl⟩)))
    go_ret
    exact ⟨rfl, (Kept.refl w).alloc _ _⟩
  · have e : tkI a b now cap = a + sbI now b := by unfold ftB at h; unfold tkI; simp at h; split <;> omega
    rw [e]
    have us : U (a + sbI now b) := by unfold ftB at h; simp at h; unfold U at *; omega
    rw [h] at c2
    have C1 := Lib.hid c1
    have C2 := Lib.hid c2
    clear c1 c2 h e
    generalize sbI now b = x at *
    unfold U at us ha h1
    go_enter Try.func66, Try.ntmps66
    go_wp2_with (first
      | (go_at_call 34; ((with_reducible refine (C1.out _).mono ?_); rintro e w1 ⟨rfl, rfl⟩))
      | (go_at_call 31; ((with_reducible refine (C2.out _).mono ?_); rintro e w2 ⟨rfl, rfl⟩)))
    go_ret
    exact ⟨rfl, (Kept.refl w).alloc _ _⟩

theorem bof_any (now cap fill : Int) (w : World) (hc : U cap) (hf : U fill) :
    Calls Try.prog 51 #[.int .u64 now, .int .u64 cap, .int .u64 fill] w fun e w' => e = .returned (sta 2 (sbI cap fill) now) ∧ Kept w w' := by
  have C1 := Lib.hid (fun w => num_sub cap fill w hc hf)
  generalize sbI cap fill = x at *
  go_enter Try.func51, Try.ntmps51
  go_wp2_with (go_at_call 34; ((with_reducible refine (C1.out _).mono ?_); rintro e w1 ⟨rfl, rfl⟩))
  exact bodyPost_ret (v := sta 2 x now) (by simp [results, Try.results51, go_sem]) rfl ⟨rfl, (Kept.refl w).alloc _ _⟩

theorem bfill_any (k a b now cap : Int) (w : World) (ha : U a) (hb : U b) (hn : U now) (hc : U cap) :
    Calls Try.prog 52 #[sta k a b, .int .u64 now, .int .u64 cap] w fun e w' => e = .returned (.int .u64 (biI a b now cap)) ∧ Kept w w' := by
  have h1 := tkI_U a b now cap ha hb hn hc
  have h2 := tkI_le a b now cap
  have C1 := Lib.hid (fun p w => btok_any k a b now cap p w ha hb hn hc)
  unfold biI
  generalize tkI a b now cap = n at *
  unfold U at h1 hc
  go_enter Try.func52, Try.ntmps52
  go_wp2_with (first
    | (go_at_call 63; ((with_reducible refine (btokens_any _ _).mono ?_); rintro e w1 ⟨p, rfl, hp, g1⟩; obtain ⟨hc1, hf1⟩ := g1.reads))
    | (go_at_call 66; ((with_reducible refine (C1.out _ _ hp).mono ?_); rintro e w2 ⟨rfl, g2⟩)))
  go_ret
  exact ⟨rfl, (((Kept.refl w).alloc _ _).trans g1).trans g2⟩

/-- What is decided: whether it comes in, and what is kept. -/
def bdB (a b now cap v : Int) : Bool := decide (v ≤ tkI a b now cap)

theorem bdecide_no (k a b now cap v : Int) (w : World) (ha : U a) (hb : U b) (hn : U now) (hc : U cap) (hv : U v) (h : bdB a b now cap v = false) :
    Calls Try.prog 53 #[sta k a b, .int .u64 now, .int .u64 cap, .int .u64 v] w fun e w' => e = .returned (.tuple #[sta k a b, .bool false]) ∧ Kept w w' := by
  have C1 := Lib.hid (fun p w => btok_any k a b now cap p w ha hb hn hc)
  have hlt : tkI a b now cap < v := by unfold bdB at h; simp at h; omega
  clear h
  generalize tkI a b now cap = n at *
  go_enter Try.func53, Try.ntmps53
  go_wp2_with (first
    | (go_at_call 63; ((with_reducible refine (btokens_any _ _).mono ?_); rintro e w1 ⟨p, rfl, hp, g1⟩; obtain ⟨hc1, hf1⟩ := g1.reads; have hz1 : w.heap.size < w1.heap.size ∧ w.heap.size + 1 < w1.heap.size := by (have := g1.size; simp at this; omega)))
    | (go_at_call 66; ((with_reducible refine (C1.out _ _ hp).mono ?_); rintro e w2 ⟨rfl, g2⟩; obtain ⟨hc2, hf2⟩ := g2.reads)))
  exact bodyPost_ret (v := .tuple #[sta k a b, .bool false]) (by simp [results, Try.results53, go_sem, hc1, hc2, hz1]) rfl
    ⟨rfl, (((((((Kept.refl w).alloc _ _).alloc _ _).trans g1).trans g2).setCell (by simp) _).setCell (by simp) _).setCell (by simp) _⟩

theorem bdecide_yes (k a b now cap v : Int) (w : World) (ha : U a) (hb : U b) (hn : U now) (hc : U cap) (hv : U v) (h : bdB a b now cap v = true) :
    Calls Try.prog 53 #[sta k a b, .int .u64 now, .int .u64 cap, .int .u64 v] w fun e w' => e = .returned (.tuple #[sta 2 (tkI a b now cap - v) now, .bool true]) ∧ Kept w w' := by
  have C1 := Lib.hid (fun p w => btok_any k a b now cap p w ha hb hn hc)
  have hle : v ≤ tkI a b now cap := by unfold bdB at h; simp at h; omega
  have h1 := tkI_U a b now cap ha hb hn hc
  clear h
  generalize tkI a b now cap = n at *
  unfold U at hv h1
  go_enter Try.func53, Try.ntmps53
  go_wp2_with (first
    | (go_at_call 63; ((with_reducible refine (btokens_any _ _).mono ?_); rintro e w1 ⟨p, rfl, hp, g1⟩; obtain ⟨hc1, hf1⟩ := g1.reads; have hz1 : w.heap.size < w1.heap.size ∧ w.heap.size + 1 < w1.heap.size := by (have := g1.size; simp at this; omega)))
    | (go_at_call 66; ((with_reducible refine (C1.out _ _ hp).mono ?_); rintro e w2 ⟨rfl, g2⟩; obtain ⟨hc2, hf2⟩ := g2.reads)))
  exact bodyPost_ret (v := .tuple #[sta 2 (n - v) now, .bool true]) (by simp [results, Try.results53, go_sem, hc1, hc2, hz1]) rfl
    ⟨rfl, (((((((Kept.refl w).alloc _ _).alloc _ _).trans g1).trans g2).setCell (by simp) _).setCell (by simp) _).setCell (by simp) _⟩

def bdK (k a b now cap v : Int) : Int := if bdB a b now cap v = true then 2 else k
def bdA (a b now cap v : Int) : Int := if bdB a b now cap v = true then tkI a b now cap - v else a
def bdT (a b now cap v : Int) : Int := if bdB a b now cap v = true then now else b
theorem bdecide_any (k a b now cap v : Int) (w : World) (ha : U a) (hb : U b) (hn : U now) (hc : U cap) (hv : U v) :
    Calls Try.prog 53 #[sta k a b, .int .u64 now, .int .u64 cap, .int .u64 v] w fun e w' => e = .returned (.tuple #[sta (bdK k a b now cap v) (bdA a b now cap v) (bdT a b now cap v), .bool (bdB a b now cap v)]) ∧ Kept w w' := by
  unfold bdK bdA bdT
  cases h : bdB a b now cap v
  · exact bdecide_no k a b now cap v w ha hb hn hc hv h
  · exact bdecide_yes k a b now cap v w ha hb hn hc hv h
end Go.Proofs.Ytodmjnbepfkibaa.Wd
