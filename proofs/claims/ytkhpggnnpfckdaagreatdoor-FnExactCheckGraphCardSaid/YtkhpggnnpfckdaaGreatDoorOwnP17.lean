import Derived.Test.YtkhpggnnpfckdaaGreatDoorOwnP16
import Derived.Test.YtkhpggnnpfckdaaGreatDoorOwnP9
import Derived.Test.YtkhpggnnpfckdaaGreatDoorOwnP10
import Derived.Test.YtkhpggnnpfckdaaGreatDoorOwnP3
import Derived.Deep.RegionHeld3
namespace Go.Proofs.YtkhpggnnpfckdaaGreatDoor
open Go.RowKit

/-- A slice of ints. -/
def Ints (w : World) (a : Option Addr) (b off n : Nat) (X : Nat → Int) : Prop := ∀ j, j < n → a = some ⟨b, off, none⟩ ∧ w.cell? ⟨b, off + j, none⟩ = some (.int .i64 (X j))

section
variable {w w' : World} {a : Option Addr} {b off n c : Nat} {X : Nat → Int}
theorem Ints.lt (h : Ints w a b off n X) (hn : 0 < n) : b < w.heap.size := World.block_lt_of_cell? _ _ (h 0 hn).2
theorem Ints.keep (h : Ints w a b off n X) (s : w.Since w.heap.size w') : Ints w' a b off n X := fun j hj =>
  ⟨(h j hj).1, (s.cell (a := ⟨b, off + j, none⟩) (World.block_lt_of_cell? _ _ (h j hj).2)).trans (h j hj).2⟩
theorem Ints.frame {S : Nat → Prop} (h : Ints w a b off n X) (F : Fra w w' S) (hS : 0 < n → ¬ S b) : Ints w' a b off n X := fun j hj =>
  ⟨(h j hj).1, (F.cell (a := ⟨b, off + j, none⟩) (hS (by omega))).trans (h j hj).2⟩
end

set_option maxHeartbeats 1600000 in
set_option maxRecDepth 100000 in
/-- eqIntS at two lists of the same numbers. -/
theorem eqIntS_true (a a' : Option Addr) (b off cap b' off' cap' n : Nat) (X : Nat → Int) (w : World) (hn : n ≤ 1048576) (H : Ints w a b off n X) (H' : Ints w a' b' off' n X) :
    Calls Tryz.prog 21 #[.slice a n cap, .slice a' n cap'] w fun e w' => e = .returned (.bool true) ∧ w.Since w.heap.size w' := by
  go_enter Tryz.func21, Tryz.ntmps21
  go_wp2
  go_loopw [5] (fun i wr => ∃ k : Nat, k ≤ n ∧ i = .int .i64 k ∧ w.Since w.heap.size wr) (fun i _ => n - (intOf i).toNat)
  case atStart => exact ⟨0, Nat.zero_le _, rfl, World.Since.refl _ _⟩
  case round =>
    obtain ⟨k, hk, rfl, s⟩ := hrel
    by_cases hlt : k < n
    · obtain ⟨rfl, g0⟩ := (H.keep s) k hlt
      obtain ⟨rfl, g0'⟩ := (H'.keep s) k hlt
      have hz : (k : Int) < (n : Int) := by omega
      go_wp2
      go_region
      go_wp2
      go_roundw
      case rel => exact ⟨k + 1, by omega, by go_num, s.drew⟩
      case measure => simp [intOf]; omega
    · go_wp2
      go_ret
      exact ⟨rfl, s⟩

set_option maxHeartbeats 1600000 in
set_option maxRecDepth 100000 in
/-- markIntS writes k0, k0 + 1, .. -/
theorem markIntS_any (a : Option Addr) (b n cap : Nat) (X : Nat → Int) (w : World) (k0 : Nat) (hn : n ≤ 1048576) (hk : k0 ≤ 1048576) (H : Ints w a b 0 n X) (hf : 0 < n → ∀ o, w.frozen? ⟨b, o, none⟩ = false) :
    Calls Tryz.prog 24 #[.slice a n cap, .int .i64 k0] w fun e w' => e = .returned (.int .i64 ((k0 + n : Nat) : Int)) ∧ Ints w' a b 0 n (fun j => ((k0 + j : Nat) : Int)) ∧ Fra w w' (fun k => 0 < n ∧ k = b) := by
  go_enter Tryz.func24, Tryz.ntmps24
  go_wp2
  go_loopw [1, 5] (fun q i wr => ∃ k : Nat, k ≤ n ∧ i = .int .i64 k ∧ q = .int .i64 ((k0 + k : Nat) : Int) ∧ Fra w wr (fun k => 0 < n ∧ k = b) ∧ (∀ j, j < k → wr.cell? ⟨b, j, none⟩ = some (.int .i64 ((k0 + j : Nat) : Int))) ∧ ∀ j, k ≤ j → j < n → wr.cell? ⟨b, j, none⟩ = some (.int .i64 (X j))) (fun _ i _ => n - (intOf i).toNat)
  case atStart => exact ⟨0, Nat.zero_le _, rfl, rfl, Fra.refl _ _, fun j hj => absurd hj (by omega), fun j _ hj => by have := (H j hj).2; simpa using this⟩
  case round =>
    obtain ⟨k, hk, rfl, rfl, F, h1, h2⟩ := hrel
    by_cases hlt : k < n
    · obtain ⟨rfl, -⟩ := H k hlt
      have g0 := h2 k (Nat.le_refl _) hlt
      have f0 : wr.frozen? ⟨b, k, none⟩ = false := by rw [F.frozen]; exact hf (by omega) _
      have hz : (k : Int) < (n : Int) := by omega
      go_wp2
      go_roundw
      case rel =>
        go_light
        have M : Marked wr (wr.setCell ⟨b, k, none⟩ (.int .i64 ((k0 + k : Nat) : Int))) b := (Marked.refl wr b).setCell _ _
        refine ⟨k + 1, by omega, by go_num, by go_num, F.trans (M.fr.mono (fun x hx => ⟨by omega, hx⟩)), fun j hj => ?_, fun j hj hj' => ?_⟩
        · by_cases e : j = k
          · subst e; exact World.cell?_setCell_same _ _ _ g0
          · rw [cell_else _ _ e]; exact h1 j (by omega)
        · rw [cell_else _ _ (by omega)]; exact h2 j (by omega) hj'
      case measure => simp [intOf]; omega
    · have e : k = n := by omega
      subst e
      go_wp2
      go_ret
      exact ⟨rfl, fun j hj => ⟨(H j hj).1, by rw [Nat.zero_add]; exact h1 j hj⟩, F⟩

set_option maxHeartbeats 1600000 in
set_option maxRecDepth 100000 in
/-- heldIntS at marks. -/
theorem heldIntS_any (a : Option Addr) (b n cap : Nat) (w : World) (k0 : Nat) (hn : n ≤ 1048576) (hk : k0 ≤ 1048576) (H : Ints w a b 0 n (fun j => ((k0 + j : Nat) : Int))) :
    Calls Tryz.prog 25 #[.slice a n cap, .int .i64 k0] w fun e w' => e = .returned (.int .i64 ((k0 + n : Nat) : Int)) ∧ w.Since w.heap.size w' := by
  go_enter Tryz.func25, Tryz.ntmps25
  go_wp2
  go_loopw [1, 5] (fun q i wr => ∃ k : Nat, k ≤ n ∧ i = .int .i64 k ∧ q = .int .i64 ((k0 + k : Nat) : Int) ∧ w.Since w.heap.size wr) (fun _ i _ => n - (intOf i).toNat)
  case atStart => exact ⟨0, Nat.zero_le _, rfl, rfl, World.Since.refl _ _⟩
  case round =>
    obtain ⟨k, hk, rfl, rfl, s⟩ := hrel
    by_cases hlt : k < n
    · obtain ⟨rfl, g0⟩ := (H.keep s) k hlt
      rw [Nat.zero_add] at g0
      have hz : (k : Int) < (n : Int) := by omega
      go_wp2
      go_roundw
      case rel => exact ⟨k + 1, by omega, by go_num, by go_num, s⟩
      case measure => simp [intOf]; omega
    · have e : k = n := by omega
      subst e
      go_wp2
      go_ret
      exact ⟨rfl, s⟩

end Go.Proofs.YtkhpggnnpfckdaaGreatDoor

namespace Go.Proofs.YtkhpggnnpfckdaaGreatDoor
open Go.RowKit

/-- A bool comes back, true just if p. -/
def BoolRet (e : Ending) (p : Prop) : Prop := ∃ r : Bool, e = .returned (.bool r) ∧ (r = true ↔ p)

set_option maxHeartbeats 1600000 in
set_option maxRecDepth 100000 in
theorem sizeFits_any (z : Int) (u : Bool) (w : World) : Calls Tryz.prog 126 #[.int .i64 z, .bool u] w fun e w' => BoolRet e (SzOk z u) ∧ w.Since w.heap.size w' := by
  cases u
  · go_enter Tryz.func126, Tryz.ntmps126
    go_wp2
    go_ret
    exact ⟨⟨z == 0, rfl, by simp [SzOk]⟩, World.Since.refl _ _⟩
  · by_cases h : 1 ≤ z
    · by_cases h2 : z ≤ 1000
      · go_enter Tryz.func126, Tryz.ntmps126
        go_wp2
        go_ret
        exact ⟨⟨true, rfl, by simp [SzOk, h, h2]⟩, World.Since.refl _ _⟩
      · go_enter Tryz.func126, Tryz.ntmps126
        go_wp2
        go_ret
        exact ⟨⟨false, rfl, by unfold SzOk; simp; omega⟩, World.Since.refl _ _⟩
    · go_enter Tryz.func126, Tryz.ntmps126
      go_wp2
      go_ret
      exact ⟨⟨false, rfl, by unfold SzOk; simp; omega⟩, World.Since.refl _ _⟩

set_option maxHeartbeats 3200000 in
set_option maxRecDepth 100000 in
theorem fits_any (op : Int) (ub uk us : Bool) (nums : Int) (d : NodeD) (a1 : Option Addr) (lo k1 : Nat) (w : World) (hw : 0 < w.heap.size) (hT : Tab w) (hd : d.size ≤ 1048576) (H : NodL w lo d a1 k1) :
    Calls Tryz.prog 94 #[.agg #[.int .i64 op, .bool ub, .bool uk, .bool us, .int .i64 nums], .agg #[.int .i64 d.op, .int .i64 d.a, .int .i64 d.b, .int .i64 d.k, .int .i64 d.s, .slice a1 d.nv k1]] w fun e w' => BoolRet e (FitsP d ub uk us nums) ∧ w.Since w.heap.size w' := by
  have ts := hd
  unfold NodeD.size at ts
  obtain ⟨wA, eA⟩ : ∃ wA : World, wA = (w.alloc (.cells #[.int .i64 op, .bool ub, .bool uk, .bool us, .int .i64 nums] 142)).alloc (.cells #[.int .i64 d.op, .int .i64 d.a, .int .i64 d.b, .int .i64 d.k, .int .i64 d.s, .slice a1 d.nv k1] 84) := ⟨_, rfl⟩
  have sA : w.Since w.heap.size wA := by rw [eA]; exact ((World.Since.refl _ _).alloc (Nat.le_refl _) _).alloc (by simp) _
  have fA : Box5 wA w.heap.size (.int .i64 op) (.bool ub) (.bool uk) (.bool us) (.int .i64 nums) := by rw [eA]; exact (Box5.new w _ _ _ _ _ _).keep ((World.Since.refl _ _).alloc (Nat.le_refl _) _)
  have nA : Box6 wA (w.heap.size + 1) (.int .i64 d.op) (.int .i64 d.a) (.int .i64 d.b) (.int .i64 d.k) (.int .i64 d.s) (.slice a1 d.nv k1) := by
    rw [eA]
    have := Box6.new (w.alloc (.cells #[.int .i64 op, .bool ub, .bool uk, .bool us, .int .i64 nums] 142)) (.int .i64 d.op) (.int .i64 d.a) (.int .i64 d.b) (.int .i64 d.k) (.int .i64 d.s) (.slice a1 d.nv k1) 84
    simpa using this
  have EA := hide eA
  clear eA
  by_cases hx : ub = false ∧ d.b ≠ 0
  · obtain ⟨rfl, hb⟩ := hx
    go_enter Tryz.func94, Tryz.ntmps94
    go_wp2
    go_ret
    exact ⟨⟨false, rfl, by simp [FitsP, hb]⟩, by rw [← EA.out]; exact sA⟩
  have hU : ub = true ∨ (ub = false ∧ d.b = 0) := by
    cases ub
    · exact .inr ⟨rfl, by simpa using hx⟩
    · exact .inl rfl
  have hu : ub = false → d.b = 0 := by
    intro h
    rcases hU with e | e
    · rw [h] at e; cases e
    · exact e.2
  clear hx
  have HU := hide hu
  clear hu
  rcases hU with rfl | ⟨rfl, hb⟩
  · go_enter Tryz.func94, Tryz.ntmps94
    go_wp2_with fail
    rw [← EA.out]
    refine (sizeFits_any d.k uk wA).mono ?_
    rintro e w1 ⟨⟨r1, rfl, h1⟩, s1⟩
    have F1 := fA.keep s1
    have N1 := nA.keep s1
    have q3 := F1.c3
    have q4 := N1.c4
    clear EA
    cases r1
    · go_wp2
      go_ret
      exact ⟨⟨false, rfl, by simp only [Bool.false_eq_true, false_iff] at h1 ⊢; exact fun h => h1 h.2.1⟩, sA.trans (sinceMono s1 sA.size)⟩
    have Z1 := hide (h1.1 rfl)
    clear h1
    go_wp2_with fail
    refine (sizeFits_any d.s us w1).mono ?_
    rintro e w2 ⟨⟨r2, rfl, h2⟩, s2⟩
    have F2 := F1.keep s2
    have N2 := N1.keep s2
    have u2 := s1.trans (sinceMono s2 s1.size)
    have S2 := sA.trans (sinceMono u2 sA.size)
    clear q3 q4
    cases r2
    · go_wp2
      go_ret
      exact ⟨⟨false, rfl, by simp only [Bool.false_eq_true, false_iff] at h2 ⊢; exact fun h => h2 h.2.2.1⟩, S2⟩
    have Z2 := hide (h2.1 rfl)
    clear h2
    have p4 := F2.c4
    have p5 := N2.c5
    obtain ⟨bb, oo, -, LV⟩ := (H.keep S2).LV
    have J3 := allValid_any a1 lo bb oo d.nv k1 d.V w2 (Nat.lt_of_lt_of_le hw S2.size) (hT.stay hw S2) (by omega) (by omega) LV
    by_cases hn : nums = -1
    · subst hn
      go_wp2_with fail
      refine J3.mono ?_
      rintro e w3 ⟨r3, rfl, h3, s3⟩
      go_wp2
      go_ret
      exact ⟨⟨r3, rfl, h3.trans ⟨fun h => ⟨(fun h => by first | exact HU.out h | exact HU.out trivial), Z1.out, Z2.out, fun h => absurd rfl h, h⟩, fun h => h.2.2.2.2⟩⟩, S2.trans (sinceMono s3 S2.size)⟩
    by_cases hm : (d.nv : Int) = nums
    · subst hm
      go_wp2_with fail
      refine J3.mono ?_
      rintro e w3 ⟨r3, rfl, h3, s3⟩
      go_wp2
      go_ret
      exact ⟨⟨r3, rfl, h3.trans ⟨fun h => ⟨(fun h => by first | exact HU.out h | exact HU.out trivial), Z1.out, Z2.out, fun _ => rfl, h⟩, fun h => h.2.2.2.2⟩⟩, S2.trans (sinceMono s3 S2.size)⟩
    clear J3
    have n1 : (nums != -1) = true := by simp [hn]
    have n2 : ((d.nv : Int) != nums) = true := by simp [hm]
    go_wp2
    go_ret
    exact ⟨⟨false, rfl, by simp only [Bool.false_eq_true, false_iff]; exact fun h => hm (h.2.2.2.1 hn)⟩, S2⟩
  · have hb2 : (d.b != 0) = false := by simp [hb]
    clear hb
    go_enter Tryz.func94, Tryz.ntmps94
    go_wp2_with fail
    rw [← EA.out]
    refine (sizeFits_any d.k uk wA).mono ?_
    rintro e w1 ⟨⟨r1, rfl, h1⟩, s1⟩
    have F1 := fA.keep s1
    have N1 := nA.keep s1
    have q3 := F1.c3
    have q4 := N1.c4
    clear EA
    cases r1
    · go_wp2
      go_ret
      exact ⟨⟨false, rfl, by simp only [Bool.false_eq_true, false_iff] at h1 ⊢; exact fun h => h1 h.2.1⟩, sA.trans (sinceMono s1 sA.size)⟩
    have Z1 := hide (h1.1 rfl)
    clear h1
    go_wp2_with fail
    refine (sizeFits_any d.s us w1).mono ?_
    rintro e w2 ⟨⟨r2, rfl, h2⟩, s2⟩
    have F2 := F1.keep s2
    have N2 := N1.keep s2
    have u2 := s1.trans (sinceMono s2 s1.size)
    have S2 := sA.trans (sinceMono u2 sA.size)
    clear q3 q4
    cases r2
    · go_wp2
      go_ret
      exact ⟨⟨false, rfl, by simp only [Bool.false_eq_true, false_iff] at h2 ⊢; exact fun h => h2 h.2.2.1⟩, S2⟩
    have Z2 := hide (h2.1 rfl)
    clear h2
    have p4 := F2.c4
    have p5 := N2.c5
    obtain ⟨bb, oo, -, LV⟩ := (H.keep S2).LV
    have J3 := allValid_any a1 lo bb oo d.nv k1 d.V w2 (Nat.lt_of_lt_of_le hw S2.size) (hT.stay hw S2) (by omega) (by omega) LV
    by_cases hn : nums = -1
    · subst hn
      go_wp2_with fail
      refine J3.mono ?_
      rintro e w3 ⟨r3, rfl, h3, s3⟩
      go_wp2
      go_ret
      exact ⟨⟨r3, rfl, h3.trans ⟨fun h => ⟨(fun h => by first | exact HU.out h | exact HU.out trivial), Z1.out, Z2.out, fun h => absurd rfl h, h⟩, fun h => h.2.2.2.2⟩⟩, S2.trans (sinceMono s3 S2.size)⟩
    by_cases hm : (d.nv : Int) = nums
    · subst hm
      go_wp2_with fail
      refine J3.mono ?_
      rintro e w3 ⟨r3, rfl, h3, s3⟩
      go_wp2
      go_ret
      exact ⟨⟨r3, rfl, h3.trans ⟨fun h => ⟨(fun h => by first | exact HU.out h | exact HU.out trivial), Z1.out, Z2.out, fun _ => rfl, h⟩, fun h => h.2.2.2.2⟩⟩, S2.trans (sinceMono s3 S2.size)⟩
    clear J3
    have n1 : (nums != -1) = true := by simp [hn]
    have n2 : ((d.nv : Int) != nums) = true := by simp [hm]
    go_wp2
    go_ret
    exact ⟨⟨false, rfl, by simp only [Bool.false_eq_true, false_iff]; exact fun h => hm (h.2.2.2.1 hn)⟩, S2⟩

end Go.Proofs.YtkhpggnnpfckdaaGreatDoor

namespace Go.Proofs.YtkhpggnnpfckdaaGreatDoor
open Go.RowKit

def KnowsP (va vb : Int) (n : Nat) (ub : Bool) : Prop := 0 ≤ va ∧ va < n ∧ (ub = true → 0 ≤ vb ∧ vb < n)

set_option maxHeartbeats 3200000 in
set_option maxRecDepth 100000 in
theorem knows_any (op : Int) (ub uk us : Bool) (nums v0 va vb v3 v4 : Int) (a1 : Option Addr) (nv k1 n : Nat) (w : World) :
    Calls Tryz.prog 95 #[.agg #[.int .i64 op, .bool ub, .bool uk, .bool us, .int .i64 nums], .agg #[.int .i64 v0, .int .i64 va, .int .i64 vb, .int .i64 v3, .int .i64 v4, .slice a1 nv k1], .int .i64 n] w fun e w' => BoolRet e (KnowsP va vb n ub) ∧ w.Since w.heap.size w' := by
  have sA : w.Since w.heap.size ((w.alloc (.cells #[.int .i64 op, .bool ub, .bool uk, .bool us, .int .i64 nums] 142)).alloc (.cells #[.int .i64 v0, .int .i64 va, .int .i64 vb, .int .i64 v3, .int .i64 v4, .slice a1 nv k1] 84)) := ((World.Since.refl _ _).alloc (Nat.le_refl _) _).alloc (by simp) _
  by_cases h0 : va < 0
  · go_enter Tryz.func95, Tryz.ntmps95
    go_wp2
    go_ret
    exact ⟨⟨_, rfl, by unfold KnowsP; simp <;> omega⟩, sA⟩
  by_cases h1 : (n : Int) ≤ va
  · go_enter Tryz.func95, Tryz.ntmps95
    go_wp2
    go_ret
    exact ⟨⟨_, rfl, by unfold KnowsP; simp <;> omega⟩, sA⟩
  cases ub
  · go_enter Tryz.func95, Tryz.ntmps95
    go_wp2
    go_ret
    exact ⟨⟨_, rfl, by unfold KnowsP; simp <;> omega⟩, sA⟩
  · by_cases h2 : vb < 0
    · go_enter Tryz.func95, Tryz.ntmps95
      go_wp2
      go_ret
      exact ⟨⟨_, rfl, by unfold KnowsP; simp <;> omega⟩, sA⟩
    by_cases h3 : (n : Int) ≤ vb
    · go_enter Tryz.func95, Tryz.ntmps95
      go_wp2
      go_ret
      exact ⟨⟨_, rfl, by unfold KnowsP; simp <;> omega⟩, sA⟩
    go_enter Tryz.func95, Tryz.ntmps95
    go_wp2
    go_ret
    exact ⟨⟨_, rfl, by unfold KnowsP; simp <;> omega⟩, sA⟩

end Go.Proofs.YtkhpggnnpfckdaaGreatDoor

namespace Go.Proofs.YtkhpggnnpfckdaaGreatDoor
open Go.RowKit

/-- x lies from a to b. -/
def InP (x a b : Int) : Prop := a ≤ x ∧ x ≤ b

set_option maxHeartbeats 1600000 in
set_option maxRecDepth 100000 in
theorem l2In_any (x a b : Int) (w : World) : Calls Tryz.prog 46 #[.int .i64 x, .int .i64 a, .int .i64 b] w fun e w' => BoolRet e (InP x a b) ∧ w' = w := by
  by_cases h : a ≤ x
  · by_cases h2 : x ≤ b
    · go_enter Tryz.func46, Tryz.ntmps46
      go_wp2
      go_ret
      exact ⟨⟨_, rfl, by unfold InP; simp <;> omega⟩, rfl⟩
    · go_enter Tryz.func46, Tryz.ntmps46
      go_wp2
      go_ret
      exact ⟨⟨_, rfl, by unfold InP; simp <;> omega⟩, rfl⟩
  · go_enter Tryz.func46, Tryz.ntmps46
    go_wp2
    go_ret
    exact ⟨⟨_, rfl, by unfold InP; simp <;> omega⟩, rfl⟩

set_option maxHeartbeats 1600000 in
set_option maxRecDepth 100000 in
theorem l2UsesK_any (z : Int) (w : World) : Calls Tryz.prog 121 #[.int .i64 z] w fun e w' => BoolRet e (usesK z = true) ∧ w' = w := by
  by_cases h1 : z = 1
  · subst h1
    go_enter Tryz.func121, Tryz.ntmps121
    go_wp2
    go_ret
    exact ⟨⟨true, rfl, by decide⟩, rfl⟩
  by_cases h5 : z = 5
  · subst h5
    go_enter Tryz.func121, Tryz.ntmps121
    go_wp2
    go_ret
    exact ⟨⟨true, rfl, by decide⟩, rfl⟩
  go_enter Tryz.func121, Tryz.ntmps121
  go_wp2
  go_ret
  exact ⟨⟨_, rfl, by unfold usesK; simp <;> omega⟩, rfl⟩

set_option maxHeartbeats 1600000 in
set_option maxRecDepth 100000 in
theorem l2UsesS_any (z : Int) (w : World) : Calls Tryz.prog 122 #[.int .i64 z] w fun e w' => BoolRet e (usesS z = true) ∧ w' = w := by
  go_enter Tryz.func122, Tryz.ntmps122
  go_wp2
  go_ret
  exact ⟨⟨_, rfl, by unfold usesS; simp <;> omega⟩, rfl⟩

set_option maxHeartbeats 1600000 in
set_option maxRecDepth 100000 in
theorem l2UsesV_any (z : Int) (w : World) : Calls Tryz.prog 123 #[.int .i64 z] w fun e w' => BoolRet e (usesV z = true) ∧ w' = w := by
  by_cases h1 : z = 1
  · subst h1
    go_enter Tryz.func123, Tryz.ntmps123
    go_wp2
    go_ret
    exact ⟨⟨true, rfl, by decide⟩, rfl⟩
  by_cases h3 : z = 3
  · subst h3
    go_enter Tryz.func123, Tryz.ntmps123
    go_wp2
    go_ret
    exact ⟨⟨true, rfl, by decide⟩, rfl⟩
  by_cases h6 : z = 6
  · subst h6
    go_enter Tryz.func123, Tryz.ntmps123
    go_wp2
    go_ret
    exact ⟨⟨true, rfl, by decide⟩, rfl⟩
  go_enter Tryz.func123, Tryz.ntmps123
  go_wp2
  go_ret
  exact ⟨⟨_, rfl, by unfold usesV; simp <;> omega⟩, rfl⟩

set_option maxHeartbeats 1600000 in
set_option maxRecDepth 100000 in
theorem l2UsesB_any (z : Int) (w : World) : Calls Tryz.prog 83 #[.int .i64 z] w fun e w' => BoolRet e (usesB z = true) ∧ w' = w := by
  go_enter Tryz.func83, Tryz.ntmps83
  go_wp2
  go_ret
  exact ⟨⟨_, rfl, by unfold usesB; simp <;> omega⟩, rfl⟩

end Go.Proofs.YtkhpggnnpfckdaaGreatDoor

namespace Go.Proofs.YtkhpggnnpfckdaaGreatDoor
open Go.RowKit

theorem l2UsesK_eq (z : Int) (b : Bool) (w : World) (h : usesK z = b) : Calls Tryz.prog 121 #[.int .i64 z] w fun e w' => e = .returned (.bool b) ∧ w' = w := by
  refine (l2UsesK_any z w).mono ?_
  rintro e w' ⟨⟨r, rfl, hr⟩, rfl⟩
  refine ⟨?_, rfl⟩
  have : r = b := by
    cases r
    · cases b
      · rfl
      · exact absurd (hr.2 h) (by decide)
    · rw [← h]; exact (hr.1 rfl).symm
  rw [this]

theorem l2UsesS_eq (z : Int) (b : Bool) (w : World) (h : usesS z = b) : Calls Tryz.prog 122 #[.int .i64 z] w fun e w' => e = .returned (.bool b) ∧ w' = w := by
  refine (l2UsesS_any z w).mono ?_
  rintro e w' ⟨⟨r, rfl, hr⟩, rfl⟩
  refine ⟨?_, rfl⟩
  have : r = b := by
    cases r
    · cases b
      · rfl
      · exact absurd (hr.2 h) (by decide)
    · rw [← h]; exact (hr.1 rfl).symm
  rw [this]

theorem l2UsesV_eq (z : Int) (b : Bool) (w : World) (h : usesV z = b) : Calls Tryz.prog 123 #[.int .i64 z] w fun e w' => e = .returned (.bool b) ∧ w' = w := by
  refine (l2UsesV_any z w).mono ?_
  rintro e w' ⟨⟨r, rfl, hr⟩, rfl⟩
  refine ⟨?_, rfl⟩
  have : r = b := by
    cases r
    · cases b
      · rfl
      · exact absurd (hr.2 h) (by decide)
    · rw [← h]; exact (hr.1 rfl).symm
  rw [this]

theorem l2UsesB_eq (z : Int) (b : Bool) (w : World) (h : usesB z = b) : Calls Tryz.prog 83 #[.int .i64 z] w fun e w' => e = .returned (.bool b) ∧ w' = w := by
  refine (l2UsesB_any z w).mono ?_
  rintro e w' ⟨⟨r, rfl, hr⟩, rfl⟩
  refine ⟨?_, rfl⟩
  have : r = b := by
    cases r
    · cases b
      · rfl
      · exact absurd (hr.2 h) (by decide)
    · rw [← h]; exact (hr.1 rfl).symm
  rw [this]


set_option maxHeartbeats 6400000 in
set_option maxRecDepth 100000 in
theorem l2FormOk1 (v1 v2 v3 v4 : Int) (nv : Nat) (V : Nat → RatD) (a1 : Option Addr) (lo k1 : Nat) (w : World) (hd : (NodeD.mk 1 v1 v2 v3 v4 nv V).size ≤ 1048576) (H : NodL w lo (NodeD.mk 1 v1 v2 v3 v4 nv V) a1 k1) :
    Calls Tryz.prog 82 #[.agg #[.int .i64 1, .int .i64 v1, .int .i64 v2, .int .i64 v3, .int .i64 v4, .slice a1 nv k1]] w fun e w' => BoolRet e (NodeD.mk 1 v1 v2 v3 v4 nv V).Form ∧ w.Since w.heap.size w' := by
  have ts : nv + szR V nv ≤ 1048576 := hd
  have sA : w.Since w.heap.size (w.alloc (.cells #[.int .i64 1, .int .i64 v1, .int .i64 v2, .int .i64 v3, .int .i64 v4, .slice a1 nv k1] 84)) := (World.Since.refl _ _).alloc (Nat.le_refl _) _
  have nA := Box6.new w (.int .i64 1) (.int .i64 v1) (.int .i64 v2) (.int .i64 v3) (.int .i64 v4) (.slice a1 nv k1) 84
  obtain ⟨bV, oV, -, LV⟩ := (H.keep sA).LV
  go_enter Tryz.func82, Tryz.ntmps82
  go_wp2_with fail
  generalize w.alloc (.cells #[.int .i64 1, .int .i64 v1, .int .i64 v2, .int .i64 v3, .int .i64 v4, .slice a1 nv k1] 84) = wA at *
  refine (l2In_any 1 1 7 wA).mono ?_
  rintro e w1 ⟨⟨r, rfl, hr⟩, hw1⟩
  have hw2 := hw1.symm
  clear hw1
  subst hw2
  cases r
  · exfalso
    have := hr.2 (by unfold InP; omega)
    cases this
  clear hr
  have q0 := nA.c0
  have q1 := nA.c1
  have q2 := nA.c2
  have q3 := nA.c3
  have q4 := nA.c4
  have q5 := nA.c5
  have NN : wA.Since wA.heap.size wA.drew := (World.Since.refl _ _).drew
  have nD := nA.keep NN
  have p0 := nD.c0
  have p1 := nD.c1
  have p2 := nD.c2
  have p3 := nD.c3
  have p4 := nD.c4
  have p5 := nD.c5
  have SD := sA.trans (sinceMono NN sA.size)
  have JK := l2UsesK_eq 1 true wA.drew (by decide)
  have JS := l2UsesS_eq 1 false wA.drew (by decide)
  by_cases hk : v3 = 0
  · have kq : (v3 != 0) = false := by simp [hk]
    have NF := hide (show ¬ (NodeD.mk 1 v1 v2 v3 v4 nv V).Form from fun f => by have h := f.k; have h2 : 1 ≤ v3 ∧ v3 ≤ 1000 := h; omega)
    clear hk
    go_wp2_with fail
    refine wp_region_held_drew (S := fun w' => w'.cell? ⟨w.heap.size, 0, none⟩ = some (.int .i64 1) ∧ w'.cell? ⟨w.heap.size, 3, none⟩ = some (.int .i64 v3)) (by kernel_rfl) ⟨p0, p3⟩ (fun hHeld => ?_)
    refine take_at 0 (some 7) (.pointer (some ⟨w.heap.size, 0, none⟩)) rfl (by kernel_rfl) (by kernel_rfl) (by kernel_rfl) (by kernel_rfl) (fun _ _ _ h => h) (by kernel_rfl) (by assumption) ?_ ?_
    · intro w' hSw
      clear hSw
      kernel_rfl
    simp only [Act.put, List.setIfInBounds_toArray, List.set_cons_zero, List.set_cons_succ]
    refine take_at 1 (some 8) (.int .i64 1) rfl (by kernel_rfl) (by kernel_rfl) (by kernel_rfl) (by kernel_rfl) (fun _ _ _ h => h) (by kernel_rfl) (by assumption) ?_ ?_
    · intro w' hSw
      try dsimp only at hSw
      go_simp
    simp only [Act.put, List.setIfInBounds_toArray, List.set_cons_zero, List.set_cons_succ]
    refine take_at 3 (some 10) (.pointer (some ⟨w.heap.size, 3, none⟩)) rfl (by kernel_rfl) (by kernel_rfl) (by kernel_rfl) (by kernel_rfl) (fun _ _ _ h => h) (by kernel_rfl) (by assumption) ?_ ?_
    · intro w' hSw
      clear hSw
      kernel_rfl
    simp only [Act.put, List.setIfInBounds_toArray, List.set_cons_zero, List.set_cons_succ]
    refine take_at 4 (some 11) (.int .i64 v3) rfl (by kernel_rfl) (by kernel_rfl) (by kernel_rfl) (by kernel_rfl) (fun _ _ _ h => h) (by kernel_rfl) (by assumption) ?_ ?_
    · intro w' hSw
      try dsimp only at hSw
      go_simp
    simp only [Act.put, List.setIfInBounds_toArray, List.set_cons_zero, List.set_cons_succ]
    refine take_at 5 (some 12) (.bool false) rfl (by kernel_rfl) (by kernel_rfl) (by kernel_rfl) (by kernel_rfl) (fun _ _ _ h => h) (by kernel_rfl) (by assumption) ?_ ?_
    · intro w' hSw
      try dsimp only at hSw
      go_simp
    simp only [Act.put, List.setIfInBounds_toArray, List.set_cons_zero, List.set_cons_succ]
    refine wpAnyH_ready (rs := [2]) (by kernel_rfl) (by simp) ?_
    refine AllReadyH.cons rfl (fun K hK => ?_) AllReadyH.nil
    go_simp
    go_wp2_with (go_at_call 121; with_reducible refine JK.mono ?_; rintro e w2 ⟨rfl, rfl⟩)
    refine hK.out _ _ ⟨p0, p3⟩ (fun h1 => ?_)
    clear hK K hHeld
    refine take_at 6 (some 13) (.bool true) rfl (by kernel_rfl) (by kernel_rfl) (by kernel_rfl) (by kernel_rfl) (fun _ _ _ h => h) (by kernel_rfl) (by assumption) ?_ ?_
    · intro w' hSw
      clear hSw
      kernel_rfl
    simp only [Act.put, List.setIfInBounds_toArray, List.set_cons_zero, List.set_cons_succ]
    refine take_at 7 (some 14) (.bool true) rfl (by kernel_rfl) (by kernel_rfl) (by kernel_rfl) (by kernel_rfl) (fun _ _ _ h => h) (by kernel_rfl) (by assumption) ?_ ?_
    · intro w' hSw
      clear hSw
      kernel_rfl
    simp only [Act.put, List.setIfInBounds_toArray, List.set_cons_zero, List.set_cons_succ]
    refine skip_at 8 (some 15) rfl (by kernel_rfl) (by kernel_rfl) (by kernel_rfl) (by kernel_rfl) (fun _ _ _ h => h) (by kernel_rfl) (by assumption) ?_
    simp only [Act.put, List.setIfInBounds_toArray, List.set_cons_zero, List.set_cons_succ]
    refine skip_at 9 (some 16) rfl (by kernel_rfl) (by kernel_rfl) (by kernel_rfl) (by kernel_rfl) (fun _ _ _ h => h) (by kernel_rfl) (by assumption) ?_
    simp only [Act.put, List.setIfInBounds_toArray, List.set_cons_zero, List.set_cons_succ]
    refine skip_at 10 (some 17) rfl (by kernel_rfl) (by kernel_rfl) (by kernel_rfl) (by kernel_rfl) (fun _ _ _ h => h) (by kernel_rfl) (by assumption) ?_
    simp only [Act.put, List.setIfInBounds_toArray, List.set_cons_zero, List.set_cons_succ]
    refine skip_at 11 (some 18) rfl (by kernel_rfl) (by kernel_rfl) (by kernel_rfl) (by kernel_rfl) (fun _ _ _ h => h) (by kernel_rfl) (by assumption) ?_
    simp only [Act.put, List.setIfInBounds_toArray, List.set_cons_zero, List.set_cons_succ]
    refine skip_at 12 (some 19) rfl (by kernel_rfl) (by kernel_rfl) (by kernel_rfl) (by kernel_rfl) (fun _ _ _ h => h) (by kernel_rfl) (by assumption) ?_
    simp only [Act.put, List.setIfInBounds_toArray, List.set_cons_zero, List.set_cons_succ]
    refine skip_at 13 (some 20) rfl (by kernel_rfl) (by kernel_rfl) (by kernel_rfl) (by kernel_rfl) (fun _ _ _ h => h) (by kernel_rfl) (by assumption) ?_
    simp only [Act.put, List.setIfInBounds_toArray, List.set_cons_zero, List.set_cons_succ]
    refine skip_at 14 (some 21) rfl (by kernel_rfl) (by kernel_rfl) (by kernel_rfl) (by kernel_rfl) (fun _ _ _ h => h) (by kernel_rfl) (by assumption) ?_
    simp only [Act.put, List.setIfInBounds_toArray, List.set_cons_zero, List.set_cons_succ]
    refine take_at 15 (some 22) (.bool true) rfl (by kernel_rfl) (by kernel_rfl) (by kernel_rfl) (by kernel_rfl) (fun _ _ _ h => h) (by kernel_rfl) (by assumption) ?_ ?_
    · intro w' hSw
      clear hSw
      kernel_rfl
    simp only [Act.put, List.setIfInBounds_toArray, List.set_cons_zero, List.set_cons_succ]
    refine wpAnyH_done (by kernel_rfl) ?_ _
    go_wp2
    go_ret
    exact ⟨⟨false, rfl, by simp only [Bool.false_eq_true, false_iff]; exact NF.out⟩, SD⟩
  have kq : (v3 != 0) = true := by simp [hk]
  have HK0 := hide hk
  clear hk
  by_cases hs : v4 = 0
  case neg =>
    have sq : (v4 != 0) = true := by simp [hs]
    have NF := hide (show ¬ (NodeD.mk 1 v1 v2 v3 v4 nv V).Form from fun f => by have h := f.s; have h2 : v4 = 0 := h; omega)
    clear hs
    go_wp2_with fail
    go_region_held3 (fun w' => w'.cell? ⟨w.heap.size, 0, none⟩ = some (.int .i64 1) ∧ w'.cell? ⟨w.heap.size, 3, none⟩ = some (.int .i64 v3) ∧ w'.cell? ⟨w.heap.size, 4, none⟩ = some (.int .i64 v4)) (go_keep)
      (first
        | (go_at_call 121
           with_reducible refine JK.mono ?_
           rintro e w2 ⟨rfl, rfl⟩)
        | (go_at_call 122
           with_reducible refine JS.mono ?_
           rintro e w2 ⟨rfl, rfl⟩))
    go_wp2
    go_ret
    exact ⟨⟨false, rfl, by simp only [Bool.false_eq_true, false_iff]; exact NF.out⟩, SD⟩
  have sq : (v4 != 0) = false := by simp [hs]
  have HS0 := hide hs
  clear hs
  go_wp2_with fail
  go_region_held3 (fun w' => w'.cell? ⟨w.heap.size, 0, none⟩ = some (.int .i64 1) ∧ w'.cell? ⟨w.heap.size, 3, none⟩ = some (.int .i64 v3) ∧ w'.cell? ⟨w.heap.size, 4, none⟩ = some (.int .i64 v4)) (go_keep)
    (first
      | (go_at_call 121
         with_reducible refine JK.mono ?_
         rintro e w2 ⟨rfl, rfl⟩)
      | (go_at_call 122
         with_reducible refine JS.mono ?_
         rintro e w2 ⟨rfl, rfl⟩))
  clear q0 q1 q2 q3 q4 q5 JK JS
  go_wp2_with fail
  refine (l2In_any v3 0 1000 wA.drew).mono ?_
  rintro e w2 ⟨⟨r, rfl, hr⟩, rfl⟩
  cases r
  · have NF := hide (show ¬ (NodeD.mk 1 v1 v2 v3 v4 nv V).Form from fun f => by
      have h := f.k
      have h3 : InP v3 0 1000 := by unfold InP; have h2 : 1 ≤ v3 ∧ v3 ≤ 1000 := h; omega
      have := hr.2 h3
      cases this)
    clear hr
    go_wp2
    go_ret
    exact ⟨⟨false, rfl, by simp only [Bool.false_eq_true, false_iff]; exact NF.out⟩, SD⟩
  have IK := hide (hr.1 rfl)
  clear hr
  go_wp2_with fail
  refine (l2In_any v4 0 1000 wA.drew).mono ?_
  rintro e w2 ⟨⟨r, rfl, hr⟩, rfl⟩
  cases r
  · have NF := hide (show ¬ (NodeD.mk 1 v1 v2 v3 v4 nv V).Form from fun f => by
      have h := f.s
      have h3 : InP v4 0 1000 := by unfold InP; have h2 : v4 = 0 := h; omega
      have := hr.2 h3
      cases this)
    clear hr
    go_wp2
    go_ret
    exact ⟨⟨false, rfl, by simp only [Bool.false_eq_true, false_iff]; exact NF.out⟩, SD⟩
  have IS := hide (hr.1 rfl)
  clear hr
  have JB := l2UsesB_eq 1 false wA.drew (by decide)
  go_wp2_with fail
  refine JB.mono ?_
  rintro e w2 ⟨rfl, rfl⟩
  clear JB
  by_cases hb : v2 = 0
  case neg =>
    have bq : (v2 != 0) = true := by simp [hb]
    have NF := hide (show ¬ (NodeD.mk 1 v1 v2 v3 v4 nv V).Form from fun f => hb (f.b rfl))
    clear hb
    go_wp2
    go_ret
    exact ⟨⟨false, rfl, by simp only [Bool.false_eq_true, false_iff]; exact NF.out⟩, SD⟩
  have bq : (v2 != 0) = false := by simp [hb]
  have HB0 := hide hb
  clear hb
  have JV := l2UsesV_eq 1 true wA.drew (by decide)
  go_wp2_with fail
  refine JV.mono ?_
  rintro e w2 ⟨rfl, rfl⟩
  clear JV
  have JA := l1AllOk_any a1 lo bV oV nv k1 V wA.drew (by omega) (by omega) (LV.keep NN)
  go_wp2_with fail
  refine JA.mono ?_
  rintro e w3 ⟨r, rfl, hr, s3⟩
  have HR := hide hr
  clear hr
  go_wp2
  go_ret
  exact ⟨⟨r, rfl, HR.out.trans ⟨fun h => ⟨(show (1 : Int) ≤ 1 by decide), (show (1 : Int) ≤ 7 by decide), (show 1 ≤ v3 ∧ v3 ≤ 1000 by have h : 0 ≤ v3 ∧ v3 ≤ 1000 := IK.out; have := HK0.out; omega), HS0.out, fun _ => HB0.out, fun h => (by cases h), fun h => (by cases h), fun h => (by cases h), h⟩, fun f => f.ok⟩⟩, SD.trans (sinceMono s3 SD.size)⟩

end Go.Proofs.YtkhpggnnpfckdaaGreatDoor

namespace Go.Proofs.YtkhpggnnpfckdaaGreatDoor
open Go.RowKit

set_option maxHeartbeats 6400000 in
set_option maxRecDepth 100000 in
theorem l2FormOk2 (v1 v2 v3 v4 : Int) (nv : Nat) (V : Nat → RatD) (a1 : Option Addr) (lo k1 : Nat) (w : World) (hd : (NodeD.mk 2 v1 v2 v3 v4 nv V).size ≤ 1048576) (H : NodL w lo (NodeD.mk 2 v1 v2 v3 v4 nv V) a1 k1) :
    Calls Tryz.prog 82 #[.agg #[.int .i64 2, .int .i64 v1, .int .i64 v2, .int .i64 v3, .int .i64 v4, .slice a1 nv k1]] w fun e w' => BoolRet e (NodeD.mk 2 v1 v2 v3 v4 nv V).Form ∧ w.Since w.heap.size w' := by
  have ts : nv + szR V nv ≤ 1048576 := hd
  have sA : w.Since w.heap.size (w.alloc (.cells #[.int .i64 2, .int .i64 v1, .int .i64 v2, .int .i64 v3, .int .i64 v4, .slice a1 nv k1] 84)) := (World.Since.refl _ _).alloc (Nat.le_refl _) _
  have nA := Box6.new w (.int .i64 2) (.int .i64 v1) (.int .i64 v2) (.int .i64 v3) (.int .i64 v4) (.slice a1 nv k1) 84
  obtain ⟨bV, oV, -, LV⟩ := (H.keep sA).LV
  go_enter Tryz.func82, Tryz.ntmps82
  go_wp2_with fail
  generalize w.alloc (.cells #[.int .i64 2, .int .i64 v1, .int .i64 v2, .int .i64 v3, .int .i64 v4, .slice a1 nv k1] 84) = wA at *
  refine (l2In_any 2 1 7 wA).mono ?_
  rintro e w1 ⟨⟨r, rfl, hr⟩, hw1⟩
  have hw2 := hw1.symm
  clear hw1
  subst hw2
  cases r
  · exfalso
    have := hr.2 (by unfold InP; omega)
    cases this
  clear hr
  have q0 := nA.c0
  have q1 := nA.c1
  have q2 := nA.c2
  have q3 := nA.c3
  have q4 := nA.c4
  have q5 := nA.c5
  have NN : wA.Since wA.heap.size wA.drew := (World.Since.refl _ _).drew
  have nD := nA.keep NN
  have p0 := nD.c0
  have p1 := nD.c1
  have p2 := nD.c2
  have p3 := nD.c3
  have p4 := nD.c4
  have p5 := nD.c5
  have SD := sA.trans (sinceMono NN sA.size)
  have JK := l2UsesK_eq 2 false wA.drew (by decide)
  have JS := l2UsesS_eq 2 false wA.drew (by decide)
  by_cases hk : v3 = 0
  case neg =>
    have kq : (v3 != 0) = true := by simp [hk]
    have NF := hide (show ¬ (NodeD.mk 2 v1 v2 v3 v4 nv V).Form from fun f => by have h := f.k; have h2 : v3 = 0 := h; omega)
    clear hk
    go_wp2_with fail
    refine wp_region_held_drew (S := fun w' => w'.cell? ⟨w.heap.size, 0, none⟩ = some (.int .i64 2) ∧ w'.cell? ⟨w.heap.size, 3, none⟩ = some (.int .i64 v3)) (by kernel_rfl) ⟨p0, p3⟩ (fun hHeld => ?_)
    refine take_at 0 (some 7) (.pointer (some ⟨w.heap.size, 0, none⟩)) rfl (by kernel_rfl) (by kernel_rfl) (by kernel_rfl) (by kernel_rfl) (fun _ _ _ h => h) (by kernel_rfl) (by assumption) ?_ ?_
    · intro w' hSw
      clear hSw
      kernel_rfl
    simp only [Act.put, List.setIfInBounds_toArray, List.set_cons_zero, List.set_cons_succ]
    refine take_at 1 (some 8) (.int .i64 2) rfl (by kernel_rfl) (by kernel_rfl) (by kernel_rfl) (by kernel_rfl) (fun _ _ _ h => h) (by kernel_rfl) (by assumption) ?_ ?_
    · intro w' hSw
      try dsimp only at hSw
      go_simp
    simp only [Act.put, List.setIfInBounds_toArray, List.set_cons_zero, List.set_cons_succ]
    refine take_at 3 (some 10) (.pointer (some ⟨w.heap.size, 3, none⟩)) rfl (by kernel_rfl) (by kernel_rfl) (by kernel_rfl) (by kernel_rfl) (fun _ _ _ h => h) (by kernel_rfl) (by assumption) ?_ ?_
    · intro w' hSw
      clear hSw
      kernel_rfl
    simp only [Act.put, List.setIfInBounds_toArray, List.set_cons_zero, List.set_cons_succ]
    refine take_at 4 (some 11) (.int .i64 v3) rfl (by kernel_rfl) (by kernel_rfl) (by kernel_rfl) (by kernel_rfl) (fun _ _ _ h => h) (by kernel_rfl) (by assumption) ?_ ?_
    · intro w' hSw
      try dsimp only at hSw
      go_simp
    simp only [Act.put, List.setIfInBounds_toArray, List.set_cons_zero, List.set_cons_succ]
    refine take_at 5 (some 12) (.bool true) rfl (by kernel_rfl) (by kernel_rfl) (by kernel_rfl) (by kernel_rfl) (fun _ _ _ h => h) (by kernel_rfl) (by assumption) ?_ ?_
    · intro w' hSw
      try dsimp only at hSw
      go_simp
    simp only [Act.put, List.setIfInBounds_toArray, List.set_cons_zero, List.set_cons_succ]
    refine wpAnyH_ready (rs := [2]) (by kernel_rfl) (by simp) ?_
    refine AllReadyH.cons rfl (fun K hK => ?_) AllReadyH.nil
    go_simp
    go_wp2_with (go_at_call 121; with_reducible refine JK.mono ?_; rintro e w2 ⟨rfl, rfl⟩)
    refine hK.out _ _ ⟨p0, p3⟩ (fun h1 => ?_)
    clear hK K hHeld
    refine take_at 6 (some 13) (.bool true) rfl (by kernel_rfl) (by kernel_rfl) (by kernel_rfl) (by kernel_rfl) (fun _ _ _ h => h) (by kernel_rfl) (by assumption) ?_ ?_
    · intro w' hSw
      clear hSw
      kernel_rfl
    simp only [Act.put, List.setIfInBounds_toArray, List.set_cons_zero, List.set_cons_succ]
    refine take_at 7 (some 14) (.bool true) rfl (by kernel_rfl) (by kernel_rfl) (by kernel_rfl) (by kernel_rfl) (fun _ _ _ h => h) (by kernel_rfl) (by assumption) ?_ ?_
    · intro w' hSw
      clear hSw
      kernel_rfl
    simp only [Act.put, List.setIfInBounds_toArray, List.set_cons_zero, List.set_cons_succ]
    refine skip_at 8 (some 15) rfl (by kernel_rfl) (by kernel_rfl) (by kernel_rfl) (by kernel_rfl) (fun _ _ _ h => h) (by kernel_rfl) (by assumption) ?_
    simp only [Act.put, List.setIfInBounds_toArray, List.set_cons_zero, List.set_cons_succ]
    refine skip_at 9 (some 16) rfl (by kernel_rfl) (by kernel_rfl) (by kernel_rfl) (by kernel_rfl) (fun _ _ _ h => h) (by kernel_rfl) (by assumption) ?_
    simp only [Act.put, List.setIfInBounds_toArray, List.set_cons_zero, List.set_cons_succ]
    refine skip_at 10 (some 17) rfl (by kernel_rfl) (by kernel_rfl) (by kernel_rfl) (by kernel_rfl) (fun _ _ _ h => h) (by kernel_rfl) (by assumption) ?_
    simp only [Act.put, List.setIfInBounds_toArray, List.set_cons_zero, List.set_cons_succ]
    refine skip_at 11 (some 18) rfl (by kernel_rfl) (by kernel_rfl) (by kernel_rfl) (by kernel_rfl) (fun _ _ _ h => h) (by kernel_rfl) (by assumption) ?_
    simp only [Act.put, List.setIfInBounds_toArray, List.set_cons_zero, List.set_cons_succ]
    refine skip_at 12 (some 19) rfl (by kernel_rfl) (by kernel_rfl) (by kernel_rfl) (by kernel_rfl) (fun _ _ _ h => h) (by kernel_rfl) (by assumption) ?_
    simp only [Act.put, List.setIfInBounds_toArray, List.set_cons_zero, List.set_cons_succ]
    refine skip_at 13 (some 20) rfl (by kernel_rfl) (by kernel_rfl) (by kernel_rfl) (by kernel_rfl) (fun _ _ _ h => h) (by kernel_rfl) (by assumption) ?_
    simp only [Act.put, List.setIfInBounds_toArray, List.set_cons_zero, List.set_cons_succ]
    refine skip_at 14 (some 21) rfl (by kernel_rfl) (by kernel_rfl) (by kernel_rfl) (by kernel_rfl) (fun _ _ _ h => h) (by kernel_rfl) (by assumption) ?_
    simp only [Act.put, List.setIfInBounds_toArray, List.set_cons_zero, List.set_cons_succ]
    refine take_at 15 (some 22) (.bool true) rfl (by kernel_rfl) (by kernel_rfl) (by kernel_rfl) (by kernel_rfl) (fun _ _ _ h => h) (by kernel_rfl) (by assumption) ?_ ?_
    · intro w' hSw
      clear hSw
      kernel_rfl
    simp only [Act.put, List.setIfInBounds_toArray, List.set_cons_zero, List.set_cons_succ]
    refine wpAnyH_done (by kernel_rfl) ?_ _
    go_wp2
    go_ret
    exact ⟨⟨false, rfl, by simp only [Bool.false_eq_true, false_iff]; exact NF.out⟩, SD⟩
  have kq : (v3 != 0) = false := by simp [hk]
  have HK0 := hide hk
  clear hk
  by_cases hs : v4 = 0
  case neg =>
    have sq : (v4 != 0) = true := by simp [hs]
    have NF := hide (show ¬ (NodeD.mk 2 v1 v2 v3 v4 nv V).Form from fun f => by have h := f.s; have h2 : v4 = 0 := h; omega)
    clear hs
    go_wp2_with fail
    go_region_held3 (fun w' => w'.cell? ⟨w.heap.size, 0, none⟩ = some (.int .i64 2) ∧ w'.cell? ⟨w.heap.size, 3, none⟩ = some (.int .i64 v3) ∧ w'.cell? ⟨w.heap.size, 4, none⟩ = some (.int .i64 v4)) (go_keep)
      (first
        | (go_at_call 121
           with_reducible refine JK.mono ?_
           rintro e w2 ⟨rfl, rfl⟩)
        | (go_at_call 122
           with_reducible refine JS.mono ?_
           rintro e w2 ⟨rfl, rfl⟩))
    go_wp2
    go_ret
    exact ⟨⟨false, rfl, by simp only [Bool.false_eq_true, false_iff]; exact NF.out⟩, SD⟩
  have sq : (v4 != 0) = false := by simp [hs]
  have HS0 := hide hs
  clear hs
  go_wp2_with fail
  go_region_held3 (fun w' => w'.cell? ⟨w.heap.size, 0, none⟩ = some (.int .i64 2) ∧ w'.cell? ⟨w.heap.size, 3, none⟩ = some (.int .i64 v3) ∧ w'.cell? ⟨w.heap.size, 4, none⟩ = some (.int .i64 v4)) (go_keep)
    (first
      | (go_at_call 121
         with_reducible refine JK.mono ?_
         rintro e w2 ⟨rfl, rfl⟩)
      | (go_at_call 122
         with_reducible refine JS.mono ?_
         rintro e w2 ⟨rfl, rfl⟩))
  clear q0 q1 q2 q3 q4 q5 JK JS
  go_wp2_with fail
  refine (l2In_any v3 0 1000 wA.drew).mono ?_
  rintro e w2 ⟨⟨r, rfl, hr⟩, rfl⟩
  cases r
  · have NF := hide (show ¬ (NodeD.mk 2 v1 v2 v3 v4 nv V).Form from fun f => by
      have h := f.k
      have h3 : InP v3 0 1000 := by unfold InP; have h2 : v3 = 0 := h; omega
      have := hr.2 h3
      cases this)
    clear hr
    go_wp2
    go_ret
    exact ⟨⟨false, rfl, by simp only [Bool.false_eq_true, false_iff]; exact NF.out⟩, SD⟩
  have IK := hide (hr.1 rfl)
  clear hr
  go_wp2_with fail
  refine (l2In_any v4 0 1000 wA.drew).mono ?_
  rintro e w2 ⟨⟨r, rfl, hr⟩, rfl⟩
  cases r
  · have NF := hide (show ¬ (NodeD.mk 2 v1 v2 v3 v4 nv V).Form from fun f => by
      have h := f.s
      have h3 : InP v4 0 1000 := by unfold InP; have h2 : v4 = 0 := h; omega
      have := hr.2 h3
      cases this)
    clear hr
    go_wp2
    go_ret
    exact ⟨⟨false, rfl, by simp only [Bool.false_eq_true, false_iff]; exact NF.out⟩, SD⟩
  have IS := hide (hr.1 rfl)
  clear hr
  have JB := l2UsesB_eq 2 false wA.drew (by decide)
  go_wp2_with fail
  refine JB.mono ?_
  rintro e w2 ⟨rfl, rfl⟩
  clear JB
  by_cases hb : v2 = 0
  case neg =>
    have bq : (v2 != 0) = true := by simp [hb]
    have NF := hide (show ¬ (NodeD.mk 2 v1 v2 v3 v4 nv V).Form from fun f => hb (f.b rfl))
    clear hb
    go_wp2
    go_ret
    exact ⟨⟨false, rfl, by simp only [Bool.false_eq_true, false_iff]; exact NF.out⟩, SD⟩
  have bq : (v2 != 0) = false := by simp [hb]
  have HB0 := hide hb
  clear hb
  have JV := l2UsesV_eq 2 false wA.drew (by decide)
  go_wp2_with fail
  refine JV.mono ?_
  rintro e w2 ⟨rfl, rfl⟩
  clear JV
  by_cases hv : nv = 0
  case neg =>
    have vq : ((nv : Int) != 0) = true := by simp; omega
    have NF := hide (show ¬ (NodeD.mk 2 v1 v2 v3 v4 nv V).Form from fun f => hv (f.v rfl))
    clear hv
    go_wp2
    go_ret
    exact ⟨⟨false, rfl, by simp only [Bool.false_eq_true, false_iff]; exact NF.out⟩, SD⟩
  have vq : ((nv : Int) != 0) = false := by simp; omega
  have HV0 := hide hv
  clear hv
  have JA := l1AllOk_any a1 lo bV oV nv k1 V wA.drew (by omega) (by omega) (LV.keep NN)
  go_wp2_with fail
  refine JA.mono ?_
  rintro e w3 ⟨r, rfl, hr, s3⟩
  have HR := hide hr
  clear hr
  go_wp2
  go_ret
  exact ⟨⟨r, rfl, HR.out.trans ⟨fun h => ⟨(show (1 : Int) ≤ 2 by decide), (show (2 : Int) ≤ 7 by decide), HK0.out, HS0.out, fun _ => HB0.out, fun _ => HV0.out, fun h => (by cases h), fun h => (by cases h), h⟩, fun f => f.ok⟩⟩, SD.trans (sinceMono s3 SD.size)⟩

set_option maxHeartbeats 6400000 in
set_option maxRecDepth 100000 in
theorem l2FormOk3 (v1 v2 v3 v4 : Int) (nv : Nat) (V : Nat → RatD) (a1 : Option Addr) (lo k1 : Nat) (w : World) (hd : (NodeD.mk 3 v1 v2 v3 v4 nv V).size ≤ 1048576) (H : NodL w lo (NodeD.mk 3 v1 v2 v3 v4 nv V) a1 k1) :
    Calls Tryz.prog 82 #[.agg #[.int .i64 3, .int .i64 v1, .int .i64 v2, .int .i64 v3, .int .i64 v4, .slice a1 nv k1]] w fun e w' => BoolRet e (NodeD.mk 3 v1 v2 v3 v4 nv V).Form ∧ w.Since w.heap.size w' := by
  have ts : nv + szR V nv ≤ 1048576 := hd
  have sA : w.Since w.heap.size (w.alloc (.cells #[.int .i64 3, .int .i64 v1, .int .i64 v2, .int .i64 v3, .int .i64 v4, .slice a1 nv k1] 84)) := (World.Since.refl _ _).alloc (Nat.le_refl _) _
  have nA := Box6.new w (.int .i64 3) (.int .i64 v1) (.int .i64 v2) (.int .i64 v3) (.int .i64 v4) (.slice a1 nv k1) 84
  obtain ⟨bV, oV, -, LV⟩ := (H.keep sA).LV
  go_enter Tryz.func82, Tryz.ntmps82
  go_wp2_with fail
  generalize w.alloc (.cells #[.int .i64 3, .int .i64 v1, .int .i64 v2, .int .i64 v3, .int .i64 v4, .slice a1 nv k1] 84) = wA at *
  refine (l2In_any 3 1 7 wA).mono ?_
  rintro e w1 ⟨⟨r, rfl, hr⟩, hw1⟩
  have hw2 := hw1.symm
  clear hw1
  subst hw2
  cases r
  · exfalso
    have := hr.2 (by unfold InP; omega)
    cases this
  clear hr
  have q0 := nA.c0
  have q1 := nA.c1
  have q2 := nA.c2
  have q3 := nA.c3
  have q4 := nA.c4
  have q5 := nA.c5
  have NN : wA.Since wA.heap.size wA.drew := (World.Since.refl _ _).drew
  have nD := nA.keep NN
  have p0 := nD.c0
  have p1 := nD.c1
  have p2 := nD.c2
  have p3 := nD.c3
  have p4 := nD.c4
  have p5 := nD.c5
  have SD := sA.trans (sinceMono NN sA.size)
  have JK := l2UsesK_eq 3 false wA.drew (by decide)
  have JS := l2UsesS_eq 3 false wA.drew (by decide)
  by_cases hk : v3 = 0
  case neg =>
    have kq : (v3 != 0) = true := by simp [hk]
    have NF := hide (show ¬ (NodeD.mk 3 v1 v2 v3 v4 nv V).Form from fun f => by have h := f.k; have h2 : v3 = 0 := h; omega)
    clear hk
    go_wp2_with fail
    refine wp_region_held_drew (S := fun w' => w'.cell? ⟨w.heap.size, 0, none⟩ = some (.int .i64 3) ∧ w'.cell? ⟨w.heap.size, 3, none⟩ = some (.int .i64 v3)) (by kernel_rfl) ⟨p0, p3⟩ (fun hHeld => ?_)
    refine take_at 0 (some 7) (.pointer (some ⟨w.heap.size, 0, none⟩)) rfl (by kernel_rfl) (by kernel_rfl) (by kernel_rfl) (by kernel_rfl) (fun _ _ _ h => h) (by kernel_rfl) (by assumption) ?_ ?_
    · intro w' hSw
      clear hSw
      kernel_rfl
    simp only [Act.put, List.setIfInBounds_toArray, List.set_cons_zero, List.set_cons_succ]
    refine take_at 1 (some 8) (.int .i64 3) rfl (by kernel_rfl) (by kernel_rfl) (by kernel_rfl) (by kernel_rfl) (fun _ _ _ h => h) (by kernel_rfl) (by assumption) ?_ ?_
    · intro w' hSw
      try dsimp only at hSw
      go_simp
    simp only [Act.put, List.setIfInBounds_toArray, List.set_cons_zero, List.set_cons_succ]
    refine take_at 3 (some 10) (.pointer (some ⟨w.heap.size, 3, none⟩)) rfl (by kernel_rfl) (by kernel_rfl) (by kernel_rfl) (by kernel_rfl) (fun _ _ _ h => h) (by kernel_rfl) (by assumption) ?_ ?_
    · intro w' hSw
      clear hSw
      kernel_rfl
    simp only [Act.put, List.setIfInBounds_toArray, List.set_cons_zero, List.set_cons_succ]
    refine take_at 4 (some 11) (.int .i64 v3) rfl (by kernel_rfl) (by kernel_rfl) (by kernel_rfl) (by kernel_rfl) (fun _ _ _ h => h) (by kernel_rfl) (by assumption) ?_ ?_
    · intro w' hSw
      try dsimp only at hSw
      go_simp
    simp only [Act.put, List.setIfInBounds_toArray, List.set_cons_zero, List.set_cons_succ]
    refine take_at 5 (some 12) (.bool true) rfl (by kernel_rfl) (by kernel_rfl) (by kernel_rfl) (by kernel_rfl) (fun _ _ _ h => h) (by kernel_rfl) (by assumption) ?_ ?_
    · intro w' hSw
      try dsimp only at hSw
      go_simp
    simp only [Act.put, List.setIfInBounds_toArray, List.set_cons_zero, List.set_cons_succ]
    refine wpAnyH_ready (rs := [2]) (by kernel_rfl) (by simp) ?_
    refine AllReadyH.cons rfl (fun K hK => ?_) AllReadyH.nil
    go_simp
    go_wp2_with (go_at_call 121; with_reducible refine JK.mono ?_; rintro e w2 ⟨rfl, rfl⟩)
    refine hK.out _ _ ⟨p0, p3⟩ (fun h1 => ?_)
    clear hK K hHeld
    refine take_at 6 (some 13) (.bool true) rfl (by kernel_rfl) (by kernel_rfl) (by kernel_rfl) (by kernel_rfl) (fun _ _ _ h => h) (by kernel_rfl) (by assumption) ?_ ?_
    · intro w' hSw
      clear hSw
      kernel_rfl
    simp only [Act.put, List.setIfInBounds_toArray, List.set_cons_zero, List.set_cons_succ]
    refine take_at 7 (some 14) (.bool true) rfl (by kernel_rfl) (by kernel_rfl) (by kernel_rfl) (by kernel_rfl) (fun _ _ _ h => h) (by kernel_rfl) (by assumption) ?_ ?_
    · intro w' hSw
      clear hSw
      kernel_rfl
    simp only [Act.put, List.setIfInBounds_toArray, List.set_cons_zero, List.set_cons_succ]
    refine skip_at 8 (some 15) rfl (by kernel_rfl) (by kernel_rfl) (by kernel_rfl) (by kernel_rfl) (fun _ _ _ h => h) (by kernel_rfl) (by assumption) ?_
    simp only [Act.put, List.setIfInBounds_toArray, List.set_cons_zero, List.set_cons_succ]
    refine skip_at 9 (some 16) rfl (by kernel_rfl) (by kernel_rfl) (by kernel_rfl) (by kernel_rfl) (fun _ _ _ h => h) (by kernel_rfl) (by assumption) ?_
    simp only [Act.put, List.setIfInBounds_toArray, List.set_cons_zero, List.set_cons_succ]
    refine skip_at 10 (some 17) rfl (by kernel_rfl) (by kernel_rfl) (by kernel_rfl) (by kernel_rfl) (fun _ _ _ h => h) (by kernel_rfl) (by assumption) ?_
    simp only [Act.put, List.setIfInBounds_toArray, List.set_cons_zero, List.set_cons_succ]
    refine skip_at 11 (some 18) rfl (by kernel_rfl) (by kernel_rfl) (by kernel_rfl) (by kernel_rfl) (fun _ _ _ h => h) (by kernel_rfl) (by assumption) ?_
    simp only [Act.put, List.setIfInBounds_toArray, List.set_cons_zero, List.set_cons_succ]
    refine skip_at 12 (some 19) rfl (by kernel_rfl) (by kernel_rfl) (by kernel_rfl) (by kernel_rfl) (fun _ _ _ h => h) (by kernel_rfl) (by assumption) ?_
    simp only [Act.put, List.setIfInBounds_toArray, List.set_cons_zero, List.set_cons_succ]
    refine skip_at 13 (some 20) rfl (by kernel_rfl) (by kernel_rfl) (by kernel_rfl) (by kernel_rfl) (fun _ _ _ h => h) (by kernel_rfl) (by assumption) ?_
    simp only [Act.put, List.setIfInBounds_toArray, List.set_cons_zero, List.set_cons_succ]
    refine skip_at 14 (some 21) rfl (by kernel_rfl) (by kernel_rfl) (by kernel_rfl) (by kernel_rfl) (fun _ _ _ h => h) (by kernel_rfl) (by assumption) ?_
    simp only [Act.put, List.setIfInBounds_toArray, List.set_cons_zero, List.set_cons_succ]
    refine take_at 15 (some 22) (.bool true) rfl (by kernel_rfl) (by kernel_rfl) (by kernel_rfl) (by kernel_rfl) (fun _ _ _ h => h) (by kernel_rfl) (by assumption) ?_ ?_
    · intro w' hSw
      clear hSw
      kernel_rfl
    simp only [Act.put, List.setIfInBounds_toArray, List.set_cons_zero, List.set_cons_succ]
    refine wpAnyH_done (by kernel_rfl) ?_ _
    go_wp2
    go_ret
    exact ⟨⟨false, rfl, by simp only [Bool.false_eq_true, false_iff]; exact NF.out⟩, SD⟩
  have kq : (v3 != 0) = false := by simp [hk]
  have HK0 := hide hk
  clear hk
  by_cases hs : v4 = 0
  case neg =>
    have sq : (v4 != 0) = true := by simp [hs]
    have NF := hide (show ¬ (NodeD.mk 3 v1 v2 v3 v4 nv V).Form from fun f => by have h := f.s; have h2 : v4 = 0 := h; omega)
    clear hs
    go_wp2_with fail
    go_region_held3 (fun w' => w'.cell? ⟨w.heap.size, 0, none⟩ = some (.int .i64 3) ∧ w'.cell? ⟨w.heap.size, 3, none⟩ = some (.int .i64 v3) ∧ w'.cell? ⟨w.heap.size, 4, none⟩ = some (.int .i64 v4)) (go_keep)
      (first
        | (go_at_call 121
           with_reducible refine JK.mono ?_
           rintro e w2 ⟨rfl, rfl⟩)
        | (go_at_call 122
           with_reducible refine JS.mono ?_
           rintro e w2 ⟨rfl, rfl⟩))
    go_wp2
    go_ret
    exact ⟨⟨false, rfl, by simp only [Bool.false_eq_true, false_iff]; exact NF.out⟩, SD⟩
  have sq : (v4 != 0) = false := by simp [hs]
  have HS0 := hide hs
  clear hs
  go_wp2_with fail
  go_region_held3 (fun w' => w'.cell? ⟨w.heap.size, 0, none⟩ = some (.int .i64 3) ∧ w'.cell? ⟨w.heap.size, 3, none⟩ = some (.int .i64 v3) ∧ w'.cell? ⟨w.heap.size, 4, none⟩ = some (.int .i64 v4)) (go_keep)
    (first
      | (go_at_call 121
         with_reducible refine JK.mono ?_
         rintro e w2 ⟨rfl, rfl⟩)
      | (go_at_call 122
         with_reducible refine JS.mono ?_
         rintro e w2 ⟨rfl, rfl⟩))
  clear q0 q1 q2 q3 q4 q5 JK JS
  go_wp2_with fail
  refine (l2In_any v3 0 1000 wA.drew).mono ?_
  rintro e w2 ⟨⟨r, rfl, hr⟩, rfl⟩
  cases r
  · have NF := hide (show ¬ (NodeD.mk 3 v1 v2 v3 v4 nv V).Form from fun f => by
      have h := f.k
      have h3 : InP v3 0 1000 := by unfold InP; have h2 : v3 = 0 := h; omega
      have := hr.2 h3
      cases this)
    clear hr
    go_wp2
    go_ret
    exact ⟨⟨false, rfl, by simp only [Bool.false_eq_true, false_iff]; exact NF.out⟩, SD⟩
  have IK := hide (hr.1 rfl)
  clear hr
  go_wp2_with fail
  refine (l2In_any v4 0 1000 wA.drew).mono ?_
  rintro e w2 ⟨⟨r, rfl, hr⟩, rfl⟩
  cases r
  · have NF := hide (show ¬ (NodeD.mk 3 v1 v2 v3 v4 nv V).Form from fun f => by
      have h := f.s
      have h3 : InP v4 0 1000 := by unfold InP; have h2 : v4 = 0 := h; omega
      have := hr.2 h3
      cases this)
    clear hr
    go_wp2
    go_ret
    exact ⟨⟨false, rfl, by simp only [Bool.false_eq_true, false_iff]; exact NF.out⟩, SD⟩
  have IS := hide (hr.1 rfl)
  clear hr
  have JB := l2UsesB_eq 3 false wA.drew (by decide)
  go_wp2_with fail
  refine JB.mono ?_
  rintro e w2 ⟨rfl, rfl⟩
  clear JB
  by_cases hb : v2 = 0
  case neg =>
    have bq : (v2 != 0) = true := by simp [hb]
    have NF := hide (show ¬ (NodeD.mk 3 v1 v2 v3 v4 nv V).Form from fun f => hb (f.b rfl))
    clear hb
    go_wp2
    go_ret
    exact ⟨⟨false, rfl, by simp only [Bool.false_eq_true, false_iff]; exact NF.out⟩, SD⟩
  have bq : (v2 != 0) = false := by simp [hb]
  have HB0 := hide hb
  clear hb
  have JV := l2UsesV_eq 3 true wA.drew (by decide)
  go_wp2_with fail
  refine JV.mono ?_
  rintro e w2 ⟨rfl, rfl⟩
  clear JV
  by_cases hv : nv = 1
  case neg =>
    have vq : ((nv : Int) != 1) = true := by simp; omega
    have NF := hide (show ¬ (NodeD.mk 3 v1 v2 v3 v4 nv V).Form from fun f => hv (f.v3 rfl))
    clear hv
    go_wp2
    go_ret
    exact ⟨⟨false, rfl, by simp only [Bool.false_eq_true, false_iff]; exact NF.out⟩, SD⟩
  have vq : ((nv : Int) != 1) = false := by simp; omega
  have HV0 := hide hv
  clear hv
  have JA := l1AllOk_any a1 lo bV oV nv k1 V wA.drew (by omega) (by omega) (LV.keep NN)
  go_wp2_with fail
  refine JA.mono ?_
  rintro e w3 ⟨r, rfl, hr, s3⟩
  have HR := hide hr
  clear hr
  go_wp2
  go_ret
  exact ⟨⟨r, rfl, HR.out.trans ⟨fun h => ⟨(show (1 : Int) ≤ 3 by decide), (show (3 : Int) ≤ 7 by decide), HK0.out, HS0.out, fun _ => HB0.out, fun h => (by cases h), fun _ => HV0.out, fun h => (by cases h), h⟩, fun f => f.ok⟩⟩, SD.trans (sinceMono s3 SD.size)⟩

end Go.Proofs.YtkhpggnnpfckdaaGreatDoor

namespace Go.Proofs.YtkhpggnnpfckdaaGreatDoor
open Go.RowKit

set_option maxHeartbeats 6400000 in
set_option maxRecDepth 100000 in
theorem l2FormOk4 (v1 v2 v3 v4 : Int) (nv : Nat) (V : Nat → RatD) (a1 : Option Addr) (lo k1 : Nat) (w : World) (hd : (NodeD.mk 4 v1 v2 v3 v4 nv V).size ≤ 1048576) (H : NodL w lo (NodeD.mk 4 v1 v2 v3 v4 nv V) a1 k1) :
    Calls Tryz.prog 82 #[.agg #[.int .i64 4, .int .i64 v1, .int .i64 v2, .int .i64 v3, .int .i64 v4, .slice a1 nv k1]] w fun e w' => BoolRet e (NodeD.mk 4 v1 v2 v3 v4 nv V).Form ∧ w.Since w.heap.size w' := by
  have ts : nv + szR V nv ≤ 1048576 := hd
  have sA : w.Since w.heap.size (w.alloc (.cells #[.int .i64 4, .int .i64 v1, .int .i64 v2, .int .i64 v3, .int .i64 v4, .slice a1 nv k1] 84)) := (World.Since.refl _ _).alloc (Nat.le_refl _) _
  have nA := Box6.new w (.int .i64 4) (.int .i64 v1) (.int .i64 v2) (.int .i64 v3) (.int .i64 v4) (.slice a1 nv k1) 84
  obtain ⟨bV, oV, -, LV⟩ := (H.keep sA).LV
  go_enter Tryz.func82, Tryz.ntmps82
  go_wp2_with fail
  generalize w.alloc (.cells #[.int .i64 4, .int .i64 v1, .int .i64 v2, .int .i64 v3, .int .i64 v4, .slice a1 nv k1] 84) = wA at *
  refine (l2In_any 4 1 7 wA).mono ?_
  rintro e w1 ⟨⟨r, rfl, hr⟩, hw1⟩
  have hw2 := hw1.symm
  clear hw1
  subst hw2
  cases r
  · exfalso
    have := hr.2 (by unfold InP; omega)
    cases this
  clear hr
  have q0 := nA.c0
  have q1 := nA.c1
  have q2 := nA.c2
  have q3 := nA.c3
  have q4 := nA.c4
  have q5 := nA.c5
  have NN : wA.Since wA.heap.size wA.drew := (World.Since.refl _ _).drew
  have nD := nA.keep NN
  have p0 := nD.c0
  have p1 := nD.c1
  have p2 := nD.c2
  have p3 := nD.c3
  have p4 := nD.c4
  have p5 := nD.c5
  have SD := sA.trans (sinceMono NN sA.size)
  have JK := l2UsesK_eq 4 false wA.drew (by decide)
  have JS := l2UsesS_eq 4 false wA.drew (by decide)
  by_cases hk : v3 = 0
  case neg =>
    have kq : (v3 != 0) = true := by simp [hk]
    have NF := hide (show ¬ (NodeD.mk 4 v1 v2 v3 v4 nv V).Form from fun f => by have h := f.k; have h2 : v3 = 0 := h; omega)
    clear hk
    go_wp2_with fail
    refine wp_region_held_drew (S := fun w' => w'.cell? ⟨w.heap.size, 0, none⟩ = some (.int .i64 4) ∧ w'.cell? ⟨w.heap.size, 3, none⟩ = some (.int .i64 v3)) (by kernel_rfl) ⟨p0, p3⟩ (fun hHeld => ?_)
    refine take_at 0 (some 7) (.pointer (some ⟨w.heap.size, 0, none⟩)) rfl (by kernel_rfl) (by kernel_rfl) (by kernel_rfl) (by kernel_rfl) (fun _ _ _ h => h) (by kernel_rfl) (by assumption) ?_ ?_
    · intro w' hSw
      clear hSw
      kernel_rfl
    simp only [Act.put, List.setIfInBounds_toArray, List.set_cons_zero, List.set_cons_succ]
    refine take_at 1 (some 8) (.int .i64 4) rfl (by kernel_rfl) (by kernel_rfl) (by kernel_rfl) (by kernel_rfl) (fun _ _ _ h => h) (by kernel_rfl) (by assumption) ?_ ?_
    · intro w' hSw
      try dsimp only at hSw
      go_simp
    simp only [Act.put, List.setIfInBounds_toArray, List.set_cons_zero, List.set_cons_succ]
    refine take_at 3 (some 10) (.pointer (some ⟨w.heap.size, 3, none⟩)) rfl (by kernel_rfl) (by kernel_rfl) (by kernel_rfl) (by kernel_rfl) (fun _ _ _ h => h) (by kernel_rfl) (by assumption) ?_ ?_
    · intro w' hSw
      clear hSw
      kernel_rfl
    simp only [Act.put, List.setIfInBounds_toArray, List.set_cons_zero, List.set_cons_succ]
    refine take_at 4 (some 11) (.int .i64 v3) rfl (by kernel_rfl) (by kernel_rfl) (by kernel_rfl) (by kernel_rfl) (fun _ _ _ h => h) (by kernel_rfl) (by assumption) ?_ ?_
    · intro w' hSw
      try dsimp only at hSw
      go_simp
    simp only [Act.put, List.setIfInBounds_toArray, List.set_cons_zero, List.set_cons_succ]
    refine take_at 5 (some 12) (.bool true) rfl (by kernel_rfl) (by kernel_rfl) (by kernel_rfl) (by kernel_rfl) (fun _ _ _ h => h) (by kernel_rfl) (by assumption) ?_ ?_
    · intro w' hSw
      try dsimp only at hSw
      go_simp
    simp only [Act.put, List.setIfInBounds_toArray, List.set_cons_zero, List.set_cons_succ]
    refine wpAnyH_ready (rs := [2]) (by kernel_rfl) (by simp) ?_
    refine AllReadyH.cons rfl (fun K hK => ?_) AllReadyH.nil
    go_simp
    go_wp2_with (go_at_call 121; with_reducible refine JK.mono ?_; rintro e w2 ⟨rfl, rfl⟩)
    refine hK.out _ _ ⟨p0, p3⟩ (fun h1 => ?_)
    clear hK K hHeld
    refine take_at 6 (some 13) (.bool true) rfl (by kernel_rfl) (by kernel_rfl) (by kernel_rfl) (by kernel_rfl) (fun _ _ _ h => h) (by kernel_rfl) (by assumption) ?_ ?_
    · intro w' hSw
      clear hSw
      kernel_rfl
    simp only [Act.put, List.setIfInBounds_toArray, List.set_cons_zero, List.set_cons_succ]
    refine take_at 7 (some 14) (.bool true) rfl (by kernel_rfl) (by kernel_rfl) (by kernel_rfl) (by kernel_rfl) (fun _ _ _ h => h) (by kernel_rfl) (by assumption) ?_ ?_
    · intro w' hSw
      clear hSw
      kernel_rfl
    simp only [Act.put, List.setIfInBounds_toArray, List.set_cons_zero, List.set_cons_succ]
    refine skip_at 8 (some 15) rfl (by kernel_rfl) (by kernel_rfl) (by kernel_rfl) (by kernel_rfl) (fun _ _ _ h => h) (by kernel_rfl) (by assumption) ?_
    simp only [Act.put, List.setIfInBounds_toArray, List.set_cons_zero, List.set_cons_succ]
    refine skip_at 9 (some 16) rfl (by kernel_rfl) (by kernel_rfl) (by kernel_rfl) (by kernel_rfl) (fun _ _ _ h => h) (by kernel_rfl) (by assumption) ?_
    simp only [Act.put, List.setIfInBounds_toArray, List.set_cons_zero, List.set_cons_succ]
    refine skip_at 10 (some 17) rfl (by kernel_rfl) (by kernel_rfl) (by kernel_rfl) (by kernel_rfl) (fun _ _ _ h => h) (by kernel_rfl) (by assumption) ?_
    simp only [Act.put, List.setIfInBounds_toArray, List.set_cons_zero, List.set_cons_succ]
    refine skip_at 11 (some 18) rfl (by kernel_rfl) (by kernel_rfl) (by kernel_rfl) (by kernel_rfl) (fun _ _ _ h => h) (by kernel_rfl) (by assumption) ?_
    simp only [Act.put, List.setIfInBounds_toArray, List.set_cons_zero, List.set_cons_succ]
    refine skip_at 12 (some 19) rfl (by kernel_rfl) (by kernel_rfl) (by kernel_rfl) (by kernel_rfl) (fun _ _ _ h => h) (by kernel_rfl) (by assumption) ?_
    simp only [Act.put, List.setIfInBounds_toArray, List.set_cons_zero, List.set_cons_succ]
    refine skip_at 13 (some 20) rfl (by kernel_rfl) (by kernel_rfl) (by kernel_rfl) (by kernel_rfl) (fun _ _ _ h => h) (by kernel_rfl) (by assumption) ?_
    simp only [Act.put, List.setIfInBounds_toArray, List.set_cons_zero, List.set_cons_succ]
    refine skip_at 14 (some 21) rfl (by kernel_rfl) (by kernel_rfl) (by kernel_rfl) (by kernel_rfl) (fun _ _ _ h => h) (by kernel_rfl) (by assumption) ?_
    simp only [Act.put, List.setIfInBounds_toArray, List.set_cons_zero, List.set_cons_succ]
    refine take_at 15 (some 22) (.bool true) rfl (by kernel_rfl) (by kernel_rfl) (by kernel_rfl) (by kernel_rfl) (fun _ _ _ h => h) (by kernel_rfl) (by assumption) ?_ ?_
    · intro w' hSw
      clear hSw
      kernel_rfl
    simp only [Act.put, List.setIfInBounds_toArray, List.set_cons_zero, List.set_cons_succ]
    refine wpAnyH_done (by kernel_rfl) ?_ _
    go_wp2
    go_ret
    exact ⟨⟨false, rfl, by simp only [Bool.false_eq_true, false_iff]; exact NF.out⟩, SD⟩
  have kq : (v3 != 0) = false := by simp [hk]
  have HK0 := hide hk
  clear hk
  by_cases hs : v4 = 0
  case neg =>
    have sq : (v4 != 0) = true := by simp [hs]
    have NF := hide (show ¬ (NodeD.mk 4 v1 v2 v3 v4 nv V).Form from fun f => by have h := f.s; have h2 : v4 = 0 := h; omega)
    clear hs
    go_wp2_with fail
    go_region_held3 (fun w' => w'.cell? ⟨w.heap.size, 0, none⟩ = some (.int .i64 4) ∧ w'.cell? ⟨w.heap.size, 3, none⟩ = some (.int .i64 v3) ∧ w'.cell? ⟨w.heap.size, 4, none⟩ = some (.int .i64 v4)) (go_keep)
      (first
        | (go_at_call 121
           with_reducible refine JK.mono ?_
           rintro e w2 ⟨rfl, rfl⟩)
        | (go_at_call 122
           with_reducible refine JS.mono ?_
           rintro e w2 ⟨rfl, rfl⟩))
    go_wp2
    go_ret
    exact ⟨⟨false, rfl, by simp only [Bool.false_eq_true, false_iff]; exact NF.out⟩, SD⟩
  have sq : (v4 != 0) = false := by simp [hs]
  have HS0 := hide hs
  clear hs
  go_wp2_with fail
  go_region_held3 (fun w' => w'.cell? ⟨w.heap.size, 0, none⟩ = some (.int .i64 4) ∧ w'.cell? ⟨w.heap.size, 3, none⟩ = some (.int .i64 v3) ∧ w'.cell? ⟨w.heap.size, 4, none⟩ = some (.int .i64 v4)) (go_keep)
    (first
      | (go_at_call 121
         with_reducible refine JK.mono ?_
         rintro e w2 ⟨rfl, rfl⟩)
      | (go_at_call 122
         with_reducible refine JS.mono ?_
         rintro e w2 ⟨rfl, rfl⟩))
  clear q0 q1 q2 q3 q4 q5 JK JS
  go_wp2_with fail
  refine (l2In_any v3 0 1000 wA.drew).mono ?_
  rintro e w2 ⟨⟨r, rfl, hr⟩, rfl⟩
  cases r
  · have NF := hide (show ¬ (NodeD.mk 4 v1 v2 v3 v4 nv V).Form from fun f => by
      have h := f.k
      have h3 : InP v3 0 1000 := by unfold InP; have h2 : v3 = 0 := h; omega
      have := hr.2 h3
      cases this)
    clear hr
    go_wp2
    go_ret
    exact ⟨⟨false, rfl, by simp only [Bool.false_eq_true, false_iff]; exact NF.out⟩, SD⟩
  have IK := hide (hr.1 rfl)
  clear hr
  go_wp2_with fail
  refine (l2In_any v4 0 1000 wA.drew).mono ?_
  rintro e w2 ⟨⟨r, rfl, hr⟩, rfl⟩
  cases r
  · have NF := hide (show ¬ (NodeD.mk 4 v1 v2 v3 v4 nv V).Form from fun f => by
      have h := f.s
      have h3 : InP v4 0 1000 := by unfold InP; have h2 : v4 = 0 := h; omega
      have := hr.2 h3
      cases this)
    clear hr
    go_wp2
    go_ret
    exact ⟨⟨false, rfl, by simp only [Bool.false_eq_true, false_iff]; exact NF.out⟩, SD⟩
  have IS := hide (hr.1 rfl)
  clear hr
  have JB := l2UsesB_eq 4 true wA.drew (by decide)
  go_wp2_with fail
  refine JB.mono ?_
  rintro e w2 ⟨rfl, rfl⟩
  clear JB
  have JV := l2UsesV_eq 4 false wA.drew (by decide)
  go_wp2_with fail
  refine JV.mono ?_
  rintro e w2 ⟨rfl, rfl⟩
  clear JV
  by_cases hv : nv = 0
  case neg =>
    have vq : ((nv : Int) != 0) = true := by simp; omega
    have NF := hide (show ¬ (NodeD.mk 4 v1 v2 v3 v4 nv V).Form from fun f => hv (f.v rfl))
    clear hv
    go_wp2
    go_ret
    exact ⟨⟨false, rfl, by simp only [Bool.false_eq_true, false_iff]; exact NF.out⟩, SD⟩
  have vq : ((nv : Int) != 0) = false := by simp; omega
  have HV0 := hide hv
  clear hv
  have JA := l1AllOk_any a1 lo bV oV nv k1 V wA.drew (by omega) (by omega) (LV.keep NN)
  go_wp2_with fail
  refine JA.mono ?_
  rintro e w3 ⟨r, rfl, hr, s3⟩
  have HR := hide hr
  clear hr
  go_wp2
  go_ret
  exact ⟨⟨r, rfl, HR.out.trans ⟨fun h => ⟨(show (1 : Int) ≤ 4 by decide), (show (4 : Int) ≤ 7 by decide), HK0.out, HS0.out, fun h => (by cases h), fun _ => HV0.out, fun h => (by cases h), fun h => (by cases h), h⟩, fun f => f.ok⟩⟩, SD.trans (sinceMono s3 SD.size)⟩

set_option maxHeartbeats 6400000 in
set_option maxRecDepth 100000 in
theorem l2FormOk5 (v1 v2 v3 v4 : Int) (nv : Nat) (V : Nat → RatD) (a1 : Option Addr) (lo k1 : Nat) (w : World) (hd : (NodeD.mk 5 v1 v2 v3 v4 nv V).size ≤ 1048576) (H : NodL w lo (NodeD.mk 5 v1 v2 v3 v4 nv V) a1 k1) :
    Calls Tryz.prog 82 #[.agg #[.int .i64 5, .int .i64 v1, .int .i64 v2, .int .i64 v3, .int .i64 v4, .slice a1 nv k1]] w fun e w' => BoolRet e (NodeD.mk 5 v1 v2 v3 v4 nv V).Form ∧ w.Since w.heap.size w' := by
  have ts : nv + szR V nv ≤ 1048576 := hd
  have sA : w.Since w.heap.size (w.alloc (.cells #[.int .i64 5, .int .i64 v1, .int .i64 v2, .int .i64 v3, .int .i64 v4, .slice a1 nv k1] 84)) := (World.Since.refl _ _).alloc (Nat.le_refl _) _
  have nA := Box6.new w (.int .i64 5) (.int .i64 v1) (.int .i64 v2) (.int .i64 v3) (.int .i64 v4) (.slice a1 nv k1) 84
  obtain ⟨bV, oV, -, LV⟩ := (H.keep sA).LV
  go_enter Tryz.func82, Tryz.ntmps82
  go_wp2_with fail
  generalize w.alloc (.cells #[.int .i64 5, .int .i64 v1, .int .i64 v2, .int .i64 v3, .int .i64 v4, .slice a1 nv k1] 84) = wA at *
  refine (l2In_any 5 1 7 wA).mono ?_
  rintro e w1 ⟨⟨r, rfl, hr⟩, hw1⟩
  have hw2 := hw1.symm
  clear hw1
  subst hw2
  cases r
  · exfalso
    have := hr.2 (by unfold InP; omega)
    cases this
  clear hr
  have q0 := nA.c0
  have q1 := nA.c1
  have q2 := nA.c2
  have q3 := nA.c3
  have q4 := nA.c4
  have q5 := nA.c5
  have NN : wA.Since wA.heap.size wA.drew := (World.Since.refl _ _).drew
  have nD := nA.keep NN
  have p0 := nD.c0
  have p1 := nD.c1
  have p2 := nD.c2
  have p3 := nD.c3
  have p4 := nD.c4
  have p5 := nD.c5
  have SD := sA.trans (sinceMono NN sA.size)
  have JK := l2UsesK_eq 5 true wA.drew (by decide)
  have JS := l2UsesS_eq 5 false wA.drew (by decide)
  by_cases hk : v3 = 0
  · have kq : (v3 != 0) = false := by simp [hk]
    have NF := hide (show ¬ (NodeD.mk 5 v1 v2 v3 v4 nv V).Form from fun f => by have h := f.k; have h2 : 1 ≤ v3 ∧ v3 ≤ 1000 := h; omega)
    clear hk
    go_wp2_with fail
    refine wp_region_held_drew (S := fun w' => w'.cell? ⟨w.heap.size, 0, none⟩ = some (.int .i64 5) ∧ w'.cell? ⟨w.heap.size, 3, none⟩ = some (.int .i64 v3)) (by kernel_rfl) ⟨p0, p3⟩ (fun hHeld => ?_)
    refine take_at 0 (some 7) (.pointer (some ⟨w.heap.size, 0, none⟩)) rfl (by kernel_rfl) (by kernel_rfl) (by kernel_rfl) (by kernel_rfl) (fun _ _ _ h => h) (by kernel_rfl) (by assumption) ?_ ?_
    · intro w' hSw
      clear hSw
      kernel_rfl
    simp only [Act.put, List.setIfInBounds_toArray, List.set_cons_zero, List.set_cons_succ]
    refine take_at 1 (some 8) (.int .i64 5) rfl (by kernel_rfl) (by kernel_rfl) (by kernel_rfl) (by kernel_rfl) (fun _ _ _ h => h) (by kernel_rfl) (by assumption) ?_ ?_
    · intro w' hSw
      try dsimp only at hSw
      go_simp
    simp only [Act.put, List.setIfInBounds_toArray, List.set_cons_zero, List.set_cons_succ]
    refine take_at 3 (some 10) (.pointer (some ⟨w.heap.size, 3, none⟩)) rfl (by kernel_rfl) (by kernel_rfl) (by kernel_rfl) (by kernel_rfl) (fun _ _ _ h => h) (by kernel_rfl) (by assumption) ?_ ?_
    · intro w' hSw
      clear hSw
      kernel_rfl
    simp only [Act.put, List.setIfInBounds_toArray, List.set_cons_zero, List.set_cons_succ]
    refine take_at 4 (some 11) (.int .i64 v3) rfl (by kernel_rfl) (by kernel_rfl) (by kernel_rfl) (by kernel_rfl) (fun _ _ _ h => h) (by kernel_rfl) (by assumption) ?_ ?_
    · intro w' hSw
      try dsimp only at hSw
      go_simp
    simp only [Act.put, List.setIfInBounds_toArray, List.set_cons_zero, List.set_cons_succ]
    refine take_at 5 (some 12) (.bool false) rfl (by kernel_rfl) (by kernel_rfl) (by kernel_rfl) (by kernel_rfl) (fun _ _ _ h => h) (by kernel_rfl) (by assumption) ?_ ?_
    · intro w' hSw
      try dsimp only at hSw
      go_simp
    simp only [Act.put, List.setIfInBounds_toArray, List.set_cons_zero, List.set_cons_succ]
    refine wpAnyH_ready (rs := [2]) (by kernel_rfl) (by simp) ?_
    refine AllReadyH.cons rfl (fun K hK => ?_) AllReadyH.nil
    go_simp
    go_wp2_with (go_at_call 121; with_reducible refine JK.mono ?_; rintro e w2 ⟨rfl, rfl⟩)
    refine hK.out _ _ ⟨p0, p3⟩ (fun h1 => ?_)
    clear hK K hHeld
    refine take_at 6 (some 13) (.bool true) rfl (by kernel_rfl) (by kernel_rfl) (by kernel_rfl) (by kernel_rfl) (fun _ _ _ h => h) (by kernel_rfl) (by assumption) ?_ ?_
    · intro w' hSw
      clear hSw
      kernel_rfl
    simp only [Act.put, List.setIfInBounds_toArray, List.set_cons_zero, List.set_cons_succ]
    refine take_at 7 (some 14) (.bool true) rfl (by kernel_rfl) (by kernel_rfl) (by kernel_rfl) (by kernel_rfl) (fun _ _ _ h => h) (by kernel_rfl) (by assumption) ?_ ?_
    · intro w' hSw
      clear hSw
      kernel_rfl
    simp only [Act.put, List.setIfInBounds_toArray, List.set_cons_zero, List.set_cons_succ]
    refine skip_at 8 (some 15) rfl (by kernel_rfl) (by kernel_rfl) (by kernel_rfl) (by kernel_rfl) (fun _ _ _ h => h) (by kernel_rfl) (by assumption) ?_
    simp only [Act.put, List.setIfInBounds_toArray, List.set_cons_zero, List.set_cons_succ]
    refine skip_at 9 (some 16) rfl (by kernel_rfl) (by kernel_rfl) (by kernel_rfl) (by kernel_rfl) (fun _ _ _ h => h) (by kernel_rfl) (by assumption) ?_
    simp only [Act.put, List.setIfInBounds_toArray, List.set_cons_zero, List.set_cons_succ]
    refine skip_at 10 (some 17) rfl (by kernel_rfl) (by kernel_rfl) (by kernel_rfl) (by kernel_rfl) (fun _ _ _ h => h) (by kernel_rfl) (by assumption) ?_
    simp only [Act.put, List.setIfInBounds_toArray, List.set_cons_zero, List.set_cons_succ]
    refine skip_at 11 (some 18) rfl (by kernel_rfl) (by kernel_rfl) (by kernel_rfl) (by kernel_rfl) (fun _ _ _ h => h) (by kernel_rfl) (by assumption) ?_
    simp only [Act.put, List.setIfInBounds_toArray, List.set_cons_zero, List.set_cons_succ]
    refine skip_at 12 (some 19) rfl (by kernel_rfl) (by kernel_rfl) (by kernel_rfl) (by kernel_rfl) (fun _ _ _ h => h) (by kernel_rfl) (by assumption) ?_
    simp only [Act.put, List.setIfInBounds_toArray, List.set_cons_zero, List.set_cons_succ]
    refine skip_at 13 (some 20) rfl (by kernel_rfl) (by kernel_rfl) (by kernel_rfl) (by kernel_rfl) (fun _ _ _ h => h) (by kernel_rfl) (by assumption) ?_
    simp only [Act.put, List.setIfInBounds_toArray, List.set_cons_zero, List.set_cons_succ]
    refine skip_at 14 (some 21) rfl (by kernel_rfl) (by kernel_rfl) (by kernel_rfl) (by kernel_rfl) (fun _ _ _ h => h) (by kernel_rfl) (by assumption) ?_
    simp only [Act.put, List.setIfInBounds_toArray, List.set_cons_zero, List.set_cons_succ]
    refine take_at 15 (some 22) (.bool true) rfl (by kernel_rfl) (by kernel_rfl) (by kernel_rfl) (by kernel_rfl) (fun _ _ _ h => h) (by kernel_rfl) (by assumption) ?_ ?_
    · intro w' hSw
      clear hSw
      kernel_rfl
    simp only [Act.put, List.setIfInBounds_toArray, List.set_cons_zero, List.set_cons_succ]
    refine wpAnyH_done (by kernel_rfl) ?_ _
    go_wp2
    go_ret
    exact ⟨⟨false, rfl, by simp only [Bool.false_eq_true, false_iff]; exact NF.out⟩, SD⟩
  have kq : (v3 != 0) = true := by simp [hk]
  have HK0 := hide hk
  clear hk
  by_cases hs : v4 = 0
  case neg =>
    have sq : (v4 != 0) = true := by simp [hs]
    have NF := hide (show ¬ (NodeD.mk 5 v1 v2 v3 v4 nv V).Form from fun f => by have h := f.s; have h2 : v4 = 0 := h; omega)
    clear hs
    go_wp2_with fail
    go_region_held3 (fun w' => w'.cell? ⟨w.heap.size, 0, none⟩ = some (.int .i64 5) ∧ w'.cell? ⟨w.heap.size, 3, none⟩ = some (.int .i64 v3) ∧ w'.cell? ⟨w.heap.size, 4, none⟩ = some (.int .i64 v4)) (go_keep)
      (first
        | (go_at_call 121
           with_reducible refine JK.mono ?_
           rintro e w2 ⟨rfl, rfl⟩)
        | (go_at_call 122
           with_reducible refine JS.mono ?_
           rintro e w2 ⟨rfl, rfl⟩))
    go_wp2
    go_ret
    exact ⟨⟨false, rfl, by simp only [Bool.false_eq_true, false_iff]; exact NF.out⟩, SD⟩
  have sq : (v4 != 0) = false := by simp [hs]
  have HS0 := hide hs
  clear hs
  go_wp2_with fail
  go_region_held3 (fun w' => w'.cell? ⟨w.heap.size, 0, none⟩ = some (.int .i64 5) ∧ w'.cell? ⟨w.heap.size, 3, none⟩ = some (.int .i64 v3) ∧ w'.cell? ⟨w.heap.size, 4, none⟩ = some (.int .i64 v4)) (go_keep)
    (first
      | (go_at_call 121
         with_reducible refine JK.mono ?_
         rintro e w2 ⟨rfl, rfl⟩)
      | (go_at_call 122
         with_reducible refine JS.mono ?_
         rintro e w2 ⟨rfl, rfl⟩))
  clear q0 q1 q2 q3 q4 q5 JK JS
  go_wp2_with fail
  refine (l2In_any v3 0 1000 wA.drew).mono ?_
  rintro e w2 ⟨⟨r, rfl, hr⟩, rfl⟩
  cases r
  · have NF := hide (show ¬ (NodeD.mk 5 v1 v2 v3 v4 nv V).Form from fun f => by
      have h := f.k
      have h3 : InP v3 0 1000 := by unfold InP; have h2 : 1 ≤ v3 ∧ v3 ≤ 1000 := h; omega
      have := hr.2 h3
      cases this)
    clear hr
    go_wp2
    go_ret
    exact ⟨⟨false, rfl, by simp only [Bool.false_eq_true, false_iff]; exact NF.out⟩, SD⟩
  have IK := hide (hr.1 rfl)
  clear hr
  go_wp2_with fail
  refine (l2In_any v4 0 1000 wA.drew).mono ?_
  rintro e w2 ⟨⟨r, rfl, hr⟩, rfl⟩
  cases r
  · have NF := hide (show ¬ (NodeD.mk 5 v1 v2 v3 v4 nv V).Form from fun f => by
      have h := f.s
      have h3 : InP v4 0 1000 := by unfold InP; have h2 : v4 = 0 := h; omega
      have := hr.2 h3
      cases this)
    clear hr
    go_wp2
    go_ret
    exact ⟨⟨false, rfl, by simp only [Bool.false_eq_true, false_iff]; exact NF.out⟩, SD⟩
  have IS := hide (hr.1 rfl)
  clear hr
  have JB := l2UsesB_eq 5 false wA.drew (by decide)
  go_wp2_with fail
  refine JB.mono ?_
  rintro e w2 ⟨rfl, rfl⟩
  clear JB
  by_cases hb : v2 = 0
  case neg =>
    have bq : (v2 != 0) = true := by simp [hb]
    have NF := hide (show ¬ (NodeD.mk 5 v1 v2 v3 v4 nv V).Form from fun f => hb (f.b rfl))
    clear hb
    go_wp2
    go_ret
    exact ⟨⟨false, rfl, by simp only [Bool.false_eq_true, false_iff]; exact NF.out⟩, SD⟩
  have bq : (v2 != 0) = false := by simp [hb]
  have HB0 := hide hb
  clear hb
  have JV := l2UsesV_eq 5 false wA.drew (by decide)
  go_wp2_with fail
  refine JV.mono ?_
  rintro e w2 ⟨rfl, rfl⟩
  clear JV
  by_cases hv : nv = 0
  case neg =>
    have vq : ((nv : Int) != 0) = true := by simp; omega
    have NF := hide (show ¬ (NodeD.mk 5 v1 v2 v3 v4 nv V).Form from fun f => hv (f.v rfl))
    clear hv
    go_wp2
    go_ret
    exact ⟨⟨false, rfl, by simp only [Bool.false_eq_true, false_iff]; exact NF.out⟩, SD⟩
  have vq : ((nv : Int) != 0) = false := by simp; omega
  have HV0 := hide hv
  clear hv
  have JA := l1AllOk_any a1 lo bV oV nv k1 V wA.drew (by omega) (by omega) (LV.keep NN)
  go_wp2_with fail
  refine JA.mono ?_
  rintro e w3 ⟨r, rfl, hr, s3⟩
  have HR := hide hr
  clear hr
  go_wp2
  go_ret
  exact ⟨⟨r, rfl, HR.out.trans ⟨fun h => ⟨(show (1 : Int) ≤ 5 by decide), (show (5 : Int) ≤ 7 by decide), (show 1 ≤ v3 ∧ v3 ≤ 1000 by have h : 0 ≤ v3 ∧ v3 ≤ 1000 := IK.out; have := HK0.out; omega), HS0.out, fun _ => HB0.out, fun _ => HV0.out, fun h => (by cases h), fun h => (by cases h), h⟩, fun f => f.ok⟩⟩, SD.trans (sinceMono s3 SD.size)⟩

end Go.Proofs.YtkhpggnnpfckdaaGreatDoor

namespace Go.Proofs.YtkhpggnnpfckdaaGreatDoor
open Go.RowKit

set_option maxHeartbeats 6400000 in
set_option maxRecDepth 100000 in
theorem l2FormOk6 (v1 v2 v3 v4 : Int) (nv : Nat) (V : Nat → RatD) (a1 : Option Addr) (lo k1 : Nat) (w : World) (hd : (NodeD.mk 6 v1 v2 v3 v4 nv V).size ≤ 1048576) (H : NodL w lo (NodeD.mk 6 v1 v2 v3 v4 nv V) a1 k1) :
    Calls Tryz.prog 82 #[.agg #[.int .i64 6, .int .i64 v1, .int .i64 v2, .int .i64 v3, .int .i64 v4, .slice a1 nv k1]] w fun e w' => BoolRet e (NodeD.mk 6 v1 v2 v3 v4 nv V).Form ∧ w.Since w.heap.size w' := by
  have ts : nv + szR V nv ≤ 1048576 := hd
  have sA : w.Since w.heap.size (w.alloc (.cells #[.int .i64 6, .int .i64 v1, .int .i64 v2, .int .i64 v3, .int .i64 v4, .slice a1 nv k1] 84)) := (World.Since.refl _ _).alloc (Nat.le_refl _) _
  have nA := Box6.new w (.int .i64 6) (.int .i64 v1) (.int .i64 v2) (.int .i64 v3) (.int .i64 v4) (.slice a1 nv k1) 84
  obtain ⟨bV, oV, -, LV⟩ := (H.keep sA).LV
  go_enter Tryz.func82, Tryz.ntmps82
  go_wp2_with fail
  generalize w.alloc (.cells #[.int .i64 6, .int .i64 v1, .int .i64 v2, .int .i64 v3, .int .i64 v4, .slice a1 nv k1] 84) = wA at *
  refine (l2In_any 6 1 7 wA).mono ?_
  rintro e w1 ⟨⟨r, rfl, hr⟩, hw1⟩
  have hw2 := hw1.symm
  clear hw1
  subst hw2
  cases r
  · exfalso
    have := hr.2 (by unfold InP; omega)
    cases this
  clear hr
  have q0 := nA.c0
  have q1 := nA.c1
  have q2 := nA.c2
  have q3 := nA.c3
  have q4 := nA.c4
  have q5 := nA.c5
  have NN : wA.Since wA.heap.size wA.drew := (World.Since.refl _ _).drew
  have nD := nA.keep NN
  have p0 := nD.c0
  have p1 := nD.c1
  have p2 := nD.c2
  have p3 := nD.c3
  have p4 := nD.c4
  have p5 := nD.c5
  have SD := sA.trans (sinceMono NN sA.size)
  have JK := l2UsesK_eq 6 true wA.drew (by decide)
  have JS := l2UsesS_eq 6 true wA.drew (by decide)
  by_cases hk : v3 = 0
  · have kq : (v3 != 0) = false := by simp [hk]
    have NF := hide (show ¬ (NodeD.mk 6 v1 v2 v3 v4 nv V).Form from fun f => by have h := f.k; have h2 : 1 ≤ v3 ∧ v3 ≤ 1000 := h; omega)
    clear hk
    go_wp2_with fail
    refine wp_region_held_drew (S := fun w' => w'.cell? ⟨w.heap.size, 0, none⟩ = some (.int .i64 6) ∧ w'.cell? ⟨w.heap.size, 3, none⟩ = some (.int .i64 v3)) (by kernel_rfl) ⟨p0, p3⟩ (fun hHeld => ?_)
    refine take_at 0 (some 7) (.pointer (some ⟨w.heap.size, 0, none⟩)) rfl (by kernel_rfl) (by kernel_rfl) (by kernel_rfl) (by kernel_rfl) (fun _ _ _ h => h) (by kernel_rfl) (by assumption) ?_ ?_
    · intro w' hSw
      clear hSw
      kernel_rfl
    simp only [Act.put, List.setIfInBounds_toArray, List.set_cons_zero, List.set_cons_succ]
    refine take_at 1 (some 8) (.int .i64 6) rfl (by kernel_rfl) (by kernel_rfl) (by kernel_rfl) (by kernel_rfl) (fun _ _ _ h => h) (by kernel_rfl) (by assumption) ?_ ?_
    · intro w' hSw
      try dsimp only at hSw
      go_simp
    simp only [Act.put, List.setIfInBounds_toArray, List.set_cons_zero, List.set_cons_succ]
    refine take_at 3 (some 10) (.pointer (some ⟨w.heap.size, 3, none⟩)) rfl (by kernel_rfl) (by kernel_rfl) (by kernel_rfl) (by kernel_rfl) (fun _ _ _ h => h) (by kernel_rfl) (by assumption) ?_ ?_
    · intro w' hSw
      clear hSw
      kernel_rfl
    simp only [Act.put, List.setIfInBounds_toArray, List.set_cons_zero, List.set_cons_succ]
    refine take_at 4 (some 11) (.int .i64 v3) rfl (by kernel_rfl) (by kernel_rfl) (by kernel_rfl) (by kernel_rfl) (fun _ _ _ h => h) (by kernel_rfl) (by assumption) ?_ ?_
    · intro w' hSw
      try dsimp only at hSw
      go_simp
    simp only [Act.put, List.setIfInBounds_toArray, List.set_cons_zero, List.set_cons_succ]
    refine take_at 5 (some 12) (.bool false) rfl (by kernel_rfl) (by kernel_rfl) (by kernel_rfl) (by kernel_rfl) (fun _ _ _ h => h) (by kernel_rfl) (by assumption) ?_ ?_
    · intro w' hSw
      try dsimp only at hSw
      go_simp
    simp only [Act.put, List.setIfInBounds_toArray, List.set_cons_zero, List.set_cons_succ]
    refine wpAnyH_ready (rs := [2]) (by kernel_rfl) (by simp) ?_
    refine AllReadyH.cons rfl (fun K hK => ?_) AllReadyH.nil
    go_simp
    go_wp2_with (go_at_call 121; with_reducible refine JK.mono ?_; rintro e w2 ⟨rfl, rfl⟩)
    refine hK.out _ _ ⟨p0, p3⟩ (fun h1 => ?_)
    clear hK K hHeld
    refine take_at 6 (some 13) (.bool true) rfl (by kernel_rfl) (by kernel_rfl) (by kernel_rfl) (by kernel_rfl) (fun _ _ _ h => h) (by kernel_rfl) (by assumption) ?_ ?_
    · intro w' hSw
      clear hSw
      kernel_rfl
    simp only [Act.put, List.setIfInBounds_toArray, List.set_cons_zero, List.set_cons_succ]
    refine take_at 7 (some 14) (.bool true) rfl (by kernel_rfl) (by kernel_rfl) (by kernel_rfl) (by kernel_rfl) (fun _ _ _ h => h) (by kernel_rfl) (by assumption) ?_ ?_
    · intro w' hSw
      clear hSw
      kernel_rfl
    simp only [Act.put, List.setIfInBounds_toArray, List.set_cons_zero, List.set_cons_succ]
    refine skip_at 8 (some 15) rfl (by kernel_rfl) (by kernel_rfl) (by kernel_rfl) (by kernel_rfl) (fun _ _ _ h => h) (by kernel_rfl) (by assumption) ?_
    simp only [Act.put, List.setIfInBounds_toArray, List.set_cons_zero, List.set_cons_succ]
    refine skip_at 9 (some 16) rfl (by kernel_rfl) (by kernel_rfl) (by kernel_rfl) (by kernel_rfl) (fun _ _ _ h => h) (by kernel_rfl) (by assumption) ?_
    simp only [Act.put, List.setIfInBounds_toArray, List.set_cons_zero, List.set_cons_succ]
    refine skip_at 10 (some 17) rfl (by kernel_rfl) (by kernel_rfl) (by kernel_rfl) (by kernel_rfl) (fun _ _ _ h => h) (by kernel_rfl) (by assumption) ?_
    simp only [Act.put, List.setIfInBounds_toArray, List.set_cons_zero, List.set_cons_succ]
    refine skip_at 11 (some 18) rfl (by kernel_rfl) (by kernel_rfl) (by kernel_rfl) (by kernel_rfl) (fun _ _ _ h => h) (by kernel_rfl) (by assumption) ?_
    simp only [Act.put, List.setIfInBounds_toArray, List.set_cons_zero, List.set_cons_succ]
    refine skip_at 12 (some 19) rfl (by kernel_rfl) (by kernel_rfl) (by kernel_rfl) (by kernel_rfl) (fun _ _ _ h => h) (by kernel_rfl) (by assumption) ?_
    simp only [Act.put, List.setIfInBounds_toArray, List.set_cons_zero, List.set_cons_succ]
    refine skip_at 13 (some 20) rfl (by kernel_rfl) (by kernel_rfl) (by kernel_rfl) (by kernel_rfl) (fun _ _ _ h => h) (by kernel_rfl) (by assumption) ?_
    simp only [Act.put, List.setIfInBounds_toArray, List.set_cons_zero, List.set_cons_succ]
    refine skip_at 14 (some 21) rfl (by kernel_rfl) (by kernel_rfl) (by kernel_rfl) (by kernel_rfl) (fun _ _ _ h => h) (by kernel_rfl) (by assumption) ?_
    simp only [Act.put, List.setIfInBounds_toArray, List.set_cons_zero, List.set_cons_succ]
    refine take_at 15 (some 22) (.bool true) rfl (by kernel_rfl) (by kernel_rfl) (by kernel_rfl) (by kernel_rfl) (fun _ _ _ h => h) (by kernel_rfl) (by assumption) ?_ ?_
    · intro w' hSw
      clear hSw
      kernel_rfl
    simp only [Act.put, List.setIfInBounds_toArray, List.set_cons_zero, List.set_cons_succ]
    refine wpAnyH_done (by kernel_rfl) ?_ _
    go_wp2
    go_ret
    exact ⟨⟨false, rfl, by simp only [Bool.false_eq_true, false_iff]; exact NF.out⟩, SD⟩
  have kq : (v3 != 0) = true := by simp [hk]
  have HK0 := hide hk
  clear hk
  by_cases hs : v4 = 0
  · have sq : (v4 != 0) = false := by simp [hs]
    have NF := hide (show ¬ (NodeD.mk 6 v1 v2 v3 v4 nv V).Form from fun f => by have h := f.s; have h2 : 1 ≤ v4 ∧ v4 ≤ 1000 := h; omega)
    clear hs
    go_wp2_with fail
    go_region_held3 (fun w' => w'.cell? ⟨w.heap.size, 0, none⟩ = some (.int .i64 6) ∧ w'.cell? ⟨w.heap.size, 3, none⟩ = some (.int .i64 v3) ∧ w'.cell? ⟨w.heap.size, 4, none⟩ = some (.int .i64 v4)) (go_keep)
      (first
        | (go_at_call 121
           with_reducible refine JK.mono ?_
           rintro e w2 ⟨rfl, rfl⟩)
        | (go_at_call 122
           with_reducible refine JS.mono ?_
           rintro e w2 ⟨rfl, rfl⟩))
    go_wp2
    go_ret
    exact ⟨⟨false, rfl, by simp only [Bool.false_eq_true, false_iff]; exact NF.out⟩, SD⟩
  have sq : (v4 != 0) = true := by simp [hs]
  have HS0 := hide hs
  clear hs
  go_wp2_with fail
  go_region_held3 (fun w' => w'.cell? ⟨w.heap.size, 0, none⟩ = some (.int .i64 6) ∧ w'.cell? ⟨w.heap.size, 3, none⟩ = some (.int .i64 v3) ∧ w'.cell? ⟨w.heap.size, 4, none⟩ = some (.int .i64 v4)) (go_keep)
    (first
      | (go_at_call 121
         with_reducible refine JK.mono ?_
         rintro e w2 ⟨rfl, rfl⟩)
      | (go_at_call 122
         with_reducible refine JS.mono ?_
         rintro e w2 ⟨rfl, rfl⟩))
  clear q0 q1 q2 q3 q4 q5 JK JS
  go_wp2_with fail
  refine (l2In_any v3 0 1000 wA.drew).mono ?_
  rintro e w2 ⟨⟨r, rfl, hr⟩, rfl⟩
  cases r
  · have NF := hide (show ¬ (NodeD.mk 6 v1 v2 v3 v4 nv V).Form from fun f => by
      have h := f.k
      have h3 : InP v3 0 1000 := by unfold InP; have h2 : 1 ≤ v3 ∧ v3 ≤ 1000 := h; omega
      have := hr.2 h3
      cases this)
    clear hr
    go_wp2
    go_ret
    exact ⟨⟨false, rfl, by simp only [Bool.false_eq_true, false_iff]; exact NF.out⟩, SD⟩
  have IK := hide (hr.1 rfl)
  clear hr
  go_wp2_with fail
  refine (l2In_any v4 0 1000 wA.drew).mono ?_
  rintro e w2 ⟨⟨r, rfl, hr⟩, rfl⟩
  cases r
  · have NF := hide (show ¬ (NodeD.mk 6 v1 v2 v3 v4 nv V).Form from fun f => by
      have h := f.s
      have h3 : InP v4 0 1000 := by unfold InP; have h2 : 1 ≤ v4 ∧ v4 ≤ 1000 := h; omega
      have := hr.2 h3
      cases this)
    clear hr
    go_wp2
    go_ret
    exact ⟨⟨false, rfl, by simp only [Bool.false_eq_true, false_iff]; exact NF.out⟩, SD⟩
  have IS := hide (hr.1 rfl)
  clear hr
  have JB := l2UsesB_eq 6 false wA.drew (by decide)
  go_wp2_with fail
  refine JB.mono ?_
  rintro e w2 ⟨rfl, rfl⟩
  clear JB
  by_cases hb : v2 = 0
  case neg =>
    have bq : (v2 != 0) = true := by simp [hb]
    have NF := hide (show ¬ (NodeD.mk 6 v1 v2 v3 v4 nv V).Form from fun f => hb (f.b rfl))
    clear hb
    go_wp2
    go_ret
    exact ⟨⟨false, rfl, by simp only [Bool.false_eq_true, false_iff]; exact NF.out⟩, SD⟩
  have bq : (v2 != 0) = false := by simp [hb]
  have HB0 := hide hb
  clear hb
  have JV := l2UsesV_eq 6 true wA.drew (by decide)
  go_wp2_with fail
  refine JV.mono ?_
  rintro e w2 ⟨rfl, rfl⟩
  clear JV
  have JA := l1AllOk_any a1 lo bV oV nv k1 V wA.drew (by omega) (by omega) (LV.keep NN)
  go_wp2_with fail
  refine JA.mono ?_
  rintro e w3 ⟨r, rfl, hr, s3⟩
  have HR := hide hr
  clear hr
  go_wp2
  go_ret
  exact ⟨⟨r, rfl, HR.out.trans ⟨fun h => ⟨(show (1 : Int) ≤ 6 by decide), (show (6 : Int) ≤ 7 by decide), (show 1 ≤ v3 ∧ v3 ≤ 1000 by have h : 0 ≤ v3 ∧ v3 ≤ 1000 := IK.out; have := HK0.out; omega), (show 1 ≤ v4 ∧ v4 ≤ 1000 by have h : 0 ≤ v4 ∧ v4 ≤ 1000 := IS.out; have := HS0.out; omega), fun _ => HB0.out, fun h => (by cases h), fun h => (by cases h), fun h => (by cases h), h⟩, fun f => f.ok⟩⟩, SD.trans (sinceMono s3 SD.size)⟩

set_option maxHeartbeats 6400000 in
set_option maxRecDepth 100000 in
theorem l2FormOk7 (v1 v2 v3 v4 : Int) (nv : Nat) (V : Nat → RatD) (a1 : Option Addr) (lo k1 : Nat) (w : World) (hd : (NodeD.mk 7 v1 v2 v3 v4 nv V).size ≤ 1048576) (H : NodL w lo (NodeD.mk 7 v1 v2 v3 v4 nv V) a1 k1) :
    Calls Tryz.prog 82 #[.agg #[.int .i64 7, .int .i64 v1, .int .i64 v2, .int .i64 v3, .int .i64 v4, .slice a1 nv k1]] w fun e w' => BoolRet e (NodeD.mk 7 v1 v2 v3 v4 nv V).Form ∧ w.Since w.heap.size w' := by
  have ts : nv + szR V nv ≤ 1048576 := hd
  have sA : w.Since w.heap.size (w.alloc (.cells #[.int .i64 7, .int .i64 v1, .int .i64 v2, .int .i64 v3, .int .i64 v4, .slice a1 nv k1] 84)) := (World.Since.refl _ _).alloc (Nat.le_refl _) _
  have nA := Box6.new w (.int .i64 7) (.int .i64 v1) (.int .i64 v2) (.int .i64 v3) (.int .i64 v4) (.slice a1 nv k1) 84
  obtain ⟨bV, oV, -, LV⟩ := (H.keep sA).LV
  go_enter Tryz.func82, Tryz.ntmps82
  go_wp2_with fail
  generalize w.alloc (.cells #[.int .i64 7, .int .i64 v1, .int .i64 v2, .int .i64 v3, .int .i64 v4, .slice a1 nv k1] 84) = wA at *
  refine (l2In_any 7 1 7 wA).mono ?_
  rintro e w1 ⟨⟨r, rfl, hr⟩, hw1⟩
  have hw2 := hw1.symm
  clear hw1
  subst hw2
  cases r
  · exfalso
    have := hr.2 (by unfold InP; omega)
    cases this
  clear hr
  have q0 := nA.c0
  have q1 := nA.c1
  have q2 := nA.c2
  have q3 := nA.c3
  have q4 := nA.c4
  have q5 := nA.c5
  have NN : wA.Since wA.heap.size wA.drew := (World.Since.refl _ _).drew
  have nD := nA.keep NN
  have p0 := nD.c0
  have p1 := nD.c1
  have p2 := nD.c2
  have p3 := nD.c3
  have p4 := nD.c4
  have p5 := nD.c5
  have SD := sA.trans (sinceMono NN sA.size)
  have JK := l2UsesK_eq 7 false wA.drew (by decide)
  have JS := l2UsesS_eq 7 false wA.drew (by decide)
  by_cases hk : v3 = 0
  case neg =>
    have kq : (v3 != 0) = true := by simp [hk]
    have NF := hide (show ¬ (NodeD.mk 7 v1 v2 v3 v4 nv V).Form from fun f => by have h := f.k; have h2 : v3 = 0 := h; omega)
    clear hk
    go_wp2_with fail
    refine wp_region_held_drew (S := fun w' => w'.cell? ⟨w.heap.size, 0, none⟩ = some (.int .i64 7) ∧ w'.cell? ⟨w.heap.size, 3, none⟩ = some (.int .i64 v3)) (by kernel_rfl) ⟨p0, p3⟩ (fun hHeld => ?_)
    refine take_at 0 (some 7) (.pointer (some ⟨w.heap.size, 0, none⟩)) rfl (by kernel_rfl) (by kernel_rfl) (by kernel_rfl) (by kernel_rfl) (fun _ _ _ h => h) (by kernel_rfl) (by assumption) ?_ ?_
    · intro w' hSw
      clear hSw
      kernel_rfl
    simp only [Act.put, List.setIfInBounds_toArray, List.set_cons_zero, List.set_cons_succ]
    refine take_at 1 (some 8) (.int .i64 7) rfl (by kernel_rfl) (by kernel_rfl) (by kernel_rfl) (by kernel_rfl) (fun _ _ _ h => h) (by kernel_rfl) (by assumption) ?_ ?_
    · intro w' hSw
      try dsimp only at hSw
      go_simp
    simp only [Act.put, List.setIfInBounds_toArray, List.set_cons_zero, List.set_cons_succ]
    refine take_at 3 (some 10) (.pointer (some ⟨w.heap.size, 3, none⟩)) rfl (by kernel_rfl) (by kernel_rfl) (by kernel_rfl) (by kernel_rfl) (fun _ _ _ h => h) (by kernel_rfl) (by assumption) ?_ ?_
    · intro w' hSw
      clear hSw
      kernel_rfl
    simp only [Act.put, List.setIfInBounds_toArray, List.set_cons_zero, List.set_cons_succ]
    refine take_at 4 (some 11) (.int .i64 v3) rfl (by kernel_rfl) (by kernel_rfl) (by kernel_rfl) (by kernel_rfl) (fun _ _ _ h => h) (by kernel_rfl) (by assumption) ?_ ?_
    · intro w' hSw
      try dsimp only at hSw
      go_simp
    simp only [Act.put, List.setIfInBounds_toArray, List.set_cons_zero, List.set_cons_succ]
    refine take_at 5 (some 12) (.bool true) rfl (by kernel_rfl) (by kernel_rfl) (by kernel_rfl) (by kernel_rfl) (fun _ _ _ h => h) (by kernel_rfl) (by assumption) ?_ ?_
    · intro w' hSw
      try dsimp only at hSw
      go_simp
    simp only [Act.put, List.setIfInBounds_toArray, List.set_cons_zero, List.set_cons_succ]
    refine wpAnyH_ready (rs := [2]) (by kernel_rfl) (by simp) ?_
    refine AllReadyH.cons rfl (fun K hK => ?_) AllReadyH.nil
    go_simp
    go_wp2_with (go_at_call 121; with_reducible refine JK.mono ?_; rintro e w2 ⟨rfl, rfl⟩)
    refine hK.out _ _ ⟨p0, p3⟩ (fun h1 => ?_)
    clear hK K hHeld
    refine take_at 6 (some 13) (.bool true) rfl (by kernel_rfl) (by kernel_rfl) (by kernel_rfl) (by kernel_rfl) (fun _ _ _ h => h) (by kernel_rfl) (by assumption) ?_ ?_
    · intro w' hSw
      clear hSw
      kernel_rfl
    simp only [Act.put, List.setIfInBounds_toArray, List.set_cons_zero, List.set_cons_succ]
    refine take_at 7 (some 14) (.bool true) rfl (by kernel_rfl) (by kernel_rfl) (by kernel_rfl) (by kernel_rfl) (fun _ _ _ h => h) (by kernel_rfl) (by assumption) ?_ ?_
    · intro w' hSw
      clear hSw
      kernel_rfl
    simp only [Act.put, List.setIfInBounds_toArray, List.set_cons_zero, List.set_cons_succ]
    refine skip_at 8 (some 15) rfl (by kernel_rfl) (by kernel_rfl) (by kernel_rfl) (by kernel_rfl) (fun _ _ _ h => h) (by kernel_rfl) (by assumption) ?_
    simp only [Act.put, List.setIfInBounds_toArray, List.set_cons_zero, List.set_cons_succ]
    refine skip_at 9 (some 16) rfl (by kernel_rfl) (by kernel_rfl) (by kernel_rfl) (by kernel_rfl) (fun _ _ _ h => h) (by kernel_rfl) (by assumption) ?_
    simp only [Act.put, List.setIfInBounds_toArray, List.set_cons_zero, List.set_cons_succ]
    refine skip_at 10 (some 17) rfl (by kernel_rfl) (by kernel_rfl) (by kernel_rfl) (by kernel_rfl) (fun _ _ _ h => h) (by kernel_rfl) (by assumption) ?_
    simp only [Act.put, List.setIfInBounds_toArray, List.set_cons_zero, List.set_cons_succ]
    refine skip_at 11 (some 18) rfl (by kernel_rfl) (by kernel_rfl) (by kernel_rfl) (by kernel_rfl) (fun _ _ _ h => h) (by kernel_rfl) (by assumption) ?_
    simp only [Act.put, List.setIfInBounds_toArray, List.set_cons_zero, List.set_cons_succ]
    refine skip_at 12 (some 19) rfl (by kernel_rfl) (by kernel_rfl) (by kernel_rfl) (by kernel_rfl) (fun _ _ _ h => h) (by kernel_rfl) (by assumption) ?_
    simp only [Act.put, List.setIfInBounds_toArray, List.set_cons_zero, List.set_cons_succ]
    refine skip_at 13 (some 20) rfl (by kernel_rfl) (by kernel_rfl) (by kernel_rfl) (by kernel_rfl) (fun _ _ _ h => h) (by kernel_rfl) (by assumption) ?_
    simp only [Act.put, List.setIfInBounds_toArray, List.set_cons_zero, List.set_cons_succ]
    refine skip_at 14 (some 21) rfl (by kernel_rfl) (by kernel_rfl) (by kernel_rfl) (by kernel_rfl) (fun _ _ _ h => h) (by kernel_rfl) (by assumption) ?_
    simp only [Act.put, List.setIfInBounds_toArray, List.set_cons_zero, List.set_cons_succ]
    refine take_at 15 (some 22) (.bool true) rfl (by kernel_rfl) (by kernel_rfl) (by kernel_rfl) (by kernel_rfl) (fun _ _ _ h => h) (by kernel_rfl) (by assumption) ?_ ?_
    · intro w' hSw
      clear hSw
      kernel_rfl
    simp only [Act.put, List.setIfInBounds_toArray, List.set_cons_zero, List.set_cons_succ]
    refine wpAnyH_done (by kernel_rfl) ?_ _
    go_wp2
    go_ret
    exact ⟨⟨false, rfl, by simp only [Bool.false_eq_true, false_iff]; exact NF.out⟩, SD⟩
  have kq : (v3 != 0) = false := by simp [hk]
  have HK0 := hide hk
  clear hk
  by_cases hs : v4 = 0
  case neg =>
    have sq : (v4 != 0) = true := by simp [hs]
    have NF := hide (show ¬ (NodeD.mk 7 v1 v2 v3 v4 nv V).Form from fun f => by have h := f.s; have h2 : v4 = 0 := h; omega)
    clear hs
    go_wp2_with fail
    go_region_held3 (fun w' => w'.cell? ⟨w.heap.size, 0, none⟩ = some (.int .i64 7) ∧ w'.cell? ⟨w.heap.size, 3, none⟩ = some (.int .i64 v3) ∧ w'.cell? ⟨w.heap.size, 4, none⟩ = some (.int .i64 v4)) (go_keep)
      (first
        | (go_at_call 121
           with_reducible refine JK.mono ?_
           rintro e w2 ⟨rfl, rfl⟩)
        | (go_at_call 122
           with_reducible refine JS.mono ?_
           rintro e w2 ⟨rfl, rfl⟩))
    go_wp2
    go_ret
    exact ⟨⟨false, rfl, by simp only [Bool.false_eq_true, false_iff]; exact NF.out⟩, SD⟩
  have sq : (v4 != 0) = false := by simp [hs]
  have HS0 := hide hs
  clear hs
  go_wp2_with fail
  go_region_held3 (fun w' => w'.cell? ⟨w.heap.size, 0, none⟩ = some (.int .i64 7) ∧ w'.cell? ⟨w.heap.size, 3, none⟩ = some (.int .i64 v3) ∧ w'.cell? ⟨w.heap.size, 4, none⟩ = some (.int .i64 v4)) (go_keep)
    (first
      | (go_at_call 121
         with_reducible refine JK.mono ?_
         rintro e w2 ⟨rfl, rfl⟩)
      | (go_at_call 122
         with_reducible refine JS.mono ?_
         rintro e w2 ⟨rfl, rfl⟩))
  clear q0 q1 q2 q3 q4 q5 JK JS
  go_wp2_with fail
  refine (l2In_any v3 0 1000 wA.drew).mono ?_
  rintro e w2 ⟨⟨r, rfl, hr⟩, rfl⟩
  cases r
  · have NF := hide (show ¬ (NodeD.mk 7 v1 v2 v3 v4 nv V).Form from fun f => by
      have h := f.k
      have h3 : InP v3 0 1000 := by unfold InP; have h2 : v3 = 0 := h; omega
      have := hr.2 h3
      cases this)
    clear hr
    go_wp2
    go_ret
    exact ⟨⟨false, rfl, by simp only [Bool.false_eq_true, false_iff]; exact NF.out⟩, SD⟩
  have IK := hide (hr.1 rfl)
  clear hr
  go_wp2_with fail
  refine (l2In_any v4 0 1000 wA.drew).mono ?_
  rintro e w2 ⟨⟨r, rfl, hr⟩, rfl⟩
  cases r
  · have NF := hide (show ¬ (NodeD.mk 7 v1 v2 v3 v4 nv V).Form from fun f => by
      have h := f.s
      have h3 : InP v4 0 1000 := by unfold InP; have h2 : v4 = 0 := h; omega
      have := hr.2 h3
      cases this)
    clear hr
    go_wp2
    go_ret
    exact ⟨⟨false, rfl, by simp only [Bool.false_eq_true, false_iff]; exact NF.out⟩, SD⟩
  have IS := hide (hr.1 rfl)
  clear hr
  have JB := l2UsesB_eq 7 false wA.drew (by decide)
  go_wp2_with fail
  refine JB.mono ?_
  rintro e w2 ⟨rfl, rfl⟩
  clear JB
  by_cases hb : v2 = 0
  case neg =>
    have bq : (v2 != 0) = true := by simp [hb]
    have NF := hide (show ¬ (NodeD.mk 7 v1 v2 v3 v4 nv V).Form from fun f => hb (f.b rfl))
    clear hb
    go_wp2
    go_ret
    exact ⟨⟨false, rfl, by simp only [Bool.false_eq_true, false_iff]; exact NF.out⟩, SD⟩
  have bq : (v2 != 0) = false := by simp [hb]
  have HB0 := hide hb
  clear hb
  have JV := l2UsesV_eq 7 true wA.drew (by decide)
  go_wp2_with fail
  refine JV.mono ?_
  rintro e w2 ⟨rfl, rfl⟩
  clear JV
  by_cases hv : nv = 4
  case neg =>
    have vq : ((nv : Int) != 4) = true := by simp; omega
    have NF := hide (show ¬ (NodeD.mk 7 v1 v2 v3 v4 nv V).Form from fun f => hv (f.v7 rfl))
    clear hv
    go_wp2
    go_ret
    exact ⟨⟨false, rfl, by simp only [Bool.false_eq_true, false_iff]; exact NF.out⟩, SD⟩
  have vq : ((nv : Int) != 4) = false := by simp; omega
  have HV0 := hide hv
  clear hv
  have JA := l1AllOk_any a1 lo bV oV nv k1 V wA.drew (by omega) (by omega) (LV.keep NN)
  go_wp2_with fail
  refine JA.mono ?_
  rintro e w3 ⟨r, rfl, hr, s3⟩
  have HR := hide hr
  clear hr
  go_wp2
  go_ret
  exact ⟨⟨r, rfl, HR.out.trans ⟨fun h => ⟨(show (1 : Int) ≤ 7 by decide), (show (7 : Int) ≤ 7 by decide), HK0.out, HS0.out, fun _ => HB0.out, fun h => (by cases h), fun h => (by cases h), fun _ => HV0.out, h⟩, fun f => f.ok⟩⟩, SD.trans (sinceMono s3 SD.size)⟩

end Go.Proofs.YtkhpggnnpfckdaaGreatDoor

namespace Go.Proofs.YtkhpggnnpfckdaaGreatDoor
open Go.RowKit

set_option maxHeartbeats 1600000 in
set_option maxRecDepth 100000 in
theorem l2FormOk_no (d : NodeD) (a1 : Option Addr) (k1 : Nat) (w : World) (h : d.op < 1 ∨ 7 < d.op) :
    Calls Tryz.prog 82 #[.agg #[.int .i64 d.op, .int .i64 d.a, .int .i64 d.b, .int .i64 d.k, .int .i64 d.s, .slice a1 d.nv k1]] w fun e w' => BoolRet e d.Form ∧ w.Since w.heap.size w' := by
  have sA : w.Since w.heap.size (w.alloc (.cells #[.int .i64 d.op, .int .i64 d.a, .int .i64 d.b, .int .i64 d.k, .int .i64 d.s, .slice a1 d.nv k1] 84)) := (World.Since.refl _ _).alloc (Nat.le_refl _) _
  have NF := hide (show ¬ d.Form from fun f => by have := f.o1; have := f.o7; omega)
  have NI := hide (show ¬ InP d.op 1 7 by unfold InP; omega)
  clear h
  go_enter Tryz.func82, Tryz.ntmps82
  go_wp2_with fail
  generalize w.alloc (.cells #[.int .i64 d.op, .int .i64 d.a, .int .i64 d.b, .int .i64 d.k, .int .i64 d.s, .slice a1 d.nv k1] 84) = wA at *
  refine (l2In_any d.op 1 7 wA).mono ?_
  rintro e w1 ⟨⟨r, rfl, hr⟩, hw1⟩
  have hw2 := hw1.symm
  clear hw1
  subst hw2
  cases r
  · clear hr
    go_wp2
    go_ret
    exact ⟨⟨false, rfl, by simp only [Bool.false_eq_true, false_iff]; exact NF.out⟩, sA⟩
  · exact absurd (hr.1 rfl) NI.out

/-- spec.l2FormOk. -/
theorem l2FormOk_any (d : NodeD) (a1 : Option Addr) (lo k1 : Nat) (w : World) (hd : d.size ≤ 1048576) (H : NodL w lo d a1 k1) :
    Calls Tryz.prog 82 #[.agg #[.int .i64 d.op, .int .i64 d.a, .int .i64 d.b, .int .i64 d.k, .int .i64 d.s, .slice a1 d.nv k1]] w fun e w' => BoolRet e d.Form ∧ w.Since w.heap.size w' := by
  by_cases h : d.op < 1 ∨ 7 < d.op
  · exact l2FormOk_no d a1 k1 w h
  have hc : d.op = 1 ∨ d.op = 2 ∨ d.op = 3 ∨ d.op = 4 ∨ d.op = 5 ∨ d.op = 6 ∨ d.op = 7 := by omega
  clear h
  obtain ⟨op, a, b, k, s, nv, V⟩ := d
  dsimp only at hc
  rcases hc with rfl | rfl | rfl | rfl | rfl | rfl | rfl
  · exact l2FormOk1 a b k s nv V a1 lo k1 w hd H
  · exact l2FormOk2 a b k s nv V a1 lo k1 w hd H
  · exact l2FormOk3 a b k s nv V a1 lo k1 w hd H
  · exact l2FormOk4 a b k s nv V a1 lo k1 w hd H
  · exact l2FormOk5 a b k s nv V a1 lo k1 w hd H
  · exact l2FormOk6 a b k s nv V a1 lo k1 w hd H
  · exact l2FormOk7 a b k s nv V a1 lo k1 w hd H

end Go.Proofs.YtkhpggnnpfckdaaGreatDoor
