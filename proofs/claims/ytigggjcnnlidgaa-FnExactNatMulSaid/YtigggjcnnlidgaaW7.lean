import Derived.Test.YtigggjcnnlidgaaW5
import Derived.Test.YtigggjcnnlidgaaW6
namespace Go.Proofs.Ytigggjcnnlidgaa
open Go.RowKit

/-- What a function that hands back a new natural leaves: a plain list of limbs of the value N, on memory that is new since w. -/
def NatOut (w w' : World) (v : Value) (N M : Nat) : Prop :=
  ∃ a g m cap Y, v = .slice a m cap ∧ m ≤ cap ∧ m ≤ M ∧ Limbs w' a g 0 m Y ∧ w.heap.size ≤ g ∧ (0 < m → ∀ o, w'.frozen? ⟨g, o, none⟩ = false) ∧
      (∀ j, j < m → Y j < 4294967296) ∧ (0 < m → Y (m - 1) ≠ 0) ∧ lv Y m = N

theorem natOut_mk {w w' : World} {a : Option Addr} {g m cap N M : Nat} {Y : Nat → Nat} (hs : w.heap.size ≤ w'.heap.size) (h1 : m ≤ cap) (h2 : m ≤ M) (h3 : Limbs w' a g 0 m Y) (h4 : 0 < m → w.heap.size ≤ g)
    (h5 : 0 < m → ∀ o, w'.frozen? ⟨g, o, none⟩ = false) (h6 : ∀ j, j < m → Y j < 4294967296) (h7 : 0 < m → Y (m - 1) ≠ 0) (h8 : lv Y m = N) : NatOut w w' (.slice a m cap) N M := by
  by_cases h0 : 0 < m
  · exact ⟨a, g, m, cap, Y, rfl, h1, h2, h3, h4 h0, h5, h6, h7, h8⟩
  · exact ⟨a, w'.heap.size, m, cap, Y, rfl, h1, h2, fun j hj => absurd hj (by omega), hs, fun h => absurd h h0, h6, h7, h8⟩

set_option maxHeartbeats 1600000 in
set_option maxRecDepth 100000 in
theorem specNatMul_any (a a' : Option Addr) (b off n cap b' off' m cap' : Nat) (X Y : Nat → Nat) (w : World) (hn : n ≤ 1048576) (hm : m ≤ 1048576) (hX : Limbs w a b off n X) (hY : Limbs w a' b' off' m Y)
    (hXl : ∀ j, j < n → X j < 4294967296) (hYl : ∀ j, j < m → Y j < 4294967296) :
    Calls Try.prog 5 #[.slice a n cap, .slice a' m cap'] w fun e w' => ∃ v, e = .returned v ∧ NatOut w w' v (lv X n * lv Y m) (n + m + 1) ∧ w.Since w.heap.size w' := by
  go_enter Try.func5, Try.ntmps5
  go_wp2_with fail
  refine (l1Bits_any a b off n cap X _ (by omega) hX hXl).mono ?_
  rintro e w1 ⟨a1, g1, m1, cap1, B1, rfl, hc1, hm1, hB1, hg1, ht1, hv1, hs1⟩
  have HV1 : Hid (bv B1 m1 = lv X n) := hv1
  clear hv1 ht1
  go_wp2_with fail
  refine (l1Bits_any a' b' off' m cap' Y _ (by omega) (hY.keep hs1) hYl).mono ?_
  rintro e w2 ⟨a2, g2, m2, cap2, B2, rfl, hc2, hm2, hB2, hg2, ht2, hv2, hs2⟩
  have HV2 : Hid (bv B2 m2 = lv Y m) := hv2
  clear hv2 ht2
  go_wp2_with fail
  refine (l1MulBits_any a1 a2 g1 0 m1 cap1 g2 0 m2 cap2 B1 B2 _ (by omega) (by omega) (hB1.keep hs2) hB2).mono ?_
  rintro e w3 ⟨g3, t3, cap3, O, rfl, hc3, ht3, hO, hg3, htop, hv3, hs3⟩
  have HV3 : Hid (bv O t3 = bv B1 m1 * bv B2 m2) := hv3
  clear hv3 htop
  go_wp2_with fail
  refine (l1Limbs_any _ g3 0 t3 cap3 O _ (by omega) hc3 hO).mono ?_
  rintro e w4 ⟨a4, g4, m4, cap4, Z, rfl, hc4, hm4, hZ, hg4, hf4, hZl, hp4, hv4, hs4⟩
  have hs : w.Since w.heap.size w4 := ((hs1.trans (sinceMono hs2 hs1.size)).trans (sinceMono hs3 (by have := hs1.size; have := hs2.size; omega))).trans (sinceMono hs4 (by have := hs1.size; have := hs2.size; have := hs3.size; omega))
  have HV4 : Hid (lv Z m4 = lv X n * lv Y m) := by rw [hv4, HV3.out, HV1.out, HV2.out]; rfl
  have hgg : 0 < m4 → w.heap.size ≤ g4 := fun h => by have := hg4 h; have := hs1.size; have := hs2.size; have := hs3.size; omega
  clear hv4
  go_wp2
  go_ret
  exact ⟨_, rfl, natOut_mk hs.size hc4 (by omega) hZ hgg hf4 (fun j _ => hZl j) hp4 HV4.out, hs⟩

end Go.Proofs.Ytigggjcnnlidgaa
