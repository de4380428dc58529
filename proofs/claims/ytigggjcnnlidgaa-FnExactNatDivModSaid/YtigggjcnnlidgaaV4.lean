import Derived.Test.YtigggjcnnlidgaaV3
import Derived.Test.YtigggjcnnlidgaaW7
namespace Go.Proofs.Ytigggjcnnlidgaa
open Go.RowKit

theorem bv_nought {B : Nat → Bool} {m : Nat} (ht : 0 < m → B (m - 1) = true) (h : bv B m = 0) : m = 0 := by
  by_cases e : m = 0
  · exact e
  · have := bv_ge B m (by omega) (ht (by omega))
    have := Nat.pow_pos (n := m - 1) (show 0 < 2 by omega)
    omega

set_option maxHeartbeats 1600000 in
set_option maxRecDepth 100000 in
theorem specNatDivMod_zero (a a' : Option Addr) (n cap b' off' m cap' : Nat) (Y : Nat → Nat) (w : World) (hm : m ≤ 1048576) (hY : Limbs w a' b' off' m Y)
    (hYl : ∀ j, j < m → Y j < 4294967296) (h0 : lv Y m = 0) :
    Calls Try.prog 11 #[.slice a n cap, .slice a' m cap'] w fun e w' => ∃ v1 v2, e = .returned (.tuple #[v1, v2, .bool false]) ∧ NatOut w w' v1 0 (n + m + 1) ∧ NatOut w w' v2 0 (n + m + 1) ∧ w.Since w.heap.size w' := by
  have H0 := hide h0
  clear h0
  go_enter Try.func11, Try.ntmps11
  go_wp2_with fail
  refine (l1Bits_any a' b' off' m cap' Y _ (by omega) hY hYl).mono ?_
  rintro e w1 ⟨a1, g1, m1, cap1, B1, rfl, hc1, hm1, hB1, hg1, ht1, hv1, hs1⟩
  have e0 : m1 = 0 := bv_nought ht1 (hv1.trans H0.out)
  subst e0
  clear hv1 ht1 hB1
  go_wp2
  go_ret3
  have S : w.Since w.heap.size ((w1.alloc (.cells #[] 33)).alloc (.cells #[] 33)) := (hs1.alloc hs1.size _).alloc (by have := hs1.size; simp; omega) _
  refine ⟨_, _, rfl, natOut_mk (g := 0) (Y := fun _ => 0) S.size (Nat.le_refl _) (by omega) (fun j hj => absurd hj (by omega)) (fun h => absurd h (by omega)) (fun h => absurd h (by omega)) (fun j hj => absurd hj (by omega)) (fun h => absurd h (by omega)) rfl,
    natOut_mk (g := 0) (Y := fun _ => 0) S.size (Nat.le_refl _) (by omega) (fun j hj => absurd hj (by omega)) (fun h => absurd h (by omega)) (fun h => absurd h (by omega)) (fun j hj => absurd hj (by omega)) (fun h => absurd h (by omega)) rfl, S⟩

set_option maxHeartbeats 1600000 in
set_option maxRecDepth 100000 in
theorem specNatDivMod_any (a a' : Option Addr) (b off n cap b' off' m cap' : Nat) (X Y : Nat → Nat) (w : World) (hn : n ≤ 1048576) (hm : m ≤ 1048576) (hX : Limbs w a b off n X) (hY : Limbs w a' b' off' m Y)
    (hXl : ∀ j, j < n → X j < 4294967296) (hYl : ∀ j, j < m → Y j < 4294967296) (h0 : 0 < lv Y m) :
    Calls Try.prog 11 #[.slice a n cap, .slice a' m cap'] w fun e w' => ∃ v1 v2, e = .returned (.tuple #[v1, v2, .bool true]) ∧ NatOut w w' v1 (lv X n / lv Y m) (n + m + 1) ∧ NatOut w w' v2 (lv X n % lv Y m) (n + m + 1) ∧ w.Since w.heap.size w' := by
  have H0 := hide h0
  clear h0
  go_enter Try.func11, Try.ntmps11
  go_wp2_with fail
  refine (l1Bits_any a' b' off' m cap' Y _ (by omega) hY hYl).mono ?_
  rintro e w1 ⟨a1, g1, m1, cap1, B1, rfl, hc1, hm1, hB1, hg1, ht1, hv1, hs1⟩
  have HV1 := hide hv1
  have HT1 := hide ht1
  have hpos : 0 < m1 := by
    by_cases e : m1 = 0
    · subst e; rw [show bv B1 0 = 0 from rfl] at hv1; have := H0.out; omega
    · omega
  have hm10 : ((m1 : Int) == 0) = false := by simp; omega
  clear hv1 ht1
  go_wp2_with fail
  refine (l1Bits_any a b off n cap X _ (by omega) (hX.keep hs1) hXl).mono ?_
  rintro e w2 ⟨a2, g2, m2, cap2, B2, rfl, hc2, hm2, hB2, hg2, ht2, hv2, hs2⟩
  have HV2 := hide hv2
  clear hv2 ht2
  have hB1 := hB1.keep hs2
  have S2 : w.Since w.heap.size w2 := hs1.trans (sinceMono hs2 hs1.size)
  clear hs1 hs2
  go_wp2_with fail
  refine (l1DivBits_any a2 a1 g2 0 m2 cap2 g1 0 m1 cap1 B2 B1 _ (by omega) (by omega) hB2 hB1 HT1.out (by rw [HV1.out]; exact H0.out)).mono ?_
  rintro e w3 ⟨gq, tq, cq, Q, gr, tr, cr, R, rfl, k1, k2, k3, k4, hQ, hR, hgq, hgr, tQ, tR, vQ, vR, hs3⟩
  have HQ : Hid (bv Q tq = lv X n / lv Y m) := by rw [vQ, HV1.out, HV2.out]; exact rfl
  have HR : Hid (bv R tr = lv X n % lv Y m) := by rw [vR, HV1.out, HV2.out]; exact rfl
  have S3 : w.Since w.heap.size w3 := S2.trans (sinceMono hs3 S2.size)
  have z2 := S2.size
  clear vQ vR tQ tR hB1 hB2 hs3 S2
  go_wp2_with fail
  refine (l1Limbs_any _ gq 0 tq cq Q _ (by omega) k1 hQ).mono ?_
  rintro e w4 ⟨a4, g4, m4, cap4, Z, rfl, hc4, hm4, hZ, hg4, hf4, hZl, hp4, hv4, hs4⟩
  have HZ := hide (hv4.trans HQ.out)
  have Hp4 := hide hp4
  have hR := hR.keep hs4
  have S4 : w.Since w.heap.size w4 := S3.trans (sinceMono hs4 S3.size)
  have z3 := S3.size
  clear hv4 hp4 hs4 S3
  go_wp2_with fail
  refine (l1Limbs_any _ gr 0 tr cr R _ (by omega) k3 hR).mono ?_
  rintro e w5 ⟨a5, g5, m5, cap5, U, rfl, hc5, hm5, hU, hg5, hf5, hUl, hp5, hv5, hs5⟩
  have HU := hide (hv5.trans HR.out)
  have Hp5 := hide hp5
  have S5 : w.Since w.heap.size w5 := S4.trans (sinceMono hs5 S4.size)
  have z4 := S4.size
  have hZ' := hZ.keep hs5
  have hf4' : 0 < m4 → ∀ o, w5.frozen? ⟨g4, o, none⟩ = false := fun h o => by rw [hs5.frozen (a := ⟨g4, o, none⟩) (hZ.lt h)]; exact hf4 h o
  clear hv5 hp5 hs5 S4
  go_wp2
  go_ret3
  exact ⟨_, _, rfl, natOut_mk S5.size hc4 (by omega) hZ' (fun h => by have := hg4 h; omega) hf4' (fun j _ => hZl j) Hp4.out HZ.out, natOut_mk S5.size hc5 (by omega) hU (fun h => by have := hg5 h; omega) hf5 (fun j _ => hUl j) Hp5.out HU.out, S5⟩

end Go.Proofs.Ytigggjcnnlidgaa
