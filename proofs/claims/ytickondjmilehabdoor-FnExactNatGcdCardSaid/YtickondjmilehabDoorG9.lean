import Derived.Test.YtickondjmilehabDoorW1
import Derived.Test.YtickondjmilehabDoorW2
import Derived.Test.YtickondjmilehabDoorW6
import Derived.Test.YtickondjmilehabDoorW7
import Derived.Test.YtickondjmilehabDoorG1
import Derived.Test.YtickondjmilehabDoorG8
namespace Go.Proofs.YtickondjmilehabDoor
open Go.RowKit

theorem Tab.keep {w w' : World} (h : Tab w) (hw : 1 < w.heap.size) (s : w.Since w.heap.size w') : Tab w' := fun q hq => by rw [s.cell (a := ⟨1, q, none⟩) hw]; exact h q hq

set_option maxHeartbeats 3200000 in
set_option maxRecDepth 100000 in
theorem implNatGcd_any (a a' : Option Addr) (b off n cap b' off' m cap' : Nat) (X Y : Nat → Nat) (w : World) (hw : 1 < w.heap.size) (hn : n ≤ 1048576) (hm : m ≤ 1048576) (hnc : n ≤ cap) (hmc : m ≤ cap') (hac : a = none → cap = 0) (hbc : a' = none → cap' = 0)
    (hX : Limbs w a b off n X) (hY : Limbs w a' b' off' m Y) (hXl : ∀ j, j < n → X j < 4294967296) (hYl : ∀ j, j < m → Y j < 4294967296) (hT : Tab w) :
    Calls Tryd.prog 13 #[.slice a n cap, .slice a' m cap'] w fun e w' => ∃ v, e = .returned v ∧ NatOut w w' v (Nat.gcd (lv X n) (lv Y m)) 4194304 ∧ w.Since w.heap.size w' := by
  have tX := tlen_le (nz X) n
  have tY := tlen_le (nz Y) m
  go_enter Tryd.func13, Tryd.ntmps13
  go_wp2_with fail
  refine (readOnly_any a b off n cap X _ (by omega) hnc hX).mono ?_
  rintro e w1 ⟨rfl, s1⟩
  go_wp2_with fail
  refine (readOnly_any a' b' off' m cap' Y _ (by omega) hmc (hY.keep s1)).mono ?_
  rintro e w2 ⟨rfl, s2⟩
  have S2 : w.Since w.heap.size w2 := s1.trans (sinceMono s2 s1.size)
  clear s1 s2
  have z2 := S2.size
  go_wp2_with fail
  refine (gcdOf_any a a' b off _ cap b' off' _ cap' X Y _ (by omega) (by omega) (by omega) (by omega) (by omega) hac hbc ((hX.keep S2).take tX) ((hY.keep S2).take tY) (fun j hj => hXl j (by omega)) (fun j hj => hYl j (by omega))
    (fun h => by have := tlen_top (nz X) n h; simpa [nz] using this) (fun h => by have := tlen_top (nz Y) m h; simpa [nz] using this) (hT.keep hw S2)).mono ?_
  rintro e w3 ⟨v, g, rfl, ⟨a3, k, c3, Z, rfl, k1, k2, k3, L, F, l, p, e3⟩, hg, s3⟩
  rw [lv_tlen, lv_tlen] at e3
  have E := hide (And.intro l (And.intro p e3))
  clear l p e3
  go_wp2_with fail
  go_ret
  exact ⟨_, rfl, ⟨a3, g, k, c3, Z, rfl, k1, k2, L, by omega, F, E.out.1, E.out.2.1, E.out.2.2⟩, S2.trans (sinceMono s3 z2)⟩

set_option maxHeartbeats 3200000 in
set_option maxRecDepth 100000 in
theorem specNatGcd_any (a a' : Option Addr) (b off n cap b' off' m cap' : Nat) (X Y : Nat → Nat) (w : World) (hn : n ≤ 1048576) (hm : m ≤ 1048576) (hX : Limbs w a b off n X) (hY : Limbs w a' b' off' m Y)
    (hXl : ∀ j, j < n → X j < 4294967296) (hYl : ∀ j, j < m → Y j < 4294967296) :
    Calls Tryd.prog 11 #[.slice a n cap, .slice a' m cap'] w fun e w' => ∃ v, e = .returned v ∧ NatOut w w' v (Nat.gcd (lv X n) (lv Y m)) 4194304 ∧ w.Since w.heap.size w' := by
  go_enter Tryd.func11, Tryd.ntmps11
  go_wp2_with fail
  refine (l1Bits_any a b off n cap X _ (by omega) hX hXl).mono ?_
  rintro e w1 ⟨a1, g1, m1, c1, B1, rfl, k1, k2, L1, -, p1, e1, s1⟩
  have T1 : Tr w1 (.slice a1 m1 c1) m1 B1 := ⟨a1, g1, 0, c1, rfl, k1, L1, p1⟩
  clear L1 p1
  go_wp2_with fail
  refine (l1Bits_any a' b' off' m cap' Y _ (by omega) (hY.keep s1) hYl).mono ?_
  rintro e w2 ⟨a2, g2, m2, c2, B2, rfl, q1, q2, L2, -, p2, e2, s2⟩
  have T2 : Tr w2 (.slice a2 m2 c2) m2 B2 := ⟨a2, g2, 0, c2, rfl, q1, L2, p2⟩
  clear L2 p2
  have T1 := T1.keep s2
  have S2 : w.Since w.heap.size w2 := s1.trans (sinceMono s2 s1.size)
  have z2 := S2.size
  clear s1 s2
  have E12 := hide (And.intro e1 e2)
  clear e1 e2 hXl hYl
  go_wp2_with fail
  refine (l1GcdBits_any _ _ m1 m2 B1 B2 _ (by omega) (by omega) T1 T2).mono ?_
  rintro e w3 ⟨v, t, O, rfl, ht, ⟨a3, b3, o3, c3, rfl, r1, L3, -⟩, e3, s3⟩
  have S3 : w.Since w.heap.size w3 := S2.trans (sinceMono s3 z2)
  have z3 := S3.size
  have E3 := hide e3
  clear e3 s3 S2 T1 T2
  go_wp2_with fail
  refine (l1Limbs_any a3 b3 o3 t c3 O _ (by omega) r1 L3).mono ?_
  rintro e w4 ⟨a4, g4, m4, c4, Z, rfl, u1, u2, L4, u3, F4, l4, p4, e4, s4⟩
  have E := hide (And.intro l4 (And.intro p4 e4))
  clear l4 p4 e4
  have z4 := s4.size
  go_wp2_with fail
  go_ret
  exact ⟨_, rfl, natOut_mk (by omega) u1 (by omega) L4 (fun h => by have := u3 h; omega) F4 (fun j _ => E.out.1 j) E.out.2.1 (by rw [E.out.2.2, E3.out, E12.out.1, E12.out.2]), S3.trans (sinceMono s4 z3)⟩

set_option maxHeartbeats 3200000 in
set_option maxRecDepth 100000 in
theorem natGcd_long (a a' : Option Addr) (n cap m cap' : Nat) (w : World) (hn : n ≤ 9223372036854775807) (hm : m ≤ 9223372036854775807) (h : 1048576 < n ∨ 1048576 < m) :
    Calls Tryd.prog 3 #[.slice a n cap, .slice a' m cap'] w fun e w' => e = .returned (.bool true) ∧ w.Since w.heap.size w' := by
  by_cases h1 : 1048576 < n
  · go_enter Tryd.func3, Tryd.ntmps3
    go_wp2
    go_ret
    exact ⟨rfl, World.Since.refl _ _⟩
  · have h2 : 1048576 < m := by omega
    go_enter Tryd.func3, Tryd.ntmps3
    go_wp2
    go_ret
    exact ⟨rfl, World.Since.refl _ _⟩

end Go.Proofs.YtickondjmilehabDoor
