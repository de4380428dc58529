import Derived.Test.YtnogbaapcjjngaaGreatDoorOwnP20
import Derived.Test.YtnogbaapcjjngaaGreatDoorOwnP19
set_option maxHeartbeats 6400000
set_option maxRecDepth 100000
namespace Go.Proofs.YtnogbaapcjjngaaGreatDoor
open Go.RowKit
theorem yv0 (a : Option Addr) (lo b off n cap : Nat) (A : Nat -> AffD) (w : World) (hn : n <= 16777216) (hs : szA A n <= 16777216) (H : Affs w lo a b off n A) :
 Calls Tryz.prog 22 #[.agg #[.slice a n cap]] w fun e w' => ∃ r : Bool, e = .returned (.bool r) /\ (r = true ↔ NetP n A) /\ w.Since w.heap.size w' := by
 have sA := sal w (.cells #[.slice a n cap] 24); have bA := Box1.new w (.slice a n cap) 24
 by_cases h : (1 : Int) <= n /\ (n : Int) <= 10000
 rotate_left
 . have HN := hide (show ¬ NetP n A from fun p => by have := p.n0; have := p.n1; omega)
   go_enter Tryz.func22, Tryz.ntmps22; go_wp2_with fail; refine (l2In_no n 1 10000 _ h).mono ?_; rintro e w1 ⟨rfl, rfl⟩; clear h; go_wp2; go_ret; exact ⟨false, rfl, ⟨(fun h => by cases h), fun h => absurd h HN.out⟩, sA⟩
 obtain ⟨h0, h1⟩ := h; go_enter Tryz.func22, Tryz.ntmps22; go_wp2_with fail; refine (yz6 n 1 10000 _ h0 h1).mono ?_; rintro e w1 ⟨rfl, rfl⟩; generalize w.alloc (.cells #[.slice a n cap] 24) = wA at *; go_wp2
 go_loopw [3, 4] (fun q i wr => ∃ k : Nat, k <= n /\ i = .int .i64 k /\ q = .int .i64 (sumC A k) /\ wA.Since wA.heap.size wr /\ (∀ j, j < k -> (A j).shape /\ (A j).vals) /\ (∀ j, j < k -> 0 < j -> (A j).cols = (A (j - 1)).rows)) (fun _ i _ => n - (intOf i).toNat)
 case atStart => exact ⟨0, Nat.zero_le _, rfl, rfl, World.Since.refl _ _, fun i hi => absurd hi (by omega), fun i hi => absurd hi (by omega)⟩
 case round =>
  obtain ⟨k, hk, rfl, rfl, s, O, C⟩ := hrel; have B1 := bA.keep s; have b0 := B1.c0; have S1 := sA.trans (sM s sA.size)
  by_cases hlt : k < n
  . obtain ⟨rfl, a1, a2, k1, k2, M⟩ := H k hlt
    have M' := M.keep S1; have g0 := M'.c0; have g1 := M'.c1; have g2 := M'.c2; have g3 := M'.c3; have hz : (k : Int) < (n : Int) := by omega
    have hsz := szA_at (A := A) hlt; go_wp2_with fail; refine (l3MapOk_any (A k) a1 a2 lo k1 k2 wr (by omega) M'.L).mono ?_; rintro e w2 ⟨r1, rfl, i1, s2⟩; have I1 := hide i1; clear i1 g0 g1 g2 g3 b0; have S2 := S1.trans (sM s2 S1.size); cases r1
    . go_wp2
      go_ret; exact ⟨false, rfl, ⟨(fun h => by cases h), fun p => absurd (I1.out.2 ⟨p.shape k hlt, p.cells hlt, p.vals k hlt⟩) (by simp)⟩, S2⟩
    have hq := hide (I1.out.1 (by simp)); have hb := hq.out.1.1.bounds; have sb := sumC_bound (A := A) (k := k) (fun j hj => (O j hj).1); have M2 := M.keep S2; have g0 := M2.c0; have g1 := M2.c1; have g2 := M2.c2; have g3 := M2.c3; have b0 := (B1.keep s2).c0; clear I1
    rcases Nat.eq_zero_or_pos k with h00 | hpos
    . subst h00
      simp only [Nat.zero_mul, Nat.add_zero] at g0 g1 g2 g3
      have OO : ∀ j, j < 0 + 1 -> (A j).shape /\ (A j).vals := fun j hj => by
       obtain rfl : j = 0 := by omega
       exact ⟨hq.out.1, hq.out.2.2⟩
      have CC : ∀ j, j < 0 + 1 -> 0 < j -> (A j).cols = (A (j - 1)).rows := fun j hj h => by omega
      have HO := hide (And.intro OO CC); clear OO CC O C; have sd : ∀ q w', (w2.drewN q).Since (w2.drewN q).heap.size w' -> wA.Since wA.heap.size w' := fun q w' s3 => (s.trans (sM s2 s.size)).trans (((Same.refl w2).drewN q |>.since _).trans (sM s3 (Nat.le_trans s.size s2.size)))
      go_wp2_with fail
      go_quiet (fail)
      go_wp2_with fail; refine (l3Cells_any (A 0) _ _ _ hq.out.1.1).mono ?_; rintro e w3 ⟨rfl, s3⟩; have s4 := sd _ _ s3; clear sd s3; go_wp2; go_roundw
      case rel => exact ⟨0 + 1, by omega, rfl, rfl, s4, HO.out.1, HO.out.2⟩
      case measure => simp [intOf]; omega
    . obtain ⟨-, a1', a2', k1', k2', M0⟩ := H (k - 1) (by omega)
      have M0' := M0.keep S2; have e0 := M0'.c0; have hg : (0 : Int) < k := by omega
      have hk1 : (k : Int) - 1 = ((k - 1 : Nat) : Int) := by omega
      by_cases hch : (A k).cols = (A (k - 1)).rows
      . have HC := hide hch
        have q : ((A k).cols != (A (k - 1)).rows) = false := by simpa using hch
        clear hch
        have OO : ∀ j, j < k + 1 -> (A j).shape /\ (A j).vals := fun j hj => by
         by_cases e : j = k
         . subst e; exact ⟨hq.out.1, hq.out.2.2⟩
         . exact O j (by omega)
        have CC : ∀ j, j < k + 1 -> 0 < j -> (A j).cols = (A (j - 1)).rows := fun j hj h => by
         by_cases e : j = k
         . subst e; exact HC.out
         . exact C j (by omega) h
        have HO := hide (And.intro OO CC); clear OO CC O C; have sd : ∀ q w', (w2.drewN q).Since (w2.drewN q).heap.size w' -> wA.Since wA.heap.size w' := fun q w' s3 => (s.trans (sM s2 s.size)).trans (((Same.refl w2).drewN q |>.since _).trans (sM s3 (Nat.le_trans s.size s2.size)))
        go_wp2_with fail
        go_quiet (fail)
        go_wp2_with fail; refine (l3Cells_any (A k) _ _ _ hq.out.1.1).mono ?_; rintro e w3 ⟨rfl, s3⟩; have s4 := sd _ _ s3; clear sd s3; go_wp2; go_roundw
        case rel => exact ⟨k + 1, by omega, by go_num, rfl, s4, HO.out.1, HO.out.2⟩
        case measure => simp [intOf]; omega
      . have HC := hide hch
        have q : ((A k).cols != (A (k - 1)).rows) = true := by simpa using hch
        clear hch; have sd : ∀ q, w.Since w.heap.size (w2.drewN q) := fun q => S2.trans ((Same.refl w2).drewN q |>.since _)
        go_wp2_with fail
        go_quiet (fail)
        go_wp2; go_ret; exact ⟨false, rfl, ⟨(fun h => by cases h), fun p => absurd (p.chain k hlt hpos) HC.out⟩, sd _⟩
  . have e : k = n := by omega
    subst e; have HO := hide (And.intro O C); clear O C
    by_cases hq : sumC A k <= 20000
    . have HQ := hide hq
      go_wp2; go_ret; exact ⟨true, by simp, ⟨fun _ => ⟨by omega, by omega, fun j hj => (HO.out.1 j hj).1, HO.out.2, HQ.out, fun j hj => (HO.out.1 j hj).2⟩, fun _ => rfl⟩, S1⟩
    . have HQ := hide hq
      go_wp2; go_ret; exact Or.inl ⟨by simp, fun p => absurd p.sum (by have := HQ.out; omega), S1⟩
end Go.Proofs.YtnogbaapcjjngaaGreatDoor
