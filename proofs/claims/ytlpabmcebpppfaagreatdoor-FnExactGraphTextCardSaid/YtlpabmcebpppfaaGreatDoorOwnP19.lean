import Derived.Test.YtlpabmcebpppfaaGreatDoorOwnP18
import Derived.Laws.ResultCell
import Derived.Test.YtlpabmcebpppfaaGreatDoorOwnP3
import Derived.Test.YtlpabmcebpppfaaGreatDoorOwnP4
import Derived.Test.YtlpabmcebpppfaaGreatDoorOwnP16
import Derived.Laws.AppendOwnNone
namespace Go.Proofs.YtlpabmcebpppfaaGreatDoor
open Go.RowKit

end Go.Proofs.YtlpabmcebpppfaaGreatDoor

namespace Go.Proofs.YtlpabmcebpppfaaGreatDoor
open Go.RowKit

set_option maxHeartbeats 1600000 in
set_option maxRecDepth 100000 in
/-- l1Copy of a Rat whose lists are not nil. -/
theorem l1Copy_any (f : Bool) (x y : Addr) (ba oa n ca bb ob m cb : Nat) (X Y : Nat → Nat) (w : World) (hn : n ≤ 16777216) (hm : m ≤ 16777216) (_hnc : n ≤ ca) (_hmc : m ≤ cb) (hX : Limbs w (some x) ba oa n X) (hY : Limbs w (some y) bb ob m Y) :
    Calls Tryz.prog 152 #[.agg #[.bool f, .slice (some x) n ca, .slice (some y) m cb]] w fun e w' => ∃ a1 a2 g h c1 c2, e = .returned (.agg #[.bool f, .slice a1 n c1, .slice a2 m c2]) ∧ n ≤ c1 ∧ m ≤ c2 ∧ (a1 = none → c1 = 0) ∧ (a2 = none → c2 = 0) ∧
      Limbs w' a1 g 0 n X ∧ Limbs w' a2 h 0 m Y ∧ (0 < n → ∀ o, w'.frozen? ⟨g, o, none⟩ = false) ∧ (0 < m → ∀ o, w'.frozen? ⟨h, o, none⟩ = false) ∧ w.heap.size ≤ g ∧ g < h ∧ h < w'.heap.size ∧ w.Since w.heap.size w' := by
  obtain ⟨i0, hi, hz0, hz1, hz2⟩ := info_parts Tryz.info108
  have sA : w.Since w.heap.size ((w.alloc (.cells #[.bool f, .slice (some x) n ca, .slice (some y) m cb] 53)).alloc (.cells #[.bool false, .slice none 0 0, .slice none 0 0] 53)) := ((World.Since.refl _ _).alloc (Nat.le_refl _) _).alloc (by simp) _
  have oA : Box3 ((w.alloc (.cells #[.bool f, .slice (some x) n ca, .slice (some y) m cb] 53)).alloc (.cells #[.bool false, .slice none 0 0, .slice none 0 0] 53)) w.heap.size (.bool f) (.slice (some x) n ca) (.slice (some y) m cb) := (Box3.new w _ _ _ _).keep ((World.Since.refl _ _).alloc (Nat.le_refl _) _)
  have tB : ((w.alloc (.cells #[.bool f, .slice (some x) n ca, .slice (some y) m cb] 53)).alloc (.cells #[.bool false, .slice none 0 0, .slice none 0 0] 53)).Since ((w.alloc (.cells #[.bool f, .slice (some x) n ca, .slice (some y) m cb] 53)).alloc (.cells #[.bool false, .slice none 0 0, .slice none 0 0] 53)).heap.size (((w.alloc (.cells #[.bool f, .slice (some x) n ca, .slice (some y) m cb] 53)).alloc (.cells #[.bool false, .slice none 0 0, .slice none 0 0] 53)).alloc (.cells #[] 108)) := (World.Since.refl _ _).alloc (Nat.le_refl _) _
  have SB := sA.trans (sinceMono tB sA.size)
  have X1 := hX.keep SB
  have own1 := World.ownsRow_made (e := 108) (size := 1) ((w.alloc (.cells #[.bool f, .slice (some x) n ca, .slice (some y) m cb] 53)).alloc (.cells #[.bool false, .slice none 0 0, .slice none 0 0] 53)) #[] 0 (Nat.le_refl _) (by decide) rfl
  have zA : ((w.alloc (.cells #[.bool f, .slice (some x) n ca, .slice (some y) m cb] 53)).alloc (.cells #[.bool false, .slice none 0 0, .slice none 0 0] 53)).heap.size = w.heap.size + 1 + 1 := by simp
  have own0 := World.ownsRow_made (e := 108) (size := 1) ((w.alloc (.cells #[.bool f, .slice (some x) n ca, .slice (some y) m cb] 53)).alloc (.cells #[.bool false, .slice none 0 0, .slice none 0 0] 53)) #[] 0 (Nat.le_refl _) (by decide) rfl
  rw [zA] at own1
  have zA' := zA
  have rA : Box3 ((w.alloc (.cells #[.bool f, .slice (some x) n ca, .slice (some y) m cb] 53)).alloc (.cells #[.bool false, .slice none 0 0, .slice none 0 0] 53)) (w.heap.size + 1) (.bool false) (.slice none 0 0) (.slice none 0 0) := by
    have := Box3.new (w.alloc (.cells #[.bool f, .slice (some x) n ca, .slice (some y) m cb] 53)) (.bool false) (.slice none 0 0) (.slice none 0 0) 53
    simpa using this
  have HZA := hide zA'
  clear zA zA'
  go_enter Tryz.func152, Tryz.ntmps152
  go_wp2_with (at_builtin; refine wpList_append_own _ rfl _ _ 51 rfl (w.heap.size + 1 + 1) 108 i0 (.int .u32 0) 1 4 Tryz.underlying51 hi hz0 hz1 hz2 rfl (by decide) _ 0 [] rfl own1 x n ca (ll X n) rfl (by rw [ll_len]; omega) (limbs_news X1) (ll_one X n) (by unfold maxLen; omega) (by omega) (by simp) ?_)
  intro v1 w2 own2 grow2 nn2
  have tC : ((w.alloc (.cells #[.bool f, .slice (some x) n ca, .slice (some y) m cb] 53)).alloc (.cells #[.bool false, .slice none 0 0, .slice none 0 0] 53)).Since ((w.alloc (.cells #[.bool f, .slice (some x) n ca, .slice (some y) m cb] 53)).alloc (.cells #[.bool false, .slice none 0 0, .slice none 0 0] 53)).heap.size w2 := tB.grown grow2 (Nat.le_trans (Nat.le_refl _) tB.size) (fun k hk => by
    have := own0.lt k (by rw [HZA.out]; exact hk)
    exact this.1)
  have SC : w.Since w.heap.size w2 := sA.trans (sinceMono tC sA.size)
  have o2 := oA.keep tC
  have r2 := rA.keep tC
  have HN := hide nn2
  clear grow2 own1 nn2
  generalize ((w.alloc (.cells #[.bool f, .slice (some x) n ca, .slice (some y) m cb] 53)).alloc (.cells #[.bool false, .slice none 0 0, .slice none 0 0] 53)) = wA at *
  have tD : w2.Since w2.heap.size (w2.alloc (.cells #[] 108)) := (World.Since.refl _ _).alloc (Nat.le_refl _) _
  have SD := SC.trans (sinceMono tD SC.size)
  have Y1 := hY.keep SD
  have own3 := World.ownsRow_made (e := 108) (size := 1) w2 #[] 0 (Nat.le_refl _) (by decide) rfl
  have o3 := o2.keep tD
  have k2 := o3.c2
  go_wp2_with (at_builtin; refine wpList_append_own _ rfl _ _ 51 rfl w2.heap.size 108 i0 (.int .u32 0) 1 4 Tryz.underlying51 hi hz0 hz1 hz2 rfl (by decide) _ 0 [] rfl own3 y m cb (ll Y m) rfl (by rw [ll_len]; omega) (limbs_news Y1) (ll_one Y m) (by unfold maxLen; omega) (by omega) tD.size ?_)
  intro v3 w4 own4 grow4 nn4
  have tE : w2.Since w2.heap.size w4 := tD.grown grow4 tD.size (fun k hk => (own3.lt k hk).1)
  have SE := SC.trans (sinceMono tE SC.size)
  have o4 := o2.keep tE
  have r4 := r2.keep tE
  obtain ⟨a1, g1, c1, rfl, m1, n1, b1, l1, L1, F1⟩ := own_limbs2 own2 HN.out
  obtain ⟨a2, g2, c2, rfl, m2, n2, b2, l2, L2, F2⟩ := own_limbs2 own4 nn4
  clear grow4 own3 nn4 k2 o3
  have j0 := o4.c0
  have u0 := r4.c0
  have u1 := r4.c1
  have u2 := r4.c2
  have uf0 := r4.f 0
  have uf1 := r4.f 1
  have uf2 := r4.f 2
  go_wp2
  have zC := tC.size
  have zE := tE.size
  have rC := ((r4.set0 (.bool f)).set1 (.slice a1 n c1)).set2 (.slice a2 m c2)
  refine bodyPost_ret (results_box3 rfl _ _ _ _ _ _ rfl rC) rfl ?_
  have M : Marked w4 _ (w.heap.size + 1) := (((Marked.refl w4 _).setCell 0 (.bool f)).setCell 1 (.slice a1 n c1)).setCell 2 (.slice a2 m c2)
  have hz := HZA.out
  have zM := M.size
  refine ⟨a1, a2, g1, g2, c1, c2, rfl, m1, m2, n1, n2, (L1.keep tE).marked M (fun _ => by omega), L2.marked M (fun _ => by omega), fun h0 o => ?_, fun h0 o => ?_, by omega, by omega, by omega, SE.trans (M.since (by omega))⟩
  · rw [M.frozenO (a := ⟨g1, o, none⟩) (by show g1 ≠ _; omega), tE.frozen (a := ⟨g1, o, none⟩) l1]; exact F1 h0 o
  · rw [M.frozenO (a := ⟨g2, o, none⟩) (by show g2 ≠ _; omega)]; exact F2 h0 o

end Go.Proofs.YtlpabmcebpppfaaGreatDoor

namespace Go.Proofs.YtlpabmcebpppfaaGreatDoor
open Go.RowKit

theorem sum_zeroA {f f' : Bool} {X X' Y Y' : Nat → Nat} {n n' m m' : Nat} (ok : ratOkB f X n Y m = true) (ok' : ratOkB f' X' n' Y' m' = true) (h0 : n = 0) :
    (sumNeg f f' (lv X n * lv Y' m') (lv X' n' * lv Y m) && sumTop f f' (lv X n * lv Y' m') (lv X' n' * lv Y m) != 0) = f' ∧ sumTop f f' (lv X n * lv Y' m') (lv X' n' * lv Y m) / Nat.gcd (sumTop f f' (lv X n * lv Y' m') (lv X' n' * lv Y m)) (lv Y m * lv Y' m') = lv X' n' ∧ (lv Y m * lv Y' m') / Nat.gcd (sumTop f f' (lv X n * lv Y' m') (lv X' n' * lv Y m)) (lv Y m * lv Y' m') = lv Y' m' := by
  subst h0
  unfold ratOkB at ok ok'
  simp only [Bool.and_eq_true, bne_iff_ne, beq_iff_eq, Bool.not_eq_true', Bool.and_eq_false_imp] at ok ok'
  have hf : f = false := by cases f; rfl; have := ok.1.2; simp at this
  have hY : lv Y m = 1 := by have := ok.2; simpa [lv] using this
  have hg := ok'.2
  have hx : f' = true → lv X' n' ≠ 0 := fun e h => by
    have h1 : n' = 0 := (lv_zero (plainB_iff.1 ok'.1.1.1.1)).2 h
    have := ok'.1.2 e
    simp [h1] at this
  subst hf
  have hST : sumTop false f' (lv X 0 * lv Y' m') (lv X' n' * lv Y m) = lv X' n' := by
    simp only [lv, Nat.zero_mul, hY, Nat.mul_one, sumTop]
    cases f'
    · simp
    · have := hx rfl
      simp; omega
  rw [hST, hY, Nat.one_mul, hg, Nat.div_one, Nat.div_one]
  refine ⟨?_, rfl, rfl⟩
  simp only [lv, Nat.zero_mul, Nat.mul_one, sumNeg]
  cases f'
  · simp
  · have := hx rfl
    have h2 : 0 < lv X' n' := by omega
    simp [h2]; omega

theorem sum_zeroB {f f' : Bool} {X X' Y Y' : Nat → Nat} {n n' m m' : Nat} (ok : ratOkB f X n Y m = true) (ok' : ratOkB f' X' n' Y' m' = true) (h0 : n' = 0) :
    (sumNeg f f' (lv X n * lv Y' m') (lv X' n' * lv Y m) && sumTop f f' (lv X n * lv Y' m') (lv X' n' * lv Y m) != 0) = f ∧ sumTop f f' (lv X n * lv Y' m') (lv X' n' * lv Y m) / Nat.gcd (sumTop f f' (lv X n * lv Y' m') (lv X' n' * lv Y m)) (lv Y m * lv Y' m') = lv X n ∧ (lv Y m * lv Y' m') / Nat.gcd (sumTop f f' (lv X n * lv Y' m') (lv X' n' * lv Y m)) (lv Y m * lv Y' m') = lv Y m := by
  subst h0
  unfold ratOkB at ok ok'
  simp only [Bool.and_eq_true, bne_iff_ne, beq_iff_eq, Bool.not_eq_true', Bool.and_eq_false_imp] at ok ok'
  have hf : f' = false := by cases f'; rfl; have := ok'.1.2; simp at this
  have hY : lv Y' m' = 1 := by have := ok'.2; simpa [lv] using this
  have hg := ok.2
  have hx : f = true → lv X n ≠ 0 := fun e h => by
    have h1 : n = 0 := (lv_zero (plainB_iff.1 ok.1.1.1.1)).2 h
    have := ok.1.2 e
    simp [h1] at this
  subst hf
  have hST : sumTop f false (lv X n * lv Y' m') (lv X' 0 * lv Y m) = lv X n := by
    simp only [lv, Nat.zero_mul, hY, Nat.mul_one, sumTop]
    cases f
    · simp
    · simp
  rw [hST, hY, Nat.mul_one, Nat.mul_one, hg, Nat.div_one, Nat.div_one]
  refine ⟨?_, rfl, rfl⟩
  simp only [lv, Nat.zero_mul, sumNeg]
  cases f
  · simp
  · have := hx rfl
    simp; omega

set_option maxHeartbeats 3200000 in
set_option maxRecDepth 100000 in
theorem l1Add_zero (f f' : Bool) (a b a' b' : Addr) (ba oa n ca bb ob m cb ba' oa' n' ca' bb' ob' m' cb' : Nat) (X Y X' Y' : Nat → Nat) (w : World) (hn : n + n' + m + m' ≤ 16777216)
    (R : RIn w (some a) (some b) ba oa n ca bb ob m cb X Y) (R' : RIn w (some a') (some b') ba' oa' n' ca' bb' ob' m' cb' X' Y') (ok : ratOkB f X n Y m = true) (ok' : ratOkB f' X' n' Y' m' = true) (h0 : n = 0 ∨ n' = 0) :
    Calls Tryz.prog 129 #[.agg #[.bool f, .slice (some a) n ca, .slice (some b) m cb], .agg #[.bool f', .slice (some a') n' ca', .slice (some b') m' cb']] w fun e w' => ∃ v, e = .returned v ∧
      RatV w' v (sumNeg f f' (lv X n * lv Y' m') (lv X' n' * lv Y m) && sumTop f f' (lv X n * lv Y' m') (lv X' n' * lv Y m) != 0) (sumTop f f' (lv X n * lv Y' m') (lv X' n' * lv Y m) / Nat.gcd (sumTop f f' (lv X n * lv Y' m') (lv X' n' * lv Y m)) (lv Y m * lv Y' m')) ((lv Y m * lv Y' m') / Nat.gcd (sumTop f f' (lv X n * lv Y' m') (lv X' n' * lv Y m)) (lv Y m * lv Y' m')) w.heap.size 67108864 ∧ w.Since w.heap.size w' := by
  have hne2 : w.heap.size + 1 + 1 ≠ w.heap.size := by omega
  have sA : w.Since w.heap.size (((w.alloc (.cells #[.bool f, .slice (some a) n ca, .slice (some b) m cb] 53)).alloc (.cells #[.bool f', .slice (some a') n' ca', .slice (some b') m' cb'] 53)).alloc (.cells #[.bool false, .slice none 0 0, .slice none 0 0] 53)) := (((World.Since.refl _ _).alloc (Nat.le_refl _) _).alloc (by simp) _).alloc (by simp; omega) _
  have zA : (((w.alloc (.cells #[.bool f, .slice (some a) n ca, .slice (some b) m cb] 53)).alloc (.cells #[.bool f', .slice (some a') n' ca', .slice (some b') m' cb'] 53)).alloc (.cells #[.bool false, .slice none 0 0, .slice none 0 0] 53)).heap.size = w.heap.size + 1 + 1 + 1 := by simp
  have oA : Box3 (((w.alloc (.cells #[.bool f, .slice (some a) n ca, .slice (some b) m cb] 53)).alloc (.cells #[.bool f', .slice (some a') n' ca', .slice (some b') m' cb'] 53)).alloc (.cells #[.bool false, .slice none 0 0, .slice none 0 0] 53)) w.heap.size (.bool f) (.slice (some a) n ca) (.slice (some b) m cb) := ((Box3.new w _ _ _ _).keep ((World.Since.refl _ _).alloc (Nat.le_refl _) _)).keep ((World.Since.refl _ _).alloc (Nat.le_refl _) _)
  have pA : Box3 (((w.alloc (.cells #[.bool f, .slice (some a) n ca, .slice (some b) m cb] 53)).alloc (.cells #[.bool f', .slice (some a') n' ca', .slice (some b') m' cb'] 53)).alloc (.cells #[.bool false, .slice none 0 0, .slice none 0 0] 53)) (w.heap.size + 1) (.bool f') (.slice (some a') n' ca') (.slice (some b') m' cb') := by
    have := (Box3.new (w.alloc (.cells #[.bool f, .slice (some a) n ca, .slice (some b) m cb] 53)) (.bool f') (.slice (some a') n' ca') (.slice (some b') m' cb') 53).keep ((World.Since.refl _ _).alloc (Nat.le_refl _) (.cells #[.bool false, .slice none 0 0, .slice none 0 0] 53))
    simpa using this
  have rA : Box3 (((w.alloc (.cells #[.bool f, .slice (some a) n ca, .slice (some b) m cb] 53)).alloc (.cells #[.bool f', .slice (some a') n' ca', .slice (some b') m' cb'] 53)).alloc (.cells #[.bool false, .slice none 0 0, .slice none 0 0] 53)) (w.heap.size + 1 + 1) (.bool false) (.slice none 0 0) (.slice none 0 0) := by
    have := Box3.new ((w.alloc (.cells #[.bool f, .slice (some a) n ca, .slice (some b) m cb] 53)).alloc (.cells #[.bool f', .slice (some a') n' ca', .slice (some b') m' cb'] 53)) (.bool false) (.slice none 0 0) (.slice none 0 0) 53
    simpa using this
  by_cases h1 : n = 0
  · have hZ := sum_zeroA ok ok' h1
    rw [hZ.1, hZ.2.1, hZ.2.2]
    clear hZ ok ok' h0
    subst h1
    have k0 := pA.c0
    have k1 := pA.c1
    have k2 := pA.c2
    go_enter Tryz.func129, Tryz.ntmps129
    go_wp2_with fail
    generalize (((w.alloc (.cells #[.bool f, .slice (some a) 0 ca, .slice (some b) m cb] 53)).alloc (.cells #[.bool f', .slice (some a') n' ca', .slice (some b') m' cb'] 53)).alloc (.cells #[.bool false, .slice none 0 0, .slice none 0 0] 53)) = w1 at *
    refine (l1Copy_any f' a' b' ba' oa' n' ca' bb' ob' m' cb' X' Y' w1 (by omega) (by omega) R'.nc R'.mc (R'.keep sA).LX (R'.keep sA).LY).mono ?_
    rintro e w6 ⟨a1, a2, g6, h6, c1, c2, rfl, v1, v2, v3, v4, N6, D6, FN, FD, y1, y2, y3, s6⟩
    have rB := rA.keep s6
    have S6 : w.Since w.heap.size w6 := sA.trans (sinceMono s6 sA.size)
    have u0 := rB.c0
    have u1 := rB.c1
    have u2 := rB.c2
    have uf0 := rB.f 0
    have uf1 := rB.f 1
    have uf2 := rB.f 2
    go_wp2
    have rC := ((rB.set0 (.bool f')).set1 (.slice a1 n' c1)).set2 (.slice a2 m' c2)
    refine bodyPost_ret (results_box3 rfl _ _ _ _ _ _ rfl rC) rfl ?_
    have M : Marked w6 _ (w.heap.size + 1 + 1) := (((Marked.refl w6 _).setCell 0 (.bool f')).setCell 1 (.slice a1 n' c1)).setCell 2 (.slice a2 m' c2)
    have N7 : NatAt w6 (.slice a1 n' c1) g6 (lv X' n') 67108864 := ⟨_, _, _, X', rfl, v1, by omega, v3, N6, FN, R'.lX, R'.pX, rfl⟩
    have D7 : NatAt w6 (.slice a2 m' c2) h6 (lv Y' m') 67108864 := ⟨_, _, _, Y', rfl, v2, by omega, v4, D6, FD, R'.lY, R'.pY, rfl⟩
    exact ⟨_, rfl, ⟨_, _, g6, h6, rfl, N7.marked M (by omega), D7.marked M (by omega), by omega, by omega, by omega⟩, S6.trans (M.since (by omega))⟩
  · have h2 : n' = 0 := by omega
    have hZ := sum_zeroB ok ok' h2
    rw [hZ.1, hZ.2.1, hZ.2.2]
    clear hZ ok ok' h0
    subst h2
    have q1 : ((n : Int) == 0) = false := by simp; omega
    have k0 := oA.c0
    have k1 := oA.c1
    have k2 := oA.c2
    go_enter Tryz.func129, Tryz.ntmps129
    go_wp2_with fail
    generalize (((w.alloc (.cells #[.bool f, .slice (some a) n ca, .slice (some b) m cb] 53)).alloc (.cells #[.bool f', .slice (some a') 0 ca', .slice (some b') m' cb'] 53)).alloc (.cells #[.bool false, .slice none 0 0, .slice none 0 0] 53)) = w1 at *
    refine (l1Copy_any f a b ba oa n ca bb ob m cb X Y w1 (by omega) (by omega) R.nc R.mc (R.keep sA).LX (R.keep sA).LY).mono ?_
    rintro e w6 ⟨a1, a2, g6, h6, c1, c2, rfl, v1, v2, v3, v4, N6, D6, FN, FD, y1, y2, y3, s6⟩
    have rB := rA.keep s6
    have S6 : w.Since w.heap.size w6 := sA.trans (sinceMono s6 sA.size)
    have u0 := rB.c0
    have u1 := rB.c1
    have u2 := rB.c2
    have uf0 := rB.f 0
    have uf1 := rB.f 1
    have uf2 := rB.f 2
    go_wp2
    have rC := ((rB.set0 (.bool f)).set1 (.slice a1 n c1)).set2 (.slice a2 m c2)
    refine bodyPost_ret (results_box3 rfl _ _ _ _ _ _ rfl rC) rfl ?_
    have M : Marked w6 _ (w.heap.size + 1 + 1) := (((Marked.refl w6 _).setCell 0 (.bool f)).setCell 1 (.slice a1 n c1)).setCell 2 (.slice a2 m c2)
    have N7 : NatAt w6 (.slice a1 n c1) g6 (lv X n) 67108864 := ⟨_, _, _, X, rfl, v1, by omega, v3, N6, FN, R.lX, R.pX, rfl⟩
    have D7 : NatAt w6 (.slice a2 m c2) h6 (lv Y m) 67108864 := ⟨_, _, _, Y, rfl, v2, by omega, v4, D6, FD, R.lY, R.pY, rfl⟩
    exact ⟨_, rfl, ⟨_, _, g6, h6, rfl, N7.marked M (by omega), D7.marked M (by omega), by omega, by omega, by omega⟩, S6.trans (M.since (by omega))⟩

end Go.Proofs.YtlpabmcebpppfaaGreatDoor

namespace Go.Proofs.YtlpabmcebpppfaaGreatDoor
open Go.RowKit

set_option maxHeartbeats 3200000 in
set_option maxRecDepth 100000 in
theorem l1Add_small (f f' : Bool) (a b a' b' : Addr) (ba oa n ca bb ob m cb ba' oa' n' ca' bb' ob' m' cb' : Nat) (X Y X' Y' : Nat → Nat) (w : World) (_hn : n + n' + m + m' ≤ 16777216)
    (R : RIn w (some a) (some b) ba oa n ca bb ob m cb X Y) (R' : RIn w (some a') (some b') ba' oa' n' ca' bb' ob' m' cb' X' Y') (h1 : 0 < n) (h2 : 0 < n') (hs : smallB X n Y m = true) (hs' : smallB X' n' Y' m' = true) :
    Calls Tryz.prog 129 #[.agg #[.bool f, .slice (some a) n ca, .slice (some b) m cb], .agg #[.bool f', .slice (some a') n' ca', .slice (some b') m' cb']] w fun e w' => ∃ v, e = .returned v ∧
      RatV w' v (sumNeg f f' (lv X n * lv Y' m') (lv X' n' * lv Y m) && sumTop f f' (lv X n * lv Y' m') (lv X' n' * lv Y m) != 0) (sumTop f f' (lv X n * lv Y' m') (lv X' n' * lv Y m) / Nat.gcd (sumTop f f' (lv X n * lv Y' m') (lv X' n' * lv Y m)) (lv Y m * lv Y' m')) ((lv Y m * lv Y' m') / Nat.gcd (sumTop f f' (lv X n * lv Y' m') (lv X' n' * lv Y m)) (lv Y m * lv Y' m')) w.heap.size 67108864 ∧ w.Since w.heap.size w' := by
  have hne2 : w.heap.size + 1 + 1 ≠ w.heap.size := by omega
  have sA : w.Since w.heap.size (((w.alloc (.cells #[.bool f, .slice (some a) n ca, .slice (some b) m cb] 53)).alloc (.cells #[.bool f', .slice (some a') n' ca', .slice (some b') m' cb'] 53)).alloc (.cells #[.bool false, .slice none 0 0, .slice none 0 0] 53)) := (((World.Since.refl _ _).alloc (Nat.le_refl _) _).alloc (by simp) _).alloc (by simp; omega) _
  have zA : (((w.alloc (.cells #[.bool f, .slice (some a) n ca, .slice (some b) m cb] 53)).alloc (.cells #[.bool f', .slice (some a') n' ca', .slice (some b') m' cb'] 53)).alloc (.cells #[.bool false, .slice none 0 0, .slice none 0 0] 53)).heap.size = w.heap.size + 1 + 1 + 1 := by simp
  have oA : Box3 (((w.alloc (.cells #[.bool f, .slice (some a) n ca, .slice (some b) m cb] 53)).alloc (.cells #[.bool f', .slice (some a') n' ca', .slice (some b') m' cb'] 53)).alloc (.cells #[.bool false, .slice none 0 0, .slice none 0 0] 53)) w.heap.size (.bool f) (.slice (some a) n ca) (.slice (some b) m cb) := ((Box3.new w _ _ _ _).keep ((World.Since.refl _ _).alloc (Nat.le_refl _) _)).keep ((World.Since.refl _ _).alloc (Nat.le_refl _) _)
  have pA : Box3 (((w.alloc (.cells #[.bool f, .slice (some a) n ca, .slice (some b) m cb] 53)).alloc (.cells #[.bool f', .slice (some a') n' ca', .slice (some b') m' cb'] 53)).alloc (.cells #[.bool false, .slice none 0 0, .slice none 0 0] 53)) (w.heap.size + 1) (.bool f') (.slice (some a') n' ca') (.slice (some b') m' cb') := by
    have := (Box3.new (w.alloc (.cells #[.bool f, .slice (some a) n ca, .slice (some b) m cb] 53)) (.bool f') (.slice (some a') n' ca') (.slice (some b') m' cb') 53).keep ((World.Since.refl _ _).alloc (Nat.le_refl _) (.cells #[.bool false, .slice none 0 0, .slice none 0 0] 53))
    simpa using this
  have rA : Box3 (((w.alloc (.cells #[.bool f, .slice (some a) n ca, .slice (some b) m cb] 53)).alloc (.cells #[.bool f', .slice (some a') n' ca', .slice (some b') m' cb'] 53)).alloc (.cells #[.bool false, .slice none 0 0, .slice none 0 0] 53)) (w.heap.size + 1 + 1) (.bool false) (.slice none 0 0) (.slice none 0 0) := by
    have := Box3.new ((w.alloc (.cells #[.bool f, .slice (some a) n ca, .slice (some b) m cb] 53)).alloc (.cells #[.bool f', .slice (some a') n' ca', .slice (some b') m' cb'] 53)) (.bool false) (.slice none 0 0) (.slice none 0 0) 53
    simpa using this
  obtain ⟨s1, s2', s3', s4'⟩ := smallB_iff.1 hs
  obtain ⟨t1, t2', t3', t4'⟩ := smallB_iff.1 hs'
  obtain ⟨x, hx⟩ : ∃ x, x = lv X n := ⟨_, rfl⟩
  obtain ⟨y, hy⟩ : ∃ y, y = lv Y m := ⟨_, rfl⟩
  obtain ⟨x', hx'⟩ : ∃ x', x' = lv X' n' := ⟨_, rfl⟩
  obtain ⟨y', hy'⟩ : ∃ y', y' = lv Y' m' := ⟨_, rfl⟩
  have hyp : 0 < y * y' := by rw [hy, hy']; exact Nat.mul_pos R.den R'.den
  rw [← hx] at s3'
  rw [← hy] at s4'
  rw [← hx'] at t3'
  rw [← hy'] at t4'
  obtain ⟨p, hp⟩ : ∃ p, p = x * y' := ⟨_, rfl⟩
  obtain ⟨r, hr⟩ : ∃ r, r = x' * y := ⟨_, rfl⟩
  obtain ⟨q, hq⟩ : ∃ q, q = y * y' := ⟨_, rfl⟩
  have hpl : p < 9223372036854775808 := by rw [hp]; exact Nat.lt_of_le_of_lt (Nat.mul_le_mul (Nat.le_of_lt s3') (Nat.le_of_lt t4')) (by omega)
  have hrl : r < 9223372036854775808 := by rw [hr]; exact Nat.lt_of_le_of_lt (Nat.mul_le_mul (Nat.le_of_lt t3') (Nat.le_of_lt s4')) (by omega)
  have hql : q < 9223372036854775808 := by rw [hq]; exact Nat.lt_of_le_of_lt (Nat.mul_le_mul (Nat.le_of_lt s4') (Nat.le_of_lt t4')) (by omega)
  have hpw : IntKind.u64.wrap ((x : Int) * (y' : Int)) = (p : Int) := by rw [← Int.natCast_mul, ← hp]; exact wrap_u64_id p (by omega)
  have hrw : IntKind.u64.wrap ((x' : Int) * (y : Int)) = (r : Int) := by rw [← Int.natCast_mul, ← hr]; exact wrap_u64_id r (by omega)
  have hqw : IntKind.u64.wrap ((y : Int) * (y' : Int)) = (q : Int) := by rw [← Int.natCast_mul, ← hq]; exact wrap_u64_id q (by omega)
  rw [← hq] at hyp
  rw [← hx, ← hx', ← hy, ← hy', ← hp, ← hq, ← hr]
  obtain ⟨sn, hSN⟩ : ∃ s, s = sumNeg f f' p r := ⟨_, rfl⟩
  obtain ⟨st, hST⟩ : ∃ s, s = sumTop f f' p r := ⟨_, rfl⟩
  rw [← hSN, ← hST]
  have HSN := hide hSN
  have HST := hide hST
  clear hSN hST
  have HX := hide hx
  have HY := hide hy
  have HX' := hide hx'
  have HY' := hide hy'
  clear s3' s4' t3' t4' hx hy hx' hy' hp hr hq
  have q1 : ((n : Int) == 0) = false := by simp; omega
  have q2 : ((n' : Int) == 0) = false := by simp; omega
  have j0 := oA.c0
  have j1 := oA.c1
  have j2 := oA.c2
  go_enter Tryz.func129, Tryz.ntmps129
  go_wp2_with fail
  generalize (((w.alloc (.cells #[.bool f, .slice (some a) n ca, .slice (some b) m cb] 53)).alloc (.cells #[.bool f', .slice (some a') n' ca', .slice (some b') m' cb'] 53)).alloc (.cells #[.bool false, .slice none 0 0, .slice none 0 0] 53)) = w1 at *
  have I1 := l1IsSmall_any f (some a) (some b) ba oa n ca bb ob m cb X Y w1 (by omega) (by omega) (R.keep sA).LX (R.keep sA).LY R.lX R.lY
  rw [hs] at I1
  refine I1.mono ?_
  rintro e w2 ⟨rfl, s2⟩
  have S2 : w.Since w.heap.size w2 := sA.trans (sinceMono s2 sA.size)
  have o2 := oA.keep s2
  have p2 := pA.keep s2
  have r2 := rA.keep s2
  have z2 := s2.size
  clear I1 j0 j1 j2 oA pA rA
  have k0 := p2.c0
  have k1 := p2.c1
  have k2 := p2.c2
  have I2 := l1IsSmall_any f' (some a') (some b') ba' oa' n' ca' bb' ob' m' cb' X' Y' w2 (by omega) (by omega) (R'.keep S2).LX (R'.keep S2).LY R'.lX R'.lY
  rw [hs'] at I2
  go_wp2_with fail
  refine I2.mono ?_
  rintro e w3 ⟨rfl, s3⟩
  have S3 : w.Since w.heap.size w3 := S2.trans (sinceMono s3 S2.size)
  have o3 := o2.keep s3
  have p3 := p2.keep s3
  have r3 := r2.keep s3
  have z3 := s3.size
  clear I2 k0 k1 k2 o2 p2 r2
  have k := And.intro o3.cells p3.cells
  have J1 := l1Small_any (some a) ba oa n ca X w3.drew s1 (R.keep S3).LX R.lX
  have J2 := l1Small_any (some b) bb ob m cb Y w3.drew s2' (R.keep S3).LY R.lY
  have J3 := l1Small_any (some a') ba' oa' n' ca' X' w3.drew t1 (R'.keep S3).LX R'.lX
  have J4 := l1Small_any (some b') bb' ob' m' cb' Y' w3.drew t2' (R'.keep S3).LY R'.lY
  rw [← HX.out] at J1
  rw [← HY.out] at J2
  rw [← HX'.out] at J3
  rw [← HY'.out] at J4
  go_wp2
  go_region_held3 (fun w' => w'.cell? ⟨w.heap.size, 0, none⟩ = some (.bool f) ∧ w'.cell? ⟨w.heap.size, 1, none⟩ = some (.slice (some a) n ca) ∧ w'.cell? ⟨w.heap.size, 2, none⟩ = some (.slice (some b) m cb) ∧ w'.cell? ⟨w.heap.size + 1, 0, none⟩ = some (.bool f') ∧ w'.cell? ⟨w.heap.size + 1, 1, none⟩ = some (.slice (some a') n' ca') ∧ w'.cell? ⟨w.heap.size + 1, 2, none⟩ = some (.slice (some b') m' cb')) (go_keep)
    (first
      | (go_at_call 126
         first
          | (with_reducible refine J1.mono ?_; rintro e v4 ⟨rfl, rfl⟩)
          | (with_reducible refine J4.mono ?_; rintro e v4 ⟨rfl, rfl⟩)))
  have S4 := since_drew S3
  have o4 := o3.drew
  have p4 := p3.drew
  have r4 := r3.drew
  clear k J1 J2 J3 J4 o3 p3 r3
  generalize w3.drew = w4 at *
  have k := And.intro o4.cells p4.cells
  have J1 := l1Small_any (some a) ba oa n ca X w4.drew s1 (R.keep S4).LX R.lX
  have J2 := l1Small_any (some b) bb ob m cb Y w4.drew s2' (R.keep S4).LY R.lY
  have J3 := l1Small_any (some a') ba' oa' n' ca' X' w4.drew t1 (R'.keep S4).LX R'.lX
  have J4 := l1Small_any (some b') bb' ob' m' cb' Y' w4.drew t2' (R'.keep S4).LY R'.lY
  rw [← HX.out] at J1
  rw [← HY.out] at J2
  rw [← HX'.out] at J3
  rw [← HY'.out] at J4
  go_wp2
  go_region_held3 (fun w' => w'.cell? ⟨w.heap.size, 0, none⟩ = some (.bool f) ∧ w'.cell? ⟨w.heap.size, 1, none⟩ = some (.slice (some a) n ca) ∧ w'.cell? ⟨w.heap.size, 2, none⟩ = some (.slice (some b) m cb) ∧ w'.cell? ⟨w.heap.size + 1, 0, none⟩ = some (.bool f') ∧ w'.cell? ⟨w.heap.size + 1, 1, none⟩ = some (.slice (some a') n' ca') ∧ w'.cell? ⟨w.heap.size + 1, 2, none⟩ = some (.slice (some b') m' cb')) (go_keep)
    (first
      | (go_at_call 126
         first
          | (with_reducible refine J3.mono ?_; rintro e v4 ⟨rfl, rfl⟩)
          | (with_reducible refine J2.mono ?_; rintro e v4 ⟨rfl, rfl⟩)))
  have S5 := since_drew S4
  have o5 := o4.drew
  have p5 := p4.drew
  have r5 := r4.drew
  clear k J1 J2 J3 J4 o4 p4 r4
  generalize w4.drew = w5 at *
  have k := And.intro o5.cells p5.cells
  have J1 := l1Small_any (some a) ba oa n ca X w5.drew s1 (R.keep S5).LX R.lX
  have J2 := l1Small_any (some b) bb ob m cb Y w5.drew s2' (R.keep S5).LY R.lY
  have J3 := l1Small_any (some a') ba' oa' n' ca' X' w5.drew t1 (R'.keep S5).LX R'.lX
  have J4 := l1Small_any (some b') bb' ob' m' cb' Y' w5.drew t2' (R'.keep S5).LY R'.lY
  rw [← HX.out] at J1
  rw [← HY.out] at J2
  rw [← HX'.out] at J3
  rw [← HY'.out] at J4
  go_wp2
  go_region_held3 (fun w' => w'.cell? ⟨w.heap.size, 0, none⟩ = some (.bool f) ∧ w'.cell? ⟨w.heap.size, 1, none⟩ = some (.slice (some a) n ca) ∧ w'.cell? ⟨w.heap.size, 2, none⟩ = some (.slice (some b) m cb) ∧ w'.cell? ⟨w.heap.size + 1, 0, none⟩ = some (.bool f') ∧ w'.cell? ⟨w.heap.size + 1, 1, none⟩ = some (.slice (some a') n' ca') ∧ w'.cell? ⟨w.heap.size + 1, 2, none⟩ = some (.slice (some b') m' cb')) (go_keep)
    (first
      | (go_at_call 126
         first
          | (with_reducible refine J2.mono ?_; rintro e v4 ⟨rfl, rfl⟩)
          | (with_reducible refine J4.mono ?_; rintro e v4 ⟨rfl, rfl⟩)))
  have S6 := since_drew S5
  have o6 := o5.drew
  have p6 := p5.drew
  have r6 := r5.drew
  clear k J1 J2 J3 J4 o5 p5 r5
  generalize w5.drew = w6 at *
  by_cases hff : f = f'
  · subst hff
    have e1 : sn = f := by rw [HSN.out]; simp [sumNeg]
    have e2 : st = p + r := by rw [HST.out]; simp [sumTop]
    clear HSN HST
    have HE1 := hide e1
    clear e1
    subst e2
    have HS := hide S6
    have k := And.intro o6.cells p6.cells
    have hsw : IntKind.u64.wrap ((p : Int) + (r : Int)) = ((p + r : Nat) : Int) := by rw [← Int.natCast_add]; exact wrap_u64_id (p + r) (by omega)
    have J5 := l1MakeSmall_any f (p + r) q w6 (by omega) (by omega) hyp
    go_wp2_with fail
    refine J5.mono ?_
    rintro e w7 ⟨v, rfl, ⟨x1, x2, g6, h6, rfl, N6, D6, y1, y2, y3⟩, s6⟩
    have N6' := N6
    have D6' := D6
    obtain ⟨a1, q1, c1, Y1, rfl, -⟩ := N6
    obtain ⟨a2, q2, c2, Y2, rfl, -⟩ := D6
    have rB := r6.keep s6
    have u0 := rB.c0
    have u1 := rB.c1
    have u2 := rB.c2
    have uf0 := rB.f 0
    have uf1 := rB.f 1
    have uf2 := rB.f 2
    go_wp2
    have S7 : w.Since w.heap.size w7 := HS.out.trans (sinceMono s6 HS.out.size)
    have rl := r6.lt
    have rC := ((rB.set0 (.bool (f && (p + r) != 0))).set1 (.slice a1 q1 c1)).set2 (.slice a2 q2 c2)
    refine bodyPost_ret (results_box3 rfl _ _ _ _ _ _ rfl rC) rfl ?_
    have M : Marked w7 _ (w.heap.size + 1 + 1) := (((Marked.refl w7 _).setCell 0 (.bool (f && (p + r) != 0))).setCell 1 (.slice a1 q1 c1)).setCell 2 (.slice a2 q2 c2)
    exact ⟨_, rfl, ⟨_, _, g6, h6, by rw [HE1.out], N6'.marked M (by omega), D6'.marked M (by omega), by omega, by omega, y3⟩, S7.trans (M.since (by omega))⟩

  · have hfb : (f == f') = false := by simp [hff]
    by_cases hlt : p < r
    · have hge : ¬ ((r : Int) ≤ (p : Int)) := by omega
      have e1 : sn = f' := by rw [HSN.out]; simp [sumNeg, hff, hlt]
      have e2 : st = r - p := by rw [HST.out]; simp [sumTop, hff, hlt]
      clear HSN HST
      have HE1 := hide e1
      clear e1
      subst e2
      have HS := hide S6
      have k := And.intro o6.cells p6.cells
      have hsw : IntKind.u64.wrap ((r : Int) - (p : Int)) = ((r - p : Nat) : Int) := by rw [← Int.ofNat_sub (by omega)]; exact wrap_u64_id (r - p) (by omega)
      clear hff
      have J5 := l1MakeSmall_any f' (r - p) q w6 (by omega) (by omega) hyp
      go_wp2_with fail
      refine J5.mono ?_
      rintro e w7 ⟨v, rfl, ⟨x1, x2, g6, h6, rfl, N6, D6, y1, y2, y3⟩, s6⟩
      have N6' := N6
      have D6' := D6
      obtain ⟨a1, q1, c1, Y1, rfl, -⟩ := N6
      obtain ⟨a2, q2, c2, Y2, rfl, -⟩ := D6
      have rB := r6.keep s6
      have u0 := rB.c0
      have u1 := rB.c1
      have u2 := rB.c2
      have uf0 := rB.f 0
      have uf1 := rB.f 1
      have uf2 := rB.f 2
      go_wp2
      have S7 : w.Since w.heap.size w7 := HS.out.trans (sinceMono s6 HS.out.size)
      have rl := r6.lt
      have rC := ((rB.set0 (.bool (f' && (r - p) != 0))).set1 (.slice a1 q1 c1)).set2 (.slice a2 q2 c2)
      refine bodyPost_ret (results_box3 rfl _ _ _ _ _ _ rfl rC) rfl ?_
      have M : Marked w7 _ (w.heap.size + 1 + 1) := (((Marked.refl w7 _).setCell 0 (.bool (f' && (r - p) != 0))).setCell 1 (.slice a1 q1 c1)).setCell 2 (.slice a2 q2 c2)
      exact ⟨_, rfl, ⟨_, _, g6, h6, by rw [HE1.out], N6'.marked M (by omega), D6'.marked M (by omega), by omega, by omega, y3⟩, S7.trans (M.since (by omega))⟩

    · have hge : (r : Int) ≤ (p : Int) := by omega
      have e1 : sn = f := by rw [HSN.out]; simp [sumNeg, hff, hlt]
      have e2 : st = p - r := by rw [HST.out]; simp [sumTop, hff, hlt]
      clear HSN HST
      have HE1 := hide e1
      clear e1
      subst e2
      have HS := hide S6
      have k := And.intro o6.cells p6.cells
      have hsw : IntKind.u64.wrap ((p : Int) - (r : Int)) = ((p - r : Nat) : Int) := by rw [← Int.ofNat_sub (by omega)]; exact wrap_u64_id (p - r) (by omega)
      clear hff
      have J5 := l1MakeSmall_any f (p - r) q w6 (by omega) (by omega) hyp
      go_wp2_with fail
      refine J5.mono ?_
      rintro e w7 ⟨v, rfl, ⟨x1, x2, g6, h6, rfl, N6, D6, y1, y2, y3⟩, s6⟩
      have N6' := N6
      have D6' := D6
      obtain ⟨a1, q1, c1, Y1, rfl, -⟩ := N6
      obtain ⟨a2, q2, c2, Y2, rfl, -⟩ := D6
      have rB := r6.keep s6
      have u0 := rB.c0
      have u1 := rB.c1
      have u2 := rB.c2
      have uf0 := rB.f 0
      have uf1 := rB.f 1
      have uf2 := rB.f 2
      go_wp2
      have S7 : w.Since w.heap.size w7 := HS.out.trans (sinceMono s6 HS.out.size)
      have rl := r6.lt
      have rC := ((rB.set0 (.bool (f && (p - r) != 0))).set1 (.slice a1 q1 c1)).set2 (.slice a2 q2 c2)
      refine bodyPost_ret (results_box3 rfl _ _ _ _ _ _ rfl rC) rfl ?_
      have M : Marked w7 _ (w.heap.size + 1 + 1) := (((Marked.refl w7 _).setCell 0 (.bool (f && (p - r) != 0))).setCell 1 (.slice a1 q1 c1)).setCell 2 (.slice a2 q2 c2)
      exact ⟨_, rfl, ⟨_, _, g6, h6, by rw [HE1.out], N6'.marked M (by omega), D6'.marked M (by omega), by omega, by omega, y3⟩, S7.trans (M.since (by omega))⟩

end Go.Proofs.YtlpabmcebpppfaaGreatDoor

namespace Go.Proofs.YtlpabmcebpppfaaGreatDoor
open Go.RowKit

theorem Tr.bits {w : World} {a : Option Addr} {n cap : Nat} {A : Nat → Bool} (h : Tr w (.slice a n cap) n A) : ∃ b off, n ≤ cap ∧ Bits w a b off n A ∧ (0 < n → A (n - 1) = true) := by
  obtain ⟨a', b, off, c, e, h1, h2, h3⟩ := h
  cases e
  exact ⟨b, off, h1, h2, h3⟩

set_option maxHeartbeats 3200000 in
set_option maxRecDepth 100000 in
theorem l1Add_bigA (f f' : Bool) (a b a' b' : Addr) (ba oa n ca bb ob m cb ba' oa' n' ca' bb' ob' m' cb' : Nat) (X Y X' Y' : Nat → Nat) (w : World) (hn : n + n' + m + m' ≤ 16777216)
    (R : RIn w (some a) (some b) ba oa n ca bb ob m cb X Y) (R' : RIn w (some a') (some b') ba' oa' n' ca' bb' ob' m' cb' X' Y') (h1 : 0 < n) (h2 : 0 < n') (hs : ¬ smallB X n Y m = true) :
    Calls Tryz.prog 129 #[.agg #[.bool f, .slice (some a) n ca, .slice (some b) m cb], .agg #[.bool f', .slice (some a') n' ca', .slice (some b') m' cb']] w fun e w' => ∃ v, e = .returned v ∧
      RatV w' v (sumNeg f f' (lv X n * lv Y' m') (lv X' n' * lv Y m) && sumTop f f' (lv X n * lv Y' m') (lv X' n' * lv Y m) != 0) (sumTop f f' (lv X n * lv Y' m') (lv X' n' * lv Y m) / Nat.gcd (sumTop f f' (lv X n * lv Y' m') (lv X' n' * lv Y m)) (lv Y m * lv Y' m')) ((lv Y m * lv Y' m') / Nat.gcd (sumTop f f' (lv X n * lv Y' m') (lv X' n' * lv Y m)) (lv Y m * lv Y' m')) w.heap.size 67108864 ∧ w.Since w.heap.size w' := by
  have hne2 : w.heap.size + 1 + 1 ≠ w.heap.size := by omega
  have sA : w.Since w.heap.size (((w.alloc (.cells #[.bool f, .slice (some a) n ca, .slice (some b) m cb] 53)).alloc (.cells #[.bool f', .slice (some a') n' ca', .slice (some b') m' cb'] 53)).alloc (.cells #[.bool false, .slice none 0 0, .slice none 0 0] 53)) := (((World.Since.refl _ _).alloc (Nat.le_refl _) _).alloc (by simp) _).alloc (by simp; omega) _
  have zA : (((w.alloc (.cells #[.bool f, .slice (some a) n ca, .slice (some b) m cb] 53)).alloc (.cells #[.bool f', .slice (some a') n' ca', .slice (some b') m' cb'] 53)).alloc (.cells #[.bool false, .slice none 0 0, .slice none 0 0] 53)).heap.size = w.heap.size + 1 + 1 + 1 := by simp
  have oA : Box3 (((w.alloc (.cells #[.bool f, .slice (some a) n ca, .slice (some b) m cb] 53)).alloc (.cells #[.bool f', .slice (some a') n' ca', .slice (some b') m' cb'] 53)).alloc (.cells #[.bool false, .slice none 0 0, .slice none 0 0] 53)) w.heap.size (.bool f) (.slice (some a) n ca) (.slice (some b) m cb) := ((Box3.new w _ _ _ _).keep ((World.Since.refl _ _).alloc (Nat.le_refl _) _)).keep ((World.Since.refl _ _).alloc (Nat.le_refl _) _)
  have pA : Box3 (((w.alloc (.cells #[.bool f, .slice (some a) n ca, .slice (some b) m cb] 53)).alloc (.cells #[.bool f', .slice (some a') n' ca', .slice (some b') m' cb'] 53)).alloc (.cells #[.bool false, .slice none 0 0, .slice none 0 0] 53)) (w.heap.size + 1) (.bool f') (.slice (some a') n' ca') (.slice (some b') m' cb') := by
    have := (Box3.new (w.alloc (.cells #[.bool f, .slice (some a) n ca, .slice (some b) m cb] 53)) (.bool f') (.slice (some a') n' ca') (.slice (some b') m' cb') 53).keep ((World.Since.refl _ _).alloc (Nat.le_refl _) (.cells #[.bool false, .slice none 0 0, .slice none 0 0] 53))
    simpa using this
  have rA : Box3 (((w.alloc (.cells #[.bool f, .slice (some a) n ca, .slice (some b) m cb] 53)).alloc (.cells #[.bool f', .slice (some a') n' ca', .slice (some b') m' cb'] 53)).alloc (.cells #[.bool false, .slice none 0 0, .slice none 0 0] 53)) (w.heap.size + 1 + 1) (.bool false) (.slice none 0 0) (.slice none 0 0) := by
    have := Box3.new ((w.alloc (.cells #[.bool f, .slice (some a) n ca, .slice (some b) m cb] 53)).alloc (.cells #[.bool f', .slice (some a') n' ca', .slice (some b') m' cb'] 53)) (.bool false) (.slice none 0 0) (.slice none 0 0) 53
    simpa using this
  have hDD := Nat.mul_pos R.den R'.den
  obtain ⟨p, hp⟩ : ∃ p, p = lv X n * lv Y' m' := ⟨_, rfl⟩
  obtain ⟨r, hr⟩ : ∃ r, r = lv X' n' * lv Y m := ⟨_, rfl⟩
  obtain ⟨q, hq⟩ : ∃ q, q = lv Y m * lv Y' m' := ⟨_, rfl⟩
  rw [← hp, ← hr, ← hq]
  rw [← hq] at hDD
  obtain ⟨sn, hSN⟩ : ∃ s, s = sumNeg f f' p r := ⟨_, rfl⟩
  obtain ⟨st, hST⟩ : ∃ s, s = sumTop f f' p r := ⟨_, rfl⟩
  rw [← hSN, ← hST]
  have HSN := hide hSN
  have HST := hide hST
  have HP := hide hp
  have HR := hide hr
  have HQ := hide hq
  clear hSN hST hp hr hq
  have q1 : ((n : Int) == 0) = false := by simp; omega
  have q2 : ((n' : Int) == 0) = false := by simp; omega
  have j0 := oA.c0
  have j1 := oA.c1
  have j2 := oA.c2
  go_enter Tryz.func129, Tryz.ntmps129
  go_wp2_with fail
  generalize (((w.alloc (.cells #[.bool f, .slice (some a) n ca, .slice (some b) m cb] 53)).alloc (.cells #[.bool f', .slice (some a') n' ca', .slice (some b') m' cb'] 53)).alloc (.cells #[.bool false, .slice none 0 0, .slice none 0 0] 53)) = w1 at *
  have I1 := l1IsSmall_any f (some a) (some b) ba oa n ca bb ob m cb X Y w1 (by omega) (by omega) (R.keep sA).LX (R.keep sA).LY R.lX R.lY
  rw [show smallB X n Y m = false by simpa using hs] at I1
  refine I1.mono ?_
  rintro e w3 ⟨rfl, s3⟩
  have S3 : w.Since w.heap.size w3 := sA.trans (sinceMono s3 sA.size)
  have o3 := oA.keep s3
  have p3 := pA.keep s3
  have r3 := rA.keep s3
  clear I1 j0 j1 j2 oA pA rA
  have k := And.intro o3.cells p3.cells
  have J1 := l1Bits_any (some a) ba oa n ca X w3.drew (by omega) (R.keep S3).LX R.lX
  go_wp2
  go_region_held3 (fun w' => w'.cell? ⟨w.heap.size, 0, none⟩ = some (.bool f) ∧ w'.cell? ⟨w.heap.size, 1, none⟩ = some (.slice (some a) n ca) ∧ w'.cell? ⟨w.heap.size, 2, none⟩ = some (.slice (some b) m cb) ∧ w'.cell? ⟨w.heap.size + 1, 0, none⟩ = some (.bool f') ∧ w'.cell? ⟨w.heap.size + 1, 1, none⟩ = some (.slice (some a') n' ca') ∧ w'.cell? ⟨w.heap.size + 1, 2, none⟩ = some (.slice (some b') m' cb')) (go_keep)
    (first
      | (go_at_call 48
         first
          | (with_reducible refine J1.mono ?_
             rintro e v4 ⟨a1, g1, m1, t1, B1, rfl, k1, k2, L1, -, p1, e1, s4⟩
             have S4' : w.Since w.heap.size v4 := (since_drew S3).trans (sinceMono s4 S3.size)
             have o4' := o3.drew.keep s4
             have p4' := p3.drew.keep s4
             have r4' := r3.drew.keep s4
             have kk := And.intro o4'.cells p4'.cells
             have J2 := l1Bits_any (some b') bb' ob' m' cb' Y' v4 (by omega) (R'.keep S4').LY R'.lY)
          | (with_reducible refine J2.mono ?_
             rintro e v5 ⟨a2, g2, m2, t2, B2, rfl, l1, l2, L2, -, p2, e2, s5⟩
             have S5' : w.Since w.heap.size v5 := S4'.trans (sinceMono s5 S4'.size)
             have o5' := o4'.keep s5
             have p5' := p4'.keep s5
             have r5' := r4'.keep s5
             have kk := And.intro o5'.cells p5'.cells
             have J3 := l1MulBits_any a1 a2 g1 0 m1 t1 g2 0 m2 t2 B1 B2 v5 (by omega) (by omega) (L1.keep s5) L2
             rw [e1, e2] at J3))
      | (go_at_call 154
         with_reducible refine J3.mono ?_
         rintro e w4 ⟨gx, tx, cx, Ox, rfl, f1, f2, L6, f3, f4, e6, s6⟩
         have S4 : w.Since w.heap.size w4 := S5'.trans (sinceMono s6 S5'.size)
         have o4 := o5'.keep s6
         have p4 := p5'.keep s6
         have r4 := r5'.keep s6
         have kk := And.intro o4.cells p4.cells
         have Tx4 : Tr w4 (.slice (some ⟨gx, 0, none⟩) tx cx) tx Ox := ⟨_, gx, 0, cx, rfl, f1, L6, f4⟩))
  have hx : tx ≤ 536870912 := by omega
  have Ex := hide e6
  clear k kk J1 J2 J3 e6 e1 e2 f1 f2 f3 f4 L6 s6 S4' S5' o4' p4' r4' o5' p5' r5' s4 s5 L1 L2 k1 k2 l1 l2 p1 p2 o3 p3 r3
  have k := And.intro o4.cells p4.cells
  have J1 := l1Bits_any (some a') ba' oa' n' ca' X' w4.drew (by omega) (R'.keep S4).LX R'.lX
  go_wp2
  go_region_held3 (fun w' => w'.cell? ⟨w.heap.size, 0, none⟩ = some (.bool f) ∧ w'.cell? ⟨w.heap.size, 1, none⟩ = some (.slice (some a) n ca) ∧ w'.cell? ⟨w.heap.size, 2, none⟩ = some (.slice (some b) m cb) ∧ w'.cell? ⟨w.heap.size + 1, 0, none⟩ = some (.bool f') ∧ w'.cell? ⟨w.heap.size + 1, 1, none⟩ = some (.slice (some a') n' ca') ∧ w'.cell? ⟨w.heap.size + 1, 2, none⟩ = some (.slice (some b') m' cb')) (go_keep)
    (first
      | (go_at_call 48
         first
          | (with_reducible refine J1.mono ?_
             rintro e v4 ⟨a1, g1, m1, t1, B1, rfl, k1, k2, L1, -, p1, e1, s4⟩
             have S4' : w.Since w.heap.size v4 := (since_drew S4).trans (sinceMono s4 S4.size)
             have o4' := o4.drew.keep s4
             have p4' := p4.drew.keep s4
             have r4' := r4.drew.keep s4
             have Tx4' : Tr v4 _ _ _ := Tr.keep (w := w4.drew) Tx4 s4
             have kk := And.intro o4'.cells p4'.cells
             have J2 := l1Bits_any (some b) bb ob m cb Y v4 (by omega) (R.keep S4').LY R.lY)
          | (with_reducible refine J2.mono ?_
             rintro e v5 ⟨a2, g2, m2, t2, B2, rfl, l1, l2, L2, -, p2, e2, s5⟩
             have S5' : w.Since w.heap.size v5 := S4'.trans (sinceMono s5 S4'.size)
             have o5' := o4'.keep s5
             have p5' := p4'.keep s5
             have r5' := r4'.keep s5
             have Tx5' := Tx4'.keep s5
             have kk := And.intro o5'.cells p5'.cells
             have J3 := l1MulBits_any a1 a2 g1 0 m1 t1 g2 0 m2 t2 B1 B2 v5 (by omega) (by omega) (L1.keep s5) L2
             rw [e1, e2] at J3))
      | (go_at_call 154
         with_reducible refine J3.mono ?_
         rintro e w5 ⟨gy, ty, cy, Oy, rfl, f1, f2, L6, f3, f4, e6, s6⟩
         have S5 : w.Since w.heap.size w5 := S5'.trans (sinceMono s6 S5'.size)
         have o5 := o5'.keep s6
         have p5 := p5'.keep s6
         have r5 := r5'.keep s6
         have Tx5 := Tx5'.keep s6
         have kk := And.intro o5.cells p5.cells
         have Ty5 : Tr w5 (.slice (some ⟨gy, 0, none⟩) ty cy) ty Oy := ⟨_, gy, 0, cy, rfl, f1, L6, f4⟩))
  have hy : ty ≤ 536870912 := by omega
  have Ey := hide e6
  clear k kk J1 J2 J3 e6 e1 e2 f1 f2 f3 f4 L6 s6 S4' S5' o4' p4' r4' o5' p5' r5' s4 s5 L1 L2 k1 k2 l1 l2 p1 p2 o4 p4 r4
  clear Tx4' Tx5' Tx4
  have k := And.intro o5.cells p5.cells
  have J1 := l1Bits_any (some b) bb ob m cb Y w5.drew (by omega) (R.keep S5).LY R.lY
  go_wp2
  go_region_held3 (fun w' => w'.cell? ⟨w.heap.size, 0, none⟩ = some (.bool f) ∧ w'.cell? ⟨w.heap.size, 1, none⟩ = some (.slice (some a) n ca) ∧ w'.cell? ⟨w.heap.size, 2, none⟩ = some (.slice (some b) m cb) ∧ w'.cell? ⟨w.heap.size + 1, 0, none⟩ = some (.bool f') ∧ w'.cell? ⟨w.heap.size + 1, 1, none⟩ = some (.slice (some a') n' ca') ∧ w'.cell? ⟨w.heap.size + 1, 2, none⟩ = some (.slice (some b') m' cb')) (go_keep)
    (first
      | (go_at_call 48
         first
          | (with_reducible refine J1.mono ?_
             rintro e v4 ⟨a1, g1, m1, t1, B1, rfl, k1, k2, L1, -, p1, e1, s4⟩
             have S4' : w.Since w.heap.size v4 := (since_drew S5).trans (sinceMono s4 S5.size)
             have o4' := o5.drew.keep s4
             have p4' := p5.drew.keep s4
             have r4' := r5.drew.keep s4
             have Tx4' : Tr v4 _ _ _ := Tr.keep (w := w5.drew) Tx5 s4
             have Ty4' : Tr v4 _ _ _ := Tr.keep (w := w5.drew) Ty5 s4
             have kk := And.intro o4'.cells p4'.cells
             have J2 := l1Bits_any (some b') bb' ob' m' cb' Y' v4 (by omega) (R'.keep S4').LY R'.lY)
          | (with_reducible refine J2.mono ?_
             rintro e v5 ⟨a2, g2, m2, t2, B2, rfl, l1, l2, L2, -, p2, e2, s5⟩
             have S5' : w.Since w.heap.size v5 := S4'.trans (sinceMono s5 S4'.size)
             have o5' := o4'.keep s5
             have p5' := p4'.keep s5
             have r5' := r4'.keep s5
             have Tx5' := Tx4'.keep s5
             have Ty5' := Ty4'.keep s5
             have kk := And.intro o5'.cells p5'.cells
             have J3 := l1MulBits_any a1 a2 g1 0 m1 t1 g2 0 m2 t2 B1 B2 v5 (by omega) (by omega) (L1.keep s5) L2
             rw [e1, e2] at J3))
      | (go_at_call 154
         with_reducible refine J3.mono ?_
         rintro e w6 ⟨gd, td, cd, Od, rfl, f1, f2, L6, f3, f4, e6, s6⟩
         have S6 : w.Since w.heap.size w6 := S5'.trans (sinceMono s6 S5'.size)
         have o6 := o5'.keep s6
         have p6 := p5'.keep s6
         have r6 := r5'.keep s6
         have Tx6 := Tx5'.keep s6
         have Ty6 := Ty5'.keep s6
         have kk := And.intro o6.cells p6.cells
         have Td6 : Tr w6 (.slice (some ⟨gd, 0, none⟩) td cd) td Od := ⟨_, gd, 0, cd, rfl, f1, L6, f4⟩))
  have hd : td ≤ 536870912 := by omega
  have Ed := hide e6
  clear k kk J1 J2 J3 e6 e1 e2 f1 f2 f3 f4 L6 s6 S4' S5' o4' p4' r4' o5' p5' r5' s4 s5 L1 L2 k1 k2 l1 l2 p1 p2 o5 p5 r5
  clear Tx4' Tx5' Tx5 Ty4' Ty5' Ty5
  by_cases hff : f = f'
  · subst hff
    obtain ⟨bx, ox, lx, Lx, tpx⟩ := Tx6.bits
    obtain ⟨bY, oy, ly, Ly, tpy⟩ := Ty6.bits
    have HE1 : Hid (sn = f) := hide (by rw [HSN.out]; simp [sumNeg])
    have HE2 : Hid (st = (p + r)) := hide (by rw [HST.out]; simp [sumTop])
    clear HSN HST
    have k := And.intro o6.cells p6.cells
    have J6 := l1AddBits_any _ _ bx ox tx cx bY oy ty cy Ox Oy w6.drew (by omega) (by omega) Lx Ly
    rw [Ex.out, Ey.out, ← HP.out, ← HR.out] at J6
    go_wp2_with fail
    go_region_held3 (fun w' => w'.cell? ⟨w.heap.size, 0, none⟩ = some (.bool f) ∧ w'.cell? ⟨w.heap.size, 1, none⟩ = some (.slice (some a) n ca) ∧ w'.cell? ⟨w.heap.size, 2, none⟩ = some (.slice (some b) m cb) ∧ w'.cell? ⟨w.heap.size + 1, 0, none⟩ = some (.bool f) ∧ w'.cell? ⟨w.heap.size + 1, 1, none⟩ = some (.slice (some a') n' ca') ∧ w'.cell? ⟨w.heap.size + 1, 2, none⟩ = some (.slice (some b') m' cb')) (go_keep)
      (first
        | (go_at_call 156
           with_reducible refine J6.mono ?_
           rintro e w8 ⟨gs, ts, cs, Ds, rfl, f1, f2, Ls, f3, f4, es, s8⟩
           have S8 : w.Since w.heap.size w8 := (since_drew S6).trans (sinceMono s8 S6.size)
           have o8 := o6.drew.keep s8
           have p8 := p6.drew.keep s8
           have r8 := r6.drew.keep s8
           have kk := And.intro o8.cells p8.cells
           have Td8 : Tr w8 _ _ _ := Tr.keep (w := w6.drew) Td6 s8
           have Ts : Tr w8 (.slice (some ⟨gs, 0, none⟩) ts cs) ts Ds := ⟨_, gs, 0, cs, rfl, f1, Ls, f4⟩
           have J7 := l1Make_any f _ _ ts td Ds Od w8 (by omega) (by omega) Ts Td8 (by rw [Ed.out, ← HQ.out]; exact hDD)
           rw [es, Ed.out, ← HQ.out] at J7)
        | (go_at_call 155
           with_reducible refine J7.mono ?_
           rintro e w10 ⟨v, rfl, ⟨x1, x2, g10, h10, rfl, N10, D10, y1, y2, y3⟩, s10⟩
           have N10' := N10
           have D10' := D10
           obtain ⟨aa, qa, cca, Ya, rfl, -⟩ := N10
           obtain ⟨ab, qb, ccb, Yb, rfl, -⟩ := D10
           have kk := And.intro (o8.keep s10).cells (p8.keep s10).cells
           have rB := r8.keep s10
           have u0 := rB.c0
           have u1 := rB.c1
           have u2 := rB.c2
           have uf0 := rB.f 0
           have uf1 := rB.f 1
           have uf2 := rB.f 2))
    all_goals go_wp2
    all_goals
      have S10 : w.Since w.heap.size w10 := S8.trans (sinceMono s10 S8.size)
      have z9 := S8.size
      have z11 := r8.lt
      have rC := ((rB.set0 (.bool (f && (p + r) != 0))).set1 (.slice aa qa cca)).set2 (.slice ab qb ccb)
      refine bodyPost_ret (results_box3 rfl _ _ _ _ _ _ rfl rC) rfl ?_
      have M : Marked w10 _ (w.heap.size + 1 + 1) := (((Marked.refl w10 _).setCell 0 (.bool (f && (p + r) != 0))).setCell 1 (.slice aa qa cca)).setCell 2 (.slice ab qb ccb)
      exact ⟨_, rfl, ⟨_, _, g10, h10, by rw [HE1.out, HE2.out], by rw [HE2.out]; exact N10'.marked M (by omega), by rw [HE2.out]; exact D10'.marked M (by omega), by omega, by omega, y3⟩, S10.trans (M.since (by omega))⟩
  · have hfb : (f == f') = false := by simp [hff]
    obtain ⟨bx, ox, lx, Lx, tpx⟩ := Tx6.bits
    obtain ⟨bY, oy, ly, Ly, tpy⟩ := Ty6.bits
    have k := And.intro o6.cells p6.cells
    have J5 := l1CmpBits_any _ _ bx ox tx cx bY oy ty cy Ox Oy w6 (by omega) (by omega) Lx Ly tpx tpy
    rw [Ex.out, Ey.out, ← HP.out, ← HR.out] at J5
    go_wp2_with fail
    refine J5.mono ?_
    rintro e w7 ⟨rfl, m7⟩
    have s7 := m7.since w6.heap.size
    have S7 : w.Since w.heap.size w7 := S6.trans (sinceMono s7 S6.size)
    have o7 := o6.keep s7
    have p7 := p6.keep s7
    have r7 := r6.keep s7
    have Td7 := Td6.keep s7
    have Lx := Lx.keep s7
    have Ly := Ly.keep s7
    clear J5 k o6 p6 r6 Td6 Tx6 Ty6 s7 m7
    by_cases hlt : p < r
    · have hcp := cmpN_neg hlt
      have hge : ¬ ((0 : Int) ≤ cmpN p r) := by omega
      have htl : tx ≤ ty := by
        rcases Nat.lt_or_ge ty tx with h | h
        · have := bv_short (A := Oy) (B := Ox) h tpx
          rw [Ex.out, Ey.out, ← HP.out, ← HR.out] at this; omega
        · exact h
      have hle : bv Ox tx ≤ bv Oy ty := by rw [Ex.out, Ey.out, ← HP.out, ← HR.out]; omega
      have HE1 : Hid (sn = f') := hide (by rw [HSN.out]; simp [sumNeg, hff, hlt])
      have HE2 : Hid (st = (r - p)) := hide (by rw [HST.out]; simp [sumTop, hff, hlt])
      clear HSN HST
      have k := And.intro o7.cells p7.cells
      have J6 := l1SubBits_any _ _ bY oy ty cy bx ox tx cx Oy Ox w7.drew (by omega) htl Ly Lx hle
      rw [Ex.out, Ey.out, ← HP.out, ← HR.out] at J6
      clear hff hle htl
      go_wp2_with fail
      go_region_held3 (fun w' => w'.cell? ⟨w.heap.size, 0, none⟩ = some (.bool f) ∧ w'.cell? ⟨w.heap.size, 1, none⟩ = some (.slice (some a) n ca) ∧ w'.cell? ⟨w.heap.size, 2, none⟩ = some (.slice (some b) m cb) ∧ w'.cell? ⟨w.heap.size + 1, 0, none⟩ = some (.bool f') ∧ w'.cell? ⟨w.heap.size + 1, 1, none⟩ = some (.slice (some a') n' ca') ∧ w'.cell? ⟨w.heap.size + 1, 2, none⟩ = some (.slice (some b') m' cb')) (go_keep)
        (first
          | (go_at_call 151
             with_reducible refine J6.mono ?_
             rintro e w8 ⟨gs, ts, cs, Ds, rfl, f1, f2, Ls, f3, f4, es, s8⟩
             have S8 : w.Since w.heap.size w8 := (since_drew S7).trans (sinceMono s8 S7.size)
             have o8 := o7.drew.keep s8
             have p8 := p7.drew.keep s8
             have r8 := r7.drew.keep s8
             have kk := And.intro o8.cells p8.cells
             have Td8 : Tr w8 _ _ _ := Tr.keep (w := w7.drew) Td7 s8
             have Ts : Tr w8 (.slice (some ⟨gs, 0, none⟩) ts cs) ts Ds := ⟨_, gs, 0, cs, rfl, f1, Ls, f4⟩
             have J7 := l1Make_any f' _ _ ts td Ds Od w8 (by omega) (by omega) Ts Td8 (by rw [Ed.out, ← HQ.out]; exact hDD)
             rw [es, Ed.out, ← HQ.out] at J7)
          | (go_at_call 155
             with_reducible refine J7.mono ?_
             rintro e w10 ⟨v, rfl, ⟨x1, x2, g10, h10, rfl, N10, D10, y1, y2, y3⟩, s10⟩
             have N10' := N10
             have D10' := D10
             obtain ⟨aa, qa, cca, Ya, rfl, -⟩ := N10
             obtain ⟨ab, qb, ccb, Yb, rfl, -⟩ := D10
             have kk := And.intro (o8.keep s10).cells (p8.keep s10).cells
             have rB := r8.keep s10
             have u0 := rB.c0
             have u1 := rB.c1
             have u2 := rB.c2
             have uf0 := rB.f 0
             have uf1 := rB.f 1
             have uf2 := rB.f 2))
      all_goals go_wp2
      all_goals
        have S10 : w.Since w.heap.size w10 := S8.trans (sinceMono s10 S8.size)
        have z9 := S8.size
        have z11 := r8.lt
        have rC := ((rB.set0 (.bool (f' && (r - p) != 0))).set1 (.slice aa qa cca)).set2 (.slice ab qb ccb)
        refine bodyPost_ret (results_box3 rfl _ _ _ _ _ _ rfl rC) rfl ?_
        have M : Marked w10 _ (w.heap.size + 1 + 1) := (((Marked.refl w10 _).setCell 0 (.bool (f' && (r - p) != 0))).setCell 1 (.slice aa qa cca)).setCell 2 (.slice ab qb ccb)
        exact ⟨_, rfl, ⟨_, _, g10, h10, by rw [HE1.out, HE2.out], by rw [HE2.out]; exact N10'.marked M (by omega), by rw [HE2.out]; exact D10'.marked M (by omega), by omega, by omega, y3⟩, S10.trans (M.since (by omega))⟩
    · have hcp := cmpN_nonneg (Nat.le_of_not_lt hlt)
      have htl : ty ≤ tx := by
        rcases Nat.lt_or_ge tx ty with h | h
        · have := bv_short (A := Ox) (B := Oy) h tpy
          rw [Ex.out, Ey.out, ← HP.out, ← HR.out] at this; omega
        · exact h
      have hle : bv Oy ty ≤ bv Ox tx := by rw [Ex.out, Ey.out, ← HP.out, ← HR.out]; omega
      have HE1 : Hid (sn = f) := hide (by rw [HSN.out]; simp [sumNeg, hff, hlt])
      have HE2 : Hid (st = (p - r)) := hide (by rw [HST.out]; simp [sumTop, hff, hlt])
      clear HSN HST
      have k := And.intro o7.cells p7.cells
      have J6 := l1SubBits_any _ _ bx ox tx cx bY oy ty cy Ox Oy w7.drew (by omega) htl Lx Ly hle
      rw [Ex.out, Ey.out, ← HP.out, ← HR.out] at J6
      clear hff hle htl
      go_wp2_with fail
      go_region_held3 (fun w' => w'.cell? ⟨w.heap.size, 0, none⟩ = some (.bool f) ∧ w'.cell? ⟨w.heap.size, 1, none⟩ = some (.slice (some a) n ca) ∧ w'.cell? ⟨w.heap.size, 2, none⟩ = some (.slice (some b) m cb) ∧ w'.cell? ⟨w.heap.size + 1, 0, none⟩ = some (.bool f') ∧ w'.cell? ⟨w.heap.size + 1, 1, none⟩ = some (.slice (some a') n' ca') ∧ w'.cell? ⟨w.heap.size + 1, 2, none⟩ = some (.slice (some b') m' cb')) (go_keep)
        (first
          | (go_at_call 151
             with_reducible refine J6.mono ?_
             rintro e w8 ⟨gs, ts, cs, Ds, rfl, f1, f2, Ls, f3, f4, es, s8⟩
             have S8 : w.Since w.heap.size w8 := (since_drew S7).trans (sinceMono s8 S7.size)
             have o8 := o7.drew.keep s8
             have p8 := p7.drew.keep s8
             have r8 := r7.drew.keep s8
             have kk := And.intro o8.cells p8.cells
             have Td8 : Tr w8 _ _ _ := Tr.keep (w := w7.drew) Td7 s8
             have Ts : Tr w8 (.slice (some ⟨gs, 0, none⟩) ts cs) ts Ds := ⟨_, gs, 0, cs, rfl, f1, Ls, f4⟩
             have J7 := l1Make_any f _ _ ts td Ds Od w8 (by omega) (by omega) Ts Td8 (by rw [Ed.out, ← HQ.out]; exact hDD)
             rw [es, Ed.out, ← HQ.out] at J7)
          | (go_at_call 155
             with_reducible refine J7.mono ?_
             rintro e w10 ⟨v, rfl, ⟨x1, x2, g10, h10, rfl, N10, D10, y1, y2, y3⟩, s10⟩
             have N10' := N10
             have D10' := D10
             obtain ⟨aa, qa, cca, Ya, rfl, -⟩ := N10
             obtain ⟨ab, qb, ccb, Yb, rfl, -⟩ := D10
             have kk := And.intro (o8.keep s10).cells (p8.keep s10).cells
             have rB := r8.keep s10
             have u0 := rB.c0
             have u1 := rB.c1
             have u2 := rB.c2
             have uf0 := rB.f 0
             have uf1 := rB.f 1
             have uf2 := rB.f 2))
      all_goals go_wp2
      all_goals
        have S10 : w.Since w.heap.size w10 := S8.trans (sinceMono s10 S8.size)
        have z9 := S8.size
        have z11 := r8.lt
        have rC := ((rB.set0 (.bool (f && (p - r) != 0))).set1 (.slice aa qa cca)).set2 (.slice ab qb ccb)
        refine bodyPost_ret (results_box3 rfl _ _ _ _ _ _ rfl rC) rfl ?_
        have M : Marked w10 _ (w.heap.size + 1 + 1) := (((Marked.refl w10 _).setCell 0 (.bool (f && (p - r) != 0))).setCell 1 (.slice aa qa cca)).setCell 2 (.slice ab qb ccb)
        exact ⟨_, rfl, ⟨_, _, g10, h10, by rw [HE1.out, HE2.out], by rw [HE2.out]; exact N10'.marked M (by omega), by rw [HE2.out]; exact D10'.marked M (by omega), by omega, by omega, y3⟩, S10.trans (M.since (by omega))⟩

end Go.Proofs.YtlpabmcebpppfaaGreatDoor

namespace Go.Proofs.YtlpabmcebpppfaaGreatDoor
open Go.RowKit

set_option maxHeartbeats 3200000 in
set_option maxRecDepth 100000 in
theorem l1Add_bigB (f f' : Bool) (a b a' b' : Addr) (ba oa n ca bb ob m cb ba' oa' n' ca' bb' ob' m' cb' : Nat) (X Y X' Y' : Nat → Nat) (w : World) (hn : n + n' + m + m' ≤ 16777216)
    (R : RIn w (some a) (some b) ba oa n ca bb ob m cb X Y) (R' : RIn w (some a') (some b') ba' oa' n' ca' bb' ob' m' cb' X' Y') (h1 : 0 < n) (h2 : 0 < n') (hs : smallB X n Y m = true) (hs' : ¬ smallB X' n' Y' m' = true) :
    Calls Tryz.prog 129 #[.agg #[.bool f, .slice (some a) n ca, .slice (some b) m cb], .agg #[.bool f', .slice (some a') n' ca', .slice (some b') m' cb']] w fun e w' => ∃ v, e = .returned v ∧
      RatV w' v (sumNeg f f' (lv X n * lv Y' m') (lv X' n' * lv Y m) && sumTop f f' (lv X n * lv Y' m') (lv X' n' * lv Y m) != 0) (sumTop f f' (lv X n * lv Y' m') (lv X' n' * lv Y m) / Nat.gcd (sumTop f f' (lv X n * lv Y' m') (lv X' n' * lv Y m)) (lv Y m * lv Y' m')) ((lv Y m * lv Y' m') / Nat.gcd (sumTop f f' (lv X n * lv Y' m') (lv X' n' * lv Y m)) (lv Y m * lv Y' m')) w.heap.size 67108864 ∧ w.Since w.heap.size w' := by
  have hne2 : w.heap.size + 1 + 1 ≠ w.heap.size := by omega
  have sA : w.Since w.heap.size (((w.alloc (.cells #[.bool f, .slice (some a) n ca, .slice (some b) m cb] 53)).alloc (.cells #[.bool f', .slice (some a') n' ca', .slice (some b') m' cb'] 53)).alloc (.cells #[.bool false, .slice none 0 0, .slice none 0 0] 53)) := (((World.Since.refl _ _).alloc (Nat.le_refl _) _).alloc (by simp) _).alloc (by simp; omega) _
  have zA : (((w.alloc (.cells #[.bool f, .slice (some a) n ca, .slice (some b) m cb] 53)).alloc (.cells #[.bool f', .slice (some a') n' ca', .slice (some b') m' cb'] 53)).alloc (.cells #[.bool false, .slice none 0 0, .slice none 0 0] 53)).heap.size = w.heap.size + 1 + 1 + 1 := by simp
  have oA : Box3 (((w.alloc (.cells #[.bool f, .slice (some a) n ca, .slice (some b) m cb] 53)).alloc (.cells #[.bool f', .slice (some a') n' ca', .slice (some b') m' cb'] 53)).alloc (.cells #[.bool false, .slice none 0 0, .slice none 0 0] 53)) w.heap.size (.bool f) (.slice (some a) n ca) (.slice (some b) m cb) := ((Box3.new w _ _ _ _).keep ((World.Since.refl _ _).alloc (Nat.le_refl _) _)).keep ((World.Since.refl _ _).alloc (Nat.le_refl _) _)
  have pA : Box3 (((w.alloc (.cells #[.bool f, .slice (some a) n ca, .slice (some b) m cb] 53)).alloc (.cells #[.bool f', .slice (some a') n' ca', .slice (some b') m' cb'] 53)).alloc (.cells #[.bool false, .slice none 0 0, .slice none 0 0] 53)) (w.heap.size + 1) (.bool f') (.slice (some a') n' ca') (.slice (some b') m' cb') := by
    have := (Box3.new (w.alloc (.cells #[.bool f, .slice (some a) n ca, .slice (some b) m cb] 53)) (.bool f') (.slice (some a') n' ca') (.slice (some b') m' cb') 53).keep ((World.Since.refl _ _).alloc (Nat.le_refl _) (.cells #[.bool false, .slice none 0 0, .slice none 0 0] 53))
    simpa using this
  have rA : Box3 (((w.alloc (.cells #[.bool f, .slice (some a) n ca, .slice (some b) m cb] 53)).alloc (.cells #[.bool f', .slice (some a') n' ca', .slice (some b') m' cb'] 53)).alloc (.cells #[.bool false, .slice none 0 0, .slice none 0 0] 53)) (w.heap.size + 1 + 1) (.bool false) (.slice none 0 0) (.slice none 0 0) := by
    have := Box3.new ((w.alloc (.cells #[.bool f, .slice (some a) n ca, .slice (some b) m cb] 53)).alloc (.cells #[.bool f', .slice (some a') n' ca', .slice (some b') m' cb'] 53)) (.bool false) (.slice none 0 0) (.slice none 0 0) 53
    simpa using this
  have hDD := Nat.mul_pos R.den R'.den
  obtain ⟨p, hp⟩ : ∃ p, p = lv X n * lv Y' m' := ⟨_, rfl⟩
  obtain ⟨r, hr⟩ : ∃ r, r = lv X' n' * lv Y m := ⟨_, rfl⟩
  obtain ⟨q, hq⟩ : ∃ q, q = lv Y m * lv Y' m' := ⟨_, rfl⟩
  rw [← hp, ← hr, ← hq]
  rw [← hq] at hDD
  obtain ⟨sn, hSN⟩ : ∃ s, s = sumNeg f f' p r := ⟨_, rfl⟩
  obtain ⟨st, hST⟩ : ∃ s, s = sumTop f f' p r := ⟨_, rfl⟩
  rw [← hSN, ← hST]
  have HSN := hide hSN
  have HST := hide hST
  have HP := hide hp
  have HR := hide hr
  have HQ := hide hq
  clear hSN hST hp hr hq
  have q1 : ((n : Int) == 0) = false := by simp; omega
  have q2 : ((n' : Int) == 0) = false := by simp; omega
  have j0 := oA.c0
  have j1 := oA.c1
  have j2 := oA.c2
  go_enter Tryz.func129, Tryz.ntmps129
  go_wp2_with fail
  generalize (((w.alloc (.cells #[.bool f, .slice (some a) n ca, .slice (some b) m cb] 53)).alloc (.cells #[.bool f', .slice (some a') n' ca', .slice (some b') m' cb'] 53)).alloc (.cells #[.bool false, .slice none 0 0, .slice none 0 0] 53)) = w1 at *
  have I1 := l1IsSmall_any f (some a) (some b) ba oa n ca bb ob m cb X Y w1 (by omega) (by omega) (R.keep sA).LX (R.keep sA).LY R.lX R.lY
  rw [hs] at I1
  refine I1.mono ?_
  rintro e w2 ⟨rfl, s2⟩
  have S2 : w.Since w.heap.size w2 := sA.trans (sinceMono s2 sA.size)
  have o2 := oA.keep s2
  have p2 := pA.keep s2
  have r2 := rA.keep s2
  have z2 := s2.size
  clear I1 j0 j1 j2 oA pA rA
  have k0 := p2.c0
  have k1 := p2.c1
  have k2 := p2.c2
  have I2 := l1IsSmall_any f' (some a') (some b') ba' oa' n' ca' bb' ob' m' cb' X' Y' w2 (by omega) (by omega) (R'.keep S2).LX (R'.keep S2).LY R'.lX R'.lY
  rw [show smallB X' n' Y' m' = false by simpa using hs'] at I2
  go_wp2_with fail
  refine I2.mono ?_
  rintro e w3 ⟨rfl, s3⟩
  have S3 : w.Since w.heap.size w3 := S2.trans (sinceMono s3 S2.size)
  have o3 := o2.keep s3
  have p3 := p2.keep s3
  have r3 := r2.keep s3
  have z3 := s3.size
  clear I2 k0 k1 k2 o2 p2 r2
  have k := And.intro o3.cells p3.cells
  have J1 := l1Bits_any (some a) ba oa n ca X w3.drew (by omega) (R.keep S3).LX R.lX
  go_wp2
  go_region_held3 (fun w' => w'.cell? ⟨w.heap.size, 0, none⟩ = some (.bool f) ∧ w'.cell? ⟨w.heap.size, 1, none⟩ = some (.slice (some a) n ca) ∧ w'.cell? ⟨w.heap.size, 2, none⟩ = some (.slice (some b) m cb) ∧ w'.cell? ⟨w.heap.size + 1, 0, none⟩ = some (.bool f') ∧ w'.cell? ⟨w.heap.size + 1, 1, none⟩ = some (.slice (some a') n' ca') ∧ w'.cell? ⟨w.heap.size + 1, 2, none⟩ = some (.slice (some b') m' cb')) (go_keep)
    (first
      | (go_at_call 48
         first
          | (with_reducible refine J1.mono ?_
             rintro e v4 ⟨a1, g1, m1, t1, B1, rfl, k1, k2, L1, -, p1, e1, s4⟩
             have S4' : w.Since w.heap.size v4 := (since_drew S3).trans (sinceMono s4 S3.size)
             have o4' := o3.drew.keep s4
             have p4' := p3.drew.keep s4
             have r4' := r3.drew.keep s4
             have kk := And.intro o4'.cells p4'.cells
             have J2 := l1Bits_any (some b') bb' ob' m' cb' Y' v4 (by omega) (R'.keep S4').LY R'.lY)
          | (with_reducible refine J2.mono ?_
             rintro e v5 ⟨a2, g2, m2, t2, B2, rfl, l1, l2, L2, -, p2, e2, s5⟩
             have S5' : w.Since w.heap.size v5 := S4'.trans (sinceMono s5 S4'.size)
             have o5' := o4'.keep s5
             have p5' := p4'.keep s5
             have r5' := r4'.keep s5
             have kk := And.intro o5'.cells p5'.cells
             have J3 := l1MulBits_any a1 a2 g1 0 m1 t1 g2 0 m2 t2 B1 B2 v5 (by omega) (by omega) (L1.keep s5) L2
             rw [e1, e2] at J3))
      | (go_at_call 154
         with_reducible refine J3.mono ?_
         rintro e w4 ⟨gx, tx, cx, Ox, rfl, f1, f2, L6, f3, f4, e6, s6⟩
         have S4 : w.Since w.heap.size w4 := S5'.trans (sinceMono s6 S5'.size)
         have o4 := o5'.keep s6
         have p4 := p5'.keep s6
         have r4 := r5'.keep s6
         have kk := And.intro o4.cells p4.cells
         have Tx4 : Tr w4 (.slice (some ⟨gx, 0, none⟩) tx cx) tx Ox := ⟨_, gx, 0, cx, rfl, f1, L6, f4⟩))
  have hx : tx ≤ 536870912 := by omega
  have Ex := hide e6
  clear k kk J1 J2 J3 e6 e1 e2 f1 f2 f3 f4 L6 s6 S4' S5' o4' p4' r4' o5' p5' r5' s4 s5 L1 L2 k1 k2 l1 l2 p1 p2 o3 p3 r3
  have k := And.intro o4.cells p4.cells
  have J1 := l1Bits_any (some a') ba' oa' n' ca' X' w4.drew (by omega) (R'.keep S4).LX R'.lX
  go_wp2
  go_region_held3 (fun w' => w'.cell? ⟨w.heap.size, 0, none⟩ = some (.bool f) ∧ w'.cell? ⟨w.heap.size, 1, none⟩ = some (.slice (some a) n ca) ∧ w'.cell? ⟨w.heap.size, 2, none⟩ = some (.slice (some b) m cb) ∧ w'.cell? ⟨w.heap.size + 1, 0, none⟩ = some (.bool f') ∧ w'.cell? ⟨w.heap.size + 1, 1, none⟩ = some (.slice (some a') n' ca') ∧ w'.cell? ⟨w.heap.size + 1, 2, none⟩ = some (.slice (some b') m' cb')) (go_keep)
    (first
      | (go_at_call 48
         first
          | (with_reducible refine J1.mono ?_
             rintro e v4 ⟨a1, g1, m1, t1, B1, rfl, k1, k2, L1, -, p1, e1, s4⟩
             have S4' : w.Since w.heap.size v4 := (since_drew S4).trans (sinceMono s4 S4.size)
             have o4' := o4.drew.keep s4
             have p4' := p4.drew.keep s4
             have r4' := r4.drew.keep s4
             have Tx4' : Tr v4 _ _ _ := Tr.keep (w := w4.drew) Tx4 s4
             have kk := And.intro o4'.cells p4'.cells
             have J2 := l1Bits_any (some b) bb ob m cb Y v4 (by omega) (R.keep S4').LY R.lY)
          | (with_reducible refine J2.mono ?_
             rintro e v5 ⟨a2, g2, m2, t2, B2, rfl, l1, l2, L2, -, p2, e2, s5⟩
             have S5' : w.Since w.heap.size v5 := S4'.trans (sinceMono s5 S4'.size)
             have o5' := o4'.keep s5
             have p5' := p4'.keep s5
             have r5' := r4'.keep s5
             have Tx5' := Tx4'.keep s5
             have kk := And.intro o5'.cells p5'.cells
             have J3 := l1MulBits_any a1 a2 g1 0 m1 t1 g2 0 m2 t2 B1 B2 v5 (by omega) (by omega) (L1.keep s5) L2
             rw [e1, e2] at J3))
      | (go_at_call 154
         with_reducible refine J3.mono ?_
         rintro e w5 ⟨gy, ty, cy, Oy, rfl, f1, f2, L6, f3, f4, e6, s6⟩
         have S5 : w.Since w.heap.size w5 := S5'.trans (sinceMono s6 S5'.size)
         have o5 := o5'.keep s6
         have p5 := p5'.keep s6
         have r5 := r5'.keep s6
         have Tx5 := Tx5'.keep s6
         have kk := And.intro o5.cells p5.cells
         have Ty5 : Tr w5 (.slice (some ⟨gy, 0, none⟩) ty cy) ty Oy := ⟨_, gy, 0, cy, rfl, f1, L6, f4⟩))
  have hy : ty ≤ 536870912 := by omega
  have Ey := hide e6
  clear k kk J1 J2 J3 e6 e1 e2 f1 f2 f3 f4 L6 s6 S4' S5' o4' p4' r4' o5' p5' r5' s4 s5 L1 L2 k1 k2 l1 l2 p1 p2 o4 p4 r4
  clear Tx4' Tx5' Tx4
  have k := And.intro o5.cells p5.cells
  have J1 := l1Bits_any (some b) bb ob m cb Y w5.drew (by omega) (R.keep S5).LY R.lY
  go_wp2
  go_region_held3 (fun w' => w'.cell? ⟨w.heap.size, 0, none⟩ = some (.bool f) ∧ w'.cell? ⟨w.heap.size, 1, none⟩ = some (.slice (some a) n ca) ∧ w'.cell? ⟨w.heap.size, 2, none⟩ = some (.slice (some b) m cb) ∧ w'.cell? ⟨w.heap.size + 1, 0, none⟩ = some (.bool f') ∧ w'.cell? ⟨w.heap.size + 1, 1, none⟩ = some (.slice (some a') n' ca') ∧ w'.cell? ⟨w.heap.size + 1, 2, none⟩ = some (.slice (some b') m' cb')) (go_keep)
    (first
      | (go_at_call 48
         first
          | (with_reducible refine J1.mono ?_
             rintro e v4 ⟨a1, g1, m1, t1, B1, rfl, k1, k2, L1, -, p1, e1, s4⟩
             have S4' : w.Since w.heap.size v4 := (since_drew S5).trans (sinceMono s4 S5.size)
             have o4' := o5.drew.keep s4
             have p4' := p5.drew.keep s4
             have r4' := r5.drew.keep s4
             have Tx4' : Tr v4 _ _ _ := Tr.keep (w := w5.drew) Tx5 s4
             have Ty4' : Tr v4 _ _ _ := Tr.keep (w := w5.drew) Ty5 s4
             have kk := And.intro o4'.cells p4'.cells
             have J2 := l1Bits_any (some b') bb' ob' m' cb' Y' v4 (by omega) (R'.keep S4').LY R'.lY)
          | (with_reducible refine J2.mono ?_
             rintro e v5 ⟨a2, g2, m2, t2, B2, rfl, l1, l2, L2, -, p2, e2, s5⟩
             have S5' : w.Since w.heap.size v5 := S4'.trans (sinceMono s5 S4'.size)
             have o5' := o4'.keep s5
             have p5' := p4'.keep s5
             have r5' := r4'.keep s5
             have Tx5' := Tx4'.keep s5
             have Ty5' := Ty4'.keep s5
             have kk := And.intro o5'.cells p5'.cells
             have J3 := l1MulBits_any a1 a2 g1 0 m1 t1 g2 0 m2 t2 B1 B2 v5 (by omega) (by omega) (L1.keep s5) L2
             rw [e1, e2] at J3))
      | (go_at_call 154
         with_reducible refine J3.mono ?_
         rintro e w6 ⟨gd, td, cd, Od, rfl, f1, f2, L6, f3, f4, e6, s6⟩
         have S6 : w.Since w.heap.size w6 := S5'.trans (sinceMono s6 S5'.size)
         have o6 := o5'.keep s6
         have p6 := p5'.keep s6
         have r6 := r5'.keep s6
         have Tx6 := Tx5'.keep s6
         have Ty6 := Ty5'.keep s6
         have kk := And.intro o6.cells p6.cells
         have Td6 : Tr w6 (.slice (some ⟨gd, 0, none⟩) td cd) td Od := ⟨_, gd, 0, cd, rfl, f1, L6, f4⟩))
  have hd : td ≤ 536870912 := by omega
  have Ed := hide e6
  clear k kk J1 J2 J3 e6 e1 e2 f1 f2 f3 f4 L6 s6 S4' S5' o4' p4' r4' o5' p5' r5' s4 s5 L1 L2 k1 k2 l1 l2 p1 p2 o5 p5 r5
  clear Tx4' Tx5' Tx5 Ty4' Ty5' Ty5
  by_cases hff : f = f'
  · subst hff
    obtain ⟨bx, ox, lx, Lx, tpx⟩ := Tx6.bits
    obtain ⟨bY, oy, ly, Ly, tpy⟩ := Ty6.bits
    have HE1 : Hid (sn = f) := hide (by rw [HSN.out]; simp [sumNeg])
    have HE2 : Hid (st = (p + r)) := hide (by rw [HST.out]; simp [sumTop])
    clear HSN HST
    have k := And.intro o6.cells p6.cells
    have J6 := l1AddBits_any _ _ bx ox tx cx bY oy ty cy Ox Oy w6.drew (by omega) (by omega) Lx Ly
    rw [Ex.out, Ey.out, ← HP.out, ← HR.out] at J6
    go_wp2_with fail
    go_region_held3 (fun w' => w'.cell? ⟨w.heap.size, 0, none⟩ = some (.bool f) ∧ w'.cell? ⟨w.heap.size, 1, none⟩ = some (.slice (some a) n ca) ∧ w'.cell? ⟨w.heap.size, 2, none⟩ = some (.slice (some b) m cb) ∧ w'.cell? ⟨w.heap.size + 1, 0, none⟩ = some (.bool f) ∧ w'.cell? ⟨w.heap.size + 1, 1, none⟩ = some (.slice (some a') n' ca') ∧ w'.cell? ⟨w.heap.size + 1, 2, none⟩ = some (.slice (some b') m' cb')) (go_keep)
      (first
        | (go_at_call 156
           with_reducible refine J6.mono ?_
           rintro e w8 ⟨gs, ts, cs, Ds, rfl, f1, f2, Ls, f3, f4, es, s8⟩
           have S8 : w.Since w.heap.size w8 := (since_drew S6).trans (sinceMono s8 S6.size)
           have o8 := o6.drew.keep s8
           have p8 := p6.drew.keep s8
           have r8 := r6.drew.keep s8
           have kk := And.intro o8.cells p8.cells
           have Td8 : Tr w8 _ _ _ := Tr.keep (w := w6.drew) Td6 s8
           have Ts : Tr w8 (.slice (some ⟨gs, 0, none⟩) ts cs) ts Ds := ⟨_, gs, 0, cs, rfl, f1, Ls, f4⟩
           have J7 := l1Make_any f _ _ ts td Ds Od w8 (by omega) (by omega) Ts Td8 (by rw [Ed.out, ← HQ.out]; exact hDD)
           rw [es, Ed.out, ← HQ.out] at J7)
        | (go_at_call 155
           with_reducible refine J7.mono ?_
           rintro e w10 ⟨v, rfl, ⟨x1, x2, g10, h10, rfl, N10, D10, y1, y2, y3⟩, s10⟩
           have N10' := N10
           have D10' := D10
           obtain ⟨aa, qa, cca, Ya, rfl, -⟩ := N10
           obtain ⟨ab, qb, ccb, Yb, rfl, -⟩ := D10
           have kk := And.intro (o8.keep s10).cells (p8.keep s10).cells
           have rB := r8.keep s10
           have u0 := rB.c0
           have u1 := rB.c1
           have u2 := rB.c2
           have uf0 := rB.f 0
           have uf1 := rB.f 1
           have uf2 := rB.f 2))
    all_goals go_wp2
    all_goals
      have S10 : w.Since w.heap.size w10 := S8.trans (sinceMono s10 S8.size)
      have z9 := S8.size
      have z11 := r8.lt
      have rC := ((rB.set0 (.bool (f && (p + r) != 0))).set1 (.slice aa qa cca)).set2 (.slice ab qb ccb)
      refine bodyPost_ret (results_box3 rfl _ _ _ _ _ _ rfl rC) rfl ?_
      have M : Marked w10 _ (w.heap.size + 1 + 1) := (((Marked.refl w10 _).setCell 0 (.bool (f && (p + r) != 0))).setCell 1 (.slice aa qa cca)).setCell 2 (.slice ab qb ccb)
      exact ⟨_, rfl, ⟨_, _, g10, h10, by rw [HE1.out, HE2.out], by rw [HE2.out]; exact N10'.marked M (by omega), by rw [HE2.out]; exact D10'.marked M (by omega), by omega, by omega, y3⟩, S10.trans (M.since (by omega))⟩
  · have hfb : (f == f') = false := by simp [hff]
    obtain ⟨bx, ox, lx, Lx, tpx⟩ := Tx6.bits
    obtain ⟨bY, oy, ly, Ly, tpy⟩ := Ty6.bits
    have k := And.intro o6.cells p6.cells
    have J5 := l1CmpBits_any _ _ bx ox tx cx bY oy ty cy Ox Oy w6 (by omega) (by omega) Lx Ly tpx tpy
    rw [Ex.out, Ey.out, ← HP.out, ← HR.out] at J5
    go_wp2_with fail
    refine J5.mono ?_
    rintro e w7 ⟨rfl, m7⟩
    have s7 := m7.since w6.heap.size
    have S7 : w.Since w.heap.size w7 := S6.trans (sinceMono s7 S6.size)
    have o7 := o6.keep s7
    have p7 := p6.keep s7
    have r7 := r6.keep s7
    have Td7 := Td6.keep s7
    have Lx := Lx.keep s7
    have Ly := Ly.keep s7
    clear J5 k o6 p6 r6 Td6 Tx6 Ty6 s7 m7
    by_cases hlt : p < r
    · have hcp := cmpN_neg hlt
      have hge : ¬ ((0 : Int) ≤ cmpN p r) := by omega
      have htl : tx ≤ ty := by
        rcases Nat.lt_or_ge ty tx with h | h
        · have := bv_short (A := Oy) (B := Ox) h tpx
          rw [Ex.out, Ey.out, ← HP.out, ← HR.out] at this; omega
        · exact h
      have hle : bv Ox tx ≤ bv Oy ty := by rw [Ex.out, Ey.out, ← HP.out, ← HR.out]; omega
      have HE1 : Hid (sn = f') := hide (by rw [HSN.out]; simp [sumNeg, hff, hlt])
      have HE2 : Hid (st = (r - p)) := hide (by rw [HST.out]; simp [sumTop, hff, hlt])
      clear HSN HST
      have k := And.intro o7.cells p7.cells
      have J6 := l1SubBits_any _ _ bY oy ty cy bx ox tx cx Oy Ox w7.drew (by omega) htl Ly Lx hle
      rw [Ex.out, Ey.out, ← HP.out, ← HR.out] at J6
      clear hff hle htl
      go_wp2_with fail
      go_region_held3 (fun w' => w'.cell? ⟨w.heap.size, 0, none⟩ = some (.bool f) ∧ w'.cell? ⟨w.heap.size, 1, none⟩ = some (.slice (some a) n ca) ∧ w'.cell? ⟨w.heap.size, 2, none⟩ = some (.slice (some b) m cb) ∧ w'.cell? ⟨w.heap.size + 1, 0, none⟩ = some (.bool f') ∧ w'.cell? ⟨w.heap.size + 1, 1, none⟩ = some (.slice (some a') n' ca') ∧ w'.cell? ⟨w.heap.size + 1, 2, none⟩ = some (.slice (some b') m' cb')) (go_keep)
        (first
          | (go_at_call 151
             with_reducible refine J6.mono ?_
             rintro e w8 ⟨gs, ts, cs, Ds, rfl, f1, f2, Ls, f3, f4, es, s8⟩
             have S8 : w.Since w.heap.size w8 := (since_drew S7).trans (sinceMono s8 S7.size)
             have o8 := o7.drew.keep s8
             have p8 := p7.drew.keep s8
             have r8 := r7.drew.keep s8
             have kk := And.intro o8.cells p8.cells
             have Td8 : Tr w8 _ _ _ := Tr.keep (w := w7.drew) Td7 s8
             have Ts : Tr w8 (.slice (some ⟨gs, 0, none⟩) ts cs) ts Ds := ⟨_, gs, 0, cs, rfl, f1, Ls, f4⟩
             have J7 := l1Make_any f' _ _ ts td Ds Od w8 (by omega) (by omega) Ts Td8 (by rw [Ed.out, ← HQ.out]; exact hDD)
             rw [es, Ed.out, ← HQ.out] at J7)
          | (go_at_call 155
             with_reducible refine J7.mono ?_
             rintro e w10 ⟨v, rfl, ⟨x1, x2, g10, h10, rfl, N10, D10, y1, y2, y3⟩, s10⟩
             have N10' := N10
             have D10' := D10
             obtain ⟨aa, qa, cca, Ya, rfl, -⟩ := N10
             obtain ⟨ab, qb, ccb, Yb, rfl, -⟩ := D10
             have kk := And.intro (o8.keep s10).cells (p8.keep s10).cells
             have rB := r8.keep s10
             have u0 := rB.c0
             have u1 := rB.c1
             have u2 := rB.c2
             have uf0 := rB.f 0
             have uf1 := rB.f 1
             have uf2 := rB.f 2))
      all_goals go_wp2
      all_goals
        have S10 : w.Since w.heap.size w10 := S8.trans (sinceMono s10 S8.size)
        have z9 := S8.size
        have z11 := r8.lt
        have rC := ((rB.set0 (.bool (f' && (r - p) != 0))).set1 (.slice aa qa cca)).set2 (.slice ab qb ccb)
        refine bodyPost_ret (results_box3 rfl _ _ _ _ _ _ rfl rC) rfl ?_
        have M : Marked w10 _ (w.heap.size + 1 + 1) := (((Marked.refl w10 _).setCell 0 (.bool (f' && (r - p) != 0))).setCell 1 (.slice aa qa cca)).setCell 2 (.slice ab qb ccb)
        exact ⟨_, rfl, ⟨_, _, g10, h10, by rw [HE1.out, HE2.out], by rw [HE2.out]; exact N10'.marked M (by omega), by rw [HE2.out]; exact D10'.marked M (by omega), by omega, by omega, y3⟩, S10.trans (M.since (by omega))⟩
    · have hcp := cmpN_nonneg (Nat.le_of_not_lt hlt)
      have htl : ty ≤ tx := by
        rcases Nat.lt_or_ge tx ty with h | h
        · have := bv_short (A := Ox) (B := Oy) h tpy
          rw [Ex.out, Ey.out, ← HP.out, ← HR.out] at this; omega
        · exact h
      have hle : bv Oy ty ≤ bv Ox tx := by rw [Ex.out, Ey.out, ← HP.out, ← HR.out]; omega
      have HE1 : Hid (sn = f) := hide (by rw [HSN.out]; simp [sumNeg, hff, hlt])
      have HE2 : Hid (st = (p - r)) := hide (by rw [HST.out]; simp [sumTop, hff, hlt])
      clear HSN HST
      have k := And.intro o7.cells p7.cells
      have J6 := l1SubBits_any _ _ bx ox tx cx bY oy ty cy Ox Oy w7.drew (by omega) htl Lx Ly hle
      rw [Ex.out, Ey.out, ← HP.out, ← HR.out] at J6
      clear hff hle htl
      go_wp2_with fail
      go_region_held3 (fun w' => w'.cell? ⟨w.heap.size, 0, none⟩ = some (.bool f) ∧ w'.cell? ⟨w.heap.size, 1, none⟩ = some (.slice (some a) n ca) ∧ w'.cell? ⟨w.heap.size, 2, none⟩ = some (.slice (some b) m cb) ∧ w'.cell? ⟨w.heap.size + 1, 0, none⟩ = some (.bool f') ∧ w'.cell? ⟨w.heap.size + 1, 1, none⟩ = some (.slice (some a') n' ca') ∧ w'.cell? ⟨w.heap.size + 1, 2, none⟩ = some (.slice (some b') m' cb')) (go_keep)
        (first
          | (go_at_call 151
             with_reducible refine J6.mono ?_
             rintro e w8 ⟨gs, ts, cs, Ds, rfl, f1, f2, Ls, f3, f4, es, s8⟩
             have S8 : w.Since w.heap.size w8 := (since_drew S7).trans (sinceMono s8 S7.size)
             have o8 := o7.drew.keep s8
             have p8 := p7.drew.keep s8
             have r8 := r7.drew.keep s8
             have kk := And.intro o8.cells p8.cells
             have Td8 : Tr w8 _ _ _ := Tr.keep (w := w7.drew) Td7 s8
             have Ts : Tr w8 (.slice (some ⟨gs, 0, none⟩) ts cs) ts Ds := ⟨_, gs, 0, cs, rfl, f1, Ls, f4⟩
             have J7 := l1Make_any f _ _ ts td Ds Od w8 (by omega) (by omega) Ts Td8 (by rw [Ed.out, ← HQ.out]; exact hDD)
             rw [es, Ed.out, ← HQ.out] at J7)
          | (go_at_call 155
             with_reducible refine J7.mono ?_
             rintro e w10 ⟨v, rfl, ⟨x1, x2, g10, h10, rfl, N10, D10, y1, y2, y3⟩, s10⟩
             have N10' := N10
             have D10' := D10
             obtain ⟨aa, qa, cca, Ya, rfl, -⟩ := N10
             obtain ⟨ab, qb, ccb, Yb, rfl, -⟩ := D10
             have kk := And.intro (o8.keep s10).cells (p8.keep s10).cells
             have rB := r8.keep s10
             have u0 := rB.c0
             have u1 := rB.c1
             have u2 := rB.c2
             have uf0 := rB.f 0
             have uf1 := rB.f 1
             have uf2 := rB.f 2))
      all_goals go_wp2
      all_goals
        have S10 : w.Since w.heap.size w10 := S8.trans (sinceMono s10 S8.size)
        have z9 := S8.size
        have z11 := r8.lt
        have rC := ((rB.set0 (.bool (f && (p - r) != 0))).set1 (.slice aa qa cca)).set2 (.slice ab qb ccb)
        refine bodyPost_ret (results_box3 rfl _ _ _ _ _ _ rfl rC) rfl ?_
        have M : Marked w10 _ (w.heap.size + 1 + 1) := (((Marked.refl w10 _).setCell 0 (.bool (f && (p - r) != 0))).setCell 1 (.slice aa qa cca)).setCell 2 (.slice ab qb ccb)
        exact ⟨_, rfl, ⟨_, _, g10, h10, by rw [HE1.out, HE2.out], by rw [HE2.out]; exact N10'.marked M (by omega), by rw [HE2.out]; exact D10'.marked M (by omega), by omega, by omega, y3⟩, S10.trans (M.since (by omega))⟩

theorem l1Add_any (f f' : Bool) (a b a' b' : Addr) (ba oa n ca bb ob m cb ba' oa' n' ca' bb' ob' m' cb' : Nat) (X Y X' Y' : Nat → Nat) (w : World) (hn : n + n' + m + m' ≤ 16777216)
    (R : RIn w (some a) (some b) ba oa n ca bb ob m cb X Y) (R' : RIn w (some a') (some b') ba' oa' n' ca' bb' ob' m' cb' X' Y') (ok : ratOkB f X n Y m = true) (ok' : ratOkB f' X' n' Y' m' = true) :
    Calls Tryz.prog 129 #[.agg #[.bool f, .slice (some a) n ca, .slice (some b) m cb], .agg #[.bool f', .slice (some a') n' ca', .slice (some b') m' cb']] w fun e w' => ∃ v, e = .returned v ∧
      RatV w' v (sumNeg f f' (lv X n * lv Y' m') (lv X' n' * lv Y m) && sumTop f f' (lv X n * lv Y' m') (lv X' n' * lv Y m) != 0) (sumTop f f' (lv X n * lv Y' m') (lv X' n' * lv Y m) / Nat.gcd (sumTop f f' (lv X n * lv Y' m') (lv X' n' * lv Y m)) (lv Y m * lv Y' m')) ((lv Y m * lv Y' m') / Nat.gcd (sumTop f f' (lv X n * lv Y' m') (lv X' n' * lv Y m)) (lv Y m * lv Y' m')) w.heap.size 67108864 ∧ w.Since w.heap.size w' := by
  by_cases h0 : n = 0 ∨ n' = 0
  · exact l1Add_zero f f' a b a' b' ba oa n ca bb ob m cb ba' oa' n' ca' bb' ob' m' cb' X Y X' Y' w hn R R' ok ok' h0
  have h1 : 0 < n := by omega
  have h2 : 0 < n' := by omega
  by_cases hs : smallB X n Y m = true
  · by_cases hs' : smallB X' n' Y' m' = true
    · exact l1Add_small f f' a b a' b' ba oa n ca bb ob m cb ba' oa' n' ca' bb' ob' m' cb' X Y X' Y' w hn R R' h1 h2 hs hs'
    · exact l1Add_bigB f f' a b a' b' ba oa n ca bb ob m cb ba' oa' n' ca' bb' ob' m' cb' X Y X' Y' w hn R R' h1 h2 hs hs'
  · exact l1Add_bigA f f' a b a' b' ba oa n ca bb ob m cb ba' oa' n' ca' bb' ob' m' cb' X Y X' Y' w hn R R' h1 h2 hs

end Go.Proofs.YtlpabmcebpppfaaGreatDoor

namespace Go.Proofs.YtlpabmcebpppfaaGreatDoor
open Go.RowKit

end Go.Proofs.YtlpabmcebpppfaaGreatDoor

namespace Go.Proofs.YtlpabmcebpppfaaGreatDoor
open Go.RowKit

end Go.Proofs.YtlpabmcebpppfaaGreatDoor

namespace Go.Proofs.YtlpabmcebpppfaaGreatDoor
open Go.RowKit

/-- An append to a row of one's own, from a list that may be nil. -/
theorem wpList_append_own_opt {P : Program} (w : World) {ops : Array Oper} {rest : List Oper} {o : Oper} {a : Act} {Q : Exit → Act → World → Prop} (hgd : o.guard = none) (s x : Operand) (t : TypeId)
    (ho : o.op = .call { callee := .builtin .append, args := #[s, x], argTypes := #[t, t] })
    (base : Nat) (e : TypeId) (i : TypeInfo) (z : Value) (size bytes : Nat) (ht : P.underlying t = some (.slice e)) (hi : P.info? e = some i) (hz : i.zero = some z)
    (hsize : i.size = size) (hby : i.bytes = bytes) (hzs : z.cells.size = size) (hsz : 0 < size)
    (v : Value) (n : Nat) (xs : List Value) (hs : a.eval s = v) (hown : w.ownsRow base e size v n xs)
    (q : Option Addr) (m c : Nat) (news : List Value) (hx : a.eval x = .slice q m c) (hl : news.length = m * size) (hq : q = none → m = 0 ∧ c = 0) (hnews : ∀ ad, q = some ad → ∀ j u, news[j]? = some u → w.cell? (ad.add j) = some u) (h1 : ∀ u ∈ news, u.oneCell' = true)
    (h63 : n + m ≤ maxLen) (hbytes : (n + m) * bytes ≤ 140737488355328) (hbase : base ≤ w.heap.size)
    (h : ∀ v' w', w'.ownsRow base e size v' (n + m) (xs ++ news) → w.grownBy w' v.ownBlock → (v' = .slice none 0 0 ↔ v = .slice none 0 0 ∧ m = 0) → wpList P ops Q rest (a.put o.dst v') w') : wpList P ops Q (o :: rest) a w := by
  rcases q with _ | ad
  · obtain ⟨rfl, rfl⟩ := hq rfl
    obtain rfl : news = [] := List.length_eq_zero_iff.mp (by omega)
    refine wpList_append_own_none hgd s x t ho base e i size ht hi v n xs hs hown hx (h v w ?_ ?_ ?_)
    · rw [List.append_nil]; exact hown
    · exact ⟨rfl, rfl, rfl, Nat.le_refl _, fun _ _ _ => rfl⟩
    · simp
  · exact wpList_append_own w hgd s x t ho base e i z size bytes ht hi hz hsize hby hzs hsz v n xs hs hown ad m c news hx hl (hnews ad rfl) h1 h63 hbytes hbase h

theorem limbs_newsO {w : World} {a : Option Addr} {b off n : Nat} {X : Nat → Nat} (h : Limbs w a b off n X) : ∀ ad, a = some ad → ∀ j u, (ll X n)[j]? = some u → w.cell? (ad.add j) = some u := by
  intro ad e
  subst e
  exact limbs_news h

set_option maxHeartbeats 1600000 in
set_option maxRecDepth 100000 in
/-- l1Copy of a Rat whose lists are not nil: nor are the answer's. -/
theorem l1Copy_opt (f : Bool) (x y : Option Addr) (ba oa n ca bb ob m cb : Nat) (X Y : Nat → Nat) (w : World) (hn : n ≤ 16777216) (hm : m ≤ 16777216) (hnc : n ≤ ca) (hmc : m ≤ cb) (hxc : x = none → ca = 0) (hyc : y = none → cb = 0) (hX : Limbs w x ba oa n X) (hY : Limbs w y bb ob m Y) :
    Calls Tryz.prog 152 #[.agg #[.bool f, .slice x n ca, .slice y m cb]] w fun e w' => ∃ g h c1 c2, e = .returned (.agg #[.bool f, .slice (some ⟨g, 0, none⟩) n c1, .slice (some ⟨h, 0, none⟩) m c2]) ∧ n ≤ c1 ∧ m ≤ c2 ∧
      Limbs w' (some ⟨g, 0, none⟩) g 0 n X ∧ Limbs w' (some ⟨h, 0, none⟩) h 0 m Y ∧ (0 < n → ∀ o, w'.frozen? ⟨g, o, none⟩ = false) ∧ (0 < m → ∀ o, w'.frozen? ⟨h, o, none⟩ = false) ∧ w.heap.size ≤ g ∧ g < h ∧ h < w'.heap.size ∧ w.Since w.heap.size w' := by
  obtain ⟨i0, hi, hz0, hz1, hz2⟩ := info_parts Tryz.info108
  have sA : w.Since w.heap.size ((w.alloc (.cells #[.bool f, .slice x n ca, .slice y m cb] 53)).alloc (.cells #[.bool false, .slice none 0 0, .slice none 0 0] 53)) := ((World.Since.refl _ _).alloc (Nat.le_refl _) _).alloc (by simp) _
  have oA : Box3 ((w.alloc (.cells #[.bool f, .slice x n ca, .slice y m cb] 53)).alloc (.cells #[.bool false, .slice none 0 0, .slice none 0 0] 53)) w.heap.size (.bool f) (.slice x n ca) (.slice y m cb) := (Box3.new w _ _ _ _).keep ((World.Since.refl _ _).alloc (Nat.le_refl _) _)
  have tB : ((w.alloc (.cells #[.bool f, .slice x n ca, .slice y m cb] 53)).alloc (.cells #[.bool false, .slice none 0 0, .slice none 0 0] 53)).Since ((w.alloc (.cells #[.bool f, .slice x n ca, .slice y m cb] 53)).alloc (.cells #[.bool false, .slice none 0 0, .slice none 0 0] 53)).heap.size (((w.alloc (.cells #[.bool f, .slice x n ca, .slice y m cb] 53)).alloc (.cells #[.bool false, .slice none 0 0, .slice none 0 0] 53)).alloc (.cells #[] 108)) := (World.Since.refl _ _).alloc (Nat.le_refl _) _
  have SB := sA.trans (sinceMono tB sA.size)
  have X1 := hX.keep SB
  have own1 := World.ownsRow_made (e := 108) (size := 1) ((w.alloc (.cells #[.bool f, .slice x n ca, .slice y m cb] 53)).alloc (.cells #[.bool false, .slice none 0 0, .slice none 0 0] 53)) #[] 0 (Nat.le_refl _) (by decide) rfl
  have zA : ((w.alloc (.cells #[.bool f, .slice x n ca, .slice y m cb] 53)).alloc (.cells #[.bool false, .slice none 0 0, .slice none 0 0] 53)).heap.size = w.heap.size + 1 + 1 := by simp
  have own0 := World.ownsRow_made (e := 108) (size := 1) ((w.alloc (.cells #[.bool f, .slice x n ca, .slice y m cb] 53)).alloc (.cells #[.bool false, .slice none 0 0, .slice none 0 0] 53)) #[] 0 (Nat.le_refl _) (by decide) rfl
  rw [zA] at own1
  have zA' := zA
  have rA : Box3 ((w.alloc (.cells #[.bool f, .slice x n ca, .slice y m cb] 53)).alloc (.cells #[.bool false, .slice none 0 0, .slice none 0 0] 53)) (w.heap.size + 1) (.bool false) (.slice none 0 0) (.slice none 0 0) := by
    have := Box3.new (w.alloc (.cells #[.bool f, .slice x n ca, .slice y m cb] 53)) (.bool false) (.slice none 0 0) (.slice none 0 0) 53
    simpa using this
  have HZA := hide zA'
  clear zA zA'
  go_enter Tryz.func152, Tryz.ntmps152
  go_wp2_with (at_builtin; refine wpList_append_own_opt _ rfl _ _ 51 rfl (w.heap.size + 1 + 1) 108 i0 (.int .u32 0) 1 4 Tryz.underlying51 hi hz0 hz1 hz2 rfl (by decide) _ 0 [] rfl own1 x n ca (ll X n) rfl (by rw [ll_len]; omega) (fun e => by have := hxc e; omega) (limbs_newsO X1) (ll_one X n) (by unfold maxLen; omega) (by omega) (by simp) ?_)
  intro v1 w2 own2 grow2 nn2
  have tC : ((w.alloc (.cells #[.bool f, .slice x n ca, .slice y m cb] 53)).alloc (.cells #[.bool false, .slice none 0 0, .slice none 0 0] 53)).Since ((w.alloc (.cells #[.bool f, .slice x n ca, .slice y m cb] 53)).alloc (.cells #[.bool false, .slice none 0 0, .slice none 0 0] 53)).heap.size w2 := tB.grown grow2 (Nat.le_trans (Nat.le_refl _) tB.size) (fun k hk => by
    have := own0.lt k (by rw [HZA.out]; exact hk)
    exact this.1)
  have SC : w.Since w.heap.size w2 := sA.trans (sinceMono tC sA.size)
  have o2 := oA.keep tC
  have r2 := rA.keep tC
  have HN := hide nn2
  clear grow2 own1 nn2
  generalize ((w.alloc (.cells #[.bool f, .slice x n ca, .slice y m cb] 53)).alloc (.cells #[.bool false, .slice none 0 0, .slice none 0 0] 53)) = wA at *
  have tD : w2.Since w2.heap.size (w2.alloc (.cells #[] 108)) := (World.Since.refl _ _).alloc (Nat.le_refl _) _
  have SD := SC.trans (sinceMono tD SC.size)
  have Y1 := hY.keep SD
  have own3 := World.ownsRow_made (e := 108) (size := 1) w2 #[] 0 (Nat.le_refl _) (by decide) rfl
  have o3 := o2.keep tD
  have k2 := o3.c2
  go_wp2_with (at_builtin; refine wpList_append_own_opt _ rfl _ _ 51 rfl w2.heap.size 108 i0 (.int .u32 0) 1 4 Tryz.underlying51 hi hz0 hz1 hz2 rfl (by decide) _ 0 [] rfl own3 y m cb (ll Y m) rfl (by rw [ll_len]; omega) (fun e => by have := hyc e; omega) (limbs_newsO Y1) (ll_one Y m) (by unfold maxLen; omega) (by omega) tD.size ?_)
  intro v3 w4 own4 grow4 nn4
  have tE : w2.Since w2.heap.size w4 := tD.grown grow4 tD.size (fun k hk => (own3.lt k hk).1)
  have SE := SC.trans (sinceMono tE SC.size)
  have o4 := o2.keep tE
  have r4 := r2.keep tE
  obtain ⟨g1, c1, rfl, m1, b1, l1, L1, F1⟩ := own_limbs_some own2 HN.out
  obtain ⟨g2, c2, rfl, m2, b2, l2, L2, F2⟩ := own_limbs_some own4 nn4
  clear grow4 own3 nn4 k2 o3
  have j0 := o4.c0
  have u0 := r4.c0
  have u1 := r4.c1
  have u2 := r4.c2
  have uf0 := r4.f 0
  have uf1 := r4.f 1
  have uf2 := r4.f 2
  go_wp2
  have zC := tC.size
  have zE := tE.size
  have rC := ((r4.set0 (.bool f)).set1 (.slice (some ⟨g1, 0, none⟩) n c1)).set2 (.slice (some ⟨g2, 0, none⟩) m c2)
  refine bodyPost_ret (results_box3 rfl _ _ _ _ _ _ rfl rC) rfl ?_
  have M : Marked w4 _ (w.heap.size + 1) := (((Marked.refl w4 _).setCell 0 (.bool f)).setCell 1 (.slice (some ⟨g1, 0, none⟩) n c1)).setCell 2 (.slice (some ⟨g2, 0, none⟩) m c2)
  have hz := HZA.out
  have zM := M.size
  refine ⟨g1, g2, c1, c2, rfl, m1, m2, (L1.keep tE).marked M (fun _ => by omega), L2.marked M (fun _ => by omega), fun _ o => ?_, fun _ o => ?_, by omega, by omega, by omega, SE.trans (M.since (by omega))⟩
  · rw [M.frozenO (a := ⟨g1, o, none⟩) (by show g1 ≠ _; omega), tE.frozen (a := ⟨g1, o, none⟩) l1]; exact F1 o
  · rw [M.frozenO (a := ⟨g2, o, none⟩) (by show g2 ≠ _; omega)]; exact F2 o

set_option maxHeartbeats 1600000 in
set_option maxRecDepth 100000 in
theorem l1Neg_opt (f : Bool) (x y : Option Addr) (ba oa n ca bb ob m cb : Nat) (X Y : Nat → Nat) (w : World) (hn : n ≤ 16777216) (hm : m ≤ 16777216) (hnc : n ≤ ca) (hmc : m ≤ cb) (hxc : x = none → ca = 0) (hyc : y = none → cb = 0) (hX : Limbs w x ba oa n X) (hY : Limbs w y bb ob m Y) :
    Calls Tryz.prog 130 #[.agg #[.bool f, .slice x n ca, .slice y m cb]] w fun e w' => ∃ g h c1 c2, e = .returned (.agg #[.bool (!f && decide (0 < n)), .slice (some ⟨g, 0, none⟩) n c1, .slice (some ⟨h, 0, none⟩) m c2]) ∧ n ≤ c1 ∧ m ≤ c2 ∧
      Limbs w' (some ⟨g, 0, none⟩) g 0 n X ∧ Limbs w' (some ⟨h, 0, none⟩) h 0 m Y ∧ w.heap.size ≤ g ∧ g < h ∧ h < w'.heap.size ∧ w.Since w.heap.size w' := by
  have sA : w.Since w.heap.size ((w.alloc (.cells #[.bool f, .slice x n ca, .slice y m cb] 53)).alloc (.cells #[.bool false, .slice none 0 0, .slice none 0 0] 53)) := ((World.Since.refl _ _).alloc (Nat.le_refl _) _).alloc (by simp) _
  have oA : Box3 ((w.alloc (.cells #[.bool f, .slice x n ca, .slice y m cb] 53)).alloc (.cells #[.bool false, .slice none 0 0, .slice none 0 0] 53)) w.heap.size (.bool f) (.slice x n ca) (.slice y m cb) := (Box3.new w _ _ _ _).keep ((World.Since.refl _ _).alloc (Nat.le_refl _) _)
  have rA : Box3 ((w.alloc (.cells #[.bool f, .slice x n ca, .slice y m cb] 53)).alloc (.cells #[.bool false, .slice none 0 0, .slice none 0 0] 53)) (w.heap.size + 1) (.bool false) (.slice none 0 0) (.slice none 0 0) := by
    have := Box3.new (w.alloc (.cells #[.bool f, .slice x n ca, .slice y m cb] 53)) (.bool false) (.slice none 0 0) (.slice none 0 0) 53
    simpa using this
  go_enter Tryz.func130, Tryz.ntmps130
  go_wp2_with fail
  generalize ((w.alloc (.cells #[.bool f, .slice x n ca, .slice y m cb] 53)).alloc (.cells #[.bool false, .slice none 0 0, .slice none 0 0] 53)) = w1 at *
  refine (l1Copy_opt f x y ba oa n ca bb ob m cb X Y w1 hn hm hnc hmc hxc hyc (hX.keep sA) (hY.keep sA)).mono ?_
  rintro e w2 ⟨g, h, c1, c2, rfl, m1, m2, L1, L2, -, -, b1, b2, b3, s2⟩
  have S2 : w.Since w.heap.size w2 := sA.trans (sinceMono s2 sA.size)
  have z1 := rA.lt
  have t3 : w2.Since w2.heap.size (w2.alloc (.cells #[.bool f, .slice (some ⟨g, 0, none⟩) n c1, .slice (some ⟨h, 0, none⟩) m c2] 53)) := (World.Since.refl _ _).alloc (Nat.le_refl _) _
  have q3 := Box3.new w2 (.bool f) (.slice (some ⟨g, 0, none⟩) n c1) (.slice (some ⟨h, 0, none⟩) m c2) 53
  have o3 := (oA.keep s2).keep t3
  have r3 := (rA.keep s2).keep t3
  have k0 := o3.c0
  have k1 := o3.c1
  have j0 := q3.c0
  have j1 := q3.c1
  have j2 := q3.c2
  have jf := q3.f 0
  have hne : w.heap.size ≠ w2.heap.size := by omega
  have hne2 : w.heap.size + 1 ≠ w2.heap.size := by omega
  have r2 := rA.keep s2
  cases f
  · by_cases hn0 : 0 < n
    · have hgt : (0 : Int) < (n : Int) := by omega
      have t4 : w2.Since w2.heap.size (w2.alloc (.cells #[.bool true, .slice (some ⟨g, 0, none⟩) n c1, .slice (some ⟨h, 0, none⟩) m c2] 53)) := (World.Since.refl _ _).alloc (Nat.le_refl _) _
      have q4 := Box3.new w2 (.bool true) (.slice (some ⟨g, 0, none⟩) n c1) (.slice (some ⟨h, 0, none⟩) m c2) 53
      have r4 := r2.keep t4
      have S4 := S2.trans (sinceMono t4 S2.size)
      have i0 := q4.c0
      have i1 := q4.c1
      have i2 := q4.c2
      have u0 := r4.c0
      have u1 := r4.c1
      have u2 := r4.c2
      have uf0 := r4.f 0
      have uf1 := r4.f 1
      have uf2 := r4.f 2
      go_wp2
      have rC := ((r4.set0 (.bool true)).set1 (.slice (some ⟨g, 0, none⟩) n c1)).set2 (.slice (some ⟨h, 0, none⟩) m c2)
      refine bodyPost_ret (results_box3 rfl _ _ _ _ _ _ rfl rC) rfl ?_
      have M5 : Marked (w2.alloc (.cells #[.bool true, .slice (some ⟨g, 0, none⟩) n c1, .slice (some ⟨h, 0, none⟩) m c2] 53)) _ (w.heap.size + 1) := (((Marked.refl (w2.alloc (.cells #[.bool true, .slice (some ⟨g, 0, none⟩) n c1, .slice (some ⟨h, 0, none⟩) m c2] 53)) _).setCell 0 (.bool true)).setCell 1 (.slice (some ⟨g, 0, none⟩) n c1)).setCell 2 (.slice (some ⟨h, 0, none⟩) m c2)
      have zM := M5.size
      have zq : w2.heap.size ≤ (w2.alloc (.cells #[.bool true, .slice (some ⟨g, 0, none⟩) n c1, .slice (some ⟨h, 0, none⟩) m c2] 53)).heap.size := t4.size
      exact ⟨g, h, c1, c2, by simp [hn0], m1, m2, (L1.keep t4).marked M5 (fun _ => by omega), (L2.keep t4).marked M5 (fun _ => by omega), by omega, by omega, by omega, S4.trans (M5.since (by omega))⟩
    · have hgt : ¬ (0 : Int) < (n : Int) := by omega
      have t4 : w2.Since w2.heap.size (w2.alloc (.cells #[.bool false, .slice (some ⟨g, 0, none⟩) n c1, .slice (some ⟨h, 0, none⟩) m c2] 53)) := (World.Since.refl _ _).alloc (Nat.le_refl _) _
      have q4 := Box3.new w2 (.bool false) (.slice (some ⟨g, 0, none⟩) n c1) (.slice (some ⟨h, 0, none⟩) m c2) 53
      have r4 := r2.keep t4
      have S4 := S2.trans (sinceMono t4 S2.size)
      have i0 := q4.c0
      have i1 := q4.c1
      have i2 := q4.c2
      have u0 := r4.c0
      have u1 := r4.c1
      have u2 := r4.c2
      have uf0 := r4.f 0
      have uf1 := r4.f 1
      have uf2 := r4.f 2
      go_wp2
      have rC := ((r4.set0 (.bool false)).set1 (.slice (some ⟨g, 0, none⟩) n c1)).set2 (.slice (some ⟨h, 0, none⟩) m c2)
      refine bodyPost_ret (results_box3 rfl _ _ _ _ _ _ rfl rC) rfl ?_
      have M5 : Marked (w2.alloc (.cells #[.bool false, .slice (some ⟨g, 0, none⟩) n c1, .slice (some ⟨h, 0, none⟩) m c2] 53)) _ (w.heap.size + 1) := (((Marked.refl (w2.alloc (.cells #[.bool false, .slice (some ⟨g, 0, none⟩) n c1, .slice (some ⟨h, 0, none⟩) m c2] 53)) _).setCell 0 (.bool false)).setCell 1 (.slice (some ⟨g, 0, none⟩) n c1)).setCell 2 (.slice (some ⟨h, 0, none⟩) m c2)
      have zM := M5.size
      have zq : w2.heap.size ≤ (w2.alloc (.cells #[.bool false, .slice (some ⟨g, 0, none⟩) n c1, .slice (some ⟨h, 0, none⟩) m c2] 53)).heap.size := t4.size
      exact ⟨g, h, c1, c2, by simp [hn0], m1, m2, (L1.keep t4).marked M5 (fun _ => by omega), (L2.keep t4).marked M5 (fun _ => by omega), by omega, by omega, by omega, S4.trans (M5.since (by omega))⟩
  · have t4 : w2.Since w2.heap.size (w2.alloc (.cells #[.bool false, .slice (some ⟨g, 0, none⟩) n c1, .slice (some ⟨h, 0, none⟩) m c2] 53)) := (World.Since.refl _ _).alloc (Nat.le_refl _) _
    have q4 := Box3.new w2 (.bool false) (.slice (some ⟨g, 0, none⟩) n c1) (.slice (some ⟨h, 0, none⟩) m c2) 53
    have r4 := r2.keep t4
    have S4 := S2.trans (sinceMono t4 S2.size)
    have i0 := q4.c0
    have i1 := q4.c1
    have i2 := q4.c2
    have u0 := r4.c0
    have u1 := r4.c1
    have u2 := r4.c2
    have uf0 := r4.f 0
    have uf1 := r4.f 1
    have uf2 := r4.f 2
    go_wp2
    have rC := ((r4.set0 (.bool false)).set1 (.slice (some ⟨g, 0, none⟩) n c1)).set2 (.slice (some ⟨h, 0, none⟩) m c2)
    refine bodyPost_ret (results_box3 rfl _ _ _ _ _ _ rfl rC) rfl ?_
    have M5 : Marked (w2.alloc (.cells #[.bool false, .slice (some ⟨g, 0, none⟩) n c1, .slice (some ⟨h, 0, none⟩) m c2] 53)) _ (w.heap.size + 1) := (((Marked.refl (w2.alloc (.cells #[.bool false, .slice (some ⟨g, 0, none⟩) n c1, .slice (some ⟨h, 0, none⟩) m c2] 53)) _).setCell 0 (.bool false)).setCell 1 (.slice (some ⟨g, 0, none⟩) n c1)).setCell 2 (.slice (some ⟨h, 0, none⟩) m c2)
    have zM := M5.size
    have zq : w2.heap.size ≤ (w2.alloc (.cells #[.bool false, .slice (some ⟨g, 0, none⟩) n c1, .slice (some ⟨h, 0, none⟩) m c2] 53)).heap.size := t4.size
    exact ⟨g, h, c1, c2, rfl, m1, m2, (L1.keep t4).marked M5 (fun _ => by omega), (L2.keep t4).marked M5 (fun _ => by omega), by omega, by omega, by omega, S4.trans (M5.since (by omega))⟩

set_option maxHeartbeats 3200000 in
set_option maxRecDepth 100000 in
theorem l1Add_zeroOpt (f f' : Bool) (a b a' b' : Option Addr) (ba oa n ca bb ob m cb ba' oa' n' ca' bb' ob' m' cb' : Nat) (X Y X' Y' : Nat → Nat) (w : World) (hn : n + n' + m + m' ≤ 16777216)
    (R : RIn w a b ba oa n ca bb ob m cb X Y) (R' : RIn w a' b' ba' oa' n' ca' bb' ob' m' cb' X' Y') (ok : ratOkB f X n Y m = true) (ok' : ratOkB f' X' n' Y' m' = true) (h0 : n = 0 ∨ n' = 0) :
    Calls Tryz.prog 129 #[.agg #[.bool f, .slice a n ca, .slice b m cb], .agg #[.bool f', .slice a' n' ca', .slice b' m' cb']] w fun e w' => ∃ v, e = .returned v ∧
      RatV w' v (sumNeg f f' (lv X n * lv Y' m') (lv X' n' * lv Y m) && sumTop f f' (lv X n * lv Y' m') (lv X' n' * lv Y m) != 0) (sumTop f f' (lv X n * lv Y' m') (lv X' n' * lv Y m) / Nat.gcd (sumTop f f' (lv X n * lv Y' m') (lv X' n' * lv Y m)) (lv Y m * lv Y' m')) ((lv Y m * lv Y' m') / Nat.gcd (sumTop f f' (lv X n * lv Y' m') (lv X' n' * lv Y m)) (lv Y m * lv Y' m')) w.heap.size 67108864 ∧ w.Since w.heap.size w' := by
  have hne2 : w.heap.size + 1 + 1 ≠ w.heap.size := by omega
  have sA : w.Since w.heap.size (((w.alloc (.cells #[.bool f, .slice a n ca, .slice b m cb] 53)).alloc (.cells #[.bool f', .slice a' n' ca', .slice b' m' cb'] 53)).alloc (.cells #[.bool false, .slice none 0 0, .slice none 0 0] 53)) := (((World.Since.refl _ _).alloc (Nat.le_refl _) _).alloc (by simp) _).alloc (by simp; omega) _
  have zA : (((w.alloc (.cells #[.bool f, .slice a n ca, .slice b m cb] 53)).alloc (.cells #[.bool f', .slice a' n' ca', .slice b' m' cb'] 53)).alloc (.cells #[.bool false, .slice none 0 0, .slice none 0 0] 53)).heap.size = w.heap.size + 1 + 1 + 1 := by simp
  have oA : Box3 (((w.alloc (.cells #[.bool f, .slice a n ca, .slice b m cb] 53)).alloc (.cells #[.bool f', .slice a' n' ca', .slice b' m' cb'] 53)).alloc (.cells #[.bool false, .slice none 0 0, .slice none 0 0] 53)) w.heap.size (.bool f) (.slice a n ca) (.slice b m cb) := ((Box3.new w _ _ _ _).keep ((World.Since.refl _ _).alloc (Nat.le_refl _) _)).keep ((World.Since.refl _ _).alloc (Nat.le_refl _) _)
  have pA : Box3 (((w.alloc (.cells #[.bool f, .slice a n ca, .slice b m cb] 53)).alloc (.cells #[.bool f', .slice a' n' ca', .slice b' m' cb'] 53)).alloc (.cells #[.bool false, .slice none 0 0, .slice none 0 0] 53)) (w.heap.size + 1) (.bool f') (.slice a' n' ca') (.slice b' m' cb') := by
    have := (Box3.new (w.alloc (.cells #[.bool f, .slice a n ca, .slice b m cb] 53)) (.bool f') (.slice a' n' ca') (.slice b' m' cb') 53).keep ((World.Since.refl _ _).alloc (Nat.le_refl _) (.cells #[.bool false, .slice none 0 0, .slice none 0 0] 53))
    simpa using this
  have rA : Box3 (((w.alloc (.cells #[.bool f, .slice a n ca, .slice b m cb] 53)).alloc (.cells #[.bool f', .slice a' n' ca', .slice b' m' cb'] 53)).alloc (.cells #[.bool false, .slice none 0 0, .slice none 0 0] 53)) (w.heap.size + 1 + 1) (.bool false) (.slice none 0 0) (.slice none 0 0) := by
    have := Box3.new ((w.alloc (.cells #[.bool f, .slice a n ca, .slice b m cb] 53)).alloc (.cells #[.bool f', .slice a' n' ca', .slice b' m' cb'] 53)) (.bool false) (.slice none 0 0) (.slice none 0 0) 53
    simpa using this
  by_cases h1 : n = 0
  · have hZ := sum_zeroA ok ok' h1
    rw [hZ.1, hZ.2.1, hZ.2.2]
    clear hZ ok ok' h0
    subst h1
    have k0 := pA.c0
    have k1 := pA.c1
    have k2 := pA.c2
    go_enter Tryz.func129, Tryz.ntmps129
    go_wp2_with fail
    generalize (((w.alloc (.cells #[.bool f, .slice a 0 ca, .slice b m cb] 53)).alloc (.cells #[.bool f', .slice a' n' ca', .slice b' m' cb'] 53)).alloc (.cells #[.bool false, .slice none 0 0, .slice none 0 0] 53)) = w1 at *
    refine (l1Copy_opt f' a' b' ba' oa' n' ca' bb' ob' m' cb' X' Y' w1 (by omega) (by omega) R'.nc R'.mc R'.ac R'.bc (R'.keep sA).LX (R'.keep sA).LY).mono ?_
    rintro e w6 ⟨g6, h6, c1, c2, rfl, v1, v2, N6, D6, FN, FD, y1, y2, y3, s6⟩
    have rB := rA.keep s6
    have S6 : w.Since w.heap.size w6 := sA.trans (sinceMono s6 sA.size)
    have u0 := rB.c0
    have u1 := rB.c1
    have u2 := rB.c2
    have uf0 := rB.f 0
    have uf1 := rB.f 1
    have uf2 := rB.f 2
    go_wp2
    have rC := ((rB.set0 (.bool f')).set1 (.slice (some ⟨g6, 0, none⟩) n' c1)).set2 (.slice (some ⟨h6, 0, none⟩) m' c2)
    refine bodyPost_ret (results_box3 rfl _ _ _ _ _ _ rfl rC) rfl ?_
    have M : Marked w6 _ (w.heap.size + 1 + 1) := (((Marked.refl w6 _).setCell 0 (.bool f')).setCell 1 (.slice (some ⟨g6, 0, none⟩) n' c1)).setCell 2 (.slice (some ⟨h6, 0, none⟩) m' c2)
    have N7 : NatAt w6 (.slice (some ⟨g6, 0, none⟩) n' c1) g6 (lv X' n') 67108864 := ⟨_, _, _, X', rfl, v1, by omega, fun h => (by cases h), N6, FN, R'.lX, R'.pX, rfl⟩
    have D7 : NatAt w6 (.slice (some ⟨h6, 0, none⟩) m' c2) h6 (lv Y' m') 67108864 := ⟨_, _, _, Y', rfl, v2, by omega, fun h => (by cases h), D6, FD, R'.lY, R'.pY, rfl⟩
    exact ⟨_, rfl, ⟨_, _, g6, h6, rfl, N7.marked M (by omega), D7.marked M (by omega), by omega, by omega, by omega⟩, S6.trans (M.since (by omega))⟩
  · have h2 : n' = 0 := by omega
    have hZ := sum_zeroB ok ok' h2
    rw [hZ.1, hZ.2.1, hZ.2.2]
    clear hZ ok ok' h0
    subst h2
    have q1 : ((n : Int) == 0) = false := by simp; omega
    have k0 := oA.c0
    have k1 := oA.c1
    have k2 := oA.c2
    go_enter Tryz.func129, Tryz.ntmps129
    go_wp2_with fail
    generalize (((w.alloc (.cells #[.bool f, .slice a n ca, .slice b m cb] 53)).alloc (.cells #[.bool f', .slice a' 0 ca', .slice b' m' cb'] 53)).alloc (.cells #[.bool false, .slice none 0 0, .slice none 0 0] 53)) = w1 at *
    refine (l1Copy_opt f a b ba oa n ca bb ob m cb X Y w1 (by omega) (by omega) R.nc R.mc R.ac R.bc (R.keep sA).LX (R.keep sA).LY).mono ?_
    rintro e w6 ⟨g6, h6, c1, c2, rfl, v1, v2, N6, D6, FN, FD, y1, y2, y3, s6⟩
    have rB := rA.keep s6
    have S6 : w.Since w.heap.size w6 := sA.trans (sinceMono s6 sA.size)
    have u0 := rB.c0
    have u1 := rB.c1
    have u2 := rB.c2
    have uf0 := rB.f 0
    have uf1 := rB.f 1
    have uf2 := rB.f 2
    go_wp2
    have rC := ((rB.set0 (.bool f)).set1 (.slice (some ⟨g6, 0, none⟩) n c1)).set2 (.slice (some ⟨h6, 0, none⟩) m c2)
    refine bodyPost_ret (results_box3 rfl _ _ _ _ _ _ rfl rC) rfl ?_
    have M : Marked w6 _ (w.heap.size + 1 + 1) := (((Marked.refl w6 _).setCell 0 (.bool f)).setCell 1 (.slice (some ⟨g6, 0, none⟩) n c1)).setCell 2 (.slice (some ⟨h6, 0, none⟩) m c2)
    have N7 : NatAt w6 (.slice (some ⟨g6, 0, none⟩) n c1) g6 (lv X n) 67108864 := ⟨_, _, _, X, rfl, v1, by omega, fun h => (by cases h), N6, FN, R.lX, R.pX, rfl⟩
    have D7 : NatAt w6 (.slice (some ⟨h6, 0, none⟩) m c2) h6 (lv Y m) 67108864 := ⟨_, _, _, Y, rfl, v2, by omega, fun h => (by cases h), D6, FD, R.lY, R.pY, rfl⟩
    exact ⟨_, rfl, ⟨_, _, g6, h6, rfl, N7.marked M (by omega), D7.marked M (by omega), by omega, by omega, by omega⟩, S6.trans (M.since (by omega))⟩

theorem l1Add_opt (f f' : Bool) (a b a' b' : Option Addr) (ba oa n ca bb ob m cb ba' oa' n' ca' bb' ob' m' cb' : Nat) (X Y X' Y' : Nat → Nat) (w : World) (hn : n + n' + m + m' ≤ 16777216)
    (R : RIn w a b ba oa n ca bb ob m cb X Y) (R' : RIn w a' b' ba' oa' n' ca' bb' ob' m' cb' X' Y') (ok : ratOkB f X n Y m = true) (ok' : ratOkB f' X' n' Y' m' = true) :
    Calls Tryz.prog 129 #[.agg #[.bool f, .slice a n ca, .slice b m cb], .agg #[.bool f', .slice a' n' ca', .slice b' m' cb']] w fun e w' => ∃ v, e = .returned v ∧
      RatV w' v (sumNeg f f' (lv X n * lv Y' m') (lv X' n' * lv Y m) && sumTop f f' (lv X n * lv Y' m') (lv X' n' * lv Y m) != 0) (sumTop f f' (lv X n * lv Y' m') (lv X' n' * lv Y m) / Nat.gcd (sumTop f f' (lv X n * lv Y' m') (lv X' n' * lv Y m)) (lv Y m * lv Y' m')) ((lv Y m * lv Y' m') / Nat.gcd (sumTop f f' (lv X n * lv Y' m') (lv X' n' * lv Y m)) (lv Y m * lv Y' m')) w.heap.size 67108864 ∧ w.Since w.heap.size w' := by
  by_cases h0 : n = 0 ∨ n' = 0
  · exact l1Add_zeroOpt f f' a b a' b' ba oa n ca bb ob m cb ba' oa' n' ca' bb' ob' m' cb' X Y X' Y' w hn R R' ok ok' h0
  · obtain rfl : a = some ⟨ba, oa, none⟩ := by have := (R.LX 0 (by omega)).1; simpa using this
    obtain rfl : b = some ⟨bb, ob, none⟩ := by have := (R.LY 0 R.m0).1; simpa using this
    obtain rfl : a' = some ⟨ba', oa', none⟩ := by have := (R'.LX 0 (by omega)).1; simpa using this
    obtain rfl : b' = some ⟨bb', ob', none⟩ := by have := (R'.LY 0 R'.m0).1; simpa using this
    exact l1Add_any f f' _ _ _ _ ba oa n ca bb ob m cb ba' oa' n' ca' bb' ob' m' cb' X Y X' Y' w hn R R' ok ok'

end Go.Proofs.YtlpabmcebpppfaaGreatDoor

namespace Go.Proofs.YtlpabmcebpppfaaGreatDoor
open Go.RowKit

theorem sign_cmp (f f' : Bool) (x y n' q : Nat) (hf : f = true → 0 < x) (hf' : f' = true → 0 < y) (hy : 0 < n' ↔ 0 < y) (hq : q = 0 ↔ sumTop f (!f' && decide (0 < n')) x y = 0) :
    (if (q : Int) = 0 then (0 : Int) else if (sumNeg f (!f' && decide (0 < n')) x y && sumTop f (!f' && decide (0 < n')) x y != 0) = true then -1 else 1) = cmpR f f' x y := by
  have hd : decide (0 < n') = decide (0 < y) := by simp [hy]
  rw [hd] at hq ⊢
  clear hd hy
  have hq' : ((q : Int) = 0) ↔ sumTop f (!f' && decide (0 < y)) x y = 0 := by omega
  simp only [hq']
  clear hq hq'
  rcases Nat.lt_trichotomy x y with h1 | h1 | h1
  · cases f <;> cases f' <;> rcases Nat.eq_zero_or_pos y with h0 | h0 <;> simp_all [sumNeg, sumTop, cmpR, cmpN] <;> (try omega)
  · cases f <;> cases f' <;> rcases Nat.eq_zero_or_pos y with h0 | h0 <;> simp_all [sumNeg, sumTop, cmpR, cmpN] <;> (try omega)
  · have h2 : ¬ x < y := by omega
    have h3 : ¬ x - y = 0 := by omega
    have h6 : 0 < x := by omega
    have h7 : ¬ x = 0 := by omega
    clear hf
    cases f <;> cases f' <;> rcases Nat.eq_zero_or_pos y with h0 | h0 <;> simp [sumNeg, sumTop, cmpR, cmpN, h0, h1, h2, h3, h6, h7] <;> (try (have := hf' rfl; omega)) <;> (try omega)

set_option maxHeartbeats 800000 in
set_option maxRecDepth 100000 in
theorem l1Sign_any (f : Bool) (a b : Option Addr) (n ca m cb : Nat) (w : World) :
    Calls Tryz.prog 101 #[.agg #[.bool f, .slice a n ca, .slice b m cb]] w fun e w' => e = .returned (.int .i64 (if (n : Int) = 0 then (0 : Int) else if f = true then -1 else 1)) ∧ w.Since w.heap.size w' := by
  have sA : w.Since w.heap.size (w.alloc (.cells #[.bool f, .slice a n ca, .slice b m cb] 53)) := (World.Since.refl _ _).alloc (Nat.le_refl _) _
  by_cases h0 : n = 0
  · subst h0
    go_enter Tryz.func101, Tryz.ntmps101
    go_wp2
    go_ret
    exact ⟨rfl, sA⟩
  · have q1 : ((n : Int) == 0) = false := by simp; omega
    have q2 : ¬ ((n : Int) = 0) := by omega
    rw [if_neg q2]
    cases f
    · go_enter Tryz.func101, Tryz.ntmps101
      go_wp2
      go_ret
      exact ⟨rfl, sA⟩
    · go_enter Tryz.func101, Tryz.ntmps101
      go_wp2
      go_ret
      exact ⟨rfl, sA⟩

theorem ratOk_neg {f' : Bool} {X' Y' : Nat → Nat} {n' m' : Nat} (ok' : ratOkB f' X' n' Y' m' = true) : ratOkB (!f' && decide (0 < n')) X' n' Y' m' = true := by
  unfold ratOkB at *
  cases f' <;> rcases Nat.eq_zero_or_pos n' with h | h <;> simp_all <;> (try omega)

end Go.Proofs.YtlpabmcebpppfaaGreatDoor
