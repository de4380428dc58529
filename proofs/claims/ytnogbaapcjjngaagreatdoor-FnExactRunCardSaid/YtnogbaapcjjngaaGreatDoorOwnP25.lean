import Derived.Test.YtnogbaapcjjngaaGreatDoorOwnP22
import Derived.Laws.ResultCell
import Derived.Test.YtnogbaapcjjngaaGreatDoorOwnP3
import Derived.Test.YtnogbaapcjjngaaGreatDoorOwnP4
import Derived.Test.YtnogbaapcjjngaaGreatDoorOwnP19
import Derived.Laws.AppendOwnNone
set_option maxHeartbeats 6400000
set_option maxRecDepth 100000
namespace Go.Proofs.YtnogbaapcjjngaaGreatDoor
open Go.RowKit
theorem xk6 {fn : Func} {p u : Tmp} (h : fn.results = #[.cell p 61, .tmp u]) (tmps : Array Value) (w : World) (c : Nat) (x y z : Value) (hp : tmps.getD p undef = .pointer (some ⟨c, 0, none⟩)) (B : Box3 w c x y z) :
 (results fn tmps).run Tryz.prog w = .ok (.tuple #[.agg #[x, y, z], tmps.getD u undef]) w := by
 have hl := run_loadVar_mid (P := Tryz.prog) w c 0 61 [x, y, z] _ (fun j v hv => by
  rcases j with _ | _ | _ | j
  . simp at hv; subst hv; exact B.c0
  . simp at hv; subst hv; exact B.c1
  . simp at hv; subst hv; exact B.c2
  . simp at hv) Tryz.underlying61 rfl ratInfo
 rw [results_cell_tmp h, hp]
 simp [asAddr, hl, Result.andThen]
theorem l1Copy_any (f : Bool) (x y : Addr) (ba oa n ca bb ob m cb : Nat) (X Y : Nat -> Nat) (w : World) (hn : n <= 16777216) (hm : m <= 16777216) (_hnc : n <= ca) (_hmc : m <= cb) (hX : xq1 w (some x) ba oa n X) (hY : xq1 w (some y) bb ob m Y) :
 Calls Tryz.prog 154 #[.agg #[.bool f, .slice (some x) n ca, .slice (some y) m cb]] w fun e w' => ∃ a1 a2 g h c1 c2, e = .returned (.agg #[.bool f, .slice a1 n c1, .slice a2 m c2]) /\ n <= c1 /\ m <= c2 /\ (a1 = none -> c1 = 0) /\ (a2 = none -> c2 = 0) /\
  xq1 w' a1 g 0 n X /\ xq1 w' a2 h 0 m Y /\ (0 < n -> ∀ o, w'.frozen? ⟨g, o, none⟩ = false) /\ (0 < m -> ∀ o, w'.frozen? ⟨h, o, none⟩ = false) /\ w.heap.size <= g /\ g < h /\ h < w'.heap.size /\ w.Since w.heap.size w' := by
 obtain ⟨i0, hi, hz0, hz1, hz2⟩ := info_parts Tryz.info159; have sA : w.Since w.heap.size ((w.alloc (.cells #[.bool f, .slice (some x) n ca, .slice (some y) m cb] 61)).alloc (.cells #[.bool false, .slice none 0 0, .slice none 0 0] 61)) := ((World.Since.refl _ _).alloc (Nat.le_refl _) _).alloc (by simp) _; have oA : Box3 ((w.alloc (.cells #[.bool f, .slice (some x) n ca, .slice (some y) m cb] 61)).alloc (.cells #[.bool false, .slice none 0 0, .slice none 0 0] 61)) w.heap.size (.bool f) (.slice (some x) n ca) (.slice (some y) m cb) := (Box3.new w _ _ _ _).keep ((World.Since.refl _ _).alloc (Nat.le_refl _) _); have tB : ((w.alloc (.cells #[.bool f, .slice (some x) n ca, .slice (some y) m cb] 61)).alloc (.cells #[.bool false, .slice none 0 0, .slice none 0 0] 61)).Since ((w.alloc (.cells #[.bool f, .slice (some x) n ca, .slice (some y) m cb] 61)).alloc (.cells #[.bool false, .slice none 0 0, .slice none 0 0] 61)).heap.size (((w.alloc (.cells #[.bool f, .slice (some x) n ca, .slice (some y) m cb] 61)).alloc (.cells #[.bool false, .slice none 0 0, .slice none 0 0] 61)).alloc (.cells #[] 159)) := (World.Since.refl _ _).alloc (Nat.le_refl _) _; have SB := sA.trans (sM tB sA.size); have X1 := hX.keep SB; have own1 := World.ownsRow_made (e := 159) (size := 1) ((w.alloc (.cells #[.bool f, .slice (some x) n ca, .slice (some y) m cb] 61)).alloc (.cells #[.bool false, .slice none 0 0, .slice none 0 0] 61)) #[] 0 (Nat.le_refl _) (by decide) rfl; have zA : ((w.alloc (.cells #[.bool f, .slice (some x) n ca, .slice (some y) m cb] 61)).alloc (.cells #[.bool false, .slice none 0 0, .slice none 0 0] 61)).heap.size = w.heap.size + 1 + 1 := by simp
 have own0 := World.ownsRow_made (e := 159) (size := 1) ((w.alloc (.cells #[.bool f, .slice (some x) n ca, .slice (some y) m cb] 61)).alloc (.cells #[.bool false, .slice none 0 0, .slice none 0 0] 61)) #[] 0 (Nat.le_refl _) (by decide) rfl; rw [zA] at own1; have zA' := zA
 have rA : Box3 ((w.alloc (.cells #[.bool f, .slice (some x) n ca, .slice (some y) m cb] 61)).alloc (.cells #[.bool false, .slice none 0 0, .slice none 0 0] 61)) (w.heap.size + 1) (.bool false) (.slice none 0 0) (.slice none 0 0) := by
  have := Box3.new (w.alloc (.cells #[.bool f, .slice (some x) n ca, .slice (some y) m cb] 61)) (.bool false) (.slice none 0 0) (.slice none 0 0) 61
  simpa using this
 have HZA := hide zA'; clear zA zA'; go_enter Tryz.func154, Tryz.ntmps154
 go_wp2_with (at_builtin; refine wpList_append_own _ rfl _ _ 59 rfl (w.heap.size + 1 + 1) 159 i0 (.int .u32 0) 1 4 Tryz.underlying59 hi hz0 hz1 hz2 rfl (by decide) _ 0 [] rfl own1 x n ca (ll X n) rfl (by rw [ll_len]; omega) (limbs_news X1) (ll_one X n) (by unfold maxLen; omega) (by omega) (by simp) ?_)
 intro v1 w2 own2 grow2 nn2
 have tC : ((w.alloc (.cells #[.bool f, .slice (some x) n ca, .slice (some y) m cb] 61)).alloc (.cells #[.bool false, .slice none 0 0, .slice none 0 0] 61)).Since ((w.alloc (.cells #[.bool f, .slice (some x) n ca, .slice (some y) m cb] 61)).alloc (.cells #[.bool false, .slice none 0 0, .slice none 0 0] 61)).heap.size w2 := tB.grown grow2 (Nat.le_trans (Nat.le_refl _) tB.size) (fun k hk => by
  have := own0.lt k (by rw [HZA.out]; exact hk); exact this.1)
 have SC := sA.trans (sM tC sA.size); have o2 := oA.keep tC; have r2 := rA.keep tC; have HN := hide nn2; clear grow2 own1 nn2; generalize ((w.alloc (.cells #[.bool f, .slice (some x) n ca, .slice (some y) m cb] 61)).alloc (.cells #[.bool false, .slice none 0 0, .slice none 0 0] 61)) = wA at *; have tD := sal w2 (.cells #[] 159); have SD := SC.trans (sM tD SC.size); have Y1 := hY.keep SD; have own3 := World.ownsRow_made (e := 159) (size := 1) w2 #[] 0 (Nat.le_refl _) (by decide) rfl; have o3 := o2.keep tD; have k2 := o3.c2
 go_wp2_with (at_builtin; refine wpList_append_own _ rfl _ _ 59 rfl w2.heap.size 159 i0 (.int .u32 0) 1 4 Tryz.underlying59 hi hz0 hz1 hz2 rfl (by decide) _ 0 [] rfl own3 y m cb (ll Y m) rfl (by rw [ll_len]; omega) (limbs_news Y1) (ll_one Y m) (by unfold maxLen; omega) (by omega) tD.size ?_)
 intro v3 w4 own4 grow4 nn4; have tE : w2.Since w2.heap.size w4 := tD.grown grow4 tD.size (fun k hk => (own3.lt k hk).1); have SE := SC.trans (sM tE SC.size); have o4 := o2.keep tE; have r4 := r2.keep tE; obtain ⟨a1, g1, c1, rfl, m1, n1, b1, l1, L1, F1⟩ := own_limbs2 own2 HN.out; obtain ⟨a2, g2, c2, rfl, m2, n2, b2, l2, L2, F2⟩ := own_limbs2 own4 nn4; clear grow4 own3 nn4 k2 o3; have j0 := o4.c0; have u0 := r4.c0; have u1 := r4.c1; have u2 := r4.c2; have uf0 := r4.f 0; have uf1 := r4.f 1; have uf2 := r4.f 2; go_wp2; have zC := tC.size; have zE := tE.size; have rC := ((r4.set0 (.bool f)).set1 (.slice a1 n c1)).set2 (.slice a2 m c2); refine bodyPost_ret (rb3 rfl _ _ _ _ _ _ rfl rC) rfl ?_; have M : xq0 w4 _ (w.heap.size + 1) := (((xq0.refl w4 _).setCell 0 (.bool f)).setCell 1 (.slice a1 n c1)).setCell 2 (.slice a2 m c2); have hz := HZA.out; have zM := M.size; refine ⟨a1, a2, g1, g2, c1, c2, rfl, m1, m2, n1, n2, (L1.keep tE).marked M (fun _ => by omega), L2.marked M (fun _ => by omega), fun h0 o => ?_, fun h0 o => ?_, by omega, by omega, by omega, SE.trans (M.since (by omega))⟩
 . rw [M.frozenO (a := ⟨g1, o, none⟩) (by show g1 ≠ _; omega), tE.frozen (a := ⟨g1, o, none⟩) l1]; exact F1 h0 o
 . rw [M.frozenO (a := ⟨g2, o, none⟩) (by show g2 ≠ _; omega)]; exact F2 h0 o
theorem sum_zeroA {f f' : Bool} {X X' Y Y' : Nat -> Nat} {n n' m m' : Nat} (ok : xq9 f X n Y m = true) (ok' : xq9 f' X' n' Y' m' = true) (h0 : n = 0) :
 (xj5 f f' (lv X n * lv Y' m') (lv X' n' * lv Y m) && xq4 f f' (lv X n * lv Y' m') (lv X' n' * lv Y m) != 0) = f' /\ xq4 f f' (lv X n * lv Y' m') (lv X' n' * lv Y m) / Nat.gcd (xq4 f f' (lv X n * lv Y' m') (lv X' n' * lv Y m)) (lv Y m * lv Y' m') = lv X' n' /\ (lv Y m * lv Y' m') / Nat.gcd (xq4 f f' (lv X n * lv Y' m') (lv X' n' * lv Y m)) (lv Y m * lv Y' m') = lv Y' m' := by
 subst h0; unfold xq9 at ok ok'; simp only [Bool.and_eq_true, bne_iff_ne, beq_iff_eq, Bool.not_eq_true', Bool.and_eq_false_imp] at ok ok'; have hf : f = false := by cases f; rfl; have := ok.1.2; simp at this
 have hY : lv Y m = 1 := by have := ok.2; simpa [lv] using this
 have hg := ok'.2
 have hx : f' = true -> lv X' n' ≠ 0 := fun e h => by
  have h1 : n' = 0 := (xw4 (xz5.1 ok'.1.1.1.1)).2 h; have := ok'.1.2 e
  simp [h1] at this
 subst hf
 have hST : xq4 false f' (lv X 0 * lv Y' m') (lv X' n' * lv Y m) = lv X' n' := by
  simp only [lv, Nat.zero_mul, hY, Nat.mul_one, xq4]; cases f'
  . simp
  . have := hx rfl
    simp; omega
 rw [hST, hY, Nat.one_mul, hg, Nat.div_one, Nat.div_one]; refine ⟨?_, rfl, rfl⟩; simp only [lv, Nat.zero_mul, Nat.mul_one, xj5]; cases f'
 . simp
 . have := hx rfl
   have h2 : 0 < lv X' n' := by omega
   simp [h2]; omega
theorem sum_zeroB {f f' : Bool} {X X' Y Y' : Nat -> Nat} {n n' m m' : Nat} (ok : xq9 f X n Y m = true) (ok' : xq9 f' X' n' Y' m' = true) (h0 : n' = 0) :
 (xj5 f f' (lv X n * lv Y' m') (lv X' n' * lv Y m) && xq4 f f' (lv X n * lv Y' m') (lv X' n' * lv Y m) != 0) = f /\ xq4 f f' (lv X n * lv Y' m') (lv X' n' * lv Y m) / Nat.gcd (xq4 f f' (lv X n * lv Y' m') (lv X' n' * lv Y m)) (lv Y m * lv Y' m') = lv X n /\ (lv Y m * lv Y' m') / Nat.gcd (xq4 f f' (lv X n * lv Y' m') (lv X' n' * lv Y m)) (lv Y m * lv Y' m') = lv Y m := by
 subst h0; unfold xq9 at ok ok'; simp only [Bool.and_eq_true, bne_iff_ne, beq_iff_eq, Bool.not_eq_true', Bool.and_eq_false_imp] at ok ok'; have hf : f' = false := by cases f'; rfl; have := ok'.1.2; simp at this
 have hY : lv Y' m' = 1 := by have := ok'.2; simpa [lv] using this
 have hg := ok.2
 have hx : f = true -> lv X n ≠ 0 := fun e h => by
  have h1 : n = 0 := (xw4 (xz5.1 ok.1.1.1.1)).2 h; have := ok.1.2 e
  simp [h1] at this
 subst hf
 have hST : xq4 f false (lv X n * lv Y' m') (lv X' 0 * lv Y m) = lv X n := by
  simp only [lv, Nat.zero_mul, hY, Nat.mul_one, xq4]; cases f
  . simp
  . simp
 rw [hST, hY, Nat.mul_one, Nat.mul_one, hg, Nat.div_one, Nat.div_one]; refine ⟨?_, rfl, rfl⟩; simp only [lv, Nat.zero_mul, xj5]; cases f
 . simp
 . have := hx rfl
   simp; omega
theorem l1Add_zero (f f' : Bool) (a b a' b' : Addr) (ba oa n ca bb ob m cb ba' oa' n' ca' bb' ob' m' cb' : Nat) (X Y X' Y' : Nat -> Nat) (w : World) (hn : n + n' + m + m' <= 16777216)
 (R : RIn w (some a) (some b) ba oa n ca bb ob m cb X Y) (R' : RIn w (some a') (some b') ba' oa' n' ca' bb' ob' m' cb' X' Y') (ok : xq9 f X n Y m = true) (ok' : xq9 f' X' n' Y' m' = true) (h0 : n = 0 ∨ n' = 0) :
 Calls Tryz.prog 155 #[.agg #[.bool f, .slice (some a) n ca, .slice (some b) m cb], .agg #[.bool f', .slice (some a') n' ca', .slice (some b') m' cb']] w fun e w' => ∃ v, e = .returned v /\
  RatV w' v (xj5 f f' (lv X n * lv Y' m') (lv X' n' * lv Y m) && xq4 f f' (lv X n * lv Y' m') (lv X' n' * lv Y m) != 0) (xq4 f f' (lv X n * lv Y' m') (lv X' n' * lv Y m) / Nat.gcd (xq4 f f' (lv X n * lv Y' m') (lv X' n' * lv Y m)) (lv Y m * lv Y' m')) ((lv Y m * lv Y' m') / Nat.gcd (xq4 f f' (lv X n * lv Y' m') (lv X' n' * lv Y m)) (lv Y m * lv Y' m')) w.heap.size 67108864 /\ w.Since w.heap.size w' := by
 have hne2 : w.heap.size + 1 + 1 ≠ w.heap.size := by omega
 obtain ⟨sA, zA, oA, pA, rA⟩ := bx w (.bool f) (.slice (some a) n ca) (.slice (some b) m cb) (.bool f') (.slice (some a') n' ca') (.slice (some b') m' cb') (.bool false) (.slice none 0 0) (.slice none 0 0)
 by_cases h1 : n = 0
 . have hZ := sum_zeroA ok ok' h1
   rw [hZ.1, hZ.2.1, hZ.2.2]; clear hZ ok ok' h0; subst h1; have k0 := pA.c0; have k1 := pA.c1; have k2 := pA.c2; go_enter Tryz.func155, Tryz.ntmps155; go_wp2_with fail; generalize (((w.alloc (.cells #[.bool f, .slice (some a) 0 ca, .slice (some b) m cb] 61)).alloc (.cells #[.bool f', .slice (some a') n' ca', .slice (some b') m' cb'] 61)).alloc (.cells #[.bool false, .slice none 0 0, .slice none 0 0] 61)) = w1 at *; refine (l1Copy_any f' a' b' ba' oa' n' ca' bb' ob' m' cb' X' Y' w1 (by omega) (by omega) R'.nc R'.mc (R'.keep sA).LX (R'.keep sA).LY).mono ?_; rintro e w6 ⟨a1, a2, g6, h6, c1, c2, rfl, v1, v2, v3, v4, N6, D6, FN, FD, y1, y2, y3, s6⟩; have rB := rA.keep s6; have S6 := sA.trans (sM s6 sA.size); have u0 := rB.c0; have u1 := rB.c1; have u2 := rB.c2; have uf0 := rB.f 0; have uf1 := rB.f 1; have uf2 := rB.f 2; go_wp2; have rC := ((rB.set0 (.bool f')).set1 (.slice a1 n' c1)).set2 (.slice a2 m' c2); refine bodyPost_ret (rb3 rfl _ _ _ _ _ _ rfl rC) rfl ?_; have M : xq0 w6 _ (w.heap.size + 1 + 1) := (((xq0.refl w6 _).setCell 0 (.bool f')).setCell 1 (.slice a1 n' c1)).setCell 2 (.slice a2 m' c2); have N7 : xj0 w6 (.slice a1 n' c1) g6 (lv X' n') 67108864 := ⟨_, _, _, X', rfl, v1, by omega, v3, N6, FN, R'.lX, R'.pX, rfl⟩; have D7 : xj0 w6 (.slice a2 m' c2) h6 (lv Y' m') 67108864 := ⟨_, _, _, Y', rfl, v2, by omega, v4, D6, FD, R'.lY, R'.pY, rfl⟩; exact ⟨_, rfl, ⟨_, _, g6, h6, rfl, N7.marked M (by omega), D7.marked M (by omega), by omega, by omega, by omega⟩, S6.trans (M.since (by omega))⟩
 . have h2 : n' = 0 := by omega
   have hZ := sum_zeroB ok ok' h2; rw [hZ.1, hZ.2.1, hZ.2.2]; clear hZ ok ok' h0; subst h2; have q1 : ((n : Int) == 0) = false := by simp; omega
   have k0 := oA.c0; have k1 := oA.c1; have k2 := oA.c2; go_enter Tryz.func155, Tryz.ntmps155; go_wp2_with fail; generalize (((w.alloc (.cells #[.bool f, .slice (some a) n ca, .slice (some b) m cb] 61)).alloc (.cells #[.bool f', .slice (some a') 0 ca', .slice (some b') m' cb'] 61)).alloc (.cells #[.bool false, .slice none 0 0, .slice none 0 0] 61)) = w1 at *; refine (l1Copy_any f a b ba oa n ca bb ob m cb X Y w1 (by omega) (by omega) R.nc R.mc (R.keep sA).LX (R.keep sA).LY).mono ?_; rintro e w6 ⟨a1, a2, g6, h6, c1, c2, rfl, v1, v2, v3, v4, N6, D6, FN, FD, y1, y2, y3, s6⟩; have rB := rA.keep s6; have S6 := sA.trans (sM s6 sA.size); have u0 := rB.c0; have u1 := rB.c1; have u2 := rB.c2; have uf0 := rB.f 0; have uf1 := rB.f 1; have uf2 := rB.f 2; go_wp2; have rC := ((rB.set0 (.bool f)).set1 (.slice a1 n c1)).set2 (.slice a2 m c2); refine bodyPost_ret (rb3 rfl _ _ _ _ _ _ rfl rC) rfl ?_; have M : xq0 w6 _ (w.heap.size + 1 + 1) := (((xq0.refl w6 _).setCell 0 (.bool f)).setCell 1 (.slice a1 n c1)).setCell 2 (.slice a2 m c2); have N7 : xj0 w6 (.slice a1 n c1) g6 (lv X n) 67108864 := ⟨_, _, _, X, rfl, v1, by omega, v3, N6, FN, R.lX, R.pX, rfl⟩; have D7 : xj0 w6 (.slice a2 m c2) h6 (lv Y m) 67108864 := ⟨_, _, _, Y, rfl, v2, by omega, v4, D6, FD, R.lY, R.pY, rfl⟩; exact ⟨_, rfl, ⟨_, _, g6, h6, rfl, N7.marked M (by omega), D7.marked M (by omega), by omega, by omega, by omega⟩, S6.trans (M.since (by omega))⟩
theorem l1Add_small (f f' : Bool) (a b a' b' : Addr) (ba oa n ca bb ob m cb ba' oa' n' ca' bb' ob' m' cb' : Nat) (X Y X' Y' : Nat -> Nat) (w : World) (_hn : n + n' + m + m' <= 16777216)
 (R : RIn w (some a) (some b) ba oa n ca bb ob m cb X Y) (R' : RIn w (some a') (some b') ba' oa' n' ca' bb' ob' m' cb' X' Y') (h1 : 0 < n) (h2 : 0 < n') (hs : xz3 X n Y m = true) (hs' : xz3 X' n' Y' m' = true) :
 Calls Tryz.prog 155 #[.agg #[.bool f, .slice (some a) n ca, .slice (some b) m cb], .agg #[.bool f', .slice (some a') n' ca', .slice (some b') m' cb']] w fun e w' => ∃ v, e = .returned v /\
  RatV w' v (xj5 f f' (lv X n * lv Y' m') (lv X' n' * lv Y m) && xq4 f f' (lv X n * lv Y' m') (lv X' n' * lv Y m) != 0) (xq4 f f' (lv X n * lv Y' m') (lv X' n' * lv Y m) / Nat.gcd (xq4 f f' (lv X n * lv Y' m') (lv X' n' * lv Y m)) (lv Y m * lv Y' m')) ((lv Y m * lv Y' m') / Nat.gcd (xq4 f f' (lv X n * lv Y' m') (lv X' n' * lv Y m)) (lv Y m * lv Y' m')) w.heap.size 67108864 /\ w.Since w.heap.size w' := by
 have hne2 : w.heap.size + 1 + 1 ≠ w.heap.size := by omega
 obtain ⟨sA, zA, oA, pA, rA⟩ := bx w (.bool f) (.slice (some a) n ca) (.slice (some b) m cb) (.bool f') (.slice (some a') n' ca') (.slice (some b') m' cb') (.bool false) (.slice none 0 0) (.slice none 0 0); obtain ⟨s1, s2', s3', s4'⟩ := xv8.1 hs; obtain ⟨t1, t2', t3', t4'⟩ := xv8.1 hs'; obtain ⟨x, hx⟩ : ∃ x, x = lv X n := ⟨_, rfl⟩; obtain ⟨y, hy⟩ : ∃ y, y = lv Y m := ⟨_, rfl⟩; obtain ⟨x', hx'⟩ : ∃ x', x' = lv X' n' := ⟨_, rfl⟩; obtain ⟨y', hy'⟩ : ∃ y', y' = lv Y' m' := ⟨_, rfl⟩; have hyp : 0 < y * y' := by rw [hy, hy']; exact Nat.mul_pos R.den R'.den
 rw [<- hx] at s3'; rw [<- hy] at s4'; rw [<- hx'] at t3'; rw [<- hy'] at t4'; obtain ⟨p, hp⟩ : ∃ p, p = x * y' := ⟨_, rfl⟩; obtain ⟨r, hr⟩ : ∃ r, r = x' * y := ⟨_, rfl⟩; obtain ⟨q, hq⟩ : ∃ q, q = y * y' := ⟨_, rfl⟩; have hpl : p < 9223372036854775808 := by rw [hp]; exact Nat.lt_of_le_of_lt (Nat.mul_le_mul (Nat.le_of_lt s3') (Nat.le_of_lt t4')) (by omega)
 have hrl : r < 9223372036854775808 := by rw [hr]; exact Nat.lt_of_le_of_lt (Nat.mul_le_mul (Nat.le_of_lt t3') (Nat.le_of_lt s4')) (by omega)
 have hql : q < 9223372036854775808 := by rw [hq]; exact Nat.lt_of_le_of_lt (Nat.mul_le_mul (Nat.le_of_lt s4') (Nat.le_of_lt t4')) (by omega)
 have hpw : IntKind.u64.wrap ((x : Int) * (y' : Int)) = (p : Int) := by rw [<- Int.natCast_mul, <- hp]; exact xq8 p (by omega)
 have hrw : IntKind.u64.wrap ((x' : Int) * (y : Int)) = (r : Int) := by rw [<- Int.natCast_mul, <- hr]; exact xq8 r (by omega)
 have hqw : IntKind.u64.wrap ((y : Int) * (y' : Int)) = (q : Int) := by rw [<- Int.natCast_mul, <- hq]; exact xq8 q (by omega)
 rw [<- hq] at hyp; rw [<- hx, <- hx', <- hy, <- hy', <- hp, <- hq, <- hr]; obtain ⟨sn, hSN⟩ : ∃ s, s = xj5 f f' p r := ⟨_, rfl⟩; obtain ⟨st, hST⟩ : ∃ s, s = xq4 f f' p r := ⟨_, rfl⟩; rw [<- hSN, <- hST]; have HSN := hide hSN; have HST := hide hST; clear hSN hST; have HX := hide hx; have HY := hide hy; have HX' := hide hx'; have HY' := hide hy'; clear s3' s4' t3' t4' hx hy hx' hy' hp hr hq; have q1 : ((n : Int) == 0) = false := by simp; omega
 have q2 : ((n' : Int) == 0) = false := by simp; omega
 have j0 := oA.c0; have j1 := oA.c1; have j2 := oA.c2; go_enter Tryz.func155, Tryz.ntmps155; go_wp2_with fail; generalize (((w.alloc (.cells #[.bool f, .slice (some a) n ca, .slice (some b) m cb] 61)).alloc (.cells #[.bool f', .slice (some a') n' ca', .slice (some b') m' cb'] 61)).alloc (.cells #[.bool false, .slice none 0 0, .slice none 0 0] 61)) = w1 at *; have I1 := xj4 f (some a) (some b) ba oa n ca bb ob m cb X Y w1 (by omega) (by omega) (R.keep sA).LX (R.keep sA).LY R.lX R.lY; rw [hs] at I1; refine I1.mono ?_; rintro e w2 ⟨rfl, s2⟩; have S2 := sA.trans (sM s2 sA.size); have o2 := oA.keep s2; have p2 := pA.keep s2; have r2 := rA.keep s2; have z2 := s2.size; clear I1 j0 j1 j2 oA pA rA; have k0 := p2.c0; have k1 := p2.c1; have k2 := p2.c2; have I2 := xj4 f' (some a') (some b') ba' oa' n' ca' bb' ob' m' cb' X' Y' w2 (by omega) (by omega) (R'.keep S2).LX (R'.keep S2).LY R'.lX R'.lY; rw [hs'] at I2; go_wp2_with fail; refine I2.mono ?_; rintro e w3 ⟨rfl, s3⟩; have S3 := S2.trans (sM s3 S2.size); have o3 := o2.keep s3; have p3 := p2.keep s3; have r3 := r2.keep s3; have z3 := s3.size; clear I2 k0 k1 k2 o2 p2 r2; have k := And.intro o3.cells p3.cells; have J1 := xj1 (some a) ba oa n ca X w3.drew s1 (R.keep S3).LX R.lX; have J2 := xj1 (some b) bb ob m cb Y w3.drew s2' (R.keep S3).LY R.lY; have J3 := xj1 (some a') ba' oa' n' ca' X' w3.drew t1 (R'.keep S3).LX R'.lX; have J4 := xj1 (some b') bb' ob' m' cb' Y' w3.drew t2' (R'.keep S3).LY R'.lY; rw [<- HX.out] at J1; rw [<- HY.out] at J2; rw [<- HX'.out] at J3; rw [<- HY'.out] at J4; go_wp2
 go_region_held3 (fun w' => w'.cell? ⟨w.heap.size, 0, none⟩ = some (.bool f) /\ w'.cell? ⟨w.heap.size, 1, none⟩ = some (.slice (some a) n ca) /\ w'.cell? ⟨w.heap.size, 2, none⟩ = some (.slice (some b) m cb) /\ w'.cell? ⟨w.heap.size + 1, 0, none⟩ = some (.bool f') /\ w'.cell? ⟨w.heap.size + 1, 1, none⟩ = some (.slice (some a') n' ca') /\ w'.cell? ⟨w.heap.size + 1, 2, none⟩ = some (.slice (some b') m' cb')) (go_keep)
  (first
    | (go_at_call 150
       first
        | (with_reducible refine J1.mono ?_; rintro e v4 ⟨rfl, rfl⟩)
        | (with_reducible refine J4.mono ?_; rintro e v4 ⟨rfl, rfl⟩)))
 have S4 := xq6 S3; have o4 := o3.drew; have p4 := p3.drew; have r4 := r3.drew; clear k J1 J2 J3 J4 o3 p3 r3; generalize w3.drew = w4 at *; have k := And.intro o4.cells p4.cells; have J1 := xj1 (some a) ba oa n ca X w4.drew s1 (R.keep S4).LX R.lX; have J2 := xj1 (some b) bb ob m cb Y w4.drew s2' (R.keep S4).LY R.lY; have J3 := xj1 (some a') ba' oa' n' ca' X' w4.drew t1 (R'.keep S4).LX R'.lX; have J4 := xj1 (some b') bb' ob' m' cb' Y' w4.drew t2' (R'.keep S4).LY R'.lY; rw [<- HX.out] at J1; rw [<- HY.out] at J2; rw [<- HX'.out] at J3; rw [<- HY'.out] at J4; go_wp2
 go_region_held3 (fun w' => w'.cell? ⟨w.heap.size, 0, none⟩ = some (.bool f) /\ w'.cell? ⟨w.heap.size, 1, none⟩ = some (.slice (some a) n ca) /\ w'.cell? ⟨w.heap.size, 2, none⟩ = some (.slice (some b) m cb) /\ w'.cell? ⟨w.heap.size + 1, 0, none⟩ = some (.bool f') /\ w'.cell? ⟨w.heap.size + 1, 1, none⟩ = some (.slice (some a') n' ca') /\ w'.cell? ⟨w.heap.size + 1, 2, none⟩ = some (.slice (some b') m' cb')) (go_keep)
  (first
    | (go_at_call 150
       first
        | (with_reducible refine J3.mono ?_; rintro e v4 ⟨rfl, rfl⟩)
        | (with_reducible refine J2.mono ?_; rintro e v4 ⟨rfl, rfl⟩)))
 have S5 := xq6 S4; have o5 := o4.drew; have p5 := p4.drew; have r5 := r4.drew; clear k J1 J2 J3 J4 o4 p4 r4; generalize w4.drew = w5 at *; have k := And.intro o5.cells p5.cells; have J1 := xj1 (some a) ba oa n ca X w5.drew s1 (R.keep S5).LX R.lX; have J2 := xj1 (some b) bb ob m cb Y w5.drew s2' (R.keep S5).LY R.lY; have J3 := xj1 (some a') ba' oa' n' ca' X' w5.drew t1 (R'.keep S5).LX R'.lX; have J4 := xj1 (some b') bb' ob' m' cb' Y' w5.drew t2' (R'.keep S5).LY R'.lY; rw [<- HX.out] at J1; rw [<- HY.out] at J2; rw [<- HX'.out] at J3; rw [<- HY'.out] at J4; go_wp2
 go_region_held3 (fun w' => w'.cell? ⟨w.heap.size, 0, none⟩ = some (.bool f) /\ w'.cell? ⟨w.heap.size, 1, none⟩ = some (.slice (some a) n ca) /\ w'.cell? ⟨w.heap.size, 2, none⟩ = some (.slice (some b) m cb) /\ w'.cell? ⟨w.heap.size + 1, 0, none⟩ = some (.bool f') /\ w'.cell? ⟨w.heap.size + 1, 1, none⟩ = some (.slice (some a') n' ca') /\ w'.cell? ⟨w.heap.size + 1, 2, none⟩ = some (.slice (some b') m' cb')) (go_keep)
  (first
    | (go_at_call 150
       first
        | (with_reducible refine J2.mono ?_; rintro e v4 ⟨rfl, rfl⟩)
        | (with_reducible refine J4.mono ?_; rintro e v4 ⟨rfl, rfl⟩)))
 have S6 := xq6 S5; have o6 := o5.drew; have p6 := p5.drew; have r6 := r5.drew; clear k J1 J2 J3 J4 o5 p5 r5; generalize w5.drew = w6 at *
 by_cases hff : f = f'
 . subst hff
   have e1 : sn = f := by rw [HSN.out]; simp [xj5]
   have e2 : st = p + r := by rw [HST.out]; simp [xq4]
   clear HSN HST; have HE1 := hide e1; clear e1; subst e2; have HS := hide S6; have k := And.intro o6.cells p6.cells; have hsw : IntKind.u64.wrap ((p : Int) + (r : Int)) = ((p + r : Nat) : Int) := by rw [<- Int.natCast_add]; exact xq8 (p + r) (by omega)
   have J5 := xw5 f (p + r) q w6 (by omega) (by omega) hyp; go_wp2_with fail; refine J5.mono ?_; rintro e w7 ⟨v, rfl, ⟨x1, x2, g6, h6, rfl, N6, D6, y1, y2, y3⟩, s6⟩; have N6' := N6; have D6' := D6; obtain ⟨a1, q1, c1, Y1, rfl, -⟩ := N6; obtain ⟨a2, q2, c2, Y2, rfl, -⟩ := D6; have rB := r6.keep s6; have u0 := rB.c0; have u1 := rB.c1; have u2 := rB.c2; have uf0 := rB.f 0; have uf1 := rB.f 1; have uf2 := rB.f 2; go_wp2; have S7 : w.Since w.heap.size w7 := HS.out.trans (sM s6 HS.out.size); have rl := r6.lt; have rC := ((rB.set0 (.bool (f && (p + r) != 0))).set1 (.slice a1 q1 c1)).set2 (.slice a2 q2 c2); refine bodyPost_ret (rb3 rfl _ _ _ _ _ _ rfl rC) rfl ?_; have M : xq0 w7 _ (w.heap.size + 1 + 1) := (((xq0.refl w7 _).setCell 0 (.bool (f && (p + r) != 0))).setCell 1 (.slice a1 q1 c1)).setCell 2 (.slice a2 q2 c2); exact ⟨_, rfl, ⟨_, _, g6, h6, by rw [HE1.out], N6'.marked M (by omega), D6'.marked M (by omega), by omega, by omega, y3⟩, S7.trans (M.since (by omega))⟩
 . have hfb : (f == f') = false := by simp [hff]
   by_cases hlt : p < r
   . have hge : ¬ ((r : Int) <= (p : Int)) := by omega
     have e1 : sn = f' := by rw [HSN.out]; simp [xj5, hff, hlt]
     have e2 : st = r - p := by rw [HST.out]; simp [xq4, hff, hlt]
     clear HSN HST; have HE1 := hide e1; clear e1; subst e2; have HS := hide S6; have k := And.intro o6.cells p6.cells; have hsw : IntKind.u64.wrap ((r : Int) - (p : Int)) = ((r - p : Nat) : Int) := by rw [<- Int.ofNat_sub (by omega)]; exact xq8 (r - p) (by omega)
     clear hff; have J5 := xw5 f' (r - p) q w6 (by omega) (by omega) hyp; go_wp2_with fail; refine J5.mono ?_; rintro e w7 ⟨v, rfl, ⟨x1, x2, g6, h6, rfl, N6, D6, y1, y2, y3⟩, s6⟩; have N6' := N6; have D6' := D6; obtain ⟨a1, q1, c1, Y1, rfl, -⟩ := N6; obtain ⟨a2, q2, c2, Y2, rfl, -⟩ := D6; have rB := r6.keep s6; have u0 := rB.c0; have u1 := rB.c1; have u2 := rB.c2; have uf0 := rB.f 0; have uf1 := rB.f 1; have uf2 := rB.f 2; go_wp2; have S7 : w.Since w.heap.size w7 := HS.out.trans (sM s6 HS.out.size); have rl := r6.lt; have rC := ((rB.set0 (.bool (f' && (r - p) != 0))).set1 (.slice a1 q1 c1)).set2 (.slice a2 q2 c2); refine bodyPost_ret (rb3 rfl _ _ _ _ _ _ rfl rC) rfl ?_; have M : xq0 w7 _ (w.heap.size + 1 + 1) := (((xq0.refl w7 _).setCell 0 (.bool (f' && (r - p) != 0))).setCell 1 (.slice a1 q1 c1)).setCell 2 (.slice a2 q2 c2); exact ⟨_, rfl, ⟨_, _, g6, h6, by rw [HE1.out], N6'.marked M (by omega), D6'.marked M (by omega), by omega, by omega, y3⟩, S7.trans (M.since (by omega))⟩
   . have hge : (r : Int) <= (p : Int) := by omega
     have e1 : sn = f := by rw [HSN.out]; simp [xj5, hff, hlt]
     have e2 : st = p - r := by rw [HST.out]; simp [xq4, hff, hlt]
     clear HSN HST; have HE1 := hide e1; clear e1; subst e2; have HS := hide S6; have k := And.intro o6.cells p6.cells; have hsw : IntKind.u64.wrap ((p : Int) - (r : Int)) = ((p - r : Nat) : Int) := by rw [<- Int.ofNat_sub (by omega)]; exact xq8 (p - r) (by omega)
     clear hff; have J5 := xw5 f (p - r) q w6 (by omega) (by omega) hyp; go_wp2_with fail; refine J5.mono ?_; rintro e w7 ⟨v, rfl, ⟨x1, x2, g6, h6, rfl, N6, D6, y1, y2, y3⟩, s6⟩; have N6' := N6; have D6' := D6; obtain ⟨a1, q1, c1, Y1, rfl, -⟩ := N6; obtain ⟨a2, q2, c2, Y2, rfl, -⟩ := D6; have rB := r6.keep s6; have u0 := rB.c0; have u1 := rB.c1; have u2 := rB.c2; have uf0 := rB.f 0; have uf1 := rB.f 1; have uf2 := rB.f 2; go_wp2; have S7 : w.Since w.heap.size w7 := HS.out.trans (sM s6 HS.out.size); have rl := r6.lt; have rC := ((rB.set0 (.bool (f && (p - r) != 0))).set1 (.slice a1 q1 c1)).set2 (.slice a2 q2 c2); refine bodyPost_ret (rb3 rfl _ _ _ _ _ _ rfl rC) rfl ?_; have M : xq0 w7 _ (w.heap.size + 1 + 1) := (((xq0.refl w7 _).setCell 0 (.bool (f && (p - r) != 0))).setCell 1 (.slice a1 q1 c1)).setCell 2 (.slice a2 q2 c2); exact ⟨_, rfl, ⟨_, _, g6, h6, by rw [HE1.out], N6'.marked M (by omega), D6'.marked M (by omega), by omega, by omega, y3⟩, S7.trans (M.since (by omega))⟩
theorem Tr.bits {w : World} {a : Option Addr} {n cap : Nat} {A : Nat -> Bool} (h : Tr w (.slice a n cap) n A) : ∃ b off, n <= cap /\ Bits w a b off n A /\ (0 < n -> A (n - 1) = true) := by
 obtain ⟨a', b, off, c, e, h1, h2, h3⟩ := h; cases e; exact ⟨b, off, h1, h2, h3⟩
theorem l1Add_bigA (f f' : Bool) (a b a' b' : Addr) (ba oa n ca bb ob m cb ba' oa' n' ca' bb' ob' m' cb' : Nat) (X Y X' Y' : Nat -> Nat) (w : World) (hn : n + n' + m + m' <= 16777216)
 (R : RIn w (some a) (some b) ba oa n ca bb ob m cb X Y) (R' : RIn w (some a') (some b') ba' oa' n' ca' bb' ob' m' cb' X' Y') (h1 : 0 < n) (h2 : 0 < n') (hs : ¬ xz3 X n Y m = true) :
 Calls Tryz.prog 155 #[.agg #[.bool f, .slice (some a) n ca, .slice (some b) m cb], .agg #[.bool f', .slice (some a') n' ca', .slice (some b') m' cb']] w fun e w' => ∃ v, e = .returned v /\
  RatV w' v (xj5 f f' (lv X n * lv Y' m') (lv X' n' * lv Y m) && xq4 f f' (lv X n * lv Y' m') (lv X' n' * lv Y m) != 0) (xq4 f f' (lv X n * lv Y' m') (lv X' n' * lv Y m) / Nat.gcd (xq4 f f' (lv X n * lv Y' m') (lv X' n' * lv Y m)) (lv Y m * lv Y' m')) ((lv Y m * lv Y' m') / Nat.gcd (xq4 f f' (lv X n * lv Y' m') (lv X' n' * lv Y m)) (lv Y m * lv Y' m')) w.heap.size 67108864 /\ w.Since w.heap.size w' := by
 have hne2 : w.heap.size + 1 + 1 ≠ w.heap.size := by omega
 obtain ⟨sA, zA, oA, pA, rA⟩ := bx w (.bool f) (.slice (some a) n ca) (.slice (some b) m cb) (.bool f') (.slice (some a') n' ca') (.slice (some b') m' cb') (.bool false) (.slice none 0 0) (.slice none 0 0); have hDD := Nat.mul_pos R.den R'.den; obtain ⟨p, hp⟩ : ∃ p, p = lv X n * lv Y' m' := ⟨_, rfl⟩; obtain ⟨r, hr⟩ : ∃ r, r = lv X' n' * lv Y m := ⟨_, rfl⟩; obtain ⟨q, hq⟩ : ∃ q, q = lv Y m * lv Y' m' := ⟨_, rfl⟩; rw [<- hp, <- hr, <- hq]; rw [<- hq] at hDD; obtain ⟨sn, hSN⟩ : ∃ s, s = xj5 f f' p r := ⟨_, rfl⟩; obtain ⟨st, hST⟩ : ∃ s, s = xq4 f f' p r := ⟨_, rfl⟩; rw [<- hSN, <- hST]; have HSN := hide hSN; have HST := hide hST; have HP := hide hp; have HR := hide hr; have HQ := hide hq; clear hSN hST hp hr hq; have q1 : ((n : Int) == 0) = false := by simp; omega
 have q2 : ((n' : Int) == 0) = false := by simp; omega
 have j0 := oA.c0; have j1 := oA.c1; have j2 := oA.c2; go_enter Tryz.func155, Tryz.ntmps155; go_wp2_with fail; generalize (((w.alloc (.cells #[.bool f, .slice (some a) n ca, .slice (some b) m cb] 61)).alloc (.cells #[.bool f', .slice (some a') n' ca', .slice (some b') m' cb'] 61)).alloc (.cells #[.bool false, .slice none 0 0, .slice none 0 0] 61)) = w1 at *; have I1 := xj4 f (some a) (some b) ba oa n ca bb ob m cb X Y w1 (by omega) (by omega) (R.keep sA).LX (R.keep sA).LY R.lX R.lY; rw [show xz3 X n Y m = false by simpa using hs] at I1; refine I1.mono ?_; rintro e w3 ⟨rfl, s3⟩; have S3 := sA.trans (sM s3 sA.size); have o3 := oA.keep s3; have p3 := pA.keep s3; have r3 := rA.keep s3; clear I1 j0 j1 j2 oA pA rA; have k := And.intro o3.cells p3.cells; have J1 := xq7 (some a) ba oa n ca X w3.drew (by omega) (R.keep S3).LX R.lX; go_wp2
 go_region_held3 (fun w' => w'.cell? ⟨w.heap.size, 0, none⟩ = some (.bool f) /\ w'.cell? ⟨w.heap.size, 1, none⟩ = some (.slice (some a) n ca) /\ w'.cell? ⟨w.heap.size, 2, none⟩ = some (.slice (some b) m cb) /\ w'.cell? ⟨w.heap.size + 1, 0, none⟩ = some (.bool f') /\ w'.cell? ⟨w.heap.size + 1, 1, none⟩ = some (.slice (some a') n' ca') /\ w'.cell? ⟨w.heap.size + 1, 2, none⟩ = some (.slice (some b') m' cb')) (go_keep)
  (first
    | (go_at_call 152
       first
        | (with_reducible refine J1.mono ?_
           rintro e v4 ⟨a1, g1, m1, t1, B1, rfl, k1, k2, L1, -, p1, e1, s4⟩; have S4' : w.Since w.heap.size v4 := (xq6 S3).trans (sM s4 S3.size); have o4' := o3.drew.keep s4; have p4' := p3.drew.keep s4; have r4' := r3.drew.keep s4; have kk := And.intro o4'.cells p4'.cells; have J2 := xq7 (some b') bb' ob' m' cb' Y' v4 (by omega) (R'.keep S4').LY R'.lY)
        | (with_reducible refine J2.mono ?_
           rintro e v5 ⟨a2, g2, m2, t2, B2, rfl, l1, l2, L2, -, p2, e2, s5⟩; have S5' := S4'.trans (sM s5 S4'.size); have o5' := o4'.keep s5; have p5' := p4'.keep s5; have r5' := r4'.keep s5; have kk := And.intro o5'.cells p5'.cells; have J3 := xz1 a1 a2 g1 0 m1 t1 g2 0 m2 t2 B1 B2 v5 (by omega) (by omega) (L1.keep s5) L2; rw [e1, e2] at J3))
    | (go_at_call 143
       with_reducible refine J3.mono ?_
       rintro e w4 ⟨gx, tx, cx, Ox, rfl, f1, f2, L6, f3, f4, e6, s6⟩; have S4 := S5'.trans (sM s6 S5'.size); have o4 := o5'.keep s6; have p4 := p5'.keep s6; have r4 := r5'.keep s6; have kk := And.intro o4.cells p4.cells; have Tx4 : Tr w4 (.slice (some ⟨gx, 0, none⟩) tx cx) tx Ox := ⟨_, gx, 0, cx, rfl, f1, L6, f4⟩))
 have hx : tx <= 536870912 := by omega
 have Ex := hide e6; clear k kk J1 J2 J3 e6 e1 e2 f1 f2 f3 f4 L6 s6 S4' S5' o4' p4' r4' o5' p5' r5' s4 s5 L1 L2 k1 k2 l1 l2 p1 p2 o3 p3 r3; have k := And.intro o4.cells p4.cells; have J1 := xq7 (some a') ba' oa' n' ca' X' w4.drew (by omega) (R'.keep S4).LX R'.lX; go_wp2
 go_region_held3 (fun w' => w'.cell? ⟨w.heap.size, 0, none⟩ = some (.bool f) /\ w'.cell? ⟨w.heap.size, 1, none⟩ = some (.slice (some a) n ca) /\ w'.cell? ⟨w.heap.size, 2, none⟩ = some (.slice (some b) m cb) /\ w'.cell? ⟨w.heap.size + 1, 0, none⟩ = some (.bool f') /\ w'.cell? ⟨w.heap.size + 1, 1, none⟩ = some (.slice (some a') n' ca') /\ w'.cell? ⟨w.heap.size + 1, 2, none⟩ = some (.slice (some b') m' cb')) (go_keep)
  (first
    | (go_at_call 152
       first
        | (with_reducible refine J1.mono ?_
           rintro e v4 ⟨a1, g1, m1, t1, B1, rfl, k1, k2, L1, -, p1, e1, s4⟩; have S4' : w.Since w.heap.size v4 := (xq6 S4).trans (sM s4 S4.size); have o4' := o4.drew.keep s4; have p4' := p4.drew.keep s4; have r4' := r4.drew.keep s4; have Tx4' : Tr v4 _ _ _ := Tr.keep (w := w4.drew) Tx4 s4; have kk := And.intro o4'.cells p4'.cells; have J2 := xq7 (some b) bb ob m cb Y v4 (by omega) (R.keep S4').LY R.lY)
        | (with_reducible refine J2.mono ?_
           rintro e v5 ⟨a2, g2, m2, t2, B2, rfl, l1, l2, L2, -, p2, e2, s5⟩; have S5' := S4'.trans (sM s5 S4'.size); have o5' := o4'.keep s5; have p5' := p4'.keep s5; have r5' := r4'.keep s5; have Tx5' := Tx4'.keep s5; have kk := And.intro o5'.cells p5'.cells; have J3 := xz1 a1 a2 g1 0 m1 t1 g2 0 m2 t2 B1 B2 v5 (by omega) (by omega) (L1.keep s5) L2; rw [e1, e2] at J3))
    | (go_at_call 143
       with_reducible refine J3.mono ?_
       rintro e w5 ⟨gy, ty, cy, Oy, rfl, f1, f2, L6, f3, f4, e6, s6⟩; have S5 := S5'.trans (sM s6 S5'.size); have o5 := o5'.keep s6; have p5 := p5'.keep s6; have r5 := r5'.keep s6; have Tx5 := Tx5'.keep s6; have kk := And.intro o5.cells p5.cells; have Ty5 : Tr w5 (.slice (some ⟨gy, 0, none⟩) ty cy) ty Oy := ⟨_, gy, 0, cy, rfl, f1, L6, f4⟩))
 have hy : ty <= 536870912 := by omega
 have Ey := hide e6; clear k kk J1 J2 J3 e6 e1 e2 f1 f2 f3 f4 L6 s6 S4' S5' o4' p4' r4' o5' p5' r5' s4 s5 L1 L2 k1 k2 l1 l2 p1 p2 o4 p4 r4; clear Tx4' Tx5' Tx4; have k := And.intro o5.cells p5.cells; have J1 := xq7 (some b) bb ob m cb Y w5.drew (by omega) (R.keep S5).LY R.lY; go_wp2
 go_region_held3 (fun w' => w'.cell? ⟨w.heap.size, 0, none⟩ = some (.bool f) /\ w'.cell? ⟨w.heap.size, 1, none⟩ = some (.slice (some a) n ca) /\ w'.cell? ⟨w.heap.size, 2, none⟩ = some (.slice (some b) m cb) /\ w'.cell? ⟨w.heap.size + 1, 0, none⟩ = some (.bool f') /\ w'.cell? ⟨w.heap.size + 1, 1, none⟩ = some (.slice (some a') n' ca') /\ w'.cell? ⟨w.heap.size + 1, 2, none⟩ = some (.slice (some b') m' cb')) (go_keep)
  (first
    | (go_at_call 152
       first
        | (with_reducible refine J1.mono ?_
           rintro e v4 ⟨a1, g1, m1, t1, B1, rfl, k1, k2, L1, -, p1, e1, s4⟩; have S4' : w.Since w.heap.size v4 := (xq6 S5).trans (sM s4 S5.size); have o4' := o5.drew.keep s4; have p4' := p5.drew.keep s4; have r4' := r5.drew.keep s4; have Tx4' : Tr v4 _ _ _ := Tr.keep (w := w5.drew) Tx5 s4; have Ty4' : Tr v4 _ _ _ := Tr.keep (w := w5.drew) Ty5 s4; have kk := And.intro o4'.cells p4'.cells; have J2 := xq7 (some b') bb' ob' m' cb' Y' v4 (by omega) (R'.keep S4').LY R'.lY)
        | (with_reducible refine J2.mono ?_
           rintro e v5 ⟨a2, g2, m2, t2, B2, rfl, l1, l2, L2, -, p2, e2, s5⟩; have S5' := S4'.trans (sM s5 S4'.size); have o5' := o4'.keep s5; have p5' := p4'.keep s5; have r5' := r4'.keep s5; have Tx5' := Tx4'.keep s5; have Ty5' := Ty4'.keep s5; have kk := And.intro o5'.cells p5'.cells; have J3 := xz1 a1 a2 g1 0 m1 t1 g2 0 m2 t2 B1 B2 v5 (by omega) (by omega) (L1.keep s5) L2; rw [e1, e2] at J3))
    | (go_at_call 143
       with_reducible refine J3.mono ?_
       rintro e w6 ⟨gd, td, cd, Od, rfl, f1, f2, L6, f3, f4, e6, s6⟩; have S6 := S5'.trans (sM s6 S5'.size); have o6 := o5'.keep s6; have p6 := p5'.keep s6; have r6 := r5'.keep s6; have Tx6 := Tx5'.keep s6; have Ty6 := Ty5'.keep s6; have kk := And.intro o6.cells p6.cells; have Td6 : Tr w6 (.slice (some ⟨gd, 0, none⟩) td cd) td Od := ⟨_, gd, 0, cd, rfl, f1, L6, f4⟩))
 have hd : td <= 536870912 := by omega
 have Ed := hide e6; clear k kk J1 J2 J3 e6 e1 e2 f1 f2 f3 f4 L6 s6 S4' S5' o4' p4' r4' o5' p5' r5' s4 s5 L1 L2 k1 k2 l1 l2 p1 p2 o5 p5 r5; clear Tx4' Tx5' Tx5 Ty4' Ty5' Ty5
 by_cases hff : f = f'
 . subst hff
   obtain ⟨bx, ox, lx, Lx, tpx⟩ := Tx6.bits; obtain ⟨bY, oy, ly, Ly, tpy⟩ := Ty6.bits; have HE1 : Hid (sn = f) := hide (by rw [HSN.out]; simp [xj5]); have HE2 : Hid (st = (p + r)) := hide (by rw [HST.out]; simp [xq4]); clear HSN HST; have k := And.intro o6.cells p6.cells; have J6 := yv8 _ _ bx ox tx cx bY oy ty cy Ox Oy w6.drew (by omega) (by omega) Lx Ly; rw [Ex.out, Ey.out, <- HP.out, <- HR.out] at J6; go_wp2_with fail
   go_region_held3 (fun w' => w'.cell? ⟨w.heap.size, 0, none⟩ = some (.bool f) /\ w'.cell? ⟨w.heap.size, 1, none⟩ = some (.slice (some a) n ca) /\ w'.cell? ⟨w.heap.size, 2, none⟩ = some (.slice (some b) m cb) /\ w'.cell? ⟨w.heap.size + 1, 0, none⟩ = some (.bool f) /\ w'.cell? ⟨w.heap.size + 1, 1, none⟩ = some (.slice (some a') n' ca') /\ w'.cell? ⟨w.heap.size + 1, 2, none⟩ = some (.slice (some b') m' cb')) (go_keep)
    (first
      | (go_at_call 142
         with_reducible refine J6.mono ?_
         rintro e w8 ⟨gs, ts, cs, Ds, rfl, f1, f2, Ls, f3, f4, es, s8⟩; have S8 : w.Since w.heap.size w8 := (xq6 S6).trans (sM s8 S6.size); have o8 := o6.drew.keep s8; have p8 := p6.drew.keep s8; have r8 := r6.drew.keep s8; have kk := And.intro o8.cells p8.cells; have Td8 : Tr w8 _ _ _ := Tr.keep (w := w6.drew) Td6 s8; have Ts : Tr w8 (.slice (some ⟨gs, 0, none⟩) ts cs) ts Ds := ⟨_, gs, 0, cs, rfl, f1, Ls, f4⟩; have J7 := xx9 f _ _ ts td Ds Od w8 (by omega) (by omega) Ts Td8 (by rw [Ed.out, <- HQ.out]; exact hDD); rw [es, Ed.out, <- HQ.out] at J7)
      | (go_at_call 107
         with_reducible refine J7.mono ?_
         rintro e w10 ⟨v, rfl, ⟨x1, x2, g10, h10, rfl, N10, D10, y1, y2, y3⟩, s10⟩; have N10' := N10; have D10' := D10; obtain ⟨aa, qa, cca, Ya, rfl, -⟩ := N10; obtain ⟨ab, qb, ccb, Yb, rfl, -⟩ := D10; have kk := And.intro (o8.keep s10).cells (p8.keep s10).cells; have rB := r8.keep s10; have u0 := rB.c0; have u1 := rB.c1; have u2 := rB.c2; have uf0 := rB.f 0; have uf1 := rB.f 1; have uf2 := rB.f 2))
   all_goals go_wp2
   all_goals
    have S10 := S8.trans (sM s10 S8.size); have z9 := S8.size; have z11 := r8.lt; have rC := ((rB.set0 (.bool (f && (p + r) != 0))).set1 (.slice aa qa cca)).set2 (.slice ab qb ccb); refine bodyPost_ret (rb3 rfl _ _ _ _ _ _ rfl rC) rfl ?_; have M : xq0 w10 _ (w.heap.size + 1 + 1) := (((xq0.refl w10 _).setCell 0 (.bool (f && (p + r) != 0))).setCell 1 (.slice aa qa cca)).setCell 2 (.slice ab qb ccb); exact ⟨_, rfl, ⟨_, _, g10, h10, by rw [HE1.out, HE2.out], by rw [HE2.out]; exact N10'.marked M (by omega), by rw [HE2.out]; exact D10'.marked M (by omega), by omega, by omega, y3⟩, S10.trans (M.since (by omega))⟩
 . have hfb : (f == f') = false := by simp [hff]
   obtain ⟨bx, ox, lx, Lx, tpx⟩ := Tx6.bits; obtain ⟨bY, oy, ly, Ly, tpy⟩ := Ty6.bits; have k := And.intro o6.cells p6.cells; have J5 := xv3 _ _ bx ox tx cx bY oy ty cy Ox Oy w6 (by omega) (by omega) Lx Ly tpx tpy; rw [Ex.out, Ey.out, <- HP.out, <- HR.out] at J5; go_wp2_with fail; refine J5.mono ?_; rintro e w7 ⟨rfl, m7⟩; have s7 := m7.since w6.heap.size; have S7 := S6.trans (sM s7 S6.size); have o7 := o6.keep s7; have p7 := p6.keep s7; have r7 := r6.keep s7; have Td7 := Td6.keep s7; have Lx := Lx.keep s7; have Ly := Ly.keep s7; clear J5 k o6 p6 r6 Td6 Tx6 Ty6 s7 m7
   by_cases hlt : p < r
   . have hcp := cmpN_neg hlt
     have hge : ¬ ((0 : Int) <= cmpN p r) := by omega
     have htl : tx <= ty := by
      rcases Nat.lt_or_ge ty tx with h | h
      . have := yw2 (A := Oy) (B := Ox) h tpx
        rw [Ex.out, Ey.out, <- HP.out, <- HR.out] at this; omega
      . exact h
     have hle : bv Ox tx <= bv Oy ty := by rw [Ex.out, Ey.out, <- HP.out, <- HR.out]; omega
     have HE1 : Hid (sn = f') := hide (by rw [HSN.out]; simp [xj5, hff, hlt]); have HE2 : Hid (st = (r - p)) := hide (by rw [HST.out]; simp [xq4, hff, hlt]); clear HSN HST; have k := And.intro o7.cells p7.cells; have J6 := xx6 _ _ bY oy ty cy bx ox tx cx Oy Ox w7.drew (by omega) htl Ly Lx hle; rw [Ex.out, Ey.out, <- HP.out, <- HR.out] at J6; clear hff hle htl; go_wp2_with fail
     go_region_held3 (fun w' => w'.cell? ⟨w.heap.size, 0, none⟩ = some (.bool f) /\ w'.cell? ⟨w.heap.size, 1, none⟩ = some (.slice (some a) n ca) /\ w'.cell? ⟨w.heap.size, 2, none⟩ = some (.slice (some b) m cb) /\ w'.cell? ⟨w.heap.size + 1, 0, none⟩ = some (.bool f') /\ w'.cell? ⟨w.heap.size + 1, 1, none⟩ = some (.slice (some a') n' ca') /\ w'.cell? ⟨w.heap.size + 1, 2, none⟩ = some (.slice (some b') m' cb')) (go_keep)
      (first
        | (go_at_call 182
           with_reducible refine J6.mono ?_
           rintro e w8 ⟨gs, ts, cs, Ds, rfl, f1, f2, Ls, f3, f4, es, s8⟩; have S8 : w.Since w.heap.size w8 := (xq6 S7).trans (sM s8 S7.size); have o8 := o7.drew.keep s8; have p8 := p7.drew.keep s8; have r8 := r7.drew.keep s8; have kk := And.intro o8.cells p8.cells; have Td8 : Tr w8 _ _ _ := Tr.keep (w := w7.drew) Td7 s8; have Ts : Tr w8 (.slice (some ⟨gs, 0, none⟩) ts cs) ts Ds := ⟨_, gs, 0, cs, rfl, f1, Ls, f4⟩; have J7 := xx9 f' _ _ ts td Ds Od w8 (by omega) (by omega) Ts Td8 (by rw [Ed.out, <- HQ.out]; exact hDD); rw [es, Ed.out, <- HQ.out] at J7)
        | (go_at_call 107
           with_reducible refine J7.mono ?_
           rintro e w10 ⟨v, rfl, ⟨x1, x2, g10, h10, rfl, N10, D10, y1, y2, y3⟩, s10⟩; have N10' := N10; have D10' := D10; obtain ⟨aa, qa, cca, Ya, rfl, -⟩ := N10; obtain ⟨ab, qb, ccb, Yb, rfl, -⟩ := D10; have kk := And.intro (o8.keep s10).cells (p8.keep s10).cells; have rB := r8.keep s10; have u0 := rB.c0; have u1 := rB.c1; have u2 := rB.c2; have uf0 := rB.f 0; have uf1 := rB.f 1; have uf2 := rB.f 2))
     all_goals go_wp2
     all_goals
      have S10 := S8.trans (sM s10 S8.size); have z9 := S8.size; have z11 := r8.lt; have rC := ((rB.set0 (.bool (f' && (r - p) != 0))).set1 (.slice aa qa cca)).set2 (.slice ab qb ccb); refine bodyPost_ret (rb3 rfl _ _ _ _ _ _ rfl rC) rfl ?_; have M : xq0 w10 _ (w.heap.size + 1 + 1) := (((xq0.refl w10 _).setCell 0 (.bool (f' && (r - p) != 0))).setCell 1 (.slice aa qa cca)).setCell 2 (.slice ab qb ccb); exact ⟨_, rfl, ⟨_, _, g10, h10, by rw [HE1.out, HE2.out], by rw [HE2.out]; exact N10'.marked M (by omega), by rw [HE2.out]; exact D10'.marked M (by omega), by omega, by omega, y3⟩, S10.trans (M.since (by omega))⟩
   . have hcp := yw1 (Nat.le_of_not_lt hlt)
     have htl : ty <= tx := by
      rcases Nat.lt_or_ge tx ty with h | h
      . have := yw2 (A := Ox) (B := Oy) h tpy
        rw [Ex.out, Ey.out, <- HP.out, <- HR.out] at this; omega
      . exact h
     have hle : bv Oy ty <= bv Ox tx := by rw [Ex.out, Ey.out, <- HP.out, <- HR.out]; omega
     have HE1 : Hid (sn = f) := hide (by rw [HSN.out]; simp [xj5, hff, hlt]); have HE2 : Hid (st = (p - r)) := hide (by rw [HST.out]; simp [xq4, hff, hlt]); clear HSN HST; have k := And.intro o7.cells p7.cells; have J6 := xx6 _ _ bx ox tx cx bY oy ty cy Ox Oy w7.drew (by omega) htl Lx Ly hle; rw [Ex.out, Ey.out, <- HP.out, <- HR.out] at J6; clear hff hle htl; go_wp2_with fail
     go_region_held3 (fun w' => w'.cell? ⟨w.heap.size, 0, none⟩ = some (.bool f) /\ w'.cell? ⟨w.heap.size, 1, none⟩ = some (.slice (some a) n ca) /\ w'.cell? ⟨w.heap.size, 2, none⟩ = some (.slice (some b) m cb) /\ w'.cell? ⟨w.heap.size + 1, 0, none⟩ = some (.bool f') /\ w'.cell? ⟨w.heap.size + 1, 1, none⟩ = some (.slice (some a') n' ca') /\ w'.cell? ⟨w.heap.size + 1, 2, none⟩ = some (.slice (some b') m' cb')) (go_keep)
      (first
        | (go_at_call 182
           with_reducible refine J6.mono ?_
           rintro e w8 ⟨gs, ts, cs, Ds, rfl, f1, f2, Ls, f3, f4, es, s8⟩; have S8 : w.Since w.heap.size w8 := (xq6 S7).trans (sM s8 S7.size); have o8 := o7.drew.keep s8; have p8 := p7.drew.keep s8; have r8 := r7.drew.keep s8; have kk := And.intro o8.cells p8.cells; have Td8 : Tr w8 _ _ _ := Tr.keep (w := w7.drew) Td7 s8; have Ts : Tr w8 (.slice (some ⟨gs, 0, none⟩) ts cs) ts Ds := ⟨_, gs, 0, cs, rfl, f1, Ls, f4⟩; have J7 := xx9 f _ _ ts td Ds Od w8 (by omega) (by omega) Ts Td8 (by rw [Ed.out, <- HQ.out]; exact hDD); rw [es, Ed.out, <- HQ.out] at J7)
        | (go_at_call 107
           with_reducible refine J7.mono ?_
           rintro e w10 ⟨v, rfl, ⟨x1, x2, g10, h10, rfl, N10, D10, y1, y2, y3⟩, s10⟩; have N10' := N10; have D10' := D10; obtain ⟨aa, qa, cca, Ya, rfl, -⟩ := N10; obtain ⟨ab, qb, ccb, Yb, rfl, -⟩ := D10; have kk := And.intro (o8.keep s10).cells (p8.keep s10).cells; have rB := r8.keep s10; have u0 := rB.c0; have u1 := rB.c1; have u2 := rB.c2; have uf0 := rB.f 0; have uf1 := rB.f 1; have uf2 := rB.f 2))
     all_goals go_wp2
     all_goals
      have S10 := S8.trans (sM s10 S8.size); have z9 := S8.size; have z11 := r8.lt; have rC := ((rB.set0 (.bool (f && (p - r) != 0))).set1 (.slice aa qa cca)).set2 (.slice ab qb ccb); refine bodyPost_ret (rb3 rfl _ _ _ _ _ _ rfl rC) rfl ?_; have M : xq0 w10 _ (w.heap.size + 1 + 1) := (((xq0.refl w10 _).setCell 0 (.bool (f && (p - r) != 0))).setCell 1 (.slice aa qa cca)).setCell 2 (.slice ab qb ccb); exact ⟨_, rfl, ⟨_, _, g10, h10, by rw [HE1.out, HE2.out], by rw [HE2.out]; exact N10'.marked M (by omega), by rw [HE2.out]; exact D10'.marked M (by omega), by omega, by omega, y3⟩, S10.trans (M.since (by omega))⟩
theorem l1Add_bigB (f f' : Bool) (a b a' b' : Addr) (ba oa n ca bb ob m cb ba' oa' n' ca' bb' ob' m' cb' : Nat) (X Y X' Y' : Nat -> Nat) (w : World) (hn : n + n' + m + m' <= 16777216)
 (R : RIn w (some a) (some b) ba oa n ca bb ob m cb X Y) (R' : RIn w (some a') (some b') ba' oa' n' ca' bb' ob' m' cb' X' Y') (h1 : 0 < n) (h2 : 0 < n') (hs : xz3 X n Y m = true) (hs' : ¬ xz3 X' n' Y' m' = true) :
 Calls Tryz.prog 155 #[.agg #[.bool f, .slice (some a) n ca, .slice (some b) m cb], .agg #[.bool f', .slice (some a') n' ca', .slice (some b') m' cb']] w fun e w' => ∃ v, e = .returned v /\
  RatV w' v (xj5 f f' (lv X n * lv Y' m') (lv X' n' * lv Y m) && xq4 f f' (lv X n * lv Y' m') (lv X' n' * lv Y m) != 0) (xq4 f f' (lv X n * lv Y' m') (lv X' n' * lv Y m) / Nat.gcd (xq4 f f' (lv X n * lv Y' m') (lv X' n' * lv Y m)) (lv Y m * lv Y' m')) ((lv Y m * lv Y' m') / Nat.gcd (xq4 f f' (lv X n * lv Y' m') (lv X' n' * lv Y m)) (lv Y m * lv Y' m')) w.heap.size 67108864 /\ w.Since w.heap.size w' := by
 have hne2 : w.heap.size + 1 + 1 ≠ w.heap.size := by omega
 obtain ⟨sA, zA, oA, pA, rA⟩ := bx w (.bool f) (.slice (some a) n ca) (.slice (some b) m cb) (.bool f') (.slice (some a') n' ca') (.slice (some b') m' cb') (.bool false) (.slice none 0 0) (.slice none 0 0); have hDD := Nat.mul_pos R.den R'.den; obtain ⟨p, hp⟩ : ∃ p, p = lv X n * lv Y' m' := ⟨_, rfl⟩; obtain ⟨r, hr⟩ : ∃ r, r = lv X' n' * lv Y m := ⟨_, rfl⟩; obtain ⟨q, hq⟩ : ∃ q, q = lv Y m * lv Y' m' := ⟨_, rfl⟩; rw [<- hp, <- hr, <- hq]; rw [<- hq] at hDD; obtain ⟨sn, hSN⟩ : ∃ s, s = xj5 f f' p r := ⟨_, rfl⟩; obtain ⟨st, hST⟩ : ∃ s, s = xq4 f f' p r := ⟨_, rfl⟩; rw [<- hSN, <- hST]; have HSN := hide hSN; have HST := hide hST; have HP := hide hp; have HR := hide hr; have HQ := hide hq; clear hSN hST hp hr hq; have q1 : ((n : Int) == 0) = false := by simp; omega
 have q2 : ((n' : Int) == 0) = false := by simp; omega
 have j0 := oA.c0; have j1 := oA.c1; have j2 := oA.c2; go_enter Tryz.func155, Tryz.ntmps155; go_wp2_with fail; generalize (((w.alloc (.cells #[.bool f, .slice (some a) n ca, .slice (some b) m cb] 61)).alloc (.cells #[.bool f', .slice (some a') n' ca', .slice (some b') m' cb'] 61)).alloc (.cells #[.bool false, .slice none 0 0, .slice none 0 0] 61)) = w1 at *; have I1 := xj4 f (some a) (some b) ba oa n ca bb ob m cb X Y w1 (by omega) (by omega) (R.keep sA).LX (R.keep sA).LY R.lX R.lY; rw [hs] at I1; refine I1.mono ?_; rintro e w2 ⟨rfl, s2⟩; have S2 := sA.trans (sM s2 sA.size); have o2 := oA.keep s2; have p2 := pA.keep s2; have r2 := rA.keep s2; have z2 := s2.size; clear I1 j0 j1 j2 oA pA rA; have k0 := p2.c0; have k1 := p2.c1; have k2 := p2.c2; have I2 := xj4 f' (some a') (some b') ba' oa' n' ca' bb' ob' m' cb' X' Y' w2 (by omega) (by omega) (R'.keep S2).LX (R'.keep S2).LY R'.lX R'.lY; rw [show xz3 X' n' Y' m' = false by simpa using hs'] at I2; go_wp2_with fail; refine I2.mono ?_; rintro e w3 ⟨rfl, s3⟩; have S3 := S2.trans (sM s3 S2.size); have o3 := o2.keep s3; have p3 := p2.keep s3; have r3 := r2.keep s3; have z3 := s3.size; clear I2 k0 k1 k2 o2 p2 r2; have k := And.intro o3.cells p3.cells; have J1 := xq7 (some a) ba oa n ca X w3.drew (by omega) (R.keep S3).LX R.lX; go_wp2
 go_region_held3 (fun w' => w'.cell? ⟨w.heap.size, 0, none⟩ = some (.bool f) /\ w'.cell? ⟨w.heap.size, 1, none⟩ = some (.slice (some a) n ca) /\ w'.cell? ⟨w.heap.size, 2, none⟩ = some (.slice (some b) m cb) /\ w'.cell? ⟨w.heap.size + 1, 0, none⟩ = some (.bool f') /\ w'.cell? ⟨w.heap.size + 1, 1, none⟩ = some (.slice (some a') n' ca') /\ w'.cell? ⟨w.heap.size + 1, 2, none⟩ = some (.slice (some b') m' cb')) (go_keep)
  (first
    | (go_at_call 152
       first
        | (with_reducible refine J1.mono ?_
           rintro e v4 ⟨a1, g1, m1, t1, B1, rfl, k1, k2, L1, -, p1, e1, s4⟩; have S4' : w.Since w.heap.size v4 := (xq6 S3).trans (sM s4 S3.size); have o4' := o3.drew.keep s4; have p4' := p3.drew.keep s4; have r4' := r3.drew.keep s4; have kk := And.intro o4'.cells p4'.cells; have J2 := xq7 (some b') bb' ob' m' cb' Y' v4 (by omega) (R'.keep S4').LY R'.lY)
        | (with_reducible refine J2.mono ?_
           rintro e v5 ⟨a2, g2, m2, t2, B2, rfl, l1, l2, L2, -, p2, e2, s5⟩; have S5' := S4'.trans (sM s5 S4'.size); have o5' := o4'.keep s5; have p5' := p4'.keep s5; have r5' := r4'.keep s5; have kk := And.intro o5'.cells p5'.cells; have J3 := xz1 a1 a2 g1 0 m1 t1 g2 0 m2 t2 B1 B2 v5 (by omega) (by omega) (L1.keep s5) L2; rw [e1, e2] at J3))
    | (go_at_call 143
       with_reducible refine J3.mono ?_
       rintro e w4 ⟨gx, tx, cx, Ox, rfl, f1, f2, L6, f3, f4, e6, s6⟩; have S4 := S5'.trans (sM s6 S5'.size); have o4 := o5'.keep s6; have p4 := p5'.keep s6; have r4 := r5'.keep s6; have kk := And.intro o4.cells p4.cells; have Tx4 : Tr w4 (.slice (some ⟨gx, 0, none⟩) tx cx) tx Ox := ⟨_, gx, 0, cx, rfl, f1, L6, f4⟩))
 have hx : tx <= 536870912 := by omega
 have Ex := hide e6; clear k kk J1 J2 J3 e6 e1 e2 f1 f2 f3 f4 L6 s6 S4' S5' o4' p4' r4' o5' p5' r5' s4 s5 L1 L2 k1 k2 l1 l2 p1 p2 o3 p3 r3; have k := And.intro o4.cells p4.cells; have J1 := xq7 (some a') ba' oa' n' ca' X' w4.drew (by omega) (R'.keep S4).LX R'.lX; go_wp2
 go_region_held3 (fun w' => w'.cell? ⟨w.heap.size, 0, none⟩ = some (.bool f) /\ w'.cell? ⟨w.heap.size, 1, none⟩ = some (.slice (some a) n ca) /\ w'.cell? ⟨w.heap.size, 2, none⟩ = some (.slice (some b) m cb) /\ w'.cell? ⟨w.heap.size + 1, 0, none⟩ = some (.bool f') /\ w'.cell? ⟨w.heap.size + 1, 1, none⟩ = some (.slice (some a') n' ca') /\ w'.cell? ⟨w.heap.size + 1, 2, none⟩ = some (.slice (some b') m' cb')) (go_keep)
  (first
    | (go_at_call 152
       first
        | (with_reducible refine J1.mono ?_
           rintro e v4 ⟨a1, g1, m1, t1, B1, rfl, k1, k2, L1, -, p1, e1, s4⟩; have S4' : w.Since w.heap.size v4 := (xq6 S4).trans (sM s4 S4.size); have o4' := o4.drew.keep s4; have p4' := p4.drew.keep s4; have r4' := r4.drew.keep s4; have Tx4' : Tr v4 _ _ _ := Tr.keep (w := w4.drew) Tx4 s4; have kk := And.intro o4'.cells p4'.cells; have J2 := xq7 (some b) bb ob m cb Y v4 (by omega) (R.keep S4').LY R.lY)
        | (with_reducible refine J2.mono ?_
           rintro e v5 ⟨a2, g2, m2, t2, B2, rfl, l1, l2, L2, -, p2, e2, s5⟩; have S5' := S4'.trans (sM s5 S4'.size); have o5' := o4'.keep s5; have p5' := p4'.keep s5; have r5' := r4'.keep s5; have Tx5' := Tx4'.keep s5; have kk := And.intro o5'.cells p5'.cells; have J3 := xz1 a1 a2 g1 0 m1 t1 g2 0 m2 t2 B1 B2 v5 (by omega) (by omega) (L1.keep s5) L2; rw [e1, e2] at J3))
    | (go_at_call 143
       with_reducible refine J3.mono ?_
       rintro e w5 ⟨gy, ty, cy, Oy, rfl, f1, f2, L6, f3, f4, e6, s6⟩; have S5 := S5'.trans (sM s6 S5'.size); have o5 := o5'.keep s6; have p5 := p5'.keep s6; have r5 := r5'.keep s6; have Tx5 := Tx5'.keep s6; have kk := And.intro o5.cells p5.cells; have Ty5 : Tr w5 (.slice (some ⟨gy, 0, none⟩) ty cy) ty Oy := ⟨_, gy, 0, cy, rfl, f1, L6, f4⟩))
 have hy : ty <= 536870912 := by omega
 have Ey := hide e6; clear k kk J1 J2 J3 e6 e1 e2 f1 f2 f3 f4 L6 s6 S4' S5' o4' p4' r4' o5' p5' r5' s4 s5 L1 L2 k1 k2 l1 l2 p1 p2 o4 p4 r4; clear Tx4' Tx5' Tx4; have k := And.intro o5.cells p5.cells; have J1 := xq7 (some b) bb ob m cb Y w5.drew (by omega) (R.keep S5).LY R.lY; go_wp2
 go_region_held3 (fun w' => w'.cell? ⟨w.heap.size, 0, none⟩ = some (.bool f) /\ w'.cell? ⟨w.heap.size, 1, none⟩ = some (.slice (some a) n ca) /\ w'.cell? ⟨w.heap.size, 2, none⟩ = some (.slice (some b) m cb) /\ w'.cell? ⟨w.heap.size + 1, 0, none⟩ = some (.bool f') /\ w'.cell? ⟨w.heap.size + 1, 1, none⟩ = some (.slice (some a') n' ca') /\ w'.cell? ⟨w.heap.size + 1, 2, none⟩ = some (.slice (some b') m' cb')) (go_keep)
  (first
    | (go_at_call 152
       first
        | (with_reducible refine J1.mono ?_
           rintro e v4 ⟨a1, g1, m1, t1, B1, rfl, k1, k2, L1, -, p1, e1, s4⟩; have S4' : w.Since w.heap.size v4 := (xq6 S5).trans (sM s4 S5.size); have o4' := o5.drew.keep s4; have p4' := p5.drew.keep s4; have r4' := r5.drew.keep s4; have Tx4' : Tr v4 _ _ _ := Tr.keep (w := w5.drew) Tx5 s4; have Ty4' : Tr v4 _ _ _ := Tr.keep (w := w5.drew) Ty5 s4; have kk := And.intro o4'.cells p4'.cells; have J2 := xq7 (some b') bb' ob' m' cb' Y' v4 (by omega) (R'.keep S4').LY R'.lY)
        | (with_reducible refine J2.mono ?_
           rintro e v5 ⟨a2, g2, m2, t2, B2, rfl, l1, l2, L2, -, p2, e2, s5⟩; have S5' := S4'.trans (sM s5 S4'.size); have o5' := o4'.keep s5; have p5' := p4'.keep s5; have r5' := r4'.keep s5; have Tx5' := Tx4'.keep s5; have Ty5' := Ty4'.keep s5; have kk := And.intro o5'.cells p5'.cells; have J3 := xz1 a1 a2 g1 0 m1 t1 g2 0 m2 t2 B1 B2 v5 (by omega) (by omega) (L1.keep s5) L2; rw [e1, e2] at J3))
    | (go_at_call 143
       with_reducible refine J3.mono ?_
       rintro e w6 ⟨gd, td, cd, Od, rfl, f1, f2, L6, f3, f4, e6, s6⟩; have S6 := S5'.trans (sM s6 S5'.size); have o6 := o5'.keep s6; have p6 := p5'.keep s6; have r6 := r5'.keep s6; have Tx6 := Tx5'.keep s6; have Ty6 := Ty5'.keep s6; have kk := And.intro o6.cells p6.cells; have Td6 : Tr w6 (.slice (some ⟨gd, 0, none⟩) td cd) td Od := ⟨_, gd, 0, cd, rfl, f1, L6, f4⟩))
 have hd : td <= 536870912 := by omega
 have Ed := hide e6; clear k kk J1 J2 J3 e6 e1 e2 f1 f2 f3 f4 L6 s6 S4' S5' o4' p4' r4' o5' p5' r5' s4 s5 L1 L2 k1 k2 l1 l2 p1 p2 o5 p5 r5; clear Tx4' Tx5' Tx5 Ty4' Ty5' Ty5
 by_cases hff : f = f'
 . subst hff
   obtain ⟨bx, ox, lx, Lx, tpx⟩ := Tx6.bits; obtain ⟨bY, oy, ly, Ly, tpy⟩ := Ty6.bits; have HE1 : Hid (sn = f) := hide (by rw [HSN.out]; simp [xj5]); have HE2 : Hid (st = (p + r)) := hide (by rw [HST.out]; simp [xq4]); clear HSN HST; have k := And.intro o6.cells p6.cells; have J6 := yv8 _ _ bx ox tx cx bY oy ty cy Ox Oy w6.drew (by omega) (by omega) Lx Ly; rw [Ex.out, Ey.out, <- HP.out, <- HR.out] at J6; go_wp2_with fail
   go_region_held3 (fun w' => w'.cell? ⟨w.heap.size, 0, none⟩ = some (.bool f) /\ w'.cell? ⟨w.heap.size, 1, none⟩ = some (.slice (some a) n ca) /\ w'.cell? ⟨w.heap.size, 2, none⟩ = some (.slice (some b) m cb) /\ w'.cell? ⟨w.heap.size + 1, 0, none⟩ = some (.bool f) /\ w'.cell? ⟨w.heap.size + 1, 1, none⟩ = some (.slice (some a') n' ca') /\ w'.cell? ⟨w.heap.size + 1, 2, none⟩ = some (.slice (some b') m' cb')) (go_keep)
    (first
      | (go_at_call 142
         with_reducible refine J6.mono ?_
         rintro e w8 ⟨gs, ts, cs, Ds, rfl, f1, f2, Ls, f3, f4, es, s8⟩; have S8 : w.Since w.heap.size w8 := (xq6 S6).trans (sM s8 S6.size); have o8 := o6.drew.keep s8; have p8 := p6.drew.keep s8; have r8 := r6.drew.keep s8; have kk := And.intro o8.cells p8.cells; have Td8 : Tr w8 _ _ _ := Tr.keep (w := w6.drew) Td6 s8; have Ts : Tr w8 (.slice (some ⟨gs, 0, none⟩) ts cs) ts Ds := ⟨_, gs, 0, cs, rfl, f1, Ls, f4⟩; have J7 := xx9 f _ _ ts td Ds Od w8 (by omega) (by omega) Ts Td8 (by rw [Ed.out, <- HQ.out]; exact hDD); rw [es, Ed.out, <- HQ.out] at J7)
      | (go_at_call 107
         with_reducible refine J7.mono ?_
         rintro e w10 ⟨v, rfl, ⟨x1, x2, g10, h10, rfl, N10, D10, y1, y2, y3⟩, s10⟩; have N10' := N10; have D10' := D10; obtain ⟨aa, qa, cca, Ya, rfl, -⟩ := N10; obtain ⟨ab, qb, ccb, Yb, rfl, -⟩ := D10; have kk := And.intro (o8.keep s10).cells (p8.keep s10).cells; have rB := r8.keep s10; have u0 := rB.c0; have u1 := rB.c1; have u2 := rB.c2; have uf0 := rB.f 0; have uf1 := rB.f 1; have uf2 := rB.f 2))
   all_goals go_wp2
   all_goals
    have S10 := S8.trans (sM s10 S8.size); have z9 := S8.size; have z11 := r8.lt; have rC := ((rB.set0 (.bool (f && (p + r) != 0))).set1 (.slice aa qa cca)).set2 (.slice ab qb ccb); refine bodyPost_ret (rb3 rfl _ _ _ _ _ _ rfl rC) rfl ?_; have M : xq0 w10 _ (w.heap.size + 1 + 1) := (((xq0.refl w10 _).setCell 0 (.bool (f && (p + r) != 0))).setCell 1 (.slice aa qa cca)).setCell 2 (.slice ab qb ccb); exact ⟨_, rfl, ⟨_, _, g10, h10, by rw [HE1.out, HE2.out], by rw [HE2.out]; exact N10'.marked M (by omega), by rw [HE2.out]; exact D10'.marked M (by omega), by omega, by omega, y3⟩, S10.trans (M.since (by omega))⟩
 . have hfb : (f == f') = false := by simp [hff]
   obtain ⟨bx, ox, lx, Lx, tpx⟩ := Tx6.bits; obtain ⟨bY, oy, ly, Ly, tpy⟩ := Ty6.bits; have k := And.intro o6.cells p6.cells; have J5 := xv3 _ _ bx ox tx cx bY oy ty cy Ox Oy w6 (by omega) (by omega) Lx Ly tpx tpy; rw [Ex.out, Ey.out, <- HP.out, <- HR.out] at J5; go_wp2_with fail; refine J5.mono ?_; rintro e w7 ⟨rfl, m7⟩; have s7 := m7.since w6.heap.size; have S7 := S6.trans (sM s7 S6.size); have o7 := o6.keep s7; have p7 := p6.keep s7; have r7 := r6.keep s7; have Td7 := Td6.keep s7; have Lx := Lx.keep s7; have Ly := Ly.keep s7; clear J5 k o6 p6 r6 Td6 Tx6 Ty6 s7 m7
   by_cases hlt : p < r
   . have hcp := cmpN_neg hlt
     have hge : ¬ ((0 : Int) <= cmpN p r) := by omega
     have htl : tx <= ty := by
      rcases Nat.lt_or_ge ty tx with h | h
      . have := yw2 (A := Oy) (B := Ox) h tpx
        rw [Ex.out, Ey.out, <- HP.out, <- HR.out] at this; omega
      . exact h
     have hle : bv Ox tx <= bv Oy ty := by rw [Ex.out, Ey.out, <- HP.out, <- HR.out]; omega
     have HE1 : Hid (sn = f') := hide (by rw [HSN.out]; simp [xj5, hff, hlt]); have HE2 : Hid (st = (r - p)) := hide (by rw [HST.out]; simp [xq4, hff, hlt]); clear HSN HST; have k := And.intro o7.cells p7.cells; have J6 := xx6 _ _ bY oy ty cy bx ox tx cx Oy Ox w7.drew (by omega) htl Ly Lx hle; rw [Ex.out, Ey.out, <- HP.out, <- HR.out] at J6; clear hff hle htl; go_wp2_with fail
     go_region_held3 (fun w' => w'.cell? ⟨w.heap.size, 0, none⟩ = some (.bool f) /\ w'.cell? ⟨w.heap.size, 1, none⟩ = some (.slice (some a) n ca) /\ w'.cell? ⟨w.heap.size, 2, none⟩ = some (.slice (some b) m cb) /\ w'.cell? ⟨w.heap.size + 1, 0, none⟩ = some (.bool f') /\ w'.cell? ⟨w.heap.size + 1, 1, none⟩ = some (.slice (some a') n' ca') /\ w'.cell? ⟨w.heap.size + 1, 2, none⟩ = some (.slice (some b') m' cb')) (go_keep)
      (first
        | (go_at_call 182
           with_reducible refine J6.mono ?_
           rintro e w8 ⟨gs, ts, cs, Ds, rfl, f1, f2, Ls, f3, f4, es, s8⟩; have S8 : w.Since w.heap.size w8 := (xq6 S7).trans (sM s8 S7.size); have o8 := o7.drew.keep s8; have p8 := p7.drew.keep s8; have r8 := r7.drew.keep s8; have kk := And.intro o8.cells p8.cells; have Td8 : Tr w8 _ _ _ := Tr.keep (w := w7.drew) Td7 s8; have Ts : Tr w8 (.slice (some ⟨gs, 0, none⟩) ts cs) ts Ds := ⟨_, gs, 0, cs, rfl, f1, Ls, f4⟩; have J7 := xx9 f' _ _ ts td Ds Od w8 (by omega) (by omega) Ts Td8 (by rw [Ed.out, <- HQ.out]; exact hDD); rw [es, Ed.out, <- HQ.out] at J7)
        | (go_at_call 107
           with_reducible refine J7.mono ?_
           rintro e w10 ⟨v, rfl, ⟨x1, x2, g10, h10, rfl, N10, D10, y1, y2, y3⟩, s10⟩; have N10' := N10; have D10' := D10; obtain ⟨aa, qa, cca, Ya, rfl, -⟩ := N10; obtain ⟨ab, qb, ccb, Yb, rfl, -⟩ := D10; have kk := And.intro (o8.keep s10).cells (p8.keep s10).cells; have rB := r8.keep s10; have u0 := rB.c0; have u1 := rB.c1; have u2 := rB.c2; have uf0 := rB.f 0; have uf1 := rB.f 1; have uf2 := rB.f 2))
     all_goals go_wp2
     all_goals
      have S10 := S8.trans (sM s10 S8.size); have z9 := S8.size; have z11 := r8.lt; have rC := ((rB.set0 (.bool (f' && (r - p) != 0))).set1 (.slice aa qa cca)).set2 (.slice ab qb ccb); refine bodyPost_ret (rb3 rfl _ _ _ _ _ _ rfl rC) rfl ?_; have M : xq0 w10 _ (w.heap.size + 1 + 1) := (((xq0.refl w10 _).setCell 0 (.bool (f' && (r - p) != 0))).setCell 1 (.slice aa qa cca)).setCell 2 (.slice ab qb ccb); exact ⟨_, rfl, ⟨_, _, g10, h10, by rw [HE1.out, HE2.out], by rw [HE2.out]; exact N10'.marked M (by omega), by rw [HE2.out]; exact D10'.marked M (by omega), by omega, by omega, y3⟩, S10.trans (M.since (by omega))⟩
   . have hcp := yw1 (Nat.le_of_not_lt hlt)
     have htl : ty <= tx := by
      rcases Nat.lt_or_ge tx ty with h | h
      . have := yw2 (A := Ox) (B := Oy) h tpy
        rw [Ex.out, Ey.out, <- HP.out, <- HR.out] at this; omega
      . exact h
     have hle : bv Oy ty <= bv Ox tx := by rw [Ex.out, Ey.out, <- HP.out, <- HR.out]; omega
     have HE1 : Hid (sn = f) := hide (by rw [HSN.out]; simp [xj5, hff, hlt]); have HE2 : Hid (st = (p - r)) := hide (by rw [HST.out]; simp [xq4, hff, hlt]); clear HSN HST; have k := And.intro o7.cells p7.cells; have J6 := xx6 _ _ bx ox tx cx bY oy ty cy Ox Oy w7.drew (by omega) htl Lx Ly hle; rw [Ex.out, Ey.out, <- HP.out, <- HR.out] at J6; clear hff hle htl; go_wp2_with fail
     go_region_held3 (fun w' => w'.cell? ⟨w.heap.size, 0, none⟩ = some (.bool f) /\ w'.cell? ⟨w.heap.size, 1, none⟩ = some (.slice (some a) n ca) /\ w'.cell? ⟨w.heap.size, 2, none⟩ = some (.slice (some b) m cb) /\ w'.cell? ⟨w.heap.size + 1, 0, none⟩ = some (.bool f') /\ w'.cell? ⟨w.heap.size + 1, 1, none⟩ = some (.slice (some a') n' ca') /\ w'.cell? ⟨w.heap.size + 1, 2, none⟩ = some (.slice (some b') m' cb')) (go_keep)
      (first
        | (go_at_call 182
           with_reducible refine J6.mono ?_
           rintro e w8 ⟨gs, ts, cs, Ds, rfl, f1, f2, Ls, f3, f4, es, s8⟩; have S8 : w.Since w.heap.size w8 := (xq6 S7).trans (sM s8 S7.size); have o8 := o7.drew.keep s8; have p8 := p7.drew.keep s8; have r8 := r7.drew.keep s8; have kk := And.intro o8.cells p8.cells; have Td8 : Tr w8 _ _ _ := Tr.keep (w := w7.drew) Td7 s8; have Ts : Tr w8 (.slice (some ⟨gs, 0, none⟩) ts cs) ts Ds := ⟨_, gs, 0, cs, rfl, f1, Ls, f4⟩; have J7 := xx9 f _ _ ts td Ds Od w8 (by omega) (by omega) Ts Td8 (by rw [Ed.out, <- HQ.out]; exact hDD); rw [es, Ed.out, <- HQ.out] at J7)
        | (go_at_call 107
           with_reducible refine J7.mono ?_
           rintro e w10 ⟨v, rfl, ⟨x1, x2, g10, h10, rfl, N10, D10, y1, y2, y3⟩, s10⟩; have N10' := N10; have D10' := D10; obtain ⟨aa, qa, cca, Ya, rfl, -⟩ := N10; obtain ⟨ab, qb, ccb, Yb, rfl, -⟩ := D10; have kk := And.intro (o8.keep s10).cells (p8.keep s10).cells; have rB := r8.keep s10; have u0 := rB.c0; have u1 := rB.c1; have u2 := rB.c2; have uf0 := rB.f 0; have uf1 := rB.f 1; have uf2 := rB.f 2))
     all_goals go_wp2
     all_goals
      have S10 := S8.trans (sM s10 S8.size); have z9 := S8.size; have z11 := r8.lt; have rC := ((rB.set0 (.bool (f && (p - r) != 0))).set1 (.slice aa qa cca)).set2 (.slice ab qb ccb); refine bodyPost_ret (rb3 rfl _ _ _ _ _ _ rfl rC) rfl ?_; have M : xq0 w10 _ (w.heap.size + 1 + 1) := (((xq0.refl w10 _).setCell 0 (.bool (f && (p - r) != 0))).setCell 1 (.slice aa qa cca)).setCell 2 (.slice ab qb ccb); exact ⟨_, rfl, ⟨_, _, g10, h10, by rw [HE1.out, HE2.out], by rw [HE2.out]; exact N10'.marked M (by omega), by rw [HE2.out]; exact D10'.marked M (by omega), by omega, by omega, y3⟩, S10.trans (M.since (by omega))⟩
theorem l1Add_any (f f' : Bool) (a b a' b' : Addr) (ba oa n ca bb ob m cb ba' oa' n' ca' bb' ob' m' cb' : Nat) (X Y X' Y' : Nat -> Nat) (w : World) (hn : n + n' + m + m' <= 16777216)
 (R : RIn w (some a) (some b) ba oa n ca bb ob m cb X Y) (R' : RIn w (some a') (some b') ba' oa' n' ca' bb' ob' m' cb' X' Y') (ok : xq9 f X n Y m = true) (ok' : xq9 f' X' n' Y' m' = true) :
 Calls Tryz.prog 155 #[.agg #[.bool f, .slice (some a) n ca, .slice (some b) m cb], .agg #[.bool f', .slice (some a') n' ca', .slice (some b') m' cb']] w fun e w' => ∃ v, e = .returned v /\
  RatV w' v (xj5 f f' (lv X n * lv Y' m') (lv X' n' * lv Y m) && xq4 f f' (lv X n * lv Y' m') (lv X' n' * lv Y m) != 0) (xq4 f f' (lv X n * lv Y' m') (lv X' n' * lv Y m) / Nat.gcd (xq4 f f' (lv X n * lv Y' m') (lv X' n' * lv Y m)) (lv Y m * lv Y' m')) ((lv Y m * lv Y' m') / Nat.gcd (xq4 f f' (lv X n * lv Y' m') (lv X' n' * lv Y m)) (lv Y m * lv Y' m')) w.heap.size 67108864 /\ w.Since w.heap.size w' := by
 by_cases h0 : n = 0 ∨ n' = 0
 . exact l1Add_zero f f' a b a' b' ba oa n ca bb ob m cb ba' oa' n' ca' bb' ob' m' cb' X Y X' Y' w hn R R' ok ok' h0
 have h1 : 0 < n := by omega
 have h2 : 0 < n' := by omega
 by_cases hs : xz3 X n Y m = true
 . by_cases hs' : xz3 X' n' Y' m' = true
   . exact l1Add_small f f' a b a' b' ba oa n ca bb ob m cb ba' oa' n' ca' bb' ob' m' cb' X Y X' Y' w hn R R' h1 h2 hs hs'
   . exact l1Add_bigB f f' a b a' b' ba oa n ca bb ob m cb ba' oa' n' ca' bb' ob' m' cb' X Y X' Y' w hn R R' h1 h2 hs hs'
 . exact l1Add_bigA f f' a b a' b' ba oa n ca bb ob m cb ba' oa' n' ca' bb' ob' m' cb' X Y X' Y' w hn R R' h1 h2 hs
theorem yq8 {P : Program} (w : World) {ops : Array Oper} {rest : List Oper} {o : Oper} {a : Act} {Q : Exit -> Act -> World -> Prop} (hgd : o.guard = none) (s x : Operand) (t : TypeId)
 (ho : o.op = .call { callee := .builtin .append, args := #[s, x], argTypes := #[t, t] })
 (base : Nat) (e : TypeId) (i : TypeInfo) (z : Value) (size bytes : Nat) (ht : P.underlying t = some (.slice e)) (hi : P.info? e = some i) (hz : i.zero = some z)
 (hsize : i.size = size) (hby : i.bytes = bytes) (hzs : z.cells.size = size) (hsz : 0 < size)
 (v : Value) (n : Nat) (xs : List Value) (hs : a.eval s = v) (hown : w.ownsRow base e size v n xs)
 (q : Option Addr) (m c : Nat) (news : List Value) (hx : a.eval x = .slice q m c) (hl : news.length = m * size) (hq : q = none -> m = 0 /\ c = 0) (hnews : ∀ ad, q = some ad -> ∀ j u, news[j]? = some u -> w.cell? (ad.add j) = some u) (h1 : ∀ u ∈ news, u.oneCell' = true)
 (h63 : n + m <= maxLen) (hbytes : (n + m) * bytes <= 140737488355328) (hbase : base <= w.heap.size)
 (h : ∀ v' w', w'.ownsRow base e size v' (n + m) (xs ++ news) -> w.grownBy w' v.ownBlock -> (v' = .slice none 0 0 ↔ v = .slice none 0 0 /\ m = 0) -> wpList P ops Q rest (a.put o.dst v') w') : wpList P ops Q (o :: rest) a w := by
 rcases q with _ | ad
 . obtain ⟨rfl, rfl⟩ := hq rfl
   obtain rfl : news = [] := List.length_eq_zero_iff.mp (by omega); refine wpList_append_own_none hgd s x t ho base e i size ht hi v n xs hs hown hx (h v w ?_ ?_ ?_)
   . rw [List.append_nil]; exact hown
   . exact ⟨rfl, rfl, rfl, Nat.le_refl _, fun _ _ _ => rfl⟩
   . simp
 . exact wpList_append_own w hgd s x t ho base e i z size bytes ht hi hz hsize hby hzs hsz v n xs hs hown ad m c news hx hl (hnews ad rfl) h1 h63 hbytes hbase h
theorem limbs_newsO {w : World} {a : Option Addr} {b off n : Nat} {X : Nat -> Nat} (h : xq1 w a b off n X) : ∀ ad, a = some ad -> ∀ j u, (ll X n)[j]? = some u -> w.cell? (ad.add j) = some u := by
 intro ad e; subst e; exact limbs_news h
theorem l1Copy_opt (f : Bool) (x y : Option Addr) (ba oa n ca bb ob m cb : Nat) (X Y : Nat -> Nat) (w : World) (hn : n <= 16777216) (hm : m <= 16777216) (hnc : n <= ca) (hmc : m <= cb) (hxc : x = none -> ca = 0) (hyc : y = none -> cb = 0) (hX : xq1 w x ba oa n X) (hY : xq1 w y bb ob m Y) :
 Calls Tryz.prog 154 #[.agg #[.bool f, .slice x n ca, .slice y m cb]] w fun e w' => ∃ g h c1 c2, e = .returned (.agg #[.bool f, .slice (some ⟨g, 0, none⟩) n c1, .slice (some ⟨h, 0, none⟩) m c2]) /\ n <= c1 /\ m <= c2 /\
  xq1 w' (some ⟨g, 0, none⟩) g 0 n X /\ xq1 w' (some ⟨h, 0, none⟩) h 0 m Y /\ (0 < n -> ∀ o, w'.frozen? ⟨g, o, none⟩ = false) /\ (0 < m -> ∀ o, w'.frozen? ⟨h, o, none⟩ = false) /\ w.heap.size <= g /\ g < h /\ h < w'.heap.size /\ w.Since w.heap.size w' := by
 obtain ⟨i0, hi, hz0, hz1, hz2⟩ := info_parts Tryz.info159; have sA : w.Since w.heap.size ((w.alloc (.cells #[.bool f, .slice x n ca, .slice y m cb] 61)).alloc (.cells #[.bool false, .slice none 0 0, .slice none 0 0] 61)) := ((World.Since.refl _ _).alloc (Nat.le_refl _) _).alloc (by simp) _; have oA : Box3 ((w.alloc (.cells #[.bool f, .slice x n ca, .slice y m cb] 61)).alloc (.cells #[.bool false, .slice none 0 0, .slice none 0 0] 61)) w.heap.size (.bool f) (.slice x n ca) (.slice y m cb) := (Box3.new w _ _ _ _).keep ((World.Since.refl _ _).alloc (Nat.le_refl _) _); have tB : ((w.alloc (.cells #[.bool f, .slice x n ca, .slice y m cb] 61)).alloc (.cells #[.bool false, .slice none 0 0, .slice none 0 0] 61)).Since ((w.alloc (.cells #[.bool f, .slice x n ca, .slice y m cb] 61)).alloc (.cells #[.bool false, .slice none 0 0, .slice none 0 0] 61)).heap.size (((w.alloc (.cells #[.bool f, .slice x n ca, .slice y m cb] 61)).alloc (.cells #[.bool false, .slice none 0 0, .slice none 0 0] 61)).alloc (.cells #[] 159)) := (World.Since.refl _ _).alloc (Nat.le_refl _) _; have SB := sA.trans (sM tB sA.size); have X1 := hX.keep SB; have own1 := World.ownsRow_made (e := 159) (size := 1) ((w.alloc (.cells #[.bool f, .slice x n ca, .slice y m cb] 61)).alloc (.cells #[.bool false, .slice none 0 0, .slice none 0 0] 61)) #[] 0 (Nat.le_refl _) (by decide) rfl; have zA : ((w.alloc (.cells #[.bool f, .slice x n ca, .slice y m cb] 61)).alloc (.cells #[.bool false, .slice none 0 0, .slice none 0 0] 61)).heap.size = w.heap.size + 1 + 1 := by simp
 have own0 := World.ownsRow_made (e := 159) (size := 1) ((w.alloc (.cells #[.bool f, .slice x n ca, .slice y m cb] 61)).alloc (.cells #[.bool false, .slice none 0 0, .slice none 0 0] 61)) #[] 0 (Nat.le_refl _) (by decide) rfl; rw [zA] at own1; have zA' := zA
 have rA : Box3 ((w.alloc (.cells #[.bool f, .slice x n ca, .slice y m cb] 61)).alloc (.cells #[.bool false, .slice none 0 0, .slice none 0 0] 61)) (w.heap.size + 1) (.bool false) (.slice none 0 0) (.slice none 0 0) := by
  have := Box3.new (w.alloc (.cells #[.bool f, .slice x n ca, .slice y m cb] 61)) (.bool false) (.slice none 0 0) (.slice none 0 0) 61
  simpa using this
 have HZA := hide zA'; clear zA zA'; go_enter Tryz.func154, Tryz.ntmps154
 go_wp2_with (at_builtin; refine yq8 _ rfl _ _ 59 rfl (w.heap.size + 1 + 1) 159 i0 (.int .u32 0) 1 4 Tryz.underlying59 hi hz0 hz1 hz2 rfl (by decide) _ 0 [] rfl own1 x n ca (ll X n) rfl (by rw [ll_len]; omega) (fun e => by have := hxc e; omega) (limbs_newsO X1) (ll_one X n) (by unfold maxLen; omega) (by omega) (by simp) ?_)
 intro v1 w2 own2 grow2 nn2
 have tC : ((w.alloc (.cells #[.bool f, .slice x n ca, .slice y m cb] 61)).alloc (.cells #[.bool false, .slice none 0 0, .slice none 0 0] 61)).Since ((w.alloc (.cells #[.bool f, .slice x n ca, .slice y m cb] 61)).alloc (.cells #[.bool false, .slice none 0 0, .slice none 0 0] 61)).heap.size w2 := tB.grown grow2 (Nat.le_trans (Nat.le_refl _) tB.size) (fun k hk => by
  have := own0.lt k (by rw [HZA.out]; exact hk); exact this.1)
 have SC := sA.trans (sM tC sA.size); have o2 := oA.keep tC; have r2 := rA.keep tC; have HN := hide nn2; clear grow2 own1 nn2; generalize ((w.alloc (.cells #[.bool f, .slice x n ca, .slice y m cb] 61)).alloc (.cells #[.bool false, .slice none 0 0, .slice none 0 0] 61)) = wA at *; have tD := sal w2 (.cells #[] 159); have SD := SC.trans (sM tD SC.size); have Y1 := hY.keep SD; have own3 := World.ownsRow_made (e := 159) (size := 1) w2 #[] 0 (Nat.le_refl _) (by decide) rfl; have o3 := o2.keep tD; have k2 := o3.c2
 go_wp2_with (at_builtin; refine yq8 _ rfl _ _ 59 rfl w2.heap.size 159 i0 (.int .u32 0) 1 4 Tryz.underlying59 hi hz0 hz1 hz2 rfl (by decide) _ 0 [] rfl own3 y m cb (ll Y m) rfl (by rw [ll_len]; omega) (fun e => by have := hyc e; omega) (limbs_newsO Y1) (ll_one Y m) (by unfold maxLen; omega) (by omega) tD.size ?_)
 intro v3 w4 own4 grow4 nn4; have tE : w2.Since w2.heap.size w4 := tD.grown grow4 tD.size (fun k hk => (own3.lt k hk).1); have SE := SC.trans (sM tE SC.size); have o4 := o2.keep tE; have r4 := r2.keep tE; obtain ⟨g1, c1, rfl, m1, b1, l1, L1, F1⟩ := xj9 own2 HN.out; obtain ⟨g2, c2, rfl, m2, b2, l2, L2, F2⟩ := xj9 own4 nn4; clear grow4 own3 nn4 k2 o3; have j0 := o4.c0; have u0 := r4.c0; have u1 := r4.c1; have u2 := r4.c2; have uf0 := r4.f 0; have uf1 := r4.f 1; have uf2 := r4.f 2; go_wp2; have zC := tC.size; have zE := tE.size; have rC := ((r4.set0 (.bool f)).set1 (.slice (some ⟨g1, 0, none⟩) n c1)).set2 (.slice (some ⟨g2, 0, none⟩) m c2); refine bodyPost_ret (rb3 rfl _ _ _ _ _ _ rfl rC) rfl ?_; have M : xq0 w4 _ (w.heap.size + 1) := (((xq0.refl w4 _).setCell 0 (.bool f)).setCell 1 (.slice (some ⟨g1, 0, none⟩) n c1)).setCell 2 (.slice (some ⟨g2, 0, none⟩) m c2); have hz := HZA.out; have zM := M.size; refine ⟨g1, g2, c1, c2, rfl, m1, m2, (L1.keep tE).marked M (fun _ => by omega), L2.marked M (fun _ => by omega), fun _ o => ?_, fun _ o => ?_, by omega, by omega, by omega, SE.trans (M.since (by omega))⟩
 . rw [M.frozenO (a := ⟨g1, o, none⟩) (by show g1 ≠ _; omega), tE.frozen (a := ⟨g1, o, none⟩) l1]; exact F1 o
 . rw [M.frozenO (a := ⟨g2, o, none⟩) (by show g2 ≠ _; omega)]; exact F2 o
theorem l1Neg_opt (f : Bool) (x y : Option Addr) (ba oa n ca bb ob m cb : Nat) (X Y : Nat -> Nat) (w : World) (hn : n <= 16777216) (hm : m <= 16777216) (hnc : n <= ca) (hmc : m <= cb) (hxc : x = none -> ca = 0) (hyc : y = none -> cb = 0) (hX : xq1 w x ba oa n X) (hY : xq1 w y bb ob m Y) :
 Calls Tryz.prog 227 #[.agg #[.bool f, .slice x n ca, .slice y m cb]] w fun e w' => ∃ g h c1 c2, e = .returned (.agg #[.bool (!f && decide (0 < n)), .slice (some ⟨g, 0, none⟩) n c1, .slice (some ⟨h, 0, none⟩) m c2]) /\ n <= c1 /\ m <= c2 /\
  xq1 w' (some ⟨g, 0, none⟩) g 0 n X /\ xq1 w' (some ⟨h, 0, none⟩) h 0 m Y /\ w.heap.size <= g /\ g < h /\ h < w'.heap.size /\ w.Since w.heap.size w' := by
 have sA : w.Since w.heap.size ((w.alloc (.cells #[.bool f, .slice x n ca, .slice y m cb] 61)).alloc (.cells #[.bool false, .slice none 0 0, .slice none 0 0] 61)) := ((World.Since.refl _ _).alloc (Nat.le_refl _) _).alloc (by simp) _; have oA : Box3 ((w.alloc (.cells #[.bool f, .slice x n ca, .slice y m cb] 61)).alloc (.cells #[.bool false, .slice none 0 0, .slice none 0 0] 61)) w.heap.size (.bool f) (.slice x n ca) (.slice y m cb) := (Box3.new w _ _ _ _).keep ((World.Since.refl _ _).alloc (Nat.le_refl _) _)
 have rA : Box3 ((w.alloc (.cells #[.bool f, .slice x n ca, .slice y m cb] 61)).alloc (.cells #[.bool false, .slice none 0 0, .slice none 0 0] 61)) (w.heap.size + 1) (.bool false) (.slice none 0 0) (.slice none 0 0) := by
  have := Box3.new (w.alloc (.cells #[.bool f, .slice x n ca, .slice y m cb] 61)) (.bool false) (.slice none 0 0) (.slice none 0 0) 61
  simpa using this
 go_enter Tryz.func227, Tryz.ntmps227; go_wp2_with fail; generalize ((w.alloc (.cells #[.bool f, .slice x n ca, .slice y m cb] 61)).alloc (.cells #[.bool false, .slice none 0 0, .slice none 0 0] 61)) = w1 at *; refine (l1Copy_opt f x y ba oa n ca bb ob m cb X Y w1 hn hm hnc hmc hxc hyc (hX.keep sA) (hY.keep sA)).mono ?_; rintro e w2 ⟨g, h, c1, c2, rfl, m1, m2, L1, L2, -, -, b1, b2, b3, s2⟩; have S2 := sA.trans (sM s2 sA.size); have z1 := rA.lt; have t3 := sal w2 (.cells #[.bool f, .slice (some ⟨g, 0, none⟩) n c1, .slice (some ⟨h, 0, none⟩) m c2] 61); have q3 := Box3.new w2 (.bool f) (.slice (some ⟨g, 0, none⟩) n c1) (.slice (some ⟨h, 0, none⟩) m c2) 61; have o3 := (oA.keep s2).keep t3; have r3 := (rA.keep s2).keep t3; have k0 := o3.c0; have k1 := o3.c1; have j0 := q3.c0; have j1 := q3.c1; have j2 := q3.c2; have jf := q3.f 0; have hne : w.heap.size ≠ w2.heap.size := by omega
 have hne2 : w.heap.size + 1 ≠ w2.heap.size := by omega
 have r2 := rA.keep s2; cases f
 . by_cases hn0 : 0 < n
   . have hgt : (0 : Int) < (n : Int) := by omega
     have t4 := sal w2 (.cells #[.bool true, .slice (some ⟨g, 0, none⟩) n c1, .slice (some ⟨h, 0, none⟩) m c2] 61); have q4 := Box3.new w2 (.bool true) (.slice (some ⟨g, 0, none⟩) n c1) (.slice (some ⟨h, 0, none⟩) m c2) 61; have r4 := r2.keep t4; have S4 := S2.trans (sM t4 S2.size); have i0 := q4.c0; have i1 := q4.c1; have i2 := q4.c2; have u0 := r4.c0; have u1 := r4.c1; have u2 := r4.c2; have uf0 := r4.f 0; have uf1 := r4.f 1; have uf2 := r4.f 2; go_wp2; have rC := ((r4.set0 (.bool true)).set1 (.slice (some ⟨g, 0, none⟩) n c1)).set2 (.slice (some ⟨h, 0, none⟩) m c2); refine bodyPost_ret (rb3 rfl _ _ _ _ _ _ rfl rC) rfl ?_; have M5 : xq0 (w2.alloc (.cells #[.bool true, .slice (some ⟨g, 0, none⟩) n c1, .slice (some ⟨h, 0, none⟩) m c2] 61)) _ (w.heap.size + 1) := (((xq0.refl (w2.alloc (.cells #[.bool true, .slice (some ⟨g, 0, none⟩) n c1, .slice (some ⟨h, 0, none⟩) m c2] 61)) _).setCell 0 (.bool true)).setCell 1 (.slice (some ⟨g, 0, none⟩) n c1)).setCell 2 (.slice (some ⟨h, 0, none⟩) m c2); have zM := M5.size; have zq : w2.heap.size <= (w2.alloc (.cells #[.bool true, .slice (some ⟨g, 0, none⟩) n c1, .slice (some ⟨h, 0, none⟩) m c2] 61)).heap.size := t4.size; exact ⟨g, h, c1, c2, by simp [hn0], m1, m2, (L1.keep t4).marked M5 (fun _ => by omega), (L2.keep t4).marked M5 (fun _ => by omega), by omega, by omega, by omega, S4.trans (M5.since (by omega))⟩
   . have hgt : ¬ (0 : Int) < (n : Int) := by omega
     have t4 := sal w2 (.cells #[.bool false, .slice (some ⟨g, 0, none⟩) n c1, .slice (some ⟨h, 0, none⟩) m c2] 61); have q4 := Box3.new w2 (.bool false) (.slice (some ⟨g, 0, none⟩) n c1) (.slice (some ⟨h, 0, none⟩) m c2) 61; have r4 := r2.keep t4; have S4 := S2.trans (sM t4 S2.size); have i0 := q4.c0; have i1 := q4.c1; have i2 := q4.c2; have u0 := r4.c0; have u1 := r4.c1; have u2 := r4.c2; have uf0 := r4.f 0; have uf1 := r4.f 1; have uf2 := r4.f 2; go_wp2; have rC := ((r4.set0 (.bool false)).set1 (.slice (some ⟨g, 0, none⟩) n c1)).set2 (.slice (some ⟨h, 0, none⟩) m c2); refine bodyPost_ret (rb3 rfl _ _ _ _ _ _ rfl rC) rfl ?_; have M5 : xq0 (w2.alloc (.cells #[.bool false, .slice (some ⟨g, 0, none⟩) n c1, .slice (some ⟨h, 0, none⟩) m c2] 61)) _ (w.heap.size + 1) := (((xq0.refl (w2.alloc (.cells #[.bool false, .slice (some ⟨g, 0, none⟩) n c1, .slice (some ⟨h, 0, none⟩) m c2] 61)) _).setCell 0 (.bool false)).setCell 1 (.slice (some ⟨g, 0, none⟩) n c1)).setCell 2 (.slice (some ⟨h, 0, none⟩) m c2); have zM := M5.size; have zq : w2.heap.size <= (w2.alloc (.cells #[.bool false, .slice (some ⟨g, 0, none⟩) n c1, .slice (some ⟨h, 0, none⟩) m c2] 61)).heap.size := t4.size; exact ⟨g, h, c1, c2, by simp [hn0], m1, m2, (L1.keep t4).marked M5 (fun _ => by omega), (L2.keep t4).marked M5 (fun _ => by omega), by omega, by omega, by omega, S4.trans (M5.since (by omega))⟩
 . have t4 := sal w2 (.cells #[.bool false, .slice (some ⟨g, 0, none⟩) n c1, .slice (some ⟨h, 0, none⟩) m c2] 61)
   have q4 := Box3.new w2 (.bool false) (.slice (some ⟨g, 0, none⟩) n c1) (.slice (some ⟨h, 0, none⟩) m c2) 61; have r4 := r2.keep t4; have S4 := S2.trans (sM t4 S2.size); have i0 := q4.c0; have i1 := q4.c1; have i2 := q4.c2; have u0 := r4.c0; have u1 := r4.c1; have u2 := r4.c2; have uf0 := r4.f 0; have uf1 := r4.f 1; have uf2 := r4.f 2; go_wp2; have rC := ((r4.set0 (.bool false)).set1 (.slice (some ⟨g, 0, none⟩) n c1)).set2 (.slice (some ⟨h, 0, none⟩) m c2); refine bodyPost_ret (rb3 rfl _ _ _ _ _ _ rfl rC) rfl ?_; have M5 : xq0 (w2.alloc (.cells #[.bool false, .slice (some ⟨g, 0, none⟩) n c1, .slice (some ⟨h, 0, none⟩) m c2] 61)) _ (w.heap.size + 1) := (((xq0.refl (w2.alloc (.cells #[.bool false, .slice (some ⟨g, 0, none⟩) n c1, .slice (some ⟨h, 0, none⟩) m c2] 61)) _).setCell 0 (.bool false)).setCell 1 (.slice (some ⟨g, 0, none⟩) n c1)).setCell 2 (.slice (some ⟨h, 0, none⟩) m c2); have zM := M5.size; have zq : w2.heap.size <= (w2.alloc (.cells #[.bool false, .slice (some ⟨g, 0, none⟩) n c1, .slice (some ⟨h, 0, none⟩) m c2] 61)).heap.size := t4.size; exact ⟨g, h, c1, c2, rfl, m1, m2, (L1.keep t4).marked M5 (fun _ => by omega), (L2.keep t4).marked M5 (fun _ => by omega), by omega, by omega, by omega, S4.trans (M5.since (by omega))⟩
theorem l1Add_zeroOpt (f f' : Bool) (a b a' b' : Option Addr) (ba oa n ca bb ob m cb ba' oa' n' ca' bb' ob' m' cb' : Nat) (X Y X' Y' : Nat -> Nat) (w : World) (hn : n + n' + m + m' <= 16777216)
 (R : RIn w a b ba oa n ca bb ob m cb X Y) (R' : RIn w a' b' ba' oa' n' ca' bb' ob' m' cb' X' Y') (ok : xq9 f X n Y m = true) (ok' : xq9 f' X' n' Y' m' = true) (h0 : n = 0 ∨ n' = 0) :
 Calls Tryz.prog 155 #[.agg #[.bool f, .slice a n ca, .slice b m cb], .agg #[.bool f', .slice a' n' ca', .slice b' m' cb']] w fun e w' => ∃ v, e = .returned v /\
  RatV w' v (xj5 f f' (lv X n * lv Y' m') (lv X' n' * lv Y m) && xq4 f f' (lv X n * lv Y' m') (lv X' n' * lv Y m) != 0) (xq4 f f' (lv X n * lv Y' m') (lv X' n' * lv Y m) / Nat.gcd (xq4 f f' (lv X n * lv Y' m') (lv X' n' * lv Y m)) (lv Y m * lv Y' m')) ((lv Y m * lv Y' m') / Nat.gcd (xq4 f f' (lv X n * lv Y' m') (lv X' n' * lv Y m)) (lv Y m * lv Y' m')) w.heap.size 67108864 /\ w.Since w.heap.size w' := by
 have hne2 : w.heap.size + 1 + 1 ≠ w.heap.size := by omega
 obtain ⟨sA, zA, oA, pA, rA⟩ := bx w (.bool f) (.slice a n ca) (.slice b m cb) (.bool f') (.slice a' n' ca') (.slice b' m' cb') (.bool false) (.slice none 0 0) (.slice none 0 0)
 by_cases h1 : n = 0
 . have hZ := sum_zeroA ok ok' h1
   rw [hZ.1, hZ.2.1, hZ.2.2]; clear hZ ok ok' h0; subst h1; have k0 := pA.c0; have k1 := pA.c1; have k2 := pA.c2; go_enter Tryz.func155, Tryz.ntmps155; go_wp2_with fail; generalize (((w.alloc (.cells #[.bool f, .slice a 0 ca, .slice b m cb] 61)).alloc (.cells #[.bool f', .slice a' n' ca', .slice b' m' cb'] 61)).alloc (.cells #[.bool false, .slice none 0 0, .slice none 0 0] 61)) = w1 at *; refine (l1Copy_opt f' a' b' ba' oa' n' ca' bb' ob' m' cb' X' Y' w1 (by omega) (by omega) R'.nc R'.mc R'.ac R'.bc (R'.keep sA).LX (R'.keep sA).LY).mono ?_; rintro e w6 ⟨g6, h6, c1, c2, rfl, v1, v2, N6, D6, FN, FD, y1, y2, y3, s6⟩; have rB := rA.keep s6; have S6 := sA.trans (sM s6 sA.size); have u0 := rB.c0; have u1 := rB.c1; have u2 := rB.c2; have uf0 := rB.f 0; have uf1 := rB.f 1; have uf2 := rB.f 2; go_wp2; have rC := ((rB.set0 (.bool f')).set1 (.slice (some ⟨g6, 0, none⟩) n' c1)).set2 (.slice (some ⟨h6, 0, none⟩) m' c2); refine bodyPost_ret (rb3 rfl _ _ _ _ _ _ rfl rC) rfl ?_; have M : xq0 w6 _ (w.heap.size + 1 + 1) := (((xq0.refl w6 _).setCell 0 (.bool f')).setCell 1 (.slice (some ⟨g6, 0, none⟩) n' c1)).setCell 2 (.slice (some ⟨h6, 0, none⟩) m' c2); have N7 : xj0 w6 (.slice (some ⟨g6, 0, none⟩) n' c1) g6 (lv X' n') 67108864 := ⟨_, _, _, X', rfl, v1, by omega, fun h => (by cases h), N6, FN, R'.lX, R'.pX, rfl⟩; have D7 : xj0 w6 (.slice (some ⟨h6, 0, none⟩) m' c2) h6 (lv Y' m') 67108864 := ⟨_, _, _, Y', rfl, v2, by omega, fun h => (by cases h), D6, FD, R'.lY, R'.pY, rfl⟩; exact ⟨_, rfl, ⟨_, _, g6, h6, rfl, N7.marked M (by omega), D7.marked M (by omega), by omega, by omega, by omega⟩, S6.trans (M.since (by omega))⟩
 . have h2 : n' = 0 := by omega
   have hZ := sum_zeroB ok ok' h2; rw [hZ.1, hZ.2.1, hZ.2.2]; clear hZ ok ok' h0; subst h2; have q1 : ((n : Int) == 0) = false := by simp; omega
   have k0 := oA.c0; have k1 := oA.c1; have k2 := oA.c2; go_enter Tryz.func155, Tryz.ntmps155; go_wp2_with fail; generalize (((w.alloc (.cells #[.bool f, .slice a n ca, .slice b m cb] 61)).alloc (.cells #[.bool f', .slice a' 0 ca', .slice b' m' cb'] 61)).alloc (.cells #[.bool false, .slice none 0 0, .slice none 0 0] 61)) = w1 at *; refine (l1Copy_opt f a b ba oa n ca bb ob m cb X Y w1 (by omega) (by omega) R.nc R.mc R.ac R.bc (R.keep sA).LX (R.keep sA).LY).mono ?_; rintro e w6 ⟨g6, h6, c1, c2, rfl, v1, v2, N6, D6, FN, FD, y1, y2, y3, s6⟩; have rB := rA.keep s6; have S6 := sA.trans (sM s6 sA.size); have u0 := rB.c0; have u1 := rB.c1; have u2 := rB.c2; have uf0 := rB.f 0; have uf1 := rB.f 1; have uf2 := rB.f 2; go_wp2; have rC := ((rB.set0 (.bool f)).set1 (.slice (some ⟨g6, 0, none⟩) n c1)).set2 (.slice (some ⟨h6, 0, none⟩) m c2); refine bodyPost_ret (rb3 rfl _ _ _ _ _ _ rfl rC) rfl ?_; have M : xq0 w6 _ (w.heap.size + 1 + 1) := (((xq0.refl w6 _).setCell 0 (.bool f)).setCell 1 (.slice (some ⟨g6, 0, none⟩) n c1)).setCell 2 (.slice (some ⟨h6, 0, none⟩) m c2); have N7 : xj0 w6 (.slice (some ⟨g6, 0, none⟩) n c1) g6 (lv X n) 67108864 := ⟨_, _, _, X, rfl, v1, by omega, fun h => (by cases h), N6, FN, R.lX, R.pX, rfl⟩; have D7 : xj0 w6 (.slice (some ⟨h6, 0, none⟩) m c2) h6 (lv Y m) 67108864 := ⟨_, _, _, Y, rfl, v2, by omega, fun h => (by cases h), D6, FD, R.lY, R.pY, rfl⟩; exact ⟨_, rfl, ⟨_, _, g6, h6, rfl, N7.marked M (by omega), D7.marked M (by omega), by omega, by omega, by omega⟩, S6.trans (M.since (by omega))⟩
theorem l1Add_opt (f f' : Bool) (a b a' b' : Option Addr) (ba oa n ca bb ob m cb ba' oa' n' ca' bb' ob' m' cb' : Nat) (X Y X' Y' : Nat -> Nat) (w : World) (hn : n + n' + m + m' <= 16777216)
 (R : RIn w a b ba oa n ca bb ob m cb X Y) (R' : RIn w a' b' ba' oa' n' ca' bb' ob' m' cb' X' Y') (ok : xq9 f X n Y m = true) (ok' : xq9 f' X' n' Y' m' = true) :
 Calls Tryz.prog 155 #[.agg #[.bool f, .slice a n ca, .slice b m cb], .agg #[.bool f', .slice a' n' ca', .slice b' m' cb']] w fun e w' => ∃ v, e = .returned v /\
  RatV w' v (xj5 f f' (lv X n * lv Y' m') (lv X' n' * lv Y m) && xq4 f f' (lv X n * lv Y' m') (lv X' n' * lv Y m) != 0) (xq4 f f' (lv X n * lv Y' m') (lv X' n' * lv Y m) / Nat.gcd (xq4 f f' (lv X n * lv Y' m') (lv X' n' * lv Y m)) (lv Y m * lv Y' m')) ((lv Y m * lv Y' m') / Nat.gcd (xq4 f f' (lv X n * lv Y' m') (lv X' n' * lv Y m)) (lv Y m * lv Y' m')) w.heap.size 67108864 /\ w.Since w.heap.size w' := by
 by_cases h0 : n = 0 ∨ n' = 0
 . exact l1Add_zeroOpt f f' a b a' b' ba oa n ca bb ob m cb ba' oa' n' ca' bb' ob' m' cb' X Y X' Y' w hn R R' ok ok' h0
 . obtain rfl : a = some ⟨ba, oa, none⟩ := by have := (R.LX 0 (by omega)).1; simpa using this
   obtain rfl : b = some ⟨bb, ob, none⟩ := by have := (R.LY 0 R.m0).1; simpa using this
   obtain rfl : a' = some ⟨ba', oa', none⟩ := by have := (R'.LX 0 (by omega)).1; simpa using this
   obtain rfl : b' = some ⟨bb', ob', none⟩ := by have := (R'.LY 0 R'.m0).1; simpa using this
   exact l1Add_any f f' _ _ _ _ ba oa n ca bb ob m cb ba' oa' n' ca' bb' ob' m' cb' X Y X' Y' w hn R R' ok ok'
end Go.Proofs.YtnogbaapcjjngaaGreatDoor
