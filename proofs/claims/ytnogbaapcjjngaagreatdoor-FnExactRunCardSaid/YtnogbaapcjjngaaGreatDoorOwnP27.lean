import Derived.Test.YtnogbaapcjjngaaGreatDoorOwnP26
import Derived.Test.YtnogbaapcjjngaaGreatDoorOwnP23
import Derived.Test.YtnogbaapcjjngaaGreatDoorOwnP20
set_option maxHeartbeats 6400000
set_option maxRecDepth 100000
namespace Go.Proofs.YtnogbaapcjjngaaGreatDoor
open Go.RowKit
theorem l1Copy_q {v : Value} {q : Rat} {k : Nat} {w : World} (hq : Qb q k) (hk : k <= 4194304) (R : RatR w v q) :
 Calls Tryz.prog 154 #[v] w fun e w' => ∃ u, e = .returned u /\ xx4 w' (fun g => w.heap.size <= g) u q /\ w.Since w.heap.size w' := by
 obtain ⟨a, n, ca, b, m, cb, ba, oa, bb, ob, X, Y, rfl, R, x1, x2⟩ := R; have n1 := xx1 R.pX (by rw [x1]; exact hq.1); have n2 := xx1 R.pY (by rw [x2]; exact hq.2); refine (l1Copy_opt (qn q) a b ba oa n ca bb ob m cb X Y w (by omega) (by omega) R.nc R.mc R.ac R.bc R.LX R.LY).mono ?_; rintro e w' ⟨g, h, c1, c2, rfl, y1, y2, y3, y4, -, -, y5, y6, y7, s⟩; exact ⟨_, rfl, ⟨_, n, c1, _, m, c2, g, 0, h, 0, X, Y, rfl, ⟨y1, y2, (fun h => by cases h), (fun h => by cases h), y3, y4, R.lX, R.lY, R.pX, R.pY, R.m0⟩, x1, x2, fun _ => y5, fun _ => by omega⟩, s⟩
theorem l1Mul_q {v v' : Value} {p q : Rat} {k l : Nat} {w : World} (hp : Qb p k) (hq : Qb q l) (hk : 2 * k + 2 * l <= 16777216) (R : RatR w v p) (R' : RatR w v' q) :
 Calls Tryz.prog 156 #[v, v'] w fun e w' => ∃ u, e = .returned u /\ xx4 w' (fun g => w.heap.size <= g) u (p * q) /\ w.Since w.heap.size w' := by
 obtain ⟨a, n, ca, b, m, cb, ba, oa, bb, ob, X, Y, rfl, R, x1, x2⟩ := R; obtain ⟨a', n', ca', b', m', cb', ba', oa', bb', ob', X', Y', rfl, R', y1, y2⟩ := R'; have n1 := xx1 R.pX (by rw [x1]; exact hp.1); have n2 := xx1 R.pY (by rw [x2]; exact hp.2); have n3 := xx1 R'.pX (by rw [y1]; exact hq.1); have n4 := xx1 R'.pY (by rw [y2]; exact hq.2); have J := l1Mul_any (qn p) (qn q) a b a' b' ba oa n ca bb ob m cb ba' oa' n' ca' bb' ob' m' cb' X Y X' Y' w (by omega) R R'; obtain ⟨e1, e2, e3⟩ := q_mul p q; rw [x1, x2, y1, y2, <- e1, <- e2, <- e3] at J; exact J.mono fun _ _ ⟨u, he, V, s⟩ => ⟨u, he, V.rp, s⟩
theorem l1Add_rp {v v' : Value} {p q : Rat} {k l : Nat} {w : World} (hp : Qb p k) (hq : Qb q l) (hk : 2 * k + 2 * l <= 16777216) (R : RatR w v p) (R' : RatR w v' q) :
 Calls Tryz.prog 155 #[v, v'] w fun e w' => ∃ u, e = .returned u /\ xx4 w' (fun g => w.heap.size <= g) u (p + q) /\ w.Since w.heap.size w' :=
 (l1Add_q hp hq hk R R').mono fun _ _ ⟨u, he, V, s⟩ => ⟨u, he, V.rp, s⟩
theorem qcmp_zero (q : Rat) : qcmp q 0 = if qn q = true then -1 else if 0 < q.num then 1 else 0 := by
 have h1 : q < 0 ↔ q.num < 0 := by rw [Rat.lt_iff]; simp
 have h2 : 0 < q ↔ 0 < q.num := by rw [Rat.lt_iff]; simp
 unfold qcmp qn
 by_cases h : q.num < 0
 . simp [h1, h]
 . simp only [h1, h2, h, if_false, decide_false, Bool.false_eq_true]
theorem qcmp_relu (q : Rat) : (0 <= qcmp q 0 -> xk1 q = q) /\ (qcmp q 0 < 0 -> xk1 q = 0) := by
 rw [qcmp_zero]; cases h : qn q
 . refine ⟨fun _ => qrelu_pos h, fun h2 => ?_⟩
   simp at h2
   split at h2 <;> omega
 . exact ⟨fun h2 => by simp at h2, fun _ => qrelu_neg h⟩
theorem Qb_zero {k : Nat} (hk : 1 <= k) : Qb 0 k := by
 have h : 4294967296 ^ 1 <= 4294967296 ^ k := Nat.pow_le_pow_right (by decide) hk; exact ⟨Nat.lt_of_lt_of_le (by decide) h, Nat.lt_of_lt_of_le (by decide) h⟩
theorem l1Max_relu (x y x' y' : Value) (q : Rat) (w : World) (hq : Qb q 1048577) (R : RatR w (.agg #[.bool (qn q), x, y]) q) (R' : RatR w (.agg #[.bool (qn 0), x', y']) 0) :
 Calls Tryz.prog 153 #[.agg #[.bool (qn q), x, y], .agg #[.bool (qn 0), x', y']] w fun e w' => ∃ u, e = .returned u /\ xx4 w' (fun g => w.heap.size <= g) u (xk1 q) /\ w.Since w.heap.size w' := by
 obtain ⟨wA, eA⟩ : ∃ wA : World, wA = ((w.alloc (.cells #[.bool (qn q), x, y] 61)).alloc (.cells #[.bool (qn 0), x', y'] 61)).alloc (.cells #[.bool false, .slice none 0 0, .slice none 0 0] 61) := ⟨_, rfl⟩; have sA : w.Since w.heap.size wA := by rw [eA]; exact (((World.Since.refl _ _).alloc (Nat.le_refl _) _).alloc (by simp) _).alloc (by simp; omega) _
 have zA : wA.heap.size = w.heap.size + 1 + 1 + 1 := by rw [eA]; simp
 have bA : Box3 wA w.heap.size (.bool (qn q)) x y := by rw [eA]; exact ((Box3.new w _ _ _ _).keep ((World.Since.refl _ _).alloc (Nat.le_refl _) _)).keep ((World.Since.refl _ _).alloc (Nat.le_refl _) _)
 have cA : Box3 wA (w.heap.size + 1) (.bool (qn 0)) x' y' := by
  rw [eA]; have := (Box3.new (w.alloc (.cells #[.bool (qn q), x, y] 61)) (.bool (qn 0)) x' y' 61).keep ((World.Since.refl _ _).alloc (Nat.le_refl _) (.cells #[.bool false, .slice none 0 0, .slice none 0 0] 61))
  simpa using this
 have rA : Box3 wA (w.heap.size + 1 + 1) (.bool false) (.slice none 0 0) (.slice none 0 0) := by
  rw [eA]; have := Box3.new ((w.alloc (.cells #[.bool (qn q), x, y] 61)).alloc (.cells #[.bool (qn 0), x', y'] 61)) (.bool false) (.slice none 0 0) (.slice none 0 0) 61
  simpa using this
 have RK := R; have RK' := R'; obtain ⟨a5, n5, c5, b5, m5, d5, -, -, -, -, -, -, e5, -⟩ := R; obtain ⟨a6, n6, c6, b6, m6, d6, -, -, -, -, -, -, e6, -⟩ := R'; simp only [Value.agg.injEq, Array.mk.injEq, List.cons.injEq, and_true, true_and] at e5 e6; obtain ⟨rfl, rfl⟩ := e5; obtain ⟨rfl, rfl⟩ := e6; have JC := l1Cmp_q hq (Qb_zero (k := 1) (by omega)) (by omega) (RK.keep sA) (RK'.keep sA); have HR := hide (qcmp_relu q); have EA := hide eA; clear eA; go_enter Tryz.func153, Tryz.ntmps153; go_wp2_with fail; rw [<- EA.out]; refine JC.mono ?_; rintro e w1 ⟨rfl, s1⟩; have S1 := sA.trans (sM s1 sA.size); have b1 := bA.keep s1; have c1 := cA.keep s1; have r1 := rA.keep s1; clear JC EA bA cA rA
 by_cases hz : 0 <= qcmp q 0
 . have HE := hide (HR.out.1 hz)
   have k0 := b1.c0; have k1 := b1.c1; have k2 := b1.c2; go_wp2_with fail; refine (l1Copy_q hq (by omega) (RK.keep S1)).mono ?_; rintro e w2 ⟨u, rfl, RP, s2⟩; have RQ := RP; obtain ⟨a7, n7, c7, b7, m7, d7, -, -, -, -, -, -, e7, -⟩ := RQ; subst e7; have r2 := r1.keep s2; have q0 := r2.c0; have q1 := r2.c1; have q2 := r2.c2; have qf0 := r2.f 0; have qf1 := r2.f 1; have qf2 := r2.f 2; have S2 := S1.trans (sM s2 S1.size); have z1 := s1.size; clear k0 k1 k2; go_wp2; have r3 := ((r2.set0 (.bool (qn q))).set1 (.slice a7 n7 c7)).set2 (.slice b7 m7 d7); refine bodyPost_ret (rb3 rfl _ _ _ _ _ _ rfl r3) rfl ?_; have M : xq0 w2 _ (w.heap.size + 1 + 1) := (((xq0.refl w2 _).setCell 0 (.bool (qn q))).setCell 1 (.slice a7 n7 c7)).setCell 2 (.slice b7 m7 d7); rw [HE.out]; exact ⟨_, rfl, (RP.marked M (by show ¬ w1.heap.size <= _; omega)).imp (fun g _ h => by omega), S2.trans (M.since (by omega))⟩
 . have hz' : qcmp q 0 < 0 := by omega
   have HE := hide (HR.out.2 hz'); have k0 := c1.c0; have k1 := c1.c1; have k2 := c1.c2; go_wp2_with fail; refine (l1Copy_q (Qb_zero (k := 1) (by omega)) (by omega) (RK'.keep S1)).mono ?_; rintro e w2 ⟨u, rfl, RP, s2⟩; have RQ := RP; obtain ⟨a7, n7, c7, b7, m7, d7, -, -, -, -, -, -, e7, -⟩ := RQ; subst e7; have r2 := r1.keep s2; have q0 := r2.c0; have q1 := r2.c1; have q2 := r2.c2; have qf0 := r2.f 0; have qf1 := r2.f 1; have qf2 := r2.f 2; have S2 := S1.trans (sM s2 S1.size); have z1 := s1.size; clear k0 k1 k2; go_wp2; have r3 := ((r2.set0 (.bool (qn 0))).set1 (.slice a7 n7 c7)).set2 (.slice b7 m7 d7); refine bodyPost_ret (rb3 rfl _ _ _ _ _ _ rfl r3) rfl ?_; have M : xq0 w2 _ (w.heap.size + 1 + 1) := (((xq0.refl w2 _).setCell 0 (.bool (qn 0))).setCell 1 (.slice a7 n7 c7)).setCell 2 (.slice b7 m7 d7); rw [HE.out]; exact ⟨_, rfl, (RP.marked M (by show ¬ w1.heap.size <= _; omega)).imp (fun g _ h => by omega), S2.trans (M.since (by omega))⟩
structure EvP (n : Nat) (A : Nat -> AffD) (nx : Nat) (X : Nat -> RatD) : Prop where
 net : NetP n A
 len : (nx : Int) = (A 0).cols
 ok : RatsOk X nx
theorem Affs.aff {w : World} {lo b off n : Nat} {a : Option Addr} {A : Nat -> AffD} (h : Affs w lo a b off n A) : ∀ k, k < n -> (A k).lim := fun k hk => by
 obtain ⟨-, a1, a2, k1, k2, m⟩ := h k hk; exact m.L.lim
theorem implEvalNet_ok (a ax : Option Addr) (lo b off n cap lox bx ox nx cx : Nat) (A : Nat -> AffD) (X : Nat -> RatD) (w : World) (hw : 0 <= w.heap.size) (hT : Tab w) (hz : n + szA A n + (nx + szR X nx) <= 1048576) (hnc : n <= cap) (H : Affs w lo a b off n A) (HX : Rats w lox ax bx ox nx X) (hev : EvP n A nx X) :
 Calls Tryz.prog 46 #[.agg #[.slice a n cap], .slice ax nx cx] w fun e w' => ∃ c E, e = .returned (.tuple #[.slice (some ⟨c, 0, none⟩) (A (n - 1)).rows.toNat (A (n - 1)).rows.toNat, .bool true]) /\ w.heap.size <= c /\
  RatOs w' c (A (n - 1)).rows.toNat (qLay A (fun i => (X i).q) (n - 1)) E /\ Room w' c ((A (n - 1)).rows.toNat * 3) /\ E (A (n - 1)).rows.toNat <= w'.heap.size /\ w.Since w.heap.size w' := by
 have sA := sal w (.cells #[.slice a n cap] 24); have bA := Box1.new w (.slice a n cap) 24; obtain ⟨NP0, hl, hok⟩ := hev; have NP := hide NP0; have n0 := NP0.n0; have lims := H.aff; have hC0 : nx = (A 0).cols.toNat := by omega
 have RB : ∀ k, k < n -> RowB (A k) (qIn A (fun i => (X i).q) k) := fun k hk => net_rowB NP0 lims (by rw [<- hC0]; exact hok) (by rw [<- hC0]; exact HX.lim) (by rw [<- hC0]; omega) hk
 have HRB := hide RB; have QX := (HX.qs hok).imp (p' := fun _ => True) (fun _ _ _ => trivial); have HC0 := hide hC0; have HOK := hide hok; have q : ((nx : Int) != (A 0).cols) = false := by simpa using hl
 clear hl hok RB NP0 hC0 lims; go_enter Tryz.func46, Tryz.ntmps46; go_wp2_with fail; generalize w.alloc (.cells #[.slice a n cap] 24) = wA at *; refine (implNetOk_any a lo b off n cap A wA (Nat.zero_le _) (hT.keepN hw sA) (by omega) (by omega) (H.keep sA)).mono ?_; rintro e w1 ⟨r1, rfl, i1, s1⟩; obtain rfl : r1 = true := i1.2 NP.out; have S1 := sA.trans (sM s1 sA.size); have B1 := bA.keep s1; have b0 := B1.c0; clear i1 bA; obtain ⟨rfl, a1, a2, k1, k2, M⟩ := H 0 (by omega); have g1 := (M.keep S1).c1; have hz0 : (0 : Int) < (n : Int) := by omega
 simp only [Nat.zero_mul, Nat.add_zero] at g1; go_wp2_with fail; refine (allValid_any ax lox bx ox nx cx X w1 (Nat.zero_le _) (hT.keepN hw S1) (by omega) (by omega) (HX.keep S1)).mono ?_; rintro e w2 ⟨r2, rfl, i2, s2⟩; obtain rfl : r2 = true := i2.2 HOK.out; have S2 := S1.trans (sM s2 S1.size); have B2 := B1.keep s2; have b0' := B2.c0; have M2 := M.keep S2; have m0 := M2.c0; have m1 := M2.c1; have m2 := M2.c2; have m3 := M2.c3; simp only [Nat.zero_mul, Nat.add_zero] at m0 m1 m2 m3; clear i2 b0 g1 B1 q; go_wp2_with fail; rw [HC0.out]; refine (imageOf_any (A 0) lo a1 a2 k1 k2 ax bx ox cx (fun i => (X i).q) w2 (Nat.zero_le _) (hT.keepN hw S2) (NP.out.shape 0 (by omega)) (NP.out.vals 0 (by omega)) M2.L (by rw [<- HC0.out]; exact QX.keep S2) (HRB.out 0 (by omega))).mono ?_; rintro e w3 ⟨c3, rfl, l3, Q3, s3⟩; have S3 := S2.trans (sM s3 S2.size); have B3 := B2.keep s3; have b0 := B3.c0; clear b0' m0 m1 m2 m3 B2; have hn1 : (1 : Int) <= (n : Int) := by omega
 go_wp2_with fail
 case inl =>
  go_loopw [6, 37] (fun u i wr => ∃ k : Nat, k <= n - 1 /\ i = .int .i64 k /\ w.Since w.heap.size wr /\ ∃ c, u = .slice (some ⟨c, 0, none⟩) (A k).rows.toNat (A k).rows.toNat /\ w.heap.size <= c /\ xx8 wr (fun g => g ≠ c) (some ⟨c, 0, none⟩) c 0 (A k).rows.toNat (qLay A (fun i => (X i).q) k)) (fun _ i _ => (n - 1) - (intOf i).toNat)
  case atStart => exact ⟨0, Nat.zero_le _, rfl, S3, c3, rfl, Nat.le_trans S2.size l3, Q3⟩
  case round =>
   obtain ⟨k, hk, rfl, s, c, rfl, lc, Q⟩ := hrel; have hsh := NP.out.shape k (by omega); have hRk : (A k).rows.toNat <= 20000 := by have := hsh.1.2.1; omega
   clear hsh
   by_cases hlt : k < n - 1
   . exfalso; omega
   . have e : k = n - 1 := by omega
     have HE := hide e
     have hq : ∀ i, i < (A k).rows.toNat -> Qb (qLay A (fun i => (X i).q) k i) 1048577 := fun i hi => by
      rw [qLay_eq]; exact (HRB.out k (by omega)).s i hi _ (Nat.le_refl _)
     have JO := ownRats_any (some ⟨c, 0, none⟩) c 0 (A k).rows.toNat (A k).rows.toNat (qLay A (fun i => (X i).q) k) wr (by omega) (Q.imp (fun _ _ _ => trivial)) (fun i hi => (hq i hi).more (by decide)); clear hq e; go_wp2_with fail; refine JO.mono ?_; rintro e w8 ⟨c8, E, rfl, l8, O8, R8, z8, s8⟩; go_wp2; go_ret2; rw [HE.out] at O8 R8 z8; exact ⟨c8, E, (by show Ending.returned (.tuple #[.slice (some ⟨c8, 0, none⟩) (A k).rows.toNat (A k).rows.toNat, .bool true]) = _; rw [HE.out]), Nat.le_trans s.size l8, O8, R8, z8, s.trans (sM s8 s.size)⟩
 case inr =>
  go_loopw [6, 37] (fun u i wr => ∃ k : Nat, k <= n - 1 /\ i = .int .i64 k /\ w.Since w.heap.size wr /\ ∃ c, u = .slice (some ⟨c, 0, none⟩) (A k).rows.toNat (A k).rows.toNat /\ w.heap.size <= c /\ xx8 wr (fun g => g ≠ c) (some ⟨c, 0, none⟩) c 0 (A k).rows.toNat (qLay A (fun i => (X i).q) k)) (fun _ i _ => (n - 1) - (intOf i).toNat)
  case atStart => exact ⟨0, Nat.zero_le _, rfl, S3, c3, rfl, Nat.le_trans S2.size l3, Q3⟩
  case round =>
   obtain ⟨k, hk, rfl, s, c, rfl, lc, Q⟩ := hrel; have hsh := NP.out.shape k (by omega); have hRk : (A k).rows.toNat <= 20000 := by have := hsh.1.2.1; omega
   clear hsh
   by_cases hlt : k < n - 1
   . obtain ⟨-, p1, p2, l1, l2, N⟩ := H (k + 1) (by omega)
     have N' := N.keep s; have g0 := N'.c0; have g1 := N'.c1; have g2 := N'.c2; have g3 := N'.c3; rw [show off + (k + 1) * 4 = off + 4 + k * 4 by omega] at g0 g1 g2 g3; have hz1 : (k : Int) < ((n - 1 : Nat) : Int) := by omega
     have t4 := sal wr (.cells #[.int .i64 (A (k + 1)).rows, .int .i64 (A (k + 1)).cols, .slice p1 (A (k + 1)).nw l1, .slice p2 (A (k + 1)).nb l2] 74); have D4 := Box4.new wr (.int .i64 (A (k + 1)).rows) (.int .i64 (A (k + 1)).cols) (.slice p1 (A (k + 1)).nw l1) (.slice p2 (A (k + 1)).nb l2) 74; have hch := NP.out.chain (k + 1) (by omega) (by omega); rw [Nat.add_sub_cancel] at hch; have hcc : (A (k + 1)).cols.toNat = (A k).rows.toNat := by rw [hch]
     have HCC := hide hcc; clear hch hcc; go_wp2_with fail; generalize wr.alloc (.cells #[.int .i64 (A (k + 1)).rows, .int .i64 (A (k + 1)).cols, .slice p1 (A (k + 1)).nw l1, .slice p2 (A (k + 1)).nb l2] 74) = w4 at *; have dr := sdr w4; have u5 := t4.trans (sM dr t4.size); have S5 := s.trans (sM u5 s.size); have D5 := D4.keep dr; have d0 := D4.c0; have d1 := D4.c1; have d2 := D4.c2; have d3 := D4.c3; have d0' := D5.c0; have d1' := D5.c1; have d2' := D5.c2; have d3' := D5.c3; have J1 := rectified_any (some ⟨c, 0, none⟩) c 0 (A k).rows.toNat (A k).rows.toNat (qLay A (fun i => (X i).q) k) w4.drew (fun _ => True) (fun _ _ => trivial) (by omega) ((Q.keep u5).imp (fun _ _ _ => trivial)); clear g0 g1 g2 g3
     go_region_held3 (fun w' => w'.cell? ⟨wr.heap.size, 0, none⟩ = some (.int .i64 (A (k + 1)).rows) /\ w'.cell? ⟨wr.heap.size, 1, none⟩ = some (.int .i64 (A (k + 1)).cols) /\ w'.cell? ⟨wr.heap.size, 2, none⟩ = some (.slice p1 (A (k + 1)).nw l1) /\ w'.cell? ⟨wr.heap.size, 3, none⟩ = some (.slice p2 (A (k + 1)).nb l2)) (go_keep)
      (first
        | (go_at_call 85
           with_reducible refine J1.mono ?_
           rintro e w6 ⟨c6, rfl, l6, Q6, s6⟩; have S6 := S5.trans (sM s6 S5.size); have J2 := imageOf_any (A (k + 1)) lo p1 p2 l1 l2 (some ⟨c6, 0, none⟩) c6 0 (A k).rows.toNat (fun i => xk1 (qLay A (fun i => (X i).q) k i)) w6 (Nat.zero_le _) (hT.keepN hw S6) (NP.out.shape (k + 1) (by omega)) (NP.out.vals (k + 1) (by omega)) (N.keep S6).L (by rw [HCC.out]; exact Q6.imp (fun _ _ _ => trivial)) (HRB.out (k + 1) (by omega)); rw [HCC.out] at J2; have D6 := D5.keep s6; have i0 := D6.c0; have i1 := D6.c1; have i2 := D6.c2; have i3 := D6.c3)
        | (go_at_call 84
           with_reducible refine J2.mono ?_
           rintro e w7 ⟨c7, rfl, l7, Q7, s7⟩; have S7 := S6.trans (sM s7 S6.size); have D7 := D6.keep s7; have i0' := D7.c0; have i1' := D7.c1; have i2' := D7.c2; have i3' := D7.c3))
     all_goals go_wp2
     all_goals go_roundw
     case rel => exact ⟨k + 1, by omega, by go_num, S7, c7, rfl, Nat.le_trans S6.size l7, Q7⟩
     case measure => simp [intOf]; omega
   . have e : k = n - 1 := by omega
     have HE := hide e
     have hq : ∀ i, i < (A k).rows.toNat -> Qb (qLay A (fun i => (X i).q) k i) 1048577 := fun i hi => by
      rw [qLay_eq]; exact (HRB.out k (by omega)).s i hi _ (Nat.le_refl _)
     have JO := ownRats_any (some ⟨c, 0, none⟩) c 0 (A k).rows.toNat (A k).rows.toNat (qLay A (fun i => (X i).q) k) wr (by omega) (Q.imp (fun _ _ _ => trivial)) (fun i hi => (hq i hi).more (by decide)); clear hq e; go_wp2_with fail; refine JO.mono ?_; rintro e w8 ⟨c8, E, rfl, l8, O8, R8, z8, s8⟩; go_wp2; go_ret2; rw [HE.out] at O8 R8 z8; exact ⟨c8, E, (by show Ending.returned (.tuple #[.slice (some ⟨c8, 0, none⟩) (A k).rows.toNat (A k).rows.toNat, .bool true]) = _; rw [HE.out]), Nat.le_trans s.size l8, O8, R8, z8, s.trans (sM s8 s.size)⟩
end Go.Proofs.YtnogbaapcjjngaaGreatDoor
