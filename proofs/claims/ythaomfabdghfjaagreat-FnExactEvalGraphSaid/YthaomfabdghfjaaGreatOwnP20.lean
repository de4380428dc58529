import Derived.Test.YthaomfabdghfjaaGreatOwnP19
import Derived.Test.YthaomfabdghfjaaGreatOwnP3
import Derived.Test.YthaomfabdghfjaaGreatOwnP12
import Derived.Test.YthaomfabdghfjaaGreatOwnP17
import Derived.Test.YthaomfabdghfjaaGreatOwnP18
import Derived.Deep.RegionHeld3
set_option maxHeartbeats 6400000
set_option maxRecDepth 100000
namespace Go.Proofs.YthaomfabdghfjaaGreat
open Go.RowKit
theorem dimOf2 (v1 v2 v3 v4 : Int) (nv : Nat) (V : Nat -> RatD) (a1 : Option Addr) (lo k1 m : Nat) (aD : Option Addr) (bD n cD : Nat) (D : Nat -> Int) (w : World) (hw : 0 <= w.heap.size) (hT : Tab w) (K : xk6 w m) (hd : (xq1.mk 2 v1 v2 v3 v4 nv V).size <= 1048576) (H : NodL w lo (xq1.mk 2 v1 v2 v3 v4 nv V) a1 k1) (HD : Ints w aD bD 0 n D) (hD : Dok D n) :
 Calls Tryz.prog 54 #[.agg #[.int .i64 2, .int .i64 v1, .int .i64 v2, .int .i64 v3, .int .i64 v4, .slice a1 nv k1], .slice aD n cD, .map (some m)] w fun e w' => e = .returned (.tuple #[.int .i64 (xv7 D n (xq1.mk 2 v1 v2 v3 v4 nv V)), .int .i64 (xq4 D n (xq1.mk 2 v1 v2 v3 v4 nv V))]) /\ w.Since w.heap.size w' := by
 have sA := sal w (.cells #[.int .i64 2, .int .i64 v1, .int .i64 v2, .int .i64 v3, .int .i64 v4, .slice a1 nv k1] 84); have nA := Box6.new w (.int .i64 2) (.int .i64 v1) (.int .i64 v2) (.int .i64 v3) (.int .i64 v4) (.slice a1 nv k1) 84; have hm1 : ∀ w : World, (method 324 135 (.agg #[.int .i64 2, .int .i64 v1, .int .i64 v2, .int .i64 v3, .int .i64 v4, .slice a1 nv k1]) "loop.example/s0015/impl.form").run Tryz.prog w = .ok (195, .agg #[.int .i64 2, .int .i64 v1, .int .i64 v2, .int .i64 v3, .int .i64 v4, .slice a1 nv k1]) w := fun _ => by kernel_rfl
 have hm2 : ∀ w : World, (method 324 135 (.agg #[.int .i64 2, .int .i64 v1, .int .i64 v2, .int .i64 v3, .int .i64 v4, .slice a1 nv k1]) "loop.example/s0015/impl.dimension").run Tryz.prog w = .ok (194, .agg #[.int .i64 2, .int .i64 v1, .int .i64 v2, .int .i64 v3, .int .i64 v4, .slice a1 nv k1]) w := fun _ => by kernel_rfl
 go_enter Tryz.func54, Tryz.ntmps54; go_wp2_with fail; generalize w.alloc (.cells #[.int .i64 2, .int .i64 v1, .int .i64 v2, .int .i64 v3, .int .i64 v4, .slice a1 nv k1] 84) = wA at *; refine (operatorOf2 m v1 v2 v3 v4 a1 nv k1 wA (K.keep sA)).mono ?_; rintro e w1 ⟨rfl, s1⟩; have d1 := sdr w1; have S1 := sA.trans (sM s1 sA.size); have N1 := nA.keep s1; have J1 := form2 2 v1 v2 v3 v4 a1 nv k1 w1.drew; have q0 := N1.c0; have q1 := N1.c1; have q2 := N1.c2; have q3 := N1.c3; have q4 := N1.c4; have q5 := N1.c5; go_wp2_with fail
 go_region_held3 (fun w' => w'.cell? ⟨w.heap.size, 0, none⟩ = some (.int .i64 2) /\ w'.cell? ⟨w.heap.size, 1, none⟩ = some (.int .i64 v1) /\ w'.cell? ⟨w.heap.size, 2, none⟩ = some (.int .i64 v2) /\ w'.cell? ⟨w.heap.size, 3, none⟩ = some (.int .i64 v3) /\ w'.cell? ⟨w.heap.size, 4, none⟩ = some (.int .i64 v4) /\ w'.cell? ⟨w.heap.size, 5, none⟩ = some (.slice a1 nv k1)) (go_keep)
  (first
    | (go_at_call 195
       with_reducible refine J1.mono ?_
       rintro e w2 ⟨rfl, s2⟩; have u2 := d1.trans (sM s2 d1.size); have S2 := S1.trans (sM u2 S1.size); have N2 := N1.keep u2; have i0 := N2.c0; have i1 := N2.c1; have i2 := N2.c2; have i3 := N2.c3; have i4 := N2.c4; have i5 := N2.c5; have J2 := yw1 2 false false false 0 (xq1.mk 2 v1 v2 v3 v4 nv V) a1 lo k1 w2 (Nat.zero_le _) (hT.stay hw S2) hd (H.keep S2)
       dsimp only at J2)
    | (go_at_call 94
       with_reducible refine J2.mono ?_
       rintro e w3 ⟨⟨r, rfl, hr⟩, s3⟩; have S3 := S2.trans (sM s3 S2.size); have N3 := N2.keep s3; have i0 := N3.c0; have i1 := N3.c1; have i2 := N3.c2; have i3 := N3.c3; have i4 := N3.c4; have i5 := N3.c5; have hF := hide (hr.trans (yw0 (d := (xq1.mk 2 v1 v2 v3 v4 nv V)) (z := 2) rfl (by decide) (by decide) rfl rfl rfl (.inr (.inl ⟨rfl, rfl⟩))).symm); clear hr))
 cases r
 . have E := hide (xx6 (D := D) (i := n) (d := (xq1.mk 2 v1 v2 v3 v4 nv V)) (fun h => by have := hF.out.2 h; cases this))
   clear hF; go_wp2; go_ret2; exact ⟨by rw [E.out]; unfold xv7; rw [E.out]; rfl, S3⟩
 have F := hide (hF.out.1 rfl); clear hF q0 q1 q2 q3 q4 q5; have d3 := sdr w3; have J3 := form2 2 v1 v2 v3 v4 a1 nv k1 w3.drew; go_wp2_with fail
 go_region_held3 (fun w' => w'.cell? ⟨w.heap.size, 0, none⟩ = some (.int .i64 2) /\ w'.cell? ⟨w.heap.size, 1, none⟩ = some (.int .i64 v1) /\ w'.cell? ⟨w.heap.size, 2, none⟩ = some (.int .i64 v2) /\ w'.cell? ⟨w.heap.size, 3, none⟩ = some (.int .i64 v3) /\ w'.cell? ⟨w.heap.size, 4, none⟩ = some (.int .i64 v4) /\ w'.cell? ⟨w.heap.size, 5, none⟩ = some (.slice a1 nv k1)) (go_keep)
  (first
    | (go_at_call 195
       with_reducible refine J3.mono ?_
       rintro e w4 ⟨rfl, s4⟩; have u4 := d3.trans (sM s4 d3.size); have S4 := S3.trans (sM u4 S3.size); have N4 := N3.keep u4; have j0 := N4.c0; have j1 := N4.c1; have j2 := N4.c2; have j3 := N4.c3; have j4 := N4.c4; have j5 := N4.c5; have J4 := yz3 2 false false false 0 2 v1 v2 v3 v4 a1 nv k1 n w4)
    | (go_at_call 95
       with_reducible refine J4.mono ?_
       rintro e w5 ⟨⟨r, rfl, hr⟩, s5⟩; have S5 := S4.trans (sM s5 S4.size); have N5 := N4.keep s5; have j0 := N5.c0; have j1 := N5.c1; have j2 := N5.c2; have j3 := N5.c3; have j4 := N5.c4; have j5 := N5.c5; have hS := hide hr; clear hr))
 cases r
 . have E := hide (xw0 (D := D) F.out (fun h => by have := hS.out.2 h; cases this))
   clear hS F; go_wp2; go_ret2; exact ⟨by rw [E.out]; unfold xv7; rw [E.out]; rfl, S5⟩
 have G := hide (show yw7 (xq1.mk 2 v1 v2 v3 v4 nv V) n from hS.out.1 rfl); clear hS; obtain ⟨j, hj⟩ : ∃ j : Nat, v1 = j := ⟨v1.toNat, by have h : 0 <= v1 := G.out.1; omega⟩; subst hj; have hjn : j < n := by have h : (j : Int) < n := G.out.2.1; omega
 obtain ⟨x, hx⟩ : ∃ x, D j = x := ⟨_, rfl⟩; have hDj := hD j hjn; rw [hx] at hDj; have E1 : xq4 D n (xq1.mk 2 (j : Int) v2 v3 v4 nv V) = 0 := by rw [xz2 F.out G.out]; simp [xj3]
 have E2 : xv7 D n (xq1.mk 2 (j : Int) v2 v3 v4 nv V) = x := by unfold xv7; rw [if_pos E1]; simp [xx4, hx]
 have HE1 := hide E1; have HE2 := hide E2; have J5 := dim2 2 v2 v3 v4 x j a1 nv k1 aD bD n cD D w5 (HD.keep S5) hjn hx hDj.1 hDj.2; clear E1 E2; go_wp2_with fail; refine J5.mono ?_; rintro e w6 ⟨rfl, s6⟩; go_wp2; go_ret2; exact ⟨by rw [HE1.out, HE2.out]; rfl, S5.trans (sM s6 S5.size)⟩
theorem dimOf3 (v1 v2 v3 v4 : Int) (nv : Nat) (V : Nat -> RatD) (a1 : Option Addr) (lo k1 m : Nat) (aD : Option Addr) (bD n cD : Nat) (D : Nat -> Int) (w : World) (hw : 0 <= w.heap.size) (hT : Tab w) (K : xk6 w m) (hd : (xq1.mk 3 v1 v2 v3 v4 nv V).size <= 1048576) (H : NodL w lo (xq1.mk 3 v1 v2 v3 v4 nv V) a1 k1) (HD : Ints w aD bD 0 n D) (hD : Dok D n) :
 Calls Tryz.prog 54 #[.agg #[.int .i64 3, .int .i64 v1, .int .i64 v2, .int .i64 v3, .int .i64 v4, .slice a1 nv k1], .slice aD n cD, .map (some m)] w fun e w' => e = .returned (.tuple #[.int .i64 (xv7 D n (xq1.mk 3 v1 v2 v3 v4 nv V)), .int .i64 (xq4 D n (xq1.mk 3 v1 v2 v3 v4 nv V))]) /\ w.Since w.heap.size w' := by
 have sA := sal w (.cells #[.int .i64 3, .int .i64 v1, .int .i64 v2, .int .i64 v3, .int .i64 v4, .slice a1 nv k1] 84); have nA := Box6.new w (.int .i64 3) (.int .i64 v1) (.int .i64 v2) (.int .i64 v3) (.int .i64 v4) (.slice a1 nv k1) 84; have hm1 : ∀ w : World, (method 324 136 (.agg #[.int .i64 3, .int .i64 v1, .int .i64 v2, .int .i64 v3, .int .i64 v4, .slice a1 nv k1]) "loop.example/s0015/impl.form").run Tryz.prog w = .ok (198, .agg #[.int .i64 3, .int .i64 v1, .int .i64 v2, .int .i64 v3, .int .i64 v4, .slice a1 nv k1]) w := fun _ => by kernel_rfl
 have hm2 : ∀ w : World, (method 324 136 (.agg #[.int .i64 3, .int .i64 v1, .int .i64 v2, .int .i64 v3, .int .i64 v4, .slice a1 nv k1]) "loop.example/s0015/impl.dimension").run Tryz.prog w = .ok (197, .agg #[.int .i64 3, .int .i64 v1, .int .i64 v2, .int .i64 v3, .int .i64 v4, .slice a1 nv k1]) w := fun _ => by kernel_rfl
 go_enter Tryz.func54, Tryz.ntmps54; go_wp2_with fail; generalize w.alloc (.cells #[.int .i64 3, .int .i64 v1, .int .i64 v2, .int .i64 v3, .int .i64 v4, .slice a1 nv k1] 84) = wA at *; refine (operatorOf3 m v1 v2 v3 v4 a1 nv k1 wA (K.keep sA)).mono ?_; rintro e w1 ⟨rfl, s1⟩; have d1 := sdr w1; have S1 := sA.trans (sM s1 sA.size); have N1 := nA.keep s1; have J1 := form3 3 v1 v2 v3 v4 a1 nv k1 w1.drew; have q0 := N1.c0; have q1 := N1.c1; have q2 := N1.c2; have q3 := N1.c3; have q4 := N1.c4; have q5 := N1.c5; go_wp2_with fail
 go_region_held3 (fun w' => w'.cell? ⟨w.heap.size, 0, none⟩ = some (.int .i64 3) /\ w'.cell? ⟨w.heap.size, 1, none⟩ = some (.int .i64 v1) /\ w'.cell? ⟨w.heap.size, 2, none⟩ = some (.int .i64 v2) /\ w'.cell? ⟨w.heap.size, 3, none⟩ = some (.int .i64 v3) /\ w'.cell? ⟨w.heap.size, 4, none⟩ = some (.int .i64 v4) /\ w'.cell? ⟨w.heap.size, 5, none⟩ = some (.slice a1 nv k1)) (go_keep)
  (first
    | (go_at_call 198
       with_reducible refine J1.mono ?_
       rintro e w2 ⟨rfl, s2⟩; have u2 := d1.trans (sM s2 d1.size); have S2 := S1.trans (sM u2 S1.size); have N2 := N1.keep u2; have i0 := N2.c0; have i1 := N2.c1; have i2 := N2.c2; have i3 := N2.c3; have i4 := N2.c4; have i5 := N2.c5; have J2 := yw1 3 false false false 1 (xq1.mk 3 v1 v2 v3 v4 nv V) a1 lo k1 w2 (Nat.zero_le _) (hT.stay hw S2) hd (H.keep S2)
       dsimp only at J2)
    | (go_at_call 94
       with_reducible refine J2.mono ?_
       rintro e w3 ⟨⟨r, rfl, hr⟩, s3⟩; have S3 := S2.trans (sM s3 S2.size); have N3 := N2.keep s3; have i0 := N3.c0; have i1 := N3.c1; have i2 := N3.c2; have i3 := N3.c3; have i4 := N3.c4; have i5 := N3.c5; have hF := hide (hr.trans (yw0 (d := (xq1.mk 3 v1 v2 v3 v4 nv V)) (z := 3) rfl (by decide) (by decide) rfl rfl rfl (.inr (.inr (.inl ⟨rfl, rfl⟩)))).symm); clear hr))
 cases r
 . have E := hide (xx6 (D := D) (i := n) (d := (xq1.mk 3 v1 v2 v3 v4 nv V)) (fun h => by have := hF.out.2 h; cases this))
   clear hF; go_wp2; go_ret2; exact ⟨by rw [E.out]; unfold xv7; rw [E.out]; rfl, S3⟩
 have F := hide (hF.out.1 rfl); clear hF q0 q1 q2 q3 q4 q5; have d3 := sdr w3; have J3 := form3 3 v1 v2 v3 v4 a1 nv k1 w3.drew; go_wp2_with fail
 go_region_held3 (fun w' => w'.cell? ⟨w.heap.size, 0, none⟩ = some (.int .i64 3) /\ w'.cell? ⟨w.heap.size, 1, none⟩ = some (.int .i64 v1) /\ w'.cell? ⟨w.heap.size, 2, none⟩ = some (.int .i64 v2) /\ w'.cell? ⟨w.heap.size, 3, none⟩ = some (.int .i64 v3) /\ w'.cell? ⟨w.heap.size, 4, none⟩ = some (.int .i64 v4) /\ w'.cell? ⟨w.heap.size, 5, none⟩ = some (.slice a1 nv k1)) (go_keep)
  (first
    | (go_at_call 198
       with_reducible refine J3.mono ?_
       rintro e w4 ⟨rfl, s4⟩; have u4 := d3.trans (sM s4 d3.size); have S4 := S3.trans (sM u4 S3.size); have N4 := N3.keep u4; have j0 := N4.c0; have j1 := N4.c1; have j2 := N4.c2; have j3 := N4.c3; have j4 := N4.c4; have j5 := N4.c5; have J4 := yz3 3 false false false 1 3 v1 v2 v3 v4 a1 nv k1 n w4)
    | (go_at_call 95
       with_reducible refine J4.mono ?_
       rintro e w5 ⟨⟨r, rfl, hr⟩, s5⟩; have S5 := S4.trans (sM s5 S4.size); have N5 := N4.keep s5; have j0 := N5.c0; have j1 := N5.c1; have j2 := N5.c2; have j3 := N5.c3; have j4 := N5.c4; have j5 := N5.c5; have hS := hide hr; clear hr))
 cases r
 . have E := hide (xw0 (D := D) F.out (fun h => by have := hS.out.2 h; cases this))
   clear hS F; go_wp2; go_ret2; exact ⟨by rw [E.out]; unfold xv7; rw [E.out]; rfl, S5⟩
 have G := hide (show yw7 (xq1.mk 3 v1 v2 v3 v4 nv V) n from hS.out.1 rfl); clear hS; obtain ⟨j, hj⟩ : ∃ j : Nat, v1 = j := ⟨v1.toNat, by have h : 0 <= v1 := G.out.1; omega⟩; subst hj; have hjn : j < n := by have h : (j : Int) < n := G.out.2.1; omega
 obtain ⟨x, hx⟩ : ∃ x, D j = x := ⟨_, rfl⟩; have hDj := hD j hjn; rw [hx] at hDj; have E1 : xq4 D n (xq1.mk 3 (j : Int) v2 v3 v4 nv V) = 0 := by rw [xz2 F.out G.out]; simp [xj3]
 have E2 : xv7 D n (xq1.mk 3 (j : Int) v2 v3 v4 nv V) = x := by unfold xv7; rw [if_pos E1]; simp [xx4, hx]
 have HE1 := hide E1; have HE2 := hide E2; have J5 := dim3 3 v2 v3 v4 x j a1 nv k1 aD bD n cD D w5 (HD.keep S5) hjn hx hDj.1 hDj.2; clear E1 E2; go_wp2_with fail; refine J5.mono ?_; rintro e w6 ⟨rfl, s6⟩; go_wp2; go_ret2; exact ⟨by rw [HE1.out, HE2.out]; rfl, S5.trans (sM s6 S5.size)⟩
theorem dimOf4 (v1 v2 v3 v4 : Int) (nv : Nat) (V : Nat -> RatD) (a1 : Option Addr) (lo k1 m : Nat) (aD : Option Addr) (bD n cD : Nat) (D : Nat -> Int) (w : World) (hw : 0 <= w.heap.size) (hT : Tab w) (K : xk6 w m) (hd : (xq1.mk 4 v1 v2 v3 v4 nv V).size <= 1048576) (H : NodL w lo (xq1.mk 4 v1 v2 v3 v4 nv V) a1 k1) (HD : Ints w aD bD 0 n D) (hD : Dok D n) :
 Calls Tryz.prog 54 #[.agg #[.int .i64 4, .int .i64 v1, .int .i64 v2, .int .i64 v3, .int .i64 v4, .slice a1 nv k1], .slice aD n cD, .map (some m)] w fun e w' => e = .returned (.tuple #[.int .i64 (xv7 D n (xq1.mk 4 v1 v2 v3 v4 nv V)), .int .i64 (xq4 D n (xq1.mk 4 v1 v2 v3 v4 nv V))]) /\ w.Since w.heap.size w' := by
 have sA := sal w (.cells #[.int .i64 4, .int .i64 v1, .int .i64 v2, .int .i64 v3, .int .i64 v4, .slice a1 nv k1] 84); have nA := Box6.new w (.int .i64 4) (.int .i64 v1) (.int .i64 v2) (.int .i64 v3) (.int .i64 v4) (.slice a1 nv k1) 84; have hm1 : ∀ w : World, (method 324 137 (.agg #[.int .i64 4, .int .i64 v1, .int .i64 v2, .int .i64 v3, .int .i64 v4, .slice a1 nv k1]) "loop.example/s0015/impl.form").run Tryz.prog w = .ok (201, .agg #[.int .i64 4, .int .i64 v1, .int .i64 v2, .int .i64 v3, .int .i64 v4, .slice a1 nv k1]) w := fun _ => by kernel_rfl
 have hm2 : ∀ w : World, (method 324 137 (.agg #[.int .i64 4, .int .i64 v1, .int .i64 v2, .int .i64 v3, .int .i64 v4, .slice a1 nv k1]) "loop.example/s0015/impl.dimension").run Tryz.prog w = .ok (200, .agg #[.int .i64 4, .int .i64 v1, .int .i64 v2, .int .i64 v3, .int .i64 v4, .slice a1 nv k1]) w := fun _ => by kernel_rfl
 go_enter Tryz.func54, Tryz.ntmps54; go_wp2_with fail; generalize w.alloc (.cells #[.int .i64 4, .int .i64 v1, .int .i64 v2, .int .i64 v3, .int .i64 v4, .slice a1 nv k1] 84) = wA at *; refine (operatorOf4 m v1 v2 v3 v4 a1 nv k1 wA (K.keep sA)).mono ?_; rintro e w1 ⟨rfl, s1⟩; have d1 := sdr w1; have S1 := sA.trans (sM s1 sA.size); have N1 := nA.keep s1; have J1 := form4 4 v1 v2 v3 v4 a1 nv k1 w1.drew; have q0 := N1.c0; have q1 := N1.c1; have q2 := N1.c2; have q3 := N1.c3; have q4 := N1.c4; have q5 := N1.c5; go_wp2_with fail
 go_region_held3 (fun w' => w'.cell? ⟨w.heap.size, 0, none⟩ = some (.int .i64 4) /\ w'.cell? ⟨w.heap.size, 1, none⟩ = some (.int .i64 v1) /\ w'.cell? ⟨w.heap.size, 2, none⟩ = some (.int .i64 v2) /\ w'.cell? ⟨w.heap.size, 3, none⟩ = some (.int .i64 v3) /\ w'.cell? ⟨w.heap.size, 4, none⟩ = some (.int .i64 v4) /\ w'.cell? ⟨w.heap.size, 5, none⟩ = some (.slice a1 nv k1)) (go_keep)
  (first
    | (go_at_call 201
       with_reducible refine J1.mono ?_
       rintro e w2 ⟨rfl, s2⟩; have u2 := d1.trans (sM s2 d1.size); have S2 := S1.trans (sM u2 S1.size); have N2 := N1.keep u2; have i0 := N2.c0; have i1 := N2.c1; have i2 := N2.c2; have i3 := N2.c3; have i4 := N2.c4; have i5 := N2.c5; have J2 := yw1 4 true false false 0 (xq1.mk 4 v1 v2 v3 v4 nv V) a1 lo k1 w2 (Nat.zero_le _) (hT.stay hw S2) hd (H.keep S2)
       dsimp only at J2)
    | (go_at_call 94
       with_reducible refine J2.mono ?_
       rintro e w3 ⟨⟨r, rfl, hr⟩, s3⟩; have S3 := S2.trans (sM s3 S2.size); have N3 := N2.keep s3; have i0 := N3.c0; have i1 := N3.c1; have i2 := N3.c2; have i3 := N3.c3; have i4 := N3.c4; have i5 := N3.c5; have hF := hide (hr.trans (yw0 (d := (xq1.mk 4 v1 v2 v3 v4 nv V)) (z := 4) rfl (by decide) (by decide) rfl rfl rfl (.inr (.inl ⟨rfl, rfl⟩))).symm); clear hr))
 cases r
 . have E := hide (xx6 (D := D) (i := n) (d := (xq1.mk 4 v1 v2 v3 v4 nv V)) (fun h => by have := hF.out.2 h; cases this))
   clear hF; go_wp2; go_ret2; exact ⟨by rw [E.out]; unfold xv7; rw [E.out]; rfl, S3⟩
 have F := hide (hF.out.1 rfl); clear hF q0 q1 q2 q3 q4 q5; have d3 := sdr w3; have J3 := form4 4 v1 v2 v3 v4 a1 nv k1 w3.drew; go_wp2_with fail
 go_region_held3 (fun w' => w'.cell? ⟨w.heap.size, 0, none⟩ = some (.int .i64 4) /\ w'.cell? ⟨w.heap.size, 1, none⟩ = some (.int .i64 v1) /\ w'.cell? ⟨w.heap.size, 2, none⟩ = some (.int .i64 v2) /\ w'.cell? ⟨w.heap.size, 3, none⟩ = some (.int .i64 v3) /\ w'.cell? ⟨w.heap.size, 4, none⟩ = some (.int .i64 v4) /\ w'.cell? ⟨w.heap.size, 5, none⟩ = some (.slice a1 nv k1)) (go_keep)
  (first
    | (go_at_call 201
       with_reducible refine J3.mono ?_
       rintro e w4 ⟨rfl, s4⟩; have u4 := d3.trans (sM s4 d3.size); have S4 := S3.trans (sM u4 S3.size); have N4 := N3.keep u4; have j0 := N4.c0; have j1 := N4.c1; have j2 := N4.c2; have j3 := N4.c3; have j4 := N4.c4; have j5 := N4.c5; have J4 := yz3 4 true false false 0 4 v1 v2 v3 v4 a1 nv k1 n w4)
    | (go_at_call 95
       with_reducible refine J4.mono ?_
       rintro e w5 ⟨⟨r, rfl, hr⟩, s5⟩; have S5 := S4.trans (sM s5 S4.size); have N5 := N4.keep s5; have j0 := N5.c0; have j1 := N5.c1; have j2 := N5.c2; have j3 := N5.c3; have j4 := N5.c4; have j5 := N5.c5; have hS := hide hr; clear hr))
 cases r
 . have E := hide (xw0 (D := D) F.out (fun h => by have := hS.out.2 h; cases this))
   clear hS F; go_wp2; go_ret2; exact ⟨by rw [E.out]; unfold xv7; rw [E.out]; rfl, S5⟩
 have G := hide (show yw7 (xq1.mk 4 v1 v2 v3 v4 nv V) n from hS.out.1 rfl); clear hS; obtain ⟨j, hj⟩ : ∃ j : Nat, v1 = j := ⟨v1.toNat, by have h : 0 <= v1 := G.out.1; omega⟩; subst hj; have hjn : j < n := by have h : (j : Int) < n := G.out.2.1; omega
 obtain ⟨x, hx⟩ : ∃ x, D j = x := ⟨_, rfl⟩; have hDj := hD j hjn; rw [hx] at hDj; obtain ⟨i, hi2⟩ : ∃ i : Nat, v2 = i := ⟨v2.toNat, by have h : 0 <= v2 /\ v2 < n := G.out.2.2 rfl; omega⟩; subst hi2; have hi : i < n := by have h : 0 <= (i : Int) /\ (i : Int) < n := G.out.2.2 rfl; omega
 have E1 : xq4 D n (xq1.mk 4 (j : Int) (i : Int) v3 v4 nv V) = if D i = x then 0 else 14 := by
  rw [xz2 F.out G.out]
  by_cases h : D i = x <;> simp [xj3, hx, h]
 have E2 : xv7 D n (xq1.mk 4 (j : Int) (i : Int) v3 v4 nv V) = if D i = x then x else 0 := by
  unfold xv7; rw [E1]
  by_cases h : D i = x <;> simp [xx4, hx, h]
 have J5 := dim4 4 (i : Int) v3 v4 x j a1 nv k1 aD bD n cD D w5 (HD.keep S5) hjn hx hDj.1 hDj.2 i hi rfl; rw [<- E1, <- E2] at J5; clear E1 E2; go_wp2_with fail; refine J5.mono ?_; rintro e w6 ⟨rfl, s6⟩; go_wp2; go_ret2; exact ⟨rfl, S5.trans (sM s6 S5.size)⟩
theorem dimOf5 (v1 v2 v3 v4 : Int) (nv : Nat) (V : Nat -> RatD) (a1 : Option Addr) (lo k1 m : Nat) (aD : Option Addr) (bD n cD : Nat) (D : Nat -> Int) (w : World) (hw : 0 <= w.heap.size) (hT : Tab w) (K : xk6 w m) (hd : (xq1.mk 5 v1 v2 v3 v4 nv V).size <= 1048576) (H : NodL w lo (xq1.mk 5 v1 v2 v3 v4 nv V) a1 k1) (HD : Ints w aD bD 0 n D) (hD : Dok D n) :
 Calls Tryz.prog 54 #[.agg #[.int .i64 5, .int .i64 v1, .int .i64 v2, .int .i64 v3, .int .i64 v4, .slice a1 nv k1], .slice aD n cD, .map (some m)] w fun e w' => e = .returned (.tuple #[.int .i64 (xv7 D n (xq1.mk 5 v1 v2 v3 v4 nv V)), .int .i64 (xq4 D n (xq1.mk 5 v1 v2 v3 v4 nv V))]) /\ w.Since w.heap.size w' := by
 have sA := sal w (.cells #[.int .i64 5, .int .i64 v1, .int .i64 v2, .int .i64 v3, .int .i64 v4, .slice a1 nv k1] 84); have nA := Box6.new w (.int .i64 5) (.int .i64 v1) (.int .i64 v2) (.int .i64 v3) (.int .i64 v4) (.slice a1 nv k1) 84; have hm1 : ∀ w : World, (method 324 138 (.agg #[.int .i64 5, .int .i64 v1, .int .i64 v2, .int .i64 v3, .int .i64 v4, .slice a1 nv k1]) "loop.example/s0015/impl.form").run Tryz.prog w = .ok (204, .agg #[.int .i64 5, .int .i64 v1, .int .i64 v2, .int .i64 v3, .int .i64 v4, .slice a1 nv k1]) w := fun _ => by kernel_rfl
 have hm2 : ∀ w : World, (method 324 138 (.agg #[.int .i64 5, .int .i64 v1, .int .i64 v2, .int .i64 v3, .int .i64 v4, .slice a1 nv k1]) "loop.example/s0015/impl.dimension").run Tryz.prog w = .ok (203, .agg #[.int .i64 5, .int .i64 v1, .int .i64 v2, .int .i64 v3, .int .i64 v4, .slice a1 nv k1]) w := fun _ => by kernel_rfl
 go_enter Tryz.func54, Tryz.ntmps54; go_wp2_with fail; generalize w.alloc (.cells #[.int .i64 5, .int .i64 v1, .int .i64 v2, .int .i64 v3, .int .i64 v4, .slice a1 nv k1] 84) = wA at *; refine (operatorOf5 m v1 v2 v3 v4 a1 nv k1 wA (K.keep sA)).mono ?_; rintro e w1 ⟨rfl, s1⟩; have d1 := sdr w1; have S1 := sA.trans (sM s1 sA.size); have N1 := nA.keep s1; have J1 := form5 5 v1 v2 v3 v4 a1 nv k1 w1.drew; have q0 := N1.c0; have q1 := N1.c1; have q2 := N1.c2; have q3 := N1.c3; have q4 := N1.c4; have q5 := N1.c5; go_wp2_with fail
 go_region_held3 (fun w' => w'.cell? ⟨w.heap.size, 0, none⟩ = some (.int .i64 5) /\ w'.cell? ⟨w.heap.size, 1, none⟩ = some (.int .i64 v1) /\ w'.cell? ⟨w.heap.size, 2, none⟩ = some (.int .i64 v2) /\ w'.cell? ⟨w.heap.size, 3, none⟩ = some (.int .i64 v3) /\ w'.cell? ⟨w.heap.size, 4, none⟩ = some (.int .i64 v4) /\ w'.cell? ⟨w.heap.size, 5, none⟩ = some (.slice a1 nv k1)) (go_keep)
  (first
    | (go_at_call 204
       with_reducible refine J1.mono ?_
       rintro e w2 ⟨rfl, s2⟩; have u2 := d1.trans (sM s2 d1.size); have S2 := S1.trans (sM u2 S1.size); have N2 := N1.keep u2; have i0 := N2.c0; have i1 := N2.c1; have i2 := N2.c2; have i3 := N2.c3; have i4 := N2.c4; have i5 := N2.c5; have J2 := yw1 5 false true false 0 (xq1.mk 5 v1 v2 v3 v4 nv V) a1 lo k1 w2 (Nat.zero_le _) (hT.stay hw S2) hd (H.keep S2)
       dsimp only at J2)
    | (go_at_call 94
       with_reducible refine J2.mono ?_
       rintro e w3 ⟨⟨r, rfl, hr⟩, s3⟩; have S3 := S2.trans (sM s3 S2.size); have N3 := N2.keep s3; have i0 := N3.c0; have i1 := N3.c1; have i2 := N3.c2; have i3 := N3.c3; have i4 := N3.c4; have i5 := N3.c5; have hF := hide (hr.trans (yw0 (d := (xq1.mk 5 v1 v2 v3 v4 nv V)) (z := 5) rfl (by decide) (by decide) rfl rfl rfl (.inr (.inl ⟨rfl, rfl⟩))).symm); clear hr))
 cases r
 . have E := hide (xx6 (D := D) (i := n) (d := (xq1.mk 5 v1 v2 v3 v4 nv V)) (fun h => by have := hF.out.2 h; cases this))
   clear hF; go_wp2; go_ret2; exact ⟨by rw [E.out]; unfold xv7; rw [E.out]; rfl, S3⟩
 have F := hide (hF.out.1 rfl); clear hF q0 q1 q2 q3 q4 q5; have d3 := sdr w3; have J3 := form5 5 v1 v2 v3 v4 a1 nv k1 w3.drew; go_wp2_with fail
 go_region_held3 (fun w' => w'.cell? ⟨w.heap.size, 0, none⟩ = some (.int .i64 5) /\ w'.cell? ⟨w.heap.size, 1, none⟩ = some (.int .i64 v1) /\ w'.cell? ⟨w.heap.size, 2, none⟩ = some (.int .i64 v2) /\ w'.cell? ⟨w.heap.size, 3, none⟩ = some (.int .i64 v3) /\ w'.cell? ⟨w.heap.size, 4, none⟩ = some (.int .i64 v4) /\ w'.cell? ⟨w.heap.size, 5, none⟩ = some (.slice a1 nv k1)) (go_keep)
  (first
    | (go_at_call 204
       with_reducible refine J3.mono ?_
       rintro e w4 ⟨rfl, s4⟩; have u4 := d3.trans (sM s4 d3.size); have S4 := S3.trans (sM u4 S3.size); have N4 := N3.keep u4; have j0 := N4.c0; have j1 := N4.c1; have j2 := N4.c2; have j3 := N4.c3; have j4 := N4.c4; have j5 := N4.c5; have J4 := yz3 5 false true false 0 5 v1 v2 v3 v4 a1 nv k1 n w4)
    | (go_at_call 95
       with_reducible refine J4.mono ?_
       rintro e w5 ⟨⟨r, rfl, hr⟩, s5⟩; have S5 := S4.trans (sM s5 S4.size); have N5 := N4.keep s5; have j0 := N5.c0; have j1 := N5.c1; have j2 := N5.c2; have j3 := N5.c3; have j4 := N5.c4; have j5 := N5.c5; have hS := hide hr; clear hr))
 cases r
 . have E := hide (xw0 (D := D) F.out (fun h => by have := hS.out.2 h; cases this))
   clear hS F; go_wp2; go_ret2; exact ⟨by rw [E.out]; unfold xv7; rw [E.out]; rfl, S5⟩
 have G := hide (show yw7 (xq1.mk 5 v1 v2 v3 v4 nv V) n from hS.out.1 rfl); clear hS; obtain ⟨j, hj⟩ : ∃ j : Nat, v1 = j := ⟨v1.toNat, by have h : 0 <= v1 := G.out.1; omega⟩; subst hj; have hjn : j < n := by have h : (j : Int) < n := G.out.2.1; omega
 obtain ⟨x, hx⟩ : ∃ x, D j = x := ⟨_, rfl⟩; have hDj := hD j hjn; rw [hx] at hDj; have hk : 1 <= v3 /\ v3 <= 1000 := F.out.k
 have E1 : xq4 D n (xq1.mk 5 (j : Int) v2 v3 v4 nv V) = if x % v3 = 0 then 0 else 14 := by
  rw [xz2 F.out G.out]
  by_cases h : x % v3 = 0 <;> simp [xj3, hx, h]
 have E2 : xv7 D n (xq1.mk 5 (j : Int) v2 v3 v4 nv V) = if x % v3 = 0 then x / v3 else 0 := by
  unfold xv7; rw [E1]
  by_cases h : x % v3 = 0 <;> simp [xx4, hx, h]
 have J5 := dim5 5 v2 v3 v4 x j a1 nv k1 aD bD n cD D w5 (HD.keep S5) hjn hx hDj.1 hDj.2 hk.1 hk.2; rw [<- E1, <- E2] at J5; clear E1 E2; go_wp2_with fail; refine J5.mono ?_; rintro e w6 ⟨rfl, s6⟩; go_wp2; go_ret2; exact ⟨rfl, S5.trans (sM s6 S5.size)⟩
theorem dimOf6 (v1 v2 v3 v4 : Int) (nv : Nat) (V : Nat -> RatD) (a1 : Option Addr) (lo k1 m : Nat) (aD : Option Addr) (bD n cD : Nat) (D : Nat -> Int) (w : World) (hw : 0 <= w.heap.size) (hT : Tab w) (K : xk6 w m) (hd : (xq1.mk 6 v1 v2 v3 v4 nv V).size <= 1048576) (H : NodL w lo (xq1.mk 6 v1 v2 v3 v4 nv V) a1 k1) (HD : Ints w aD bD 0 n D) (hD : Dok D n) :
 Calls Tryz.prog 54 #[.agg #[.int .i64 6, .int .i64 v1, .int .i64 v2, .int .i64 v3, .int .i64 v4, .slice a1 nv k1], .slice aD n cD, .map (some m)] w fun e w' => e = .returned (.tuple #[.int .i64 (xv7 D n (xq1.mk 6 v1 v2 v3 v4 nv V)), .int .i64 (xq4 D n (xq1.mk 6 v1 v2 v3 v4 nv V))]) /\ w.Since w.heap.size w' := by
 have sA := sal w (.cells #[.int .i64 6, .int .i64 v1, .int .i64 v2, .int .i64 v3, .int .i64 v4, .slice a1 nv k1] 84); have nA := Box6.new w (.int .i64 6) (.int .i64 v1) (.int .i64 v2) (.int .i64 v3) (.int .i64 v4) (.slice a1 nv k1) 84; have hm1 : ∀ w : World, (method 324 139 (.agg #[.int .i64 6, .int .i64 v1, .int .i64 v2, .int .i64 v3, .int .i64 v4, .slice a1 nv k1]) "loop.example/s0015/impl.form").run Tryz.prog w = .ok (208, .agg #[.int .i64 6, .int .i64 v1, .int .i64 v2, .int .i64 v3, .int .i64 v4, .slice a1 nv k1]) w := fun _ => by kernel_rfl
 have hm2 : ∀ w : World, (method 324 139 (.agg #[.int .i64 6, .int .i64 v1, .int .i64 v2, .int .i64 v3, .int .i64 v4, .slice a1 nv k1]) "loop.example/s0015/impl.dimension").run Tryz.prog w = .ok (207, .agg #[.int .i64 6, .int .i64 v1, .int .i64 v2, .int .i64 v3, .int .i64 v4, .slice a1 nv k1]) w := fun _ => by kernel_rfl
 go_enter Tryz.func54, Tryz.ntmps54; go_wp2_with fail; generalize w.alloc (.cells #[.int .i64 6, .int .i64 v1, .int .i64 v2, .int .i64 v3, .int .i64 v4, .slice a1 nv k1] 84) = wA at *; refine (operatorOf6 m v1 v2 v3 v4 a1 nv k1 wA (K.keep sA)).mono ?_; rintro e w1 ⟨rfl, s1⟩; have d1 := sdr w1; have S1 := sA.trans (sM s1 sA.size); have N1 := nA.keep s1; have J1 := form6 6 v1 v2 v3 v4 a1 nv k1 w1.drew; have q0 := N1.c0; have q1 := N1.c1; have q2 := N1.c2; have q3 := N1.c3; have q4 := N1.c4; have q5 := N1.c5; go_wp2_with fail
 go_region_held3 (fun w' => w'.cell? ⟨w.heap.size, 0, none⟩ = some (.int .i64 6) /\ w'.cell? ⟨w.heap.size, 1, none⟩ = some (.int .i64 v1) /\ w'.cell? ⟨w.heap.size, 2, none⟩ = some (.int .i64 v2) /\ w'.cell? ⟨w.heap.size, 3, none⟩ = some (.int .i64 v3) /\ w'.cell? ⟨w.heap.size, 4, none⟩ = some (.int .i64 v4) /\ w'.cell? ⟨w.heap.size, 5, none⟩ = some (.slice a1 nv k1)) (go_keep)
  (first
    | (go_at_call 208
       with_reducible refine J1.mono ?_
       rintro e w2 ⟨rfl, s2⟩; have u2 := d1.trans (sM s2 d1.size); have S2 := S1.trans (sM u2 S1.size); have N2 := N1.keep u2; have i0 := N2.c0; have i1 := N2.c1; have i2 := N2.c2; have i3 := N2.c3; have i4 := N2.c4; have i5 := N2.c5; have J2 := yw1 6 false true true (-1) (xq1.mk 6 v1 v2 v3 v4 nv V) a1 lo k1 w2 (Nat.zero_le _) (hT.stay hw S2) hd (H.keep S2)
       dsimp only at J2)
    | (go_at_call 94
       with_reducible refine J2.mono ?_
       rintro e w3 ⟨⟨r, rfl, hr⟩, s3⟩; have S3 := S2.trans (sM s3 S2.size); have N3 := N2.keep s3; have i0 := N3.c0; have i1 := N3.c1; have i2 := N3.c2; have i3 := N3.c3; have i4 := N3.c4; have i5 := N3.c5; have hF := hide (hr.trans (yw0 (d := (xq1.mk 6 v1 v2 v3 v4 nv V)) (z := 6) rfl (by decide) (by decide) rfl rfl rfl (.inl ⟨rfl, rfl, by decide, by decide⟩)).symm); clear hr))
 cases r
 . have E := hide (xx6 (D := D) (i := n) (d := (xq1.mk 6 v1 v2 v3 v4 nv V)) (fun h => by have := hF.out.2 h; cases this))
   clear hF; go_wp2; go_ret2; exact ⟨by rw [E.out]; unfold xv7; rw [E.out]; rfl, S3⟩
 have F := hide (hF.out.1 rfl); clear hF q0 q1 q2 q3 q4 q5; have d3 := sdr w3; have J3 := form6 6 v1 v2 v3 v4 a1 nv k1 w3.drew; go_wp2_with fail
 go_region_held3 (fun w' => w'.cell? ⟨w.heap.size, 0, none⟩ = some (.int .i64 6) /\ w'.cell? ⟨w.heap.size, 1, none⟩ = some (.int .i64 v1) /\ w'.cell? ⟨w.heap.size, 2, none⟩ = some (.int .i64 v2) /\ w'.cell? ⟨w.heap.size, 3, none⟩ = some (.int .i64 v3) /\ w'.cell? ⟨w.heap.size, 4, none⟩ = some (.int .i64 v4) /\ w'.cell? ⟨w.heap.size, 5, none⟩ = some (.slice a1 nv k1)) (go_keep)
  (first
    | (go_at_call 208
       with_reducible refine J3.mono ?_
       rintro e w4 ⟨rfl, s4⟩; have u4 := d3.trans (sM s4 d3.size); have S4 := S3.trans (sM u4 S3.size); have N4 := N3.keep u4; have j0 := N4.c0; have j1 := N4.c1; have j2 := N4.c2; have j3 := N4.c3; have j4 := N4.c4; have j5 := N4.c5; have J4 := yz3 6 false true true (-1) 6 v1 v2 v3 v4 a1 nv k1 n w4)
    | (go_at_call 95
       with_reducible refine J4.mono ?_
       rintro e w5 ⟨⟨r, rfl, hr⟩, s5⟩; have S5 := S4.trans (sM s5 S4.size); have N5 := N4.keep s5; have j0 := N5.c0; have j1 := N5.c1; have j2 := N5.c2; have j3 := N5.c3; have j4 := N5.c4; have j5 := N5.c5; have hS := hide hr; clear hr))
 cases r
 . have E := hide (xw0 (D := D) F.out (fun h => by have := hS.out.2 h; cases this))
   clear hS F; go_wp2; go_ret2; exact ⟨by rw [E.out]; unfold xv7; rw [E.out]; rfl, S5⟩
 have G := hide (show yw7 (xq1.mk 6 v1 v2 v3 v4 nv V) n from hS.out.1 rfl); clear hS; obtain ⟨j, hj⟩ : ∃ j : Nat, v1 = j := ⟨v1.toNat, by have h : 0 <= v1 := G.out.1; omega⟩; subst hj; have hjn : j < n := by have h : (j : Int) < n := G.out.2.1; omega
 obtain ⟨x, hx⟩ : ∃ x, D j = x := ⟨_, rfl⟩; have hDj := hD j hjn; rw [hx] at hDj; have hk : 1 <= v3 /\ v3 <= 1000 := F.out.k; have hs : 1 <= v4 /\ v4 <= 1000 := F.out.s; have hv : nv <= 1048576 := by have h : nv + szR V nv <= 1048576 := hd; omega
 have E1 : xq4 D n (xq1.mk 6 (j : Int) v2 v3 v4 nv V) = if v3 > x ∨ (nv : Int) ≠ v3 + 1 then 14 else 0 := by
  rw [xz2 F.out G.out]
  by_cases h : v3 > x ∨ (nv : Int) ≠ v3 + 1 <;> simp [xj3, hx, h]
 have E2 : xv7 D n (xq1.mk 6 (j : Int) v2 v3 v4 nv V) = if v3 > x ∨ (nv : Int) ≠ v3 + 1 then 0 else (x - v3) / v4 + 1 := by
  unfold xv7; rw [E1]
  by_cases h : v3 > x ∨ (nv : Int) ≠ v3 + 1 <;> simp [xx4, hx, h]
 have J5 := dim6 6 v2 v3 v4 x j a1 nv k1 aD bD n cD D w5 (HD.keep S5) hjn hx hDj.1 hDj.2 hk.1 hk.2 hs.1 hs.2 hv; rw [<- E1, <- E2] at J5; clear E1 E2; go_wp2_with fail; refine J5.mono ?_; rintro e w6 ⟨rfl, s6⟩; go_wp2; go_ret2; exact ⟨rfl, S5.trans (sM s6 S5.size)⟩
theorem dimOf7 (v1 v2 v3 v4 : Int) (nv : Nat) (V : Nat -> RatD) (a1 : Option Addr) (lo k1 m : Nat) (aD : Option Addr) (bD n cD : Nat) (D : Nat -> Int) (w : World) (hw : 0 <= w.heap.size) (hT : Tab w) (K : xk6 w m) (hd : (xq1.mk 7 v1 v2 v3 v4 nv V).size <= 1048576) (H : NodL w lo (xq1.mk 7 v1 v2 v3 v4 nv V) a1 k1) (HD : Ints w aD bD 0 n D) (hD : Dok D n) :
 Calls Tryz.prog 54 #[.agg #[.int .i64 7, .int .i64 v1, .int .i64 v2, .int .i64 v3, .int .i64 v4, .slice a1 nv k1], .slice aD n cD, .map (some m)] w fun e w' => e = .returned (.tuple #[.int .i64 (xv7 D n (xq1.mk 7 v1 v2 v3 v4 nv V)), .int .i64 (xq4 D n (xq1.mk 7 v1 v2 v3 v4 nv V))]) /\ w.Since w.heap.size w' := by
 have sA := sal w (.cells #[.int .i64 7, .int .i64 v1, .int .i64 v2, .int .i64 v3, .int .i64 v4, .slice a1 nv k1] 84); have nA := Box6.new w (.int .i64 7) (.int .i64 v1) (.int .i64 v2) (.int .i64 v3) (.int .i64 v4) (.slice a1 nv k1) 84; have hm1 : ∀ w : World, (method 324 140 (.agg #[.int .i64 7, .int .i64 v1, .int .i64 v2, .int .i64 v3, .int .i64 v4, .slice a1 nv k1]) "loop.example/s0015/impl.form").run Tryz.prog w = .ok (211, .agg #[.int .i64 7, .int .i64 v1, .int .i64 v2, .int .i64 v3, .int .i64 v4, .slice a1 nv k1]) w := fun _ => by kernel_rfl
 have hm2 : ∀ w : World, (method 324 140 (.agg #[.int .i64 7, .int .i64 v1, .int .i64 v2, .int .i64 v3, .int .i64 v4, .slice a1 nv k1]) "loop.example/s0015/impl.dimension").run Tryz.prog w = .ok (210, .agg #[.int .i64 7, .int .i64 v1, .int .i64 v2, .int .i64 v3, .int .i64 v4, .slice a1 nv k1]) w := fun _ => by kernel_rfl
 go_enter Tryz.func54, Tryz.ntmps54; go_wp2_with fail; generalize w.alloc (.cells #[.int .i64 7, .int .i64 v1, .int .i64 v2, .int .i64 v3, .int .i64 v4, .slice a1 nv k1] 84) = wA at *; refine (operatorOf7 m v1 v2 v3 v4 a1 nv k1 wA (K.keep sA)).mono ?_; rintro e w1 ⟨rfl, s1⟩; have d1 := sdr w1; have S1 := sA.trans (sM s1 sA.size); have N1 := nA.keep s1; have J1 := form7 7 v1 v2 v3 v4 a1 nv k1 w1.drew; have q0 := N1.c0; have q1 := N1.c1; have q2 := N1.c2; have q3 := N1.c3; have q4 := N1.c4; have q5 := N1.c5; go_wp2_with fail
 go_region_held3 (fun w' => w'.cell? ⟨w.heap.size, 0, none⟩ = some (.int .i64 7) /\ w'.cell? ⟨w.heap.size, 1, none⟩ = some (.int .i64 v1) /\ w'.cell? ⟨w.heap.size, 2, none⟩ = some (.int .i64 v2) /\ w'.cell? ⟨w.heap.size, 3, none⟩ = some (.int .i64 v3) /\ w'.cell? ⟨w.heap.size, 4, none⟩ = some (.int .i64 v4) /\ w'.cell? ⟨w.heap.size, 5, none⟩ = some (.slice a1 nv k1)) (go_keep)
  (first
    | (go_at_call 211
       with_reducible refine J1.mono ?_
       rintro e w2 ⟨rfl, s2⟩; have u2 := d1.trans (sM s2 d1.size); have S2 := S1.trans (sM u2 S1.size); have N2 := N1.keep u2; have i0 := N2.c0; have i1 := N2.c1; have i2 := N2.c2; have i3 := N2.c3; have i4 := N2.c4; have i5 := N2.c5; have J2 := yw1 7 false false false 4 (xq1.mk 7 v1 v2 v3 v4 nv V) a1 lo k1 w2 (Nat.zero_le _) (hT.stay hw S2) hd (H.keep S2)
       dsimp only at J2)
    | (go_at_call 94
       with_reducible refine J2.mono ?_
       rintro e w3 ⟨⟨r, rfl, hr⟩, s3⟩; have S3 := S2.trans (sM s3 S2.size); have N3 := N2.keep s3; have i0 := N3.c0; have i1 := N3.c1; have i2 := N3.c2; have i3 := N3.c3; have i4 := N3.c4; have i5 := N3.c5; have hF := hide (hr.trans (yw0 (d := (xq1.mk 7 v1 v2 v3 v4 nv V)) (z := 7) rfl (by decide) (by decide) rfl rfl rfl (.inr (.inr (.inr ⟨rfl, rfl⟩)))).symm); clear hr))
 cases r
 . have E := hide (xx6 (D := D) (i := n) (d := (xq1.mk 7 v1 v2 v3 v4 nv V)) (fun h => by have := hF.out.2 h; cases this))
   clear hF; go_wp2; go_ret2; exact ⟨by rw [E.out]; unfold xv7; rw [E.out]; rfl, S3⟩
 have F := hide (hF.out.1 rfl); clear hF q0 q1 q2 q3 q4 q5; have d3 := sdr w3; have J3 := form7 7 v1 v2 v3 v4 a1 nv k1 w3.drew; go_wp2_with fail
 go_region_held3 (fun w' => w'.cell? ⟨w.heap.size, 0, none⟩ = some (.int .i64 7) /\ w'.cell? ⟨w.heap.size, 1, none⟩ = some (.int .i64 v1) /\ w'.cell? ⟨w.heap.size, 2, none⟩ = some (.int .i64 v2) /\ w'.cell? ⟨w.heap.size, 3, none⟩ = some (.int .i64 v3) /\ w'.cell? ⟨w.heap.size, 4, none⟩ = some (.int .i64 v4) /\ w'.cell? ⟨w.heap.size, 5, none⟩ = some (.slice a1 nv k1)) (go_keep)
  (first
    | (go_at_call 211
       with_reducible refine J3.mono ?_
       rintro e w4 ⟨rfl, s4⟩; have u4 := d3.trans (sM s4 d3.size); have S4 := S3.trans (sM u4 S3.size); have N4 := N3.keep u4; have j0 := N4.c0; have j1 := N4.c1; have j2 := N4.c2; have j3 := N4.c3; have j4 := N4.c4; have j5 := N4.c5; have J4 := yz3 7 false false false 4 7 v1 v2 v3 v4 a1 nv k1 n w4)
    | (go_at_call 95
       with_reducible refine J4.mono ?_
       rintro e w5 ⟨⟨r, rfl, hr⟩, s5⟩; have S5 := S4.trans (sM s5 S4.size); have N5 := N4.keep s5; have j0 := N5.c0; have j1 := N5.c1; have j2 := N5.c2; have j3 := N5.c3; have j4 := N5.c4; have j5 := N5.c5; have hS := hide hr; clear hr))
 cases r
 . have E := hide (xw0 (D := D) F.out (fun h => by have := hS.out.2 h; cases this))
   clear hS F; go_wp2; go_ret2; exact ⟨by rw [E.out]; unfold xv7; rw [E.out]; rfl, S5⟩
 have G := hide (show yw7 (xq1.mk 7 v1 v2 v3 v4 nv V) n from hS.out.1 rfl); clear hS; obtain ⟨j, hj⟩ : ∃ j : Nat, v1 = j := ⟨v1.toNat, by have h : 0 <= v1 := G.out.1; omega⟩; subst hj; have hjn : j < n := by have h : (j : Int) < n := G.out.2.1; omega
 obtain ⟨x, hx⟩ : ∃ x, D j = x := ⟨_, rfl⟩; have hDj := hD j hjn; rw [hx] at hDj; have h4 := hide (show nv = 4 from F.out.v7 rfl); obtain ⟨bV, oV, -, LV⟩ := (H.keep S5).LV
 have E1 : xq4 D n (xq1.mk 7 (j : Int) v2 v3 v4 nv V) = if (V 2).n = 0 then 15 else 0 := by
  rw [xz2 F.out G.out]
  by_cases h : (V 2).n = 0 <;> simp [xj3, hx, h]
 have E2 : xv7 D n (xq1.mk 7 (j : Int) v2 v3 v4 nv V) = if (V 2).n = 0 then 0 else x := by
  unfold xv7; rw [E1]
  by_cases h : (V 2).n = 0 <;> simp [xx4, hx, h]
 have J5 := dim7 7 v2 v3 v4 x j a1 nv k1 aD bD n cD D w5 (HD.keep S5) hjn hx hDj.1 hDj.2 lo bV oV V LV h4.out; rw [<- E1, <- E2] at J5; clear E1 E2; go_wp2_with fail; refine J5.mono ?_; rintro e w6 ⟨rfl, s6⟩; go_wp2; go_ret2; exact ⟨rfl, S5.trans (sM s6 S5.size)⟩
theorem dimOf_no (d : xq1) (a1 : Option Addr) (k1 m : Nat) (aD : Option Addr) (n cD : Nat) (D : Nat -> Int) (w : World) (K : xk6 w m) (hi : I64 d.op) (h : d.op < 1 ∨ 7 < d.op) :
 Calls Tryz.prog 54 #[.agg #[.int .i64 d.op, .int .i64 d.a, .int .i64 d.b, .int .i64 d.k, .int .i64 d.s, .slice a1 d.nv k1], .slice aD n cD, .map (some m)] w fun e w' => e = .returned (.tuple #[.int .i64 (xv7 D n d), .int .i64 (xq4 D n d)]) /\ w.Since w.heap.size w' := by
 have E := hide (xx6 (D := D) (i := n) (d := d) (fun f => by have := f.o1; have := f.o7; omega)); have sA := sal w (.cells #[.int .i64 d.op, .int .i64 d.a, .int .i64 d.b, .int .i64 d.k, .int .i64 d.s, .slice a1 d.nv k1] 84); go_enter Tryz.func54, Tryz.ntmps54; go_wp2_with fail; generalize w.alloc (.cells #[.int .i64 d.op, .int .i64 d.a, .int .i64 d.b, .int .i64 d.k, .int .i64 d.s, .slice a1 d.nv k1] 84) = wA at *; refine (operatorOf_no m d.op d.a d.b d.k d.s a1 d.nv k1 wA (K.keep sA) h hi).mono ?_; rintro e w1 ⟨rfl, s1⟩; have S1 := sA.trans (sM s1 sA.size); clear h hi; go_wp2_with fail; refine wp_region_held_drew (S := fun _ => True) (by kernel_rfl) trivial (fun hHeld => ?_); clear hHeld; refine xz6 0 (some 16) (.bool false) rfl (by kernel_rfl) (by kernel_rfl) (by kernel_rfl) (by kernel_rfl) (fun _ _ _ h => h) (by kernel_rfl) trivial ?_ ?_
 . intro w' hSw
   clear hSw
   kernel_rfl
 simp only [ap, la, lz, ls]; refine xz6 1 (some 17) (.bool true) rfl (by kernel_rfl) (by kernel_rfl) (by kernel_rfl) (by kernel_rfl) (fun _ _ _ h => h) (by kernel_rfl) trivial ?_ ?_
 . intro w' hSw
   clear hSw
   kernel_rfl
 simp only [ap, la, lz, ls]; refine xz6 2 (some 18) (.bool true) rfl (by kernel_rfl) (by kernel_rfl) (by kernel_rfl) (by kernel_rfl) (fun _ _ _ h => h) (by kernel_rfl) trivial ?_ ?_
 . intro w' hSw
   clear hSw
   kernel_rfl
 simp only [ap, la, lz, ls]; refine skip_at 3 (some 19) rfl (by kernel_rfl) (by kernel_rfl) (by kernel_rfl) (by kernel_rfl) (fun _ _ _ h => h) (by kernel_rfl) trivial ?_; simp only [ap, la, lz, ls]; refine skip_at 4 (some 20) rfl (by kernel_rfl) (by kernel_rfl) (by kernel_rfl) (by kernel_rfl) (fun _ _ _ h => h) (by kernel_rfl) trivial ?_; simp only [ap, la, lz, ls]; refine skip_at 5 (some 21) rfl (by kernel_rfl) (by kernel_rfl) (by kernel_rfl) (by kernel_rfl) (fun _ _ _ h => h) (by kernel_rfl) trivial ?_; simp only [ap, la, lz, ls]; refine skip_at 6 (some 22) rfl (by kernel_rfl) (by kernel_rfl) (by kernel_rfl) (by kernel_rfl) (fun _ _ _ h => h) (by kernel_rfl) trivial ?_; simp only [ap, la, lz, ls]; refine skip_at 7 (some 23) rfl (by kernel_rfl) (by kernel_rfl) (by kernel_rfl) (by kernel_rfl) (fun _ _ _ h => h) (by kernel_rfl) trivial ?_; simp only [ap, la, lz, ls]; refine xz6 8 (some 24) (.bool true) rfl (by kernel_rfl) (by kernel_rfl) (by kernel_rfl) (by kernel_rfl) (fun _ _ _ h => h) (by kernel_rfl) trivial ?_ ?_
 . intro w' hSw
   clear hSw
   kernel_rfl
 simp only [ap, la, lz, ls]; refine wpAnyH_done (by kernel_rfl) ?_ _; go_wp2; go_ret2; exact ⟨by rw [E.out]; unfold xv7; rw [E.out]; rfl, S1.drew⟩
theorem dimensionOf_any (d : xq1) (a1 : Option Addr) (lo k1 m : Nat) (aD : Option Addr) (bD n cD : Nat) (D : Nat -> Int) (w : World) (hw : 0 <= w.heap.size) (hT : Tab w) (K : xk6 w m) (hd : d.size <= 1048576) (H : NodL w lo d a1 k1) (HD : Ints w aD bD 0 n D) (hD : Dok D n) :
 Calls Tryz.prog 54 #[.agg #[.int .i64 d.op, .int .i64 d.a, .int .i64 d.b, .int .i64 d.k, .int .i64 d.s, .slice a1 d.nv k1], .slice aD n cD, .map (some m)] w fun e w' => e = .returned (.tuple #[.int .i64 (xv7 D n d), .int .i64 (xq4 D n d)]) /\ w.Since w.heap.size w' := by
 by_cases h : d.op < 1 ∨ 7 < d.op
 . exact dimOf_no d a1 k1 m aD n cD D w K H.iop h
 have hc : d.op = 1 ∨ d.op = 2 ∨ d.op = 3 ∨ d.op = 4 ∨ d.op = 5 ∨ d.op = 6 ∨ d.op = 7 := by omega
 clear h; obtain ⟨op, a, b, k, s, nv, V⟩ := d
 dsimp only at hc
 rcases hc with rfl | rfl | rfl | rfl | rfl | rfl | rfl
 . exact dimOf1 a b k s nv V a1 lo k1 m aD bD n cD D w hw hT K hd H HD hD
 . exact dimOf2 a b k s nv V a1 lo k1 m aD bD n cD D w hw hT K hd H HD hD
 . exact dimOf3 a b k s nv V a1 lo k1 m aD bD n cD D w hw hT K hd H HD hD
 . exact dimOf4 a b k s nv V a1 lo k1 m aD bD n cD D w hw hT K hd H HD hD
 . exact dimOf5 a b k s nv V a1 lo k1 m aD bD n cD D w hw hT K hd H HD hD
 . exact dimOf6 a b k s nv V a1 lo k1 m aD bD n cD D w hw hT K hd H HD hD
 . exact dimOf7 a b k s nv V a1 lo k1 m aD bD n cD D w hw hT K hd H HD hD
def Bq (lo : Nat) (w : World) (t x y z : Value) : Prop := ∃ c, t = .pointer (some ⟨c, 0, none⟩) /\ lo <= c /\ Box4 w c x y z (.slice none 0 0)
theorem Bq.keep {lo : Nat} {w w' : World} {t x y z : Value} (h : Bq lo w t x y z) (s : w.Since w.heap.size w') : Bq lo w' t x y z := by
 obtain ⟨c, h1, h2, h3⟩ := h; exact ⟨c, h1, h2, h3.keep s⟩
theorem Bq.marked {lo d : Nat} {w w' : World} {t x y z : Value} (h : Bq lo w t x y z) (s : xq0 w w' d) (hd : t ≠ .pointer (some ⟨d, 0, none⟩)) : Bq lo w' t x y z := by
 obtain ⟨c, h1, h2, h3⟩ := h; exact ⟨c, h1, h2, h3.marked s (fun e => hd (by rw [h1, e]))⟩
structure J8 (wA : World) (f f' : Bool) (A B A' B' : Value) (l0 l1 l2 l3 l4 l5 l6 l7 : Bool) (t5 t6 t7 t8 t9 t10 : Value) (w : World) : Prop where
 S : wA.Since wA.heap.size w
 h0 : l0 = true -> t7 = .agg #[.bool f, A, B]
 h1 : l1 = true -> t8 = .agg #[.bool f, A, B, .slice none 0 0]
 h2 : l2 = true -> t9 = .agg #[.bool f', A', B']
 h3 : l3 = true -> t10 = .agg #[.bool f', A', B', .slice none 0 0]
 h4 : l4 = true -> l6 = false -> Bq wA.heap.size w t5 (.bool false) (.slice none 0 0) (.slice none 0 0)
 h5 : l5 = true -> l7 = false -> Bq wA.heap.size w t6 (.bool false) (.slice none 0 0) (.slice none 0 0)
 h6 : l6 = true -> Bq wA.heap.size w t5 (.bool f) A B
 h7 : l7 = true -> Bq wA.heap.size w t6 (.bool f') A' B'
 ne : l4 = true -> l5 = true -> t5 ≠ t6
 b5 : l4 = true -> ∃ c, t5 = .pointer (some ⟨c, 0, none⟩) /\ c < w.heap.size
 b6 : l5 = true -> ∃ c, t6 = .pointer (some ⟨c, 0, none⟩) /\ c < w.heap.size
section
variable {wA : World} {f f' : Bool} {A B A' B' : Value} {l0 l1 l2 l3 l4 l5 l6 l7 : Bool} {t5 t6 t7 t8 t9 t10 : Value} {w w' : World}
theorem J8.grow (h : J8 wA f f' A B A' B' l0 l1 l2 l3 l4 l5 l6 l7 t5 t6 t7 t8 t9 t10 w) (s : w.Since w.heap.size w') : J8 wA f f' A B A' B' l0 l1 l2 l3 l4 l5 l6 l7 t5 t6 t7 t8 t9 t10 w' :=
 ⟨h.S.trans (since_mono s h.S.size), h.h0, h.h1, h.h2, h.h3, fun e e' => (h.h4 e e').keep s, fun e e' => (h.h5 e e').keep s, fun e => (h.h6 e).keep s, fun e => (h.h7 e).keep s, h.ne,
   fun e => (by obtain ⟨c, h1, h2⟩ := h.b5 e; exact ⟨c, h1, Nat.lt_of_lt_of_le h2 s.size⟩), fun e => (by obtain ⟨c, h1, h2⟩ := h.b6 e; exact ⟨c, h1, Nat.lt_of_lt_of_le h2 s.size⟩)⟩
theorem J8.start (wA : World) (f f' : Bool) (A B A' B' u5 u6 u7 u8 u9 u10 : Value) : J8 wA f f' A B A' B' false false false false false false false false u5 u6 u7 u8 u9 u10 wA :=
 ⟨.refl _ _, nofun, nofun, nofun, nofun, nofun, nofun, nofun, nofun, nofun, nofun, nofun⟩
theorem J8.op4 (h : J8 wA f f' A B A' B' l0 l1 l2 l3 l4 l5 false l7 t5 t6 t7 t8 t9 t10 w) (ty : TypeId) : J8 wA f f' A B A' B' l0 l1 l2 l3 true l5 false l7 (.pointer (some ⟨w.heap.size, 0, none⟩)) t6 t7 t8 t9 t10 (w.alloc (.cells #[.bool false, .slice none 0 0, .slice none 0 0, .slice none 0 0] ty)) :=
 have g := h.grow ((World.Since.refl _ _).alloc (Nat.le_refl _) (.cells #[.bool false, .slice none 0 0, .slice none 0 0, .slice none 0 0] ty))
 { g with
  h4 := fun _ _ => ⟨_, rfl, h.S.size, Box4.new _ _ _ _ _ _⟩
  h6 := nofun
  ne := fun _ e k => by
   obtain ⟨c, h1, h2⟩ := h.b6 e; rw [h1] at k; simp only [Value.pointer.injEq, Option.some.injEq, Addr.mk.injEq] at k; omega
  b5 := fun _ => ⟨_, rfl, by simp⟩ }
theorem J8.op5 (h : J8 wA f f' A B A' B' l0 l1 l2 l3 l4 l5 l6 false t5 t6 t7 t8 t9 t10 w) (ty : TypeId) : J8 wA f f' A B A' B' l0 l1 l2 l3 l4 true l6 false t5 (.pointer (some ⟨w.heap.size, 0, none⟩)) t7 t8 t9 t10 (w.alloc (.cells #[.bool false, .slice none 0 0, .slice none 0 0, .slice none 0 0] ty)) :=
 have g := h.grow ((World.Since.refl _ _).alloc (Nat.le_refl _) (.cells #[.bool false, .slice none 0 0, .slice none 0 0, .slice none 0 0] ty))
 { g with
  h5 := fun _ _ => ⟨_, rfl, h.S.size, Box4.new _ _ _ _ _ _⟩
  h7 := nofun
  ne := fun e _ k => by
   obtain ⟨c, h1, h2⟩ := h.b5 e; rw [h1] at k; simp only [Value.pointer.injEq, Option.some.injEq, Addr.mk.injEq] at k; omega
  b6 := fun _ => ⟨_, rfl, by simp⟩ }
theorem xq0.put3 (w : World) (c : Nat) (x y z : Value) : xq0 w (((w.setCell ⟨c, 0, none⟩ x).setCell ⟨c, 1, none⟩ y).setCell ⟨c, 2, none⟩ z) c :=
 (((xq0.refl w _).setCell 0 x).setCell 1 y).setCell 2 z
theorem xq0.put4 (w : World) (c : Nat) (x y z u : Value) : xq0 w ((((w.setCell ⟨c, 0, none⟩ x).setCell ⟨c, 1, none⟩ y).setCell ⟨c, 2, none⟩ z).setCell ⟨c, 3, none⟩ u) c :=
 ((((xq0.refl w _).setCell 0 x).setCell 1 y).setCell 2 z).setCell 3 u
theorem J8.op6 (h : J8 wA f f' A B A' B' l0 l1 l2 l3 true true false l7 t5 t6 t7 t8 t9 t10 w) {c : Nat} (e : t5 = .pointer (some ⟨c, 0, none⟩)) : J8 wA f f' A B A' B' l0 l1 l2 l3 true true true l7 t5 t6 t7 t8 t9 t10 ((((w.setCell ⟨c, 0, none⟩ (.bool f)).setCell ⟨c, 1, none⟩ A).setCell ⟨c, 2, none⟩ B).setCell ⟨c, 3, none⟩ (.slice none 0 0)) := by
 have M := xq0.put4 w c (.bool f) A B (.slice none 0 0); obtain ⟨c', e', hc, b⟩ := h.h4 rfl rfl; have : c' = c := by rw [e] at e'; simp only [Value.pointer.injEq, Option.some.injEq, Addr.mk.injEq] at e'; omega
 subst this; have hne : t6 ≠ .pointer (some ⟨c', 0, none⟩) := fun k => h.ne rfl rfl (by rw [e, k])
 have hs : ((((w.setCell ⟨c', 0, none⟩ (.bool f)).setCell ⟨c', 1, none⟩ A).setCell ⟨c', 2, none⟩ B).setCell ⟨c', 3, none⟩ (.slice none 0 0)).heap.size = w.heap.size := by simp
 exact ⟨h.S.trans (M.since hc), h.h0, h.h1, h.h2, h.h3, nofun, fun k k' => (h.h5 k k').marked M hne, fun _ => ⟨c', e, hc, (((b.set0 _).set1 _).set2 _).set3 _⟩, fun k => (h.h7 k).marked M hne, h.ne, by rw [hs]; exact h.b5, by rw [hs]; exact h.b6⟩
theorem J8.op7 (h : J8 wA f f' A B A' B' l0 l1 l2 l3 true true true false t5 t6 t7 t8 t9 t10 w) {c : Nat} (e : t6 = .pointer (some ⟨c, 0, none⟩)) : J8 wA f f' A B A' B' l0 l1 l2 l3 true true true true t5 t6 t7 t8 t9 t10 ((((w.setCell ⟨c, 0, none⟩ (.bool f')).setCell ⟨c, 1, none⟩ A').setCell ⟨c, 2, none⟩ B').setCell ⟨c, 3, none⟩ (.slice none 0 0)) := by
 have M := xq0.put4 w c (.bool f') A' B' (.slice none 0 0); obtain ⟨c', e', hc, b⟩ := h.h5 rfl rfl; have : c' = c := by rw [e] at e'; simp only [Value.pointer.injEq, Option.some.injEq, Addr.mk.injEq] at e'; omega
 subst this; have hne : t5 ≠ .pointer (some ⟨c', 0, none⟩) := fun k => h.ne rfl rfl (by rw [e, k])
 have hs : ((((w.setCell ⟨c', 0, none⟩ (.bool f')).setCell ⟨c', 1, none⟩ A').setCell ⟨c', 2, none⟩ B').setCell ⟨c', 3, none⟩ (.slice none 0 0)).heap.size = w.heap.size := by simp
 exact ⟨h.S.trans (M.since hc), h.h0, h.h1, h.h2, h.h3, nofun, nofun, fun _ => (h.h6 rfl).marked M hne, fun _ => ⟨c', e, hc, (((b.set0 _).set1 _).set2 _).set3 _⟩, h.ne, by rw [hs]; exact h.b5, by rw [hs]; exact h.b6⟩
end
theorem differenceOf_any (f f' : Bool) (a b a' b' : Option Addr) (ba oa n ca bb ob m cb ba' oa' n' ca' bb' ob' m' cb' : Nat) (X Y X' Y' : Nat -> Nat) (w : World) (hw : 0 <= w.heap.size) (hT : Tab w) (hn : n + n' + m + m' <= 16777216)
 (R : RIn w a b ba oa n ca bb ob m cb X Y) (R' : RIn w a' b' ba' oa' n' ca' bb' ob' m' cb' X' Y') (co : Nat.gcd (lv X n) (lv Y m) = 1) (co' : Nat.gcd (lv X' n') (lv Y' m') = 1) :
 Calls Tryz.prog 214 #[.agg #[.bool f, .slice a n ca, .slice b m cb], .agg #[.bool f', .slice a' n' ca', .slice b' m' cb']] w fun e w' => ∃ v, e = .returned v /\
  RatV w' v (xj9 f (!f') (lv X n * lv Y' m') (lv X' n' * lv Y m) && xq3 f (!f') (lv X n * lv Y' m') (lv X' n' * lv Y m) != 0) (xq3 f (!f') (lv X n * lv Y' m') (lv X' n' * lv Y m) / Nat.gcd (xq3 f (!f') (lv X n * lv Y' m') (lv X' n' * lv Y m)) (lv Y m * lv Y' m')) (lv Y m * lv Y' m' / Nat.gcd (xq3 f (!f') (lv X n * lv Y' m') (lv X' n' * lv Y m)) (lv Y m * lv Y' m')) w.heap.size 16777218 /\ w.Since w.heap.size w' := by
 have HCO := hide (gcd_add_shared f (!f') co co' R.den); obtain ⟨sv, hsv⟩ : ∃ sv, sv = Nat.gcd (lv Y m) (lv Y' m') := ⟨_, rfl⟩; have hs0 : 0 < sv := by rw [hsv]; exact Nat.gcd_pos_of_pos_left _ R.den
 have dY : lv Y m / sv * sv = lv Y m := by rw [hsv]; exact Nat.div_mul_cancel (Nat.gcd_dvd_left _ _)
 have dY' : lv Y' m' / sv * sv = lv Y' m' := by rw [hsv]; exact Nat.div_mul_cancel (Nat.gcd_dvd_right _ _)
 rw [<- hsv] at HCO; have eP : lv X n * lv Y' m' = lv X n * (lv Y' m' / sv) * sv := by rw [Nat.mul_assoc, dY']
 have eR : lv X' n' * lv Y m = lv X' n' * (lv Y m / sv) * sv := by rw [Nat.mul_assoc, dY]
 have eD : lv Y m * lv Y' m' = lv Y m * (lv Y' m' / sv) * sv := by rw [Nat.mul_assoc, dY']
 have hD1 : 0 < lv Y m * (lv Y' m' / sv) := Nat.mul_pos R.den (by rcases Nat.eq_zero_or_pos (lv Y' m' / sv) with e | e; (have h2 := R'.den; rw [e] at dY'; omega); exact e); rw [eP, eR, eD, sumTop_scale _ _ _ _ _ hs0, sumNeg_scale _ _ _ _ _ hs0, Nat.gcd_mul_right, Nat.mul_div_mul_right _ _ hs0, Nat.mul_div_mul_right _ _ hs0]
 have hnz : ∀ t : Nat, (t * sv != 0) = (t != 0) := fun t => by
  rcases Nat.eq_zero_or_pos t with e | e
  . subst e; simp
  . have h2 := Nat.mul_pos e hs0
    have h3 : (t * sv != 0) = true := bne_iff_ne.2 (by omega); have h4 : (t != 0) = true := bne_iff_ne.2 (by omega); rw [h3, h4]
 rw [hnz]; have HSV := hide hsv; have HD1 := hide hD1; clear co co' hsv dY dY' eP eR eD hnz hD1; obtain ⟨sA, zA, -, -, -⟩ := bx w (.bool f) (.slice a n ca) (.slice b m cb) (.bool f') (.slice a' n' ca') (.slice b' m' cb') (.bool false) (.slice none 0 0) (.slice none 0 0); have qA : Box3 (((w.alloc (.cells #[.bool f, .slice a n ca, .slice b m cb] 70)).alloc (.cells #[.bool f', .slice a' n' ca', .slice b' m' cb'] 70)).alloc (.cells #[.bool false, .slice none 0 0, .slice none 0 0] 70)) w.heap.size (.bool f) (.slice a n ca) (.slice b m cb) := ((Box3.new w _ _ _ _).keep ((World.Since.refl _ _).alloc (Nat.le_refl _) _)).keep ((World.Since.refl _ _).alloc (Nat.le_refl _) _); obtain ⟨-, -, -, pA, rA⟩ := bx w (.bool f) (.slice a n ca) (.slice b m cb) (.bool f') (.slice a' n' ca') (.slice b' m' cb') (.bool false) (.slice none 0 0) (.slice none 0 0); have m1 := R.m0; have m1' := R'.m0; go_enter Tryz.func214, Tryz.ntmps214; go_wp2_with fail; generalize ((w.alloc (.cells #[.bool f, .slice a n ca, .slice b m cb] 70)).alloc (.cells #[.bool f', .slice a' n' ca', .slice b' m' cb'] 70)).alloc (.cells #[.bool false, .slice none 0 0, .slice none 0 0] 70) = w1 at *; refine wp_region_any (by kernel_rfl) ?_
 change wpAny _ _ _ _ _ _ _ (World.drew _)
 have dr := sdr w1; replace qA := qA.keep dr; replace pA := pA.keep dr; replace rA := rA.keep dr; replace zA : w1.drew.heap.size = w.heap.size + 1 + 1 + 1 := zA; replace sA : w.Since w.heap.size w1.drew := sA.trans (sM dr sA.size); clear dr; generalize w1.drew = wD at *
 refine wpAny_inv (fun fuel l ac wx => ∃ l0 l1 l2 l3 l4 l5 l6 l7 t5 t6 t7 t8 t9 t10, l = #[l0, l1, l2, l3, l4, l5, l6, l7] /\ fuel = yq4 l0 l1 l2 l3 l4 l5 l6 l7 /\ okl l1 l3 l4 l5 l6 l7 = true /\
  ac = { tmps := #[.agg #[.bool f, .slice a n ca, .slice b m cb], .agg #[.bool f', .slice a' n' ca', .slice b' m' cb'], .pointer (some { block := w.heap.size, off := 0 }), .pointer (some { block := w.heap.size + 1, off := 0 }), .pointer (some { block := w.heap.size + 1 + 1, off := 0 }), t5, t6, t7, t8, t9, t10, undef, undef, undef, undef, undef, undef, undef], defers := [] } /\
  J8 wD f f' (.slice a n ca) (.slice b m cb) (.slice a' n' ca') (.slice b' m' cb') l0 l1 l2 l3 l4 l5 l6 l7 t5 t6 t7 t8 t9 t10 wx) ?_ ?_ ?_ _ _ _ _ ⟨_, _, _, _, _, _, _, _, _, _, _, _, _, _, rfl, rfl, rfl, rfl, J8.start _ _ _ _ _ _ _ _ _ _ _ _ _⟩
 . rintro fuel l ac wx ⟨l0, l1, l2, l3, l4, l5, l6, l7, t5, t6, t7, t8, t9, t10, rfl, hf, hk, rfl, j⟩ i hi
   have hr : rdy l0 l1 l2 l3 l4 l5 l6 l7 i = true := by
    revert i
    refine List.all_eq_true.1 ?_
    revert hk
    clear hf j
    revert l0 l1 l2 l3 l4 l5 l6 l7
    exact of_decide_eq_true (by kernel_rfl)
   have s := sA.trans (sM j.S sA.size); have q := qA.keep j.S; have p := pA.keep j.S; have k0 := q.c0; have k1 := q.c1; have k2 := q.c2; have k3 := p.c0; have k4 := p.c1; have k5 := p.c2; clear hi
   rcases i with _ | _ | _ | _ | _ | _ | _ | _ | i
   . simp [rdy] at hr
     subst hr; refine ⟨_, rfl, fun K hK => ?_⟩; go_simp; refine hK _ _ ⟨true, l1, l2, l3, l4, l5, l6, l7, t5, t6, _, t8, t9, t10, rfl, ?_, hk, rfl, { j with h0 := fun _ => rfl }⟩
     simp [yq4] at hf ⊢; omega
   . simp [rdy] at hr
     obtain ⟨⟨⟨rfl, rfl⟩, rfl⟩, rfl⟩ := hr; have e := j.h0 rfl; subst e; refine ⟨_, rfl, fun K hK => ?_⟩; go_simp; refine (xz7 f a b ba oa n ca bb ob m cb X Y wx (by omega) (by omega) R.nc R.mc (R.keep s).LX (R.keep s).LY R.pX R.pY).mono ?_; rintro e w' ⟨rfl, s'⟩; refine hK _ _ ⟨true, true, l2, false, l4, l5, false, l7, t5, t6, _, _, t9, t10, rfl, ?_, ?_, rfl, { j.grow s' with h1 := fun _ => rfl }⟩
     . simp [yq4] at hf ⊢; omega
     . simpa [okl] using hk
   . simp [rdy] at hr
     subst hr; refine ⟨_, rfl, fun K hK => ?_⟩; go_simp; refine hK _ _ ⟨l0, l1, true, l3, l4, l5, l6, l7, t5, t6, t7, t8, _, t10, rfl, ?_, hk, rfl, { j with h2 := fun _ => rfl }⟩
     simp [yq4] at hf ⊢; omega
   . simp [rdy] at hr
     obtain ⟨⟨⟨rfl, rfl⟩, rfl⟩, rfl⟩ := hr; have e := j.h2 rfl; subst e; refine ⟨_, rfl, fun K hK => ?_⟩; go_simp; refine (xz7 f' a' b' ba' oa' n' ca' bb' ob' m' cb' X' Y' wx (by omega) (by omega) R'.nc R'.mc (R'.keep s).LX (R'.keep s).LY R'.pX R'.pY).mono ?_; rintro e w' ⟨rfl, s'⟩; refine hK _ _ ⟨l0, true, true, true, l4, l5, l6, false, t5, t6, t7, t8, _, _, rfl, ?_, ?_, rfl, { j.grow s' with h3 := fun _ => rfl }⟩
     . simp [yq4] at hf ⊢; omega
     . revert hk; cases l6 <;> cases l4 <;> cases l5 <;> decide
   . simp [rdy] at hr
     obtain ⟨rfl, rfl⟩ := hr; refine ⟨_, rfl, fun K hK => ?_⟩; go_simp; refine hK _ _ ⟨l0, l1, l2, l3, true, l5, false, l7, _, t6, t7, t8, t9, t10, rfl, ?_, ?_, rfl, j.op4 129⟩
     . simp [yq4] at hf ⊢; omega
     . simpa [okl] using hk
   . simp [rdy] at hr
     obtain ⟨rfl, rfl⟩ := hr; refine ⟨_, rfl, fun K hK => ?_⟩; go_simp; refine hK _ _ ⟨l0, l1, l2, l3, l4, true, l6, false, t5, _, t7, t8, t9, t10, rfl, ?_, ?_, rfl, j.op5 129⟩
     . simp [yq4] at hf ⊢; omega
     . revert hk; cases l6 <;> cases l4 <;> cases l1 <;> cases l3 <;> decide
   . simp [rdy] at hr
     obtain ⟨⟨⟨⟨rfl, rfl⟩, rfl⟩, rfl⟩, rfl⟩ := hr; obtain ⟨c, e5, hc, bq⟩ := j.h4 rfl rfl; have e8 := j.h1 rfl; subst e5 e8; have c0 := bq.c0; have c1 := bq.c1; have c2 := bq.c2; have c3 := bq.c3; have f0 := bq.f 0; have f1 := bq.f 1; have f2 := bq.f 2; have f3 := bq.f 3; refine ⟨_, rfl, fun K hK => ?_⟩; go_simp; refine hK _ _ ⟨l0, true, l2, true, true, true, true, l7, _, t6, t7, _, t9, t10, rfl, ?_, ?_, rfl, j.op6 rfl⟩
     . simp [yq4] at hf ⊢; omega
     . simp [okl]
   . simp [rdy] at hr
     obtain ⟨⟨⟨rfl, rfl⟩, rfl⟩, rfl⟩ := hr; have l4t : l4 = true := by revert hk; cases l4 <;> cases l1 <;> decide
     subst l4t; obtain ⟨c, e5, hc, bq⟩ := j.h5 rfl rfl; have e8 := j.h3 rfl; subst e5 e8; have c0 := bq.c0; have c1 := bq.c1; have c2 := bq.c2; have c3 := bq.c3; have f0 := bq.f 0; have f1 := bq.f 1; have f2 := bq.f 2; have f3 := bq.f 3; refine ⟨_, rfl, fun K hK => ?_⟩; go_simp; refine hK _ _ ⟨l0, l1, l2, true, true, true, true, true, t5, _, t7, t8, t9, _, rfl, ?_, ?_, rfl, j.op7 rfl⟩
     . simp [yq4] at hf ⊢; omega
     . simpa [okl] using hk
   . cases hr
 . rintro l ac wx ⟨l0, l1, l2, l3, l4, l5, l6, l7, t5, t6, t7, t8, t9, t10, rfl, hf, hk, rfl, j⟩
   revert hf
   clear hk j
   revert l0 l1 l2 l3 l4 l5 l6 l7
   exact of_decide_eq_true (by kernel_rfl)
 . rintro fuel l ac wx ⟨l0, l1, l2, l3, l4, l5, l6, l7, t5, t6, t7, t8, t9, t10, rfl, hf, hk, rfl, j⟩ he
   have hall : (l0 && (l1 && (l2 && (l3 && (l4 && (l5 && (l6 && l7))))))) = true := by
    revert he
    clear hf j
    revert hk
    revert l0 l1 l2 l3 l4 l5 l6 l7
    exact of_decide_eq_true (by kernel_rfl)
   simp only [Bool.and_eq_true] at hall; obtain ⟨rfl, rfl, rfl, rfl, rfl, rfl, rfl, rfl⟩ := hall; have s := j.S; have e1 := j.h0 rfl; have e2 := j.h1 rfl; have e3 := j.h2 rfl; have e4 := j.h3 rfl; obtain ⟨c, e5, hc, Bf⟩ := j.h6 rfl; obtain ⟨d, e6, hd, Bg⟩ := j.h7 rfl; have hcd : c ≠ d := fun e => j.ne rfl rfl (by rw [e5, e6, e])
   subst e1 e2 e3 e4 e5 e6; have r4 := rA.keep s; have S4 := sA.trans (sM s sA.size); have lX : 0 < n -> ba < w.heap.size := R.LX.lt; have lY : 0 < m -> bb < w.heap.size := R.LY.lt; have lX' : 0 < n' -> ba' < w.heap.size := R'.LX.lt; have lY' : 0 < m' -> bb' < w.heap.size := R'.LY.lt; clear he hk hf j qA pA rA; have M : xq0 wx (wx.setCell ⟨d, 0, none⟩ (.bool (!f'))) d := (xq0.refl wx _).setCell 0 (.bool (!f')); have Bg2 := Bg.set0 (.bool (!f')); have Bf2 := Bf.marked M hcd; have r5 := r4.marked M (by omega); have S5 : w.Since w.heap.size (wx.setCell ⟨d, 0, none⟩ (.bool (!f'))) := S4.trans (M.since (by omega)); have g0 := Bg.c0; have fg0 := Bg.f 0; have g1 := Bg.c1; have g2 := Bg.c2; have g3 := Bg.c3; go_wp2_with fail; generalize wx.setCell ⟨d, 0, none⟩ (.bool (!f')) = w4 at *; have R4 := R.keep S5; have R4' := R'.keep S5; clear g0 g1 g2 g3 fg0 M r4
   refine (fracAdd_any c f (!f') a b a' b' ba oa n ca bb ob m cb ba' oa' n' ca' bb' ob' m' cb' X Y X' Y' w4 hn m1 m1' R4.LX R4.LY R4'.LX R4'.LY R.lX R.lY R'.lX R'.lY
    (fun h => by have := lX h; omega) (fun h => by have := lY h; omega) (fun h => by have := lX' h; omega) (fun h => by have := lY' h; omega) R.pY R'.pY R.mc R'.mc R.bc R'.bc R.den R'.den _ _ Bf2).mono ?_
   rw [<- HSV.out]; rintro e w5 ⟨rfl, v1, v2, v3, g, h, q, c5, K5, N5, D5, b5, b6, b7, b8, b9, O5⟩; have hcl := Bf2.lt; have r6 := r5.oth O5 (by omega); have S6 := S5.trans (sM (O5.since (by omega)) (show w.heap.size <= c by omega)); have T5 := hT.stay hw S6; clear R4 R4' R R' lX lY lX' lY'; have h4 := S5.size; go_wp2_with fail; refine (yj3 c _ v1 v2 v3 g h q _ _ _ (w.heap.size + 1 + 1 + 1) w5 (Nat.zero_le _) T5 c5 N5 D5 K5 HCO.out b7 b8 b9 (by omega) (by omega) (by omega) (by omega) (by omega) (by omega) HD1.out).mono ?_; rintro e w6 ⟨v, rfl, ⟨x1, x2, g6, h6, rfl, N6, D6, y1, y2, y3⟩, s6⟩; have rB := r6.since s6 (by omega); have N6' := N6; have D6' := D6; obtain ⟨a1, q1, c1, Y1, rfl, -⟩ := N6; obtain ⟨a2, q2, c2, Y2, rfl, -⟩ := D6; have S7 := S6.trans (sM s6 (by omega)); have u0 := rB.c0; have u1 := rB.c1; have u2 := rB.c2; have uf0 := rB.f 0; have uf1 := rB.f 1; have uf2 := rB.f 2; obtain ⟨neg, hneg⟩ : ∃ neg, (xj9 f (!f') (lv X n * (lv Y' m' / sv)) (lv X' n' * (lv Y m / sv)) && xq3 f (!f') (lv X n * (lv Y' m' / sv)) (lv X' n' * (lv Y m / sv)) != 0) = neg := ⟨_, rfl⟩; rw [hneg]; have hneg := hide hneg; go_wp2; have rC := ((rB.set0 (.bool neg)).set1 (.slice a1 q1 c1)).set2 (.slice a2 q2 c2); refine bodyPost_ret (rb3 rfl _ _ _ _ _ _ rfl rC) rfl ?_; have M : xq0 w6 _ (w.heap.size + 1 + 1) := (((xq0.refl w6 _).setCell 0 (.bool neg)).setCell 1 (.slice a1 q1 c1)).setCell 2 (.slice a2 q2 c2); exact ⟨_, rfl, ⟨_, _, g6, h6, by rw [hneg.out], N6'.marked M (by omega), D6'.marked M (by omega), by omega, by omega, y3⟩, S7.trans (M.since (by omega))⟩
theorem q_sub (p q : Rat) : qn (p - q) = (xj9 (qn p) (!qn q) (p.num.natAbs * q.den) (q.num.natAbs * p.den) && xq3 (qn p) (!qn q) (p.num.natAbs * q.den) (q.num.natAbs * p.den) != 0) /\
 (p - q).num.natAbs = xq3 (qn p) (!qn q) (p.num.natAbs * q.den) (q.num.natAbs * p.den) / Nat.gcd (xq3 (qn p) (!qn q) (p.num.natAbs * q.den) (q.num.natAbs * p.den)) (p.den * q.den) /\
 (p - q).den = p.den * q.den / Nat.gcd (xq3 (qn p) (!qn q) (p.num.natAbs * q.den) (q.num.natAbs * p.den)) (p.den * q.den) := by
 have h := q_add p (-q); rw [<- Rat.sub_eq_add_neg, Rat.neg_num, Rat.neg_den, Int.natAbs_neg] at h
 by_cases h0 : q.num.natAbs = 0
 . have e : q.num = 0 := by omega
   have e1 : qn (-q) = false := by unfold qn; rw [Rat.neg_num, e]; rfl
   have e2 : qn q = false := by unfold qn; rw [e]; rfl
   rw [e1, h0, Nat.zero_mul] at h; rw [e2, h0, Nat.zero_mul]; have t : xq3 (qn p) (!false) (p.num.natAbs * q.den) 0 = xq3 (qn p) false (p.num.natAbs * q.den) 0 := by cases qn p <;> simp [xq3]
   have u : xj9 (qn p) (!false) (p.num.natAbs * q.den) 0 = xj9 (qn p) false (p.num.natAbs * q.den) 0 := by cases qn p <;> simp [xj9]
   rw [t, u]; exact h
 . have e : qn (-q) = !qn q := by
    unfold qn; rw [Rat.neg_num]
    by_cases k : q.num < 0
    . simp [k]; omega
    . simp [k]; omega
   rw [e] at h; exact h
theorem differenceOf_q {v v' : Value} {p q : Rat} {k l : Nat} {w : World} (hw : 0 <= w.heap.size) (hT : Tab w) (hp : Qb p k) (hq : Qb q l) (hk : 2 * k + 2 * l <= 16777216) (R : RatR w v p) (R' : RatR w v' q) :
 Calls Tryz.prog 214 #[v, v'] w fun e w' => ∃ u, e = .returned u /\ xz4 w' (fun g => w.heap.size <= g) u (p - q) /\ w.Since w.heap.size w' := by
 obtain ⟨a, n, ca, b, m, cb, ba, oa, bb, ob, X, Y, rfl, R, x1, x2⟩ := R; obtain ⟨a', n', ca', b', m', cb', ba', oa', bb', ob', X', Y', rfl, R', y1, y2⟩ := R'; have n1 := xz3 R.pX (by rw [x1]; exact hp.1); have n2 := xz3 R.pY (by rw [x2]; exact hp.2); have n3 := xz3 R'.pX (by rw [y1]; exact hq.1); have n4 := xz3 R'.pY (by rw [y2]; exact hq.2); have J := differenceOf_any (qn p) (qn q) a b a' b' ba oa n ca bb ob m cb ba' oa' n' ca' bb' ob' m' cb' X Y X' Y' w hw hT (by omega) R R' (by rw [x1, x2]; exact p.reduced) (by rw [y1, y2]; exact q.reduced); obtain ⟨e1, e2, e3⟩ := q_sub p q; rw [x1, x2, y1, y2, <- e1, <- e2, <- e3] at J; refine J.mono ?_; rintro e w' ⟨u, rfl, RV, s⟩; exact ⟨u, rfl, RV.rp, s⟩
theorem l1Inv_any (f : Bool) (x y : Addr) (ba oa n ca bb ob m cb : Nat) (X Y : Nat -> Nat) (w : World) (hn : n <= 16777216) (hm : m <= 16777216) (hnc : n <= ca) (hmc : m <= cb) (hX : xq2 w (some x) ba oa n X) (hY : xq2 w (some y) bb ob m Y) :
 Calls Tryz.prog 129 #[.agg #[.bool f, .slice (some x) n ca, .slice (some y) m cb]] w fun e w' => ∃ a1 a2 g h c1 c2, e = .returned (.agg #[.bool f, .slice a2 m c2, .slice a1 n c1]) /\ n <= c1 /\ m <= c2 /\ (a1 = none -> c1 = 0) /\ (a2 = none -> c2 = 0) /\
  xq2 w' a1 g 0 n X /\ xq2 w' a2 h 0 m Y /\ w.heap.size <= g /\ g < h /\ h < w'.heap.size /\ w.Since w.heap.size w' := by
 have sA : w.Since w.heap.size ((w.alloc (.cells #[.bool f, .slice (some x) n ca, .slice (some y) m cb] 70)).alloc (.cells #[.bool false, .slice none 0 0, .slice none 0 0] 70)) := ((World.Since.refl _ _).alloc (Nat.le_refl _) _).alloc (by simp) _
 have rA : Box3 ((w.alloc (.cells #[.bool f, .slice (some x) n ca, .slice (some y) m cb] 70)).alloc (.cells #[.bool false, .slice none 0 0, .slice none 0 0] 70)) (w.heap.size + 1) (.bool false) (.slice none 0 0) (.slice none 0 0) := by
  have := Box3.new (w.alloc (.cells #[.bool f, .slice (some x) n ca, .slice (some y) m cb] 70)) (.bool false) (.slice none 0 0) (.slice none 0 0) 70
  simpa using this
 go_enter Tryz.func129, Tryz.ntmps129; go_wp2_with fail; generalize (w.alloc (.cells #[.bool f, .slice (some x) n ca, .slice (some y) m cb] 70)).alloc (.cells #[.bool false, .slice none 0 0, .slice none 0 0] 70) = w1 at *; refine (l1Copy_any f x y ba oa n ca bb ob m cb X Y w1 hn hm hnc hmc (hX.keep sA) (hY.keep sA)).mono ?_; rintro e w2 ⟨a1, a2, g, h, c1, c2, rfl, m1, m2, n1, n2, L1, L2, -, -, b1, b2, b3, s2⟩; have S2 := sA.trans (sM s2 sA.size); have z1 := rA.lt; have t3 := sal w2 (.cells #[.bool f, .slice a1 n c1, .slice a2 m c2] 70); have q3 := Box3.new w2 (.bool f) (.slice a1 n c1) (.slice a2 m c2) 70; have r3 := (rA.keep s2).keep t3; have k0 := q3.c0; have k1 := q3.c1; have k2 := q3.c2; have u0 := r3.c0; have u1 := r3.c1; have u2 := r3.c2; have uf0 := r3.f 0; have uf1 := r3.f 1; have uf2 := r3.f 2; have S3 := S2.trans (sM t3 S2.size); have z3 : (w2.alloc (.cells #[.bool f, .slice a1 n c1, .slice a2 m c2] 70)).heap.size = w2.heap.size + 1 := by simp
 have HZ := hide z3; clear z3; go_wp2; have rC := ((r3.set0 (.bool f)).set1 (.slice a2 m c2)).set2 (.slice a1 n c1); have M : xq0 (w2.alloc (.cells #[.bool f, .slice a1 n c1, .slice a2 m c2] 70)) _ (w.heap.size + 1) := (((xq0.refl (w2.alloc (.cells #[.bool f, .slice a1 n c1, .slice a2 m c2] 70)) _).setCell 0 (.bool f)).setCell 1 (.slice a2 m c2)).setCell 2 (.slice a1 n c1); refine bodyPost_ret (rb3 rfl _ _ _ _ _ _ rfl rC) rfl ?_; have hz := HZ.out; have zM := M.size; exact ⟨a1, a2, g, h, c1, c2, rfl, m1, m2, n1, n2, (L1.keep t3).marked M (fun _ => by omega), (L2.keep t3).marked M (fun _ => by omega), by omega, by omega, by omega, S3.trans (M.since (by omega))⟩
theorem qn_neg_eq (q : Rat) : qn (-q) = (!qn q && decide (0 < q.num.natAbs)) := by
 unfold qn; rw [Rat.neg_num]
 by_cases h : q.num < 0
 . have h1 : ¬ 0 < q.num := by omega
   simp [h]; omega
 . by_cases h2 : q.num = 0
   . simp [h2]
   . have h3 : 0 < q.num := by omega
     have h4 : 0 < q.num.natAbs := by omega
     simp [h, h4, h3]
theorem l1Sub_q {v v' : Value} {p q : Rat} {k l : Nat} {w : World} (hp : Qb p k) (hq : Qb q l) (hk : 2 * k + 2 * l <= 16777216) (R : RatR w v p) (R' : RatR w v' q) :
 Calls Tryz.prog 81 #[v, v'] w fun e w' => ∃ u, e = .returned u /\ xz4 w' (fun g => w.heap.size <= g) u (p - q) /\ w.Since w.heap.size w' := by
 obtain ⟨a, n, ca, b, m, cb, ba, oa, bb, ob, X, Y, rfl, R, x1, x2⟩ := R; obtain ⟨a', n', ca', b', m', cb', ba', oa', bb', ob', X', Y', rfl, R', y1, y2⟩ := R'; have n1 := xz3 R.pX (by rw [x1]; exact hp.1); have n2 := xz3 R.pY (by rw [x2]; exact hp.2); have n3 := xz3 R'.pX (by rw [y1]; exact hq.1); have n4 := xz3 R'.pY (by rw [y2]; exact hq.2); have J := l1Sub_opt (qn p) (qn q) a b a' b' ba oa n ca bb ob m cb ba' oa' n' ca' bb' ob' m' cb' X Y X' Y' w (by omega) R R' (R.ok x1 x2) (R'.ok y1 y2)
 have e0 : (!qn q && decide (0 < n')) = qn (-q) := by
  rw [qn_neg_eq]; have h := xw5 R'.pX; rw [y1] at h
  have : decide (0 < n') = decide (0 < q.num.natAbs) := by
   rw [decide_eq_decide]; omega
  rw [this]
 obtain ⟨e1, e2, e3⟩ := q_add p (-q); rw [<- Rat.sub_eq_add_neg, Rat.neg_num, Rat.neg_den, Int.natAbs_neg] at e1 e2 e3; rw [e0, x1, x2, y1, y2, <- e1, <- e2, <- e3] at J; refine J.mono ?_; rintro e w' ⟨u, rfl, RV, s⟩; exact ⟨u, rfl, RV.rp, s⟩
theorem l1Inv_q {v : Value} {q : Rat} {k : Nat} {w : World} (hq : Qb q k) (hk : k <= 4194304) (h0 : q.num.natAbs ≠ 0) (R : RatR w v q) :
 Calls Tryz.prog 129 #[v] w fun e w' => ∃ u, e = .returned u /\ xz4 w' (fun g => w.heap.size <= g) u q⁻¹ /\ w.Since w.heap.size w' := by
 obtain ⟨a, n, ca, b, m, cb, ba, oa, bb, ob, X, Y, rfl, R, x1, x2⟩ := R; have n1 := xz3 R.pX (by rw [x1]; exact hq.1); have n2 := xz3 R.pY (by rw [x2]; exact hq.2)
 have n3 : 0 < n := by
  rcases Nat.eq_zero_or_pos n with e | e
  . exact absurd ((xw5 R.pX).1 e) (by rw [x1]; exact h0)
  . exact e
 have ea := (R.LX 0 n3).1; have eb := (R.LY 0 R.m0).1; subst ea eb; obtain ⟨e1, e2, e3⟩ := q_inv q h0; refine (l1Inv_any (qn q) _ _ ba oa n ca bb ob m cb X Y w (by omega) (by omega) R.nc R.mc R.LX R.LY).mono ?_; rintro e w' ⟨a1, a2, g, h, c1, c2, rfl, i1, i2, i3, i4, L1, L2, i5, i6, i7, s⟩; exact ⟨_, rfl, ⟨a2, m, c2, a1, n, c1, h, 0, g, 0, Y, X, by rw [e1], ⟨i2, i1, i4, i3, L2, L1, R.lY, R.lX, R.pY, R.pX, n3⟩, by rw [e2]; exact x2, by rw [e3]; exact x1, fun _ => by omega, fun _ => i5⟩, s⟩
theorem xj5.part {w : World} {p : Nat -> Prop} {a : Option Addr} {b off n : Nat} {Q : Nat -> Rat} (h : xj5 w p a b off n Q) {F k : Nat} (hk : F + k <= n) : xj5 w p (some ⟨b, off + F * 3, none⟩) b (off + F * 3) k (fun t => Q (F + t)) := fun i hi => by
 obtain ⟨-, x, y, C⟩ := h (F + i) (by omega); refine ⟨rfl, x, y, ?_⟩; rw [show off + F * 3 + i * 3 = off + (F + i) * 3 by omega]; exact C
theorem denseVector (v0 v2 v4 : Int) (j m l : Nat) (bW oW nv k1 : Nat) (W : Nat -> Rat) (aV : Option Addr) (bV oV n cV : Nat) (D : Nat -> Nat) (V : Nat -> Nat -> Rat) (w : World) (p : Nat -> Prop) (hp : ∀ g, w.heap.size <= g -> p g) (hw : 0 <= w.heap.size) (hT : Tab w) (HW : xj5 w p (some ⟨bW, oW, none⟩) bW oW nv W) (hk1 : nv <= k1) (HV : Vecs w p aV bV oV n D V) (hj : j < n) (ej : D j = l) (hm : m <= 1000) (hl : l <= 1000) (hnv : nv = m * (l + 1))
 (qw : ∀ e, e < nv -> Qb (W e) 1048640) (qj : ∀ e, e < l -> Qb (V j e) 1048640) (qs : ∀ r, r < m -> ∀ k, k <= l -> Qb (psum (W (r * (l + 1) + l)) (fun t => W (r * (l + 1) + t)) (V j) k) 1048640) :
 Calls Tryz.prog 193 #[.agg #[.int .i64 v0, .int .i64 (j : Int), .int .i64 v2, .int .i64 (m : Int), .int .i64 v4, .slice (some ⟨bW, oW, none⟩) nv k1], .slice aV n cV] w fun e w' => ∃ c, e = .returned (.slice (some ⟨c, 0, none⟩) m m) /\ w.heap.size <= c /\ xj5 w' (fun g => g ≠ c /\ p g) (some ⟨c, 0, none⟩) c 0 m (fun r => psum (W (r * (l + 1) + l)) (fun t => W (r * (l + 1) + t)) (V j) l) /\ w.Since w.heap.size w' := by
 have hmk := xz8 (P := Tryz.prog) 28 70 _ 3 56 Tryz.underlying28 yq0 .i64 .i64 m (by omega) (by omega); have sA := sal w (.cells #[.int .i64 v0, .int .i64 (j : Int), .int .i64 v2, .int .i64 (m : Int), .int .i64 v4, .slice (some ⟨bW, oW, none⟩) nv k1] 133); have zA : (w.alloc (.cells #[.int .i64 v0, .int .i64 (j : Int), .int .i64 v2, .int .i64 (m : Int), .int .i64 v4, .slice (some ⟨bW, oW, none⟩) nv k1] 133)).heap.size = w.heap.size + 1 := by simp
 have bA := Box6.new w (.int .i64 v0) (.int .i64 (j : Int)) (.int .i64 v2) (.int .i64 (m : Int)) (.int .i64 v4) (.slice (some ⟨bW, oW, none⟩) nv k1) 133; obtain ⟨eV, aj, bj, oj, cj, gj0, hcj, QJ⟩ := HV j hj; subst eV; rw [ej] at gj0 hcj QJ; have gj := (sA.cell (a := ⟨bV, oV + j, none⟩) (World.block_lt_of_cell? _ _ gj0)).trans gj0; have hz1 : (j : Int) < (n : Int) := by omega
 have sB : (w.alloc (.cells #[.int .i64 v0, .int .i64 (j : Int), .int .i64 v2, .int .i64 (m : Int), .int .i64 v4, .slice (some ⟨bW, oW, none⟩) nv k1] 133)).Since (w.alloc (.cells #[.int .i64 v0, .int .i64 (j : Int), .int .i64 v2, .int .i64 (m : Int), .int .i64 v4, .slice (some ⟨bW, oW, none⟩) nv k1] 133)).heap.size ((w.alloc (.cells #[.int .i64 v0, .int .i64 (j : Int), .int .i64 v2, .int .i64 (m : Int), .int .i64 v4, .slice (some ⟨bW, oW, none⟩) nv k1] 133)).alloc (.cells (madeCells #[.bool false, .slice none 0 0, .slice none 0 0] (m * 3)) 70)) := (World.Since.refl _ _).alloc (Nat.le_refl _) _; have rB := Room.new (w.alloc (.cells #[.int .i64 v0, .int .i64 (j : Int), .int .i64 v2, .int .i64 (m : Int), .int .i64 v4, .slice (some ⟨bW, oW, none⟩) nv k1] 133)) #[.bool false, .slice none 0 0, .slice none 0 0] (m * 3) 70; rw [zA] at rB; have BB := bA.keep sB; have SB := sA.trans (sM sB sA.size); have HNV := hide hnv; have hnb : nv <= 1000 * 1001 := by rw [hnv]; exact Nat.mul_le_mul hm (by omega)
 clear hnv; go_enter Tryz.func193, Tryz.ntmps193; go_wp2_with fail; generalize (w.alloc (.cells #[.int .i64 v0, .int .i64 (j : Int), .int .i64 v2, .int .i64 (m : Int), .int .i64 v4, .slice (some ⟨bW, oW, none⟩) nv k1] 133)).alloc (.cells (madeCells #[.bool false, .slice none 0 0, .slice none 0 0] (m * 3)) 70) = wB at *; clear sB gj bA
 go_loopw [21] (fun u wr => ∃ k : Nat, k <= m /\ u = .int .i64 k /\ w.Since w.heap.size wr /\ Box6 wr w.heap.size (.int .i64 v0) (.int .i64 (j : Int)) (.int .i64 v2) (.int .i64 (m : Int)) (.int .i64 v4) (.slice (some ⟨bW, oW, none⟩) nv k1) /\ Room wr (w.heap.size + 1) (m * 3) /\ xj5 wr (fun g => g ≠ w.heap.size + 1 /\ p g) (some ⟨w.heap.size + 1, 0, none⟩) (w.heap.size + 1) 0 k (fun r => psum (W (r * (l + 1) + l)) (fun t => W (r * (l + 1) + t)) (V j) l)) (fun u _ => m - (intOf u).toNat)
 case atStart => exact ⟨0, Nat.zero_le _, rfl, SB, BB, rB, fun i hi => absurd hi (by omega)⟩
 case round =>
  obtain ⟨k, hk, rfl, s, B, r, T⟩ := hrel
  by_cases hlt : k < m
  . obtain ⟨F, hF⟩ : ∃ F, F = k * (l + 1) := ⟨_, rfl⟩
    have hFl : F + (l + 1) <= nv := by rw [HNV.out, hF, <- Nat.succ_mul]; exact Nat.mul_le_mul_right _ hlt
    have eF : (k : Int) * ((l : Int) + 1) = (F : Int) := by rw [hF, Int.natCast_mul]; rfl
    have HF := hide hF; clear hF; obtain ⟨-, xb, yb, CB⟩ := HW (F + l) (by omega); obtain ⟨aa, na, ca, ba, ma, da, -, -, -, -, -, -, ea, -⟩ := CB.R; simp only [Value.agg.injEq, Array.mk.injEq, List.cons.injEq, and_true, true_and] at ea; obtain ⟨rfl, rfl⟩ := ea; have hz : (k : Int) < (m : Int) := by omega
    have p5 := B.c5; have l1 := CB.lt; have rl := r.lt; have f1 : (F : Int) <= (nv : Int) := by omega
    have f2 : (F : Int) <= (k1 : Int) := by omega
    have f3 : (nv : Int) <= (k1 : Int) := by omega
    have f4 : ¬ (k1 : Int) - (F : Int) = 0 := by omega
    have eo : oW + (F + l) * 3 = oW + F * 3 + l * 3 := by omega
    have dr := sdr wr; have sd := s.trans (sM dr s.size); have g0 := (CB.keep s).c0; have g1 := (CB.keep s).c1; have g2 := (CB.keep s).c2; rw [eo] at g0 g1 g2; have f5 : (l : Int) < ((nv - F : Nat) : Int) := by omega
    have f6 : (l : Int) <= ((k1 - F : Nat) : Int) := by omega
    have ne1 : w.heap.size + 1 ≠ bW := by omega
    have J1 := weighedSum_any (K := 1048640) (fun g => g ≠ w.heap.size + 1 /\ p g) (W (F + l)) (.slice aa na ca) (.slice ba ma da) (some ⟨bW, oW + F * 3, none⟩) aj bW (oW + F * 3) l (k1 - F) bj oj l cj (fun t => W (F + t)) (V j) wr.drew (Nat.zero_le _) (hT.stay hw sd) (fun g hg => by have : wr.drew.heap.size = wr.heap.size := rfl; exact ⟨by omega, hp g (by have := s.size; omega)⟩)
     ((CB.R.imp (p' := fun g => g ≠ w.heap.size + 1 /\ p g) (fun g hg hx => ⟨by omega, hx⟩)).keep sd) ((HW.part (by omega)).imp (fun _ _ _ => trivial) |>.keep sd) ((QJ.imp (fun _ _ _ => trivial)).keep sd) (Nat.le_refl _) (by omega)
     (fun t ht => by have := qs k hlt t ht; rw [<- HF.out] at this; exact this) (fun t ht => qw _ (by omega)) (fun t ht => qj t ht)
    go_wp2_with fail
    go_region_held3 (fun w' => w'.cell? ⟨bW, oW + F * 3 + l * 3, none⟩ = some (.bool (qn (W (F + l)))) /\ w'.cell? ⟨bW, oW + F * 3 + l * 3 + 1, none⟩ = some (.slice aa na ca) /\ w'.cell? ⟨bW, oW + F * 3 + l * 3 + 2, none⟩ = some (.slice ba ma da)) (go_keep)
     (first
       | (go_at_call 73
          with_reducible refine J1.mono ?_
          rintro e w5 ⟨x5, y5, rfl, R5, s5⟩; have R6 := R5; obtain ⟨a6, n6, c6, b6, m6, d6, -, -, -, -, -, -, e6, -⟩ := R6; simp only [Value.agg.injEq, Array.mk.injEq, List.cons.injEq, and_true, true_and] at e6; obtain ⟨rfl, rfl⟩ := e6; have u5 := dr.trans (sM s5 dr.size); have S5 := s.trans (sM u5 s.size); have r5 := r.keep u5; have i0 := (CB.keep S5).c0; have i1 := (CB.keep S5).c1; have i2 := (CB.keep S5).c2; rw [eo] at i0 i1 i2; obtain ⟨v0', y0'⟩ := r5.cell (k * 3) (by omega); obtain ⟨v1', y1'⟩ := r5.cell (k * 3 + 1) (by omega); obtain ⟨v2', y2'⟩ := r5.cell (k * 3 + 2) (by omega); have h0 := r5.f (k * 3); have h1 := r5.f (k * 3 + 1); have h2 := r5.f (k * 3 + 2)))
    all_goals go_wp2
    all_goals go_roundw
    case rel =>
     go_light; obtain ⟨w7, e7, M7, R7, x0, x1, x2, xo⟩ := put3 (q := k * 3) r5 (by omega) (.bool (qn (psum (W (F + l)) (fun t => W (F + t)) (V j) l))) (.slice a6 n6 c6) (.slice b6 m6 d6); rw [<- e7]; rw [HF.out] at R5 x0; exact ⟨k + 1, by omega, by go_num, S5.trans (M7.since (by omega)), (B.keep u5).marked M7 (by omega), R7, (T.keep u5).putP M7 (fun o ho => xo o (by omega)) R5 x0 x1 x2⟩
    case measure => simp [intOf]; omega
  . have e : k = m := by omega
    subst e; go_wp2; go_ret; exact ⟨w.heap.size + 1, rfl, by omega, T, s⟩
theorem addVector (v0 v3 v4 : Int) (i j : Nat) (a1 : Option Addr) (nv k1 : Nat) (aV : Option Addr) (bV oV n cV m : Nat) (D : Nat -> Nat) (V : Nat -> Nat -> Rat) (w : World) (p : Nat -> Prop) (hp : ∀ g, w.heap.size <= g -> p g) (hw : 0 <= w.heap.size) (hT : Tab w) (HV : Vecs w p aV bV oV n D V) (hj : j < n) (hi : i < n) (ej : D j = m) (ei : D i = m) (hm : m <= 1048576)
 (qj : ∀ e, e < m -> Qb (V j e) 1048640) (qi : ∀ e, e < m -> Qb (V i e) 1048640) :
 Calls Tryz.prog 202 #[.agg #[.int .i64 v0, .int .i64 (j : Int), .int .i64 (i : Int), .int .i64 v3, .int .i64 v4, .slice a1 nv k1], .slice aV n cV] w fun e w' => ∃ c, e = .returned (.slice (some ⟨c, 0, none⟩) m m) /\ w.heap.size <= c /\ xj5 w' (fun g => g ≠ c /\ p g) (some ⟨c, 0, none⟩) c 0 m (fun e => V j e + V i e) /\ w.Since w.heap.size w' := by
 have hmk := xz8 (P := Tryz.prog) 28 70 _ 3 56 Tryz.underlying28 yq0 .i64 .i64 m (by omega) (by omega); have sA := sal w (.cells #[.int .i64 v0, .int .i64 (j : Int), .int .i64 (i : Int), .int .i64 v3, .int .i64 v4, .slice a1 nv k1] 137); have zA : (w.alloc (.cells #[.int .i64 v0, .int .i64 (j : Int), .int .i64 (i : Int), .int .i64 v3, .int .i64 v4, .slice a1 nv k1] 137)).heap.size = w.heap.size + 1 := by simp
 have bA := Box6.new w (.int .i64 v0) (.int .i64 (j : Int)) (.int .i64 (i : Int)) (.int .i64 v3) (.int .i64 v4) (.slice a1 nv k1) 137; have q1 := bA.c1; have q2 := bA.c2; obtain ⟨eV, aj, bj, oj, cj, gj0, hcj, QJ⟩ := HV j hj; obtain ⟨-, ai, bi, oi, ci, gi0, hci, QI⟩ := HV i hi; subst eV; rw [ej] at gj0 hcj QJ; rw [ei] at gi0 hci QI; have gj := (sA.cell (a := ⟨bV, oV + j, none⟩) (World.block_lt_of_cell? _ _ gj0)).trans gj0; have gi := (sA.cell (a := ⟨bV, oV + i, none⟩) (World.block_lt_of_cell? _ _ gi0)).trans gi0; have hz1 : (j : Int) < (n : Int) := by omega
 have hz2 : (i : Int) < (n : Int) := by omega
 go_enter Tryz.func202, Tryz.ntmps202; go_wp2_with fail; generalize w.alloc (.cells #[.int .i64 v0, .int .i64 (j : Int), .int .i64 (i : Int), .int .i64 v3, .int .i64 v4, .slice a1 nv k1] 137) = wA at *
 go_region
 go_wp2_with fail; have sB : wA.Since wA.heap.size (wA.alloc (.cells (madeCells #[.bool false, .slice none 0 0, .slice none 0 0] (m * 3)) 70)).drew := ((World.Since.refl _ _).alloc (Nat.le_refl _) _).drew; have rB := (Room.new wA #[.bool false, .slice none 0 0, .slice none 0 0] (m * 3) 70).keep ((World.Since.refl _ _).drew); rw [zA] at rB; have SB := sA.trans (sM sB sA.size); generalize (wA.alloc (.cells (madeCells #[.bool false, .slice none 0 0, .slice none 0 0] (m * 3)) 70)).drew = wB at *; clear q1 q2 bA gj gi
 go_loopw [26] (fun u wr => ∃ k : Nat, k <= m /\ u = .int .i64 k /\ w.Since w.heap.size wr /\ Room wr (w.heap.size + 1) (m * 3) /\ xj5 wr (fun g => g ≠ w.heap.size + 1 /\ p g) (some ⟨w.heap.size + 1, 0, none⟩) (w.heap.size + 1) 0 k (fun e => V j e + V i e)) (fun u _ => m - (intOf u).toNat)
 case atStart => exact ⟨0, Nat.zero_le _, rfl, SB, rB, fun i hi => absurd hi (by omega)⟩
 case round =>
  obtain ⟨k, hk, rfl, s, r, T⟩ := hrel
  by_cases hlt : k < m
  . obtain ⟨e1, x1, y1, C1⟩ := QJ k hlt
    obtain ⟨e2, x2, y2, C2⟩ := QI k hlt; subst e1 e2; have hz : (k : Int) < (m : Int) := by omega
    obtain ⟨aa, na, ca, ba, ma, da, -, -, -, -, -, -, ea, -⟩ := C1.R; obtain ⟨ab, nb, cb, bb, mb, db, -, -, -, -, -, -, eb, -⟩ := C2.R; simp only [Value.agg.injEq, Array.mk.injEq, List.cons.injEq, and_true, true_and] at ea eb; obtain ⟨rfl, rfl⟩ := ea; obtain ⟨rfl, rfl⟩ := eb; have dr := sdr wr; have sd := s.trans (sM dr s.size); have J1 := sumOf_q (Nat.zero_le _) (hT.stay hw sd) (qj k hlt) (qi k hlt) (by omega) (C1.keep sd).R.read (C2.keep sd).R.read; have g0 := (C1.keep s).c0; have g1 := (C1.keep s).c1; have g2 := (C1.keep s).c2; have h0 := (C2.keep s).c0; have h1 := (C2.keep s).c1; have h2 := (C2.keep s).c2; have l1 := C1.lt; have l2 := C2.lt; have rl := r.lt; have ne1 : w.heap.size + 1 ≠ bj := by omega
    have ne2 : w.heap.size + 1 ≠ bi := by omega
    go_wp2_with fail
    go_region_held3 (fun w' => w'.cell? ⟨bj, oj + k * 3, none⟩ = some (.bool (qn (V j k))) /\ w'.cell? ⟨bj, oj + k * 3 + 1, none⟩ = some (.slice aa na ca) /\ w'.cell? ⟨bj, oj + k * 3 + 2, none⟩ = some (.slice ba ma da) /\ w'.cell? ⟨bi, oi + k * 3, none⟩ = some (.bool (qn (V i k))) /\ w'.cell? ⟨bi, oi + k * 3 + 1, none⟩ = some (.slice ab nb cb) /\ w'.cell? ⟨bi, oi + k * 3 + 2, none⟩ = some (.slice bb mb db)) (go_keep)
     (first
       | (go_at_call 143
          with_reducible refine J1.mono ?_
          rintro e w5 ⟨u5, rfl, R5, s5⟩; have R6 := R5; obtain ⟨a6, n6, c6, b6, m6, d6, -, -, -, -, -, -, e6, -⟩ := R6; subst e6; have u5 := dr.trans (sM s5 dr.size); have S5 := s.trans (sM u5 s.size); have r5 := r.keep u5; have i0 := (C1.keep S5).c0; have i1 := (C1.keep S5).c1; have i2 := (C1.keep S5).c2; have j0 := (C2.keep S5).c0; have j1 := (C2.keep S5).c1; have j2 := (C2.keep S5).c2; obtain ⟨v0', y0'⟩ := r5.cell (k * 3) (by omega); obtain ⟨v1', y1'⟩ := r5.cell (k * 3 + 1) (by omega); obtain ⟨v2', y2'⟩ := r5.cell (k * 3 + 2) (by omega); have f0 := r5.f (k * 3); have f1 := r5.f (k * 3 + 1); have f2 := r5.f (k * 3 + 2)))
    all_goals go_wp2
    all_goals go_roundw
    case rel =>
     go_light; obtain ⟨w7, e7, M7, R7, x0, x1, x2, xo⟩ := put3 (q := k * 3) r5 (by omega) (.bool (qn (V j k + V i k))) (.slice a6 n6 c6) (.slice b6 m6 d6); rw [<- e7]; have R9 : xz4 w5 (fun g => g ≠ w.heap.size + 1 /\ p g) (.agg #[.bool (qn (V j k + V i k)), .slice a6 n6 c6, .slice b6 m6 d6]) (V j k + V i k) := R5.imp (fun g _ hg => by have hg' : wr.drew.heap.size <= g := hg; have : wr.drew.heap.size = wr.heap.size := rfl; exact ⟨by omega, hp g (by have := s.size; omega)⟩); exact ⟨k + 1, by omega, by go_num, S5.trans (M7.since (by omega)), R7, (T.keep u5).putP M7 (fun o ho => xo o (by omega)) R9 x0 x1 x2⟩
    case measure => simp [intOf]; omega
  . have e : k = m := by omega
    subst e; go_wp2; go_ret; exact ⟨w.heap.size + 1, rfl, by omega, T, s⟩
end Go.Proofs.YthaomfabdghfjaaGreat
