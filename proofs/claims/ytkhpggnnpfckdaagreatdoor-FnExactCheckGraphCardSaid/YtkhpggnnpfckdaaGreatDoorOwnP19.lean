import Derived.Test.YtkhpggnnpfckdaaGreatDoorOwnP18
import Derived.Test.YtkhpggnnpfckdaaGreatDoorOwnP3
import Derived.Test.YtkhpggnnpfckdaaGreatDoorOwnP16
import Derived.Test.YtkhpggnnpfckdaaGreatDoorOwnP9
namespace Go.Proofs.YtkhpggnnpfckdaaGreatDoor
open Go.RowKit

set_option maxHeartbeats 6400000 in
set_option maxRecDepth 100000 in
theorem dimOf7 (v1 v2 v3 v4 : Int) (nv : Nat) (V : Nat → RatD) (a1 : Option Addr) (lo k1 m : Nat) (aD : Option Addr) (bD n cD : Nat) (D : Nat → Int) (w : World) (hw : 0 < w.heap.size) (hT : Tab w) (K : Kinds w m) (hd : (NodeD.mk 7 v1 v2 v3 v4 nv V).size ≤ 1048576) (H : NodL w lo (NodeD.mk 7 v1 v2 v3 v4 nv V) a1 k1) (HD : Ints w aD bD 0 n D) (hD : Dok D n) :
    Calls Tryz.prog 54 #[.agg #[.int .i64 7, .int .i64 v1, .int .i64 v2, .int .i64 v3, .int .i64 v4, .slice a1 nv k1], .slice aD n cD, .map (some m)] w fun e w' => e = .returned (.tuple #[.int .i64 (dimOr D n (NodeD.mk 7 v1 v2 v3 v4 nv V)), .int .i64 (nodeCode D n (NodeD.mk 7 v1 v2 v3 v4 nv V))]) ∧ w.Since w.heap.size w' := by
  have sA : w.Since w.heap.size (w.alloc (.cells #[.int .i64 7, .int .i64 v1, .int .i64 v2, .int .i64 v3, .int .i64 v4, .slice a1 nv k1] 84)) := (World.Since.refl _ _).alloc (Nat.le_refl _) _
  have nA := Box6.new w (.int .i64 7) (.int .i64 v1) (.int .i64 v2) (.int .i64 v3) (.int .i64 v4) (.slice a1 nv k1) 84
  have hm1 : ∀ w : World, (method 313 140 (.agg #[.int .i64 7, .int .i64 v1, .int .i64 v2, .int .i64 v3, .int .i64 v4, .slice a1 nv k1]) "loop.example/s0015/impl.form").run Tryz.prog w = .ok (207, .agg #[.int .i64 7, .int .i64 v1, .int .i64 v2, .int .i64 v3, .int .i64 v4, .slice a1 nv k1]) w := fun _ => by kernel_rfl
  have hm2 : ∀ w : World, (method 313 140 (.agg #[.int .i64 7, .int .i64 v1, .int .i64 v2, .int .i64 v3, .int .i64 v4, .slice a1 nv k1]) "loop.example/s0015/impl.dimension").run Tryz.prog w = .ok (206, .agg #[.int .i64 7, .int .i64 v1, .int .i64 v2, .int .i64 v3, .int .i64 v4, .slice a1 nv k1]) w := fun _ => by kernel_rfl
  go_enter Tryz.func54, Tryz.ntmps54
  go_wp2_with fail
  generalize w.alloc (.cells #[.int .i64 7, .int .i64 v1, .int .i64 v2, .int .i64 v3, .int .i64 v4, .slice a1 nv k1] 84) = wA at *
  refine (operatorOf7 m v1 v2 v3 v4 a1 nv k1 wA (K.keep sA)).mono ?_
  rintro e w1 ⟨rfl, s1⟩
  have d1 : w1.Since w1.heap.size w1.drew := (World.Since.refl _ _).drew
  have S1 : w.Since w.heap.size w1 := sA.trans (sinceMono s1 sA.size)
  have N1 := nA.keep s1
  have J1 := form7 7 v1 v2 v3 v4 a1 nv k1 w1.drew
  have q0 := N1.c0
  have q1 := N1.c1
  have q2 := N1.c2
  have q3 := N1.c3
  have q4 := N1.c4
  have q5 := N1.c5
  go_wp2_with fail
  go_region_held3 (fun w' => w'.cell? ⟨w.heap.size, 0, none⟩ = some (.int .i64 7) ∧ w'.cell? ⟨w.heap.size, 1, none⟩ = some (.int .i64 v1) ∧ w'.cell? ⟨w.heap.size, 2, none⟩ = some (.int .i64 v2) ∧ w'.cell? ⟨w.heap.size, 3, none⟩ = some (.int .i64 v3) ∧ w'.cell? ⟨w.heap.size, 4, none⟩ = some (.int .i64 v4) ∧ w'.cell? ⟨w.heap.size, 5, none⟩ = some (.slice a1 nv k1)) (go_keep)
    (first
      | (go_at_call 207
         with_reducible refine J1.mono ?_
         rintro e w2 ⟨rfl, s2⟩
         have u2 : w1.Since w1.heap.size w2 := d1.trans (sinceMono s2 d1.size)
         have S2 : w.Since w.heap.size w2 := S1.trans (sinceMono u2 S1.size)
         have N2 := N1.keep u2
         have i0 := N2.c0
         have i1 := N2.c1
         have i2 := N2.c2
         have i3 := N2.c3
         have i4 := N2.c4
         have i5 := N2.c5
         have J2 := fits_any 7 false false false 4 (NodeD.mk 7 v1 v2 v3 v4 nv V) a1 lo k1 w2 (Nat.lt_of_lt_of_le hw S2.size) (hT.stay hw S2) hd (H.keep S2)
         dsimp only at J2)
      | (go_at_call 94
         with_reducible refine J2.mono ?_
         rintro e w3 ⟨⟨r, rfl, hr⟩, s3⟩
         have S3 : w.Since w.heap.size w3 := S2.trans (sinceMono s3 S2.size)
         have N3 := N2.keep s3
         have i0 := N3.c0
         have i1 := N3.c1
         have i2 := N3.c2
         have i3 := N3.c3
         have i4 := N3.c4
         have i5 := N3.c5
         have hF := hide (hr.trans (form_iff (d := (NodeD.mk 7 v1 v2 v3 v4 nv V)) (z := 7) rfl (by decide) (by decide) rfl rfl rfl (.inr (.inr (.inr ⟨rfl, rfl⟩)))).symm)
         clear hr))
  cases r
  · have E := hide (code_form (D := D) (i := n) (d := (NodeD.mk 7 v1 v2 v3 v4 nv V)) (fun h => by have := hF.out.2 h; cases this))
    clear hF
    go_wp2
    go_ret2
    exact ⟨by rw [E.out]; unfold dimOr; rw [E.out]; rfl, S3⟩
  have F := hide (hF.out.1 rfl)
  clear hF q0 q1 q2 q3 q4 q5
  have d3 : w3.Since w3.heap.size w3.drew := (World.Since.refl _ _).drew
  have J3 := form7 7 v1 v2 v3 v4 a1 nv k1 w3.drew
  go_wp2_with fail
  go_region_held3 (fun w' => w'.cell? ⟨w.heap.size, 0, none⟩ = some (.int .i64 7) ∧ w'.cell? ⟨w.heap.size, 1, none⟩ = some (.int .i64 v1) ∧ w'.cell? ⟨w.heap.size, 2, none⟩ = some (.int .i64 v2) ∧ w'.cell? ⟨w.heap.size, 3, none⟩ = some (.int .i64 v3) ∧ w'.cell? ⟨w.heap.size, 4, none⟩ = some (.int .i64 v4) ∧ w'.cell? ⟨w.heap.size, 5, none⟩ = some (.slice a1 nv k1)) (go_keep)
    (first
      | (go_at_call 207
         with_reducible refine J3.mono ?_
         rintro e w4 ⟨rfl, s4⟩
         have u4 : w3.Since w3.heap.size w4 := d3.trans (sinceMono s4 d3.size)
         have S4 : w.Since w.heap.size w4 := S3.trans (sinceMono u4 S3.size)
         have N4 := N3.keep u4
         have j0 := N4.c0
         have j1 := N4.c1
         have j2 := N4.c2
         have j3 := N4.c3
         have j4 := N4.c4
         have j5 := N4.c5
         have J4 := knows_any 7 false false false 4 7 v1 v2 v3 v4 a1 nv k1 n w4)
      | (go_at_call 95
         with_reducible refine J4.mono ?_
         rintro e w5 ⟨⟨r, rfl, hr⟩, s5⟩
         have S5 : w.Since w.heap.size w5 := S4.trans (sinceMono s5 S4.size)
         have N5 := N4.keep s5
         have j0 := N5.c0
         have j1 := N5.c1
         have j2 := N5.c2
         have j3 := N5.c3
         have j4 := N5.c4
         have j5 := N5.c5
         have hS := hide hr
         clear hr))
  cases r
  · have E := hide (code_src (D := D) F.out (fun h => by have := hS.out.2 h; cases this))
    clear hS F
    go_wp2
    go_ret2
    exact ⟨by rw [E.out]; unfold dimOr; rw [E.out]; rfl, S5⟩
  have G := hide (show SrcOk (NodeD.mk 7 v1 v2 v3 v4 nv V) n from hS.out.1 rfl)
  clear hS
  obtain ⟨j, hj⟩ : ∃ j : Nat, v1 = j := ⟨v1.toNat, by have h : 0 ≤ v1 := G.out.1; omega⟩
  subst hj
  have hjn : j < n := by have h : (j : Int) < n := G.out.2.1; omega
  obtain ⟨x, hx⟩ : ∃ x, D j = x := ⟨_, rfl⟩
  have hDj := hD j hjn
  rw [hx] at hDj
  have h4 := hide (show nv = 4 from F.out.v7 rfl)
  obtain ⟨bV, oV, -, LV⟩ := (H.keep S5).LV
  have E1 : nodeCode D n (NodeD.mk 7 (j : Int) v2 v3 v4 nv V) = if (V 2).n = 0 then 15 else 0 := by
    rw [code_shape F.out G.out]
    by_cases h : (V 2).n = 0 <;> simp [shapeCode, hx, h]
  have E2 : dimOr D n (NodeD.mk 7 (j : Int) v2 v3 v4 nv V) = if (V 2).n = 0 then 0 else x := by
    unfold dimOr
    rw [E1]
    by_cases h : (V 2).n = 0 <;> simp [nodeDim, hx, h]
  have J5 := dim7 7 v2 v3 v4 x j a1 nv k1 aD bD n cD D w5 (HD.keep S5) hjn hx hDj.1 hDj.2 lo bV oV V LV h4.out
  rw [← E1, ← E2] at J5
  clear E1 E2
  go_wp2_with fail
  refine J5.mono ?_
  rintro e w6 ⟨rfl, s6⟩
  go_wp2
  go_ret2
  exact ⟨rfl, S5.trans (sinceMono s6 S5.size)⟩

end Go.Proofs.YtkhpggnnpfckdaaGreatDoor

namespace Go.Proofs.YtkhpggnnpfckdaaGreatDoor
open Go.RowKit

set_option maxHeartbeats 3200000 in
set_option maxRecDepth 100000 in
theorem dimOf_no (d : NodeD) (a1 : Option Addr) (k1 m : Nat) (aD : Option Addr) (n cD : Nat) (D : Nat → Int) (w : World) (K : Kinds w m) (hi : I64 d.op) (h : d.op < 1 ∨ 7 < d.op) :
    Calls Tryz.prog 54 #[.agg #[.int .i64 d.op, .int .i64 d.a, .int .i64 d.b, .int .i64 d.k, .int .i64 d.s, .slice a1 d.nv k1], .slice aD n cD, .map (some m)] w fun e w' => e = .returned (.tuple #[.int .i64 (dimOr D n d), .int .i64 (nodeCode D n d)]) ∧ w.Since w.heap.size w' := by
  have E := hide (code_form (D := D) (i := n) (d := d) (fun f => by have := f.o1; have := f.o7; omega))
  have sA : w.Since w.heap.size (w.alloc (.cells #[.int .i64 d.op, .int .i64 d.a, .int .i64 d.b, .int .i64 d.k, .int .i64 d.s, .slice a1 d.nv k1] 84)) := (World.Since.refl _ _).alloc (Nat.le_refl _) _
  go_enter Tryz.func54, Tryz.ntmps54
  go_wp2_with fail
  generalize w.alloc (.cells #[.int .i64 d.op, .int .i64 d.a, .int .i64 d.b, .int .i64 d.k, .int .i64 d.s, .slice a1 d.nv k1] 84) = wA at *
  refine (operatorOf_no m d.op d.a d.b d.k d.s a1 d.nv k1 wA (K.keep sA) h hi).mono ?_
  rintro e w1 ⟨rfl, s1⟩
  have S1 : w.Since w.heap.size w1 := sA.trans (sinceMono s1 sA.size)
  clear h hi
  go_wp2_with fail
  refine wp_region_held_drew (S := fun _ => True) (by kernel_rfl) trivial (fun hHeld => ?_)
  clear hHeld
  refine take_at 0 (some 16) (.bool false) rfl (by kernel_rfl) (by kernel_rfl) (by kernel_rfl) (by kernel_rfl) (fun _ _ _ h => h) (by kernel_rfl) trivial ?_ ?_
  · intro w' hSw
    clear hSw
    kernel_rfl
  simp only [Act.put, List.setIfInBounds_toArray, List.set_cons_zero, List.set_cons_succ]
  refine take_at 1 (some 17) (.bool true) rfl (by kernel_rfl) (by kernel_rfl) (by kernel_rfl) (by kernel_rfl) (fun _ _ _ h => h) (by kernel_rfl) trivial ?_ ?_
  · intro w' hSw
    clear hSw
    kernel_rfl
  simp only [Act.put, List.setIfInBounds_toArray, List.set_cons_zero, List.set_cons_succ]
  refine take_at 2 (some 18) (.bool true) rfl (by kernel_rfl) (by kernel_rfl) (by kernel_rfl) (by kernel_rfl) (fun _ _ _ h => h) (by kernel_rfl) trivial ?_ ?_
  · intro w' hSw
    clear hSw
    kernel_rfl
  simp only [Act.put, List.setIfInBounds_toArray, List.set_cons_zero, List.set_cons_succ]
  refine skip_at 3 (some 19) rfl (by kernel_rfl) (by kernel_rfl) (by kernel_rfl) (by kernel_rfl) (fun _ _ _ h => h) (by kernel_rfl) trivial ?_
  simp only [Act.put, List.setIfInBounds_toArray, List.set_cons_zero, List.set_cons_succ]
  refine skip_at 4 (some 20) rfl (by kernel_rfl) (by kernel_rfl) (by kernel_rfl) (by kernel_rfl) (fun _ _ _ h => h) (by kernel_rfl) trivial ?_
  simp only [Act.put, List.setIfInBounds_toArray, List.set_cons_zero, List.set_cons_succ]
  refine skip_at 5 (some 21) rfl (by kernel_rfl) (by kernel_rfl) (by kernel_rfl) (by kernel_rfl) (fun _ _ _ h => h) (by kernel_rfl) trivial ?_
  simp only [Act.put, List.setIfInBounds_toArray, List.set_cons_zero, List.set_cons_succ]
  refine skip_at 6 (some 22) rfl (by kernel_rfl) (by kernel_rfl) (by kernel_rfl) (by kernel_rfl) (fun _ _ _ h => h) (by kernel_rfl) trivial ?_
  simp only [Act.put, List.setIfInBounds_toArray, List.set_cons_zero, List.set_cons_succ]
  refine skip_at 7 (some 23) rfl (by kernel_rfl) (by kernel_rfl) (by kernel_rfl) (by kernel_rfl) (fun _ _ _ h => h) (by kernel_rfl) trivial ?_
  simp only [Act.put, List.setIfInBounds_toArray, List.set_cons_zero, List.set_cons_succ]
  refine take_at 8 (some 24) (.bool true) rfl (by kernel_rfl) (by kernel_rfl) (by kernel_rfl) (by kernel_rfl) (fun _ _ _ h => h) (by kernel_rfl) trivial ?_ ?_
  · intro w' hSw
    clear hSw
    kernel_rfl
  simp only [Act.put, List.setIfInBounds_toArray, List.set_cons_zero, List.set_cons_succ]
  refine wpAnyH_done (by kernel_rfl) ?_ _
  go_wp2
  go_ret2
  exact ⟨by rw [E.out]; unfold dimOr; rw [E.out]; rfl, S1.drew⟩

/-- impl.dimensionOf. -/
theorem dimensionOf_any (d : NodeD) (a1 : Option Addr) (lo k1 m : Nat) (aD : Option Addr) (bD n cD : Nat) (D : Nat → Int) (w : World) (hw : 0 < w.heap.size) (hT : Tab w) (K : Kinds w m) (hd : d.size ≤ 1048576) (H : NodL w lo d a1 k1) (HD : Ints w aD bD 0 n D) (hD : Dok D n) :
    Calls Tryz.prog 54 #[.agg #[.int .i64 d.op, .int .i64 d.a, .int .i64 d.b, .int .i64 d.k, .int .i64 d.s, .slice a1 d.nv k1], .slice aD n cD, .map (some m)] w fun e w' => e = .returned (.tuple #[.int .i64 (dimOr D n d), .int .i64 (nodeCode D n d)]) ∧ w.Since w.heap.size w' := by
  by_cases h : d.op < 1 ∨ 7 < d.op
  · exact dimOf_no d a1 k1 m aD n cD D w K H.iop h
  have hc : d.op = 1 ∨ d.op = 2 ∨ d.op = 3 ∨ d.op = 4 ∨ d.op = 5 ∨ d.op = 6 ∨ d.op = 7 := by omega
  clear h
  obtain ⟨op, a, b, k, s, nv, V⟩ := d
  dsimp only at hc
  rcases hc with rfl | rfl | rfl | rfl | rfl | rfl | rfl
  · exact dimOf1 a b k s nv V a1 lo k1 m aD bD n cD D w hw hT K hd H HD hD
  · exact dimOf2 a b k s nv V a1 lo k1 m aD bD n cD D w hw hT K hd H HD hD
  · exact dimOf3 a b k s nv V a1 lo k1 m aD bD n cD D w hw hT K hd H HD hD
  · exact dimOf4 a b k s nv V a1 lo k1 m aD bD n cD D w hw hT K hd H HD hD
  · exact dimOf5 a b k s nv V a1 lo k1 m aD bD n cD D w hw hT K hd H HD hD
  · exact dimOf6 a b k s nv V a1 lo k1 m aD bD n cD D w hw hT K hd H HD hD
  · exact dimOf7 a b k s nv V a1 lo k1 m aD bD n cD D w hw hT K hd H HD hD

end Go.Proofs.YtkhpggnnpfckdaaGreatDoor

namespace Go.Proofs.YtkhpggnnpfckdaaGreatDoor

/-- What a chain of affine maps makes of a vector, before the last ReLU. -/
def qLay (A : Nat → AffD) (x : Nat → Rat) : Nat → Nat → Rat
  | 0 => qApply (A 0) x
  | k + 1 => qApply (A (k + 1)) (fun i => qrelu (qLay A x k i))

/-- What enters map k. -/
def qIn (A : Nat → AffD) (x : Nat → Rat) : Nat → Nat → Rat
  | 0 => x
  | k + 1 => fun i => qrelu (qLay A x k i)

theorem qLay_eq (A : Nat → AffD) (x : Nat → Rat) (k : Nat) : qLay A x k = qApply (A k) (qIn A x k) := by cases k <;> rfl

def layE (d : AffD) : Nat := dens (fun i => (d.W i).q) d.nw * dens (fun i => (d.B i).q) d.nb
def layN (d : AffD) : Nat := nums (fun i => (d.W i).q) d.nw * nums (fun i => (d.B i).q) d.nb

def DK (A : Nat → AffD) (x : Nat → Rat) (nx : Nat) : Nat → Nat
  | 0 => dens x nx
  | k + 1 => DK A x nx k * layE (A k)

def TK (A : Nat → AffD) (x : Nat → Rat) (nx : Nat) : Nat → Nat
  | 0 => nums x nx * 1 * dens x nx
  | k + 1 => layN (A k) * TK A x nx k * layE (A k)

theorem layE_pos (d : AffD) : 0 < layE d := Nat.mul_pos (dens_pos _ _) (dens_pos _ _)
theorem layN_pos (d : AffD) : 0 < layN d := Nat.mul_pos (nums_pos _ _) (nums_pos _ _)

theorem DK_pos (A : Nat → AffD) (x : Nat → Rat) (nx k : Nat) : 0 < DK A x nx k := by
  induction k with
  | zero => exact dens_pos _ _
  | succ k ih => exact Nat.mul_pos ih (layE_pos _)

theorem DK_TK (A : Nat → AffD) (x : Nat → Rat) (nx k : Nat) : DK A x nx k ≤ TK A x nx k := by
  induction k with
  | zero =>
    show dens x nx ≤ nums x nx * 1 * dens x nx
    rw [Nat.mul_one]
    exact Nat.le_mul_of_pos_left _ (nums_pos _ _)
  | succ k ih =>
    show DK A x nx k * layE (A k) ≤ layN (A k) * TK A x nx k * layE (A k)
    exact Nat.mul_le_mul_right _ (Nat.le_trans ih (Nat.le_mul_of_pos_left _ (layN_pos _)))

theorem sumN_shift (q : Nat → Rat) (a j : Nat) : sumN (fun c => q (a + c)) 0 j = sumN q a j := by
  induction j with
  | zero => rfl
  | succ j ih => rw [sumN, sumN, ih, Nat.zero_add]

/-- One layer keeps within its bounds. -/
theorem layer_rep {d : AffD} (hd : d.shape) {v : Nat → Rat} {T D : Nat} (hDT : D ≤ T) (hv : ∀ c, c < d.cols.toNat → Rep (v c) T D) {r : Nat} (hr : r < d.rows.toNat) {j : Nat} (hj : j ≤ d.cols.toNat) :
    Rep (psum (d.B r).q (fun c => (d.W (r * d.cols.toNat + c)).q) v j) (layN d * T * layE d) (D * layE d) := by
  obtain ⟨⟨h0, h1, h2, h3⟩, hnw, hnb⟩ := hd
  have eR : d.rows = (d.rows.toNat : Int) := by omega
  have eC : d.cols = (d.cols.toNat : Int) := by omega
  have hw : d.nw = d.rows.toNat * d.cols.toNat := by rw [eR, eC, ← Int.natCast_mul] at hnw; exact Int.ofNat_inj.1 hnw
  have hb : r < d.nb := by omega
  have hlast : r * d.cols.toNat + d.cols.toNat ≤ d.nw := by rw [hw, ← Nat.succ_mul]; exact Nat.mul_le_mul_right _ hr
  refine Rep.row hDT ?_ j (fun c hc => ?_) (fun c hc => hv c (by omega)) ?_
  · exact Nat.dvd_trans (dens_dvd (fun i => (d.B i).q) hb) ⟨_, Nat.mul_comm _ _⟩
  · exact Nat.dvd_trans (dens_dvd (fun i => (d.W i).q) (show r * d.cols.toNat + c < d.nw by omega)) ⟨_, rfl⟩
  · have e1 := sumN_shift (fun i => (d.W i).q) (r * d.cols.toNat) j
    have e2 := sumN_part (fun i => (d.W i).q) (show r * d.cols.toNat + j ≤ d.nw by omega)
    have e3 := sumN_nums (fun i => (d.W i).q) d.nw
    have e4 := nums_le (fun i => (d.B i).q) hb
    have p1 := nums_pos (fun i => (d.W i).q) d.nw
    have p2 := nums_pos (fun i => (d.B i).q) d.nb
    rw [e1]
    unfold layN
    generalize nums (fun i => (d.W i).q) d.nw = a at *
    generalize nums (fun i => (d.B i).q) d.nb = b at *
    have : a + b ≤ a * b + 1 := by
      obtain ⟨a', rfl⟩ : ∃ a', a = a' + 1 := ⟨a - 1, by omega⟩
      obtain ⟨b', rfl⟩ : ∃ b', b = b' + 1 := ⟨b - 1, by omega⟩
      rw [Nat.add_mul, Nat.mul_add]
      omega
    omega

theorem Rep.zero (T D : Nat) : Rep 0 T D := ⟨0, by rw [Rat.zero_mul]; rfl, Nat.zero_le _⟩

theorem Rep.relu {q : Rat} {T D : Nat} (h : Rep q T D) : Rep (qrelu q) T D := by
  unfold qrelu
  split
  · exact Rep.zero T D
  · exact h

/-- All that enters map k keeps within its bounds. -/
theorem in_rep {A : Nat → AffD} {x : Nat → Rat} {n : Nat} (P : NetP n A) {k : Nat} (hk : k < n) : ∀ c, c < (A k).cols.toNat → Rep (qIn A x k c) (TK A x (A 0).cols.toNat k) (DK A x (A 0).cols.toNat k) := by
  induction k with
  | zero =>
    intro c hc
    have h := Rep.term (p := x c) (q := 1) (T := 1) (D := 1) (E := dens x (A 0).cols.toNat) ⟨1, by rw [Rat.one_mul]; rfl, Nat.le_refl _⟩ (dens_dvd x hc)
    rw [Rat.mul_one, Nat.one_mul] at h
    refine h.more ?_
    exact Nat.mul_le_mul_right _ (Nat.mul_le_mul_right _ (by have := nums_le x hc; omega))
  | succ k ih =>
    intro c hc
    have hch := P.chain (k + 1) hk (by omega)
    rw [Nat.add_sub_cancel] at hch
    rw [hch] at hc
    have ih := ih (by omega)
    have h := layer_rep (P.shape k (by omega)) (DK_TK A x (A 0).cols.toNat k) ih hc (Nat.le_refl _)
    show Rep (qrelu (qLay A x k c)) _ _
    rw [qLay_eq]
    exact h.relu

/-- The limbs of a Rat are limbs. -/
def RatD.lim (r : RatD) : Prop := (∀ j, j < r.n → r.X j < 4294967296) ∧ ∀ j, j < r.m → r.Y j < 4294967296

theorem Rats.lim {w : World} {lo b off n : Nat} {a : Option Addr} {R : Nat → RatD} (h : Rats w lo a b off n R) : ∀ i, i < n → (R i).lim := fun i hi => by
  obtain ⟨-, a1, a2, k1, k2, m⟩ := h i hi
  exact ⟨m.L.lX, m.L.lY⟩

theorem q_small {r : RatD} (ok : r.ok = true) (l : r.lim) : r.q.num.natAbs + 1 ≤ 4294967296 ^ r.n ∧ r.q.den ≤ 4294967296 ^ r.m := by
  obtain ⟨-, e2, e3, -⟩ := RatD.q_ok ok
  have h1 := lv_lt r.X r.n l.1
  have h2 := lv_lt r.Y r.m l.2
  rw [Nat.pow_mul, show (2 : Nat) ^ 32 = 4294967296 by decide] at h1 h2
  rw [e2, e3]
  omega

/-- The product of all numerators and denominators of a list is no longer than the list. -/
theorem list_small {R : Nat → RatD} {n : Nat} (ok : RatsOk R n) (l : ∀ i, i < n → (R i).lim) : nums (fun i => (R i).q) n * dens (fun i => (R i).q) n ≤ 4294967296 ^ szR R n := by
  induction n with
  | zero => exact Nat.le_refl _
  | succ n ih =>
    have h := ih (fun i hi => ok i (by omega)) (fun i hi => l i (by omega))
    obtain ⟨h1, h2⟩ := q_small (ok n (by omega)) (l n (by omega))
    rw [szR_succ, Nat.pow_add, Nat.pow_add]
    show nums _ n * ((R n).q.num.natAbs + 1) * (dens _ n * (R n).q.den) ≤ _
    rw [Nat.mul_mul_mul_comm]
    exact Nat.mul_le_mul h (Nat.mul_le_mul h1 h2)

structure AffD.lim (d : AffD) : Prop where
  W : ∀ i, i < d.nw → (d.W i).lim
  B : ∀ i, i < d.nb → (d.B i).lim

theorem AffL.lim {w : World} {lo : Nat} {d : AffD} {a1 a2 : Option Addr} {k1 k2 : Nat} (h : AffL w lo d a1 a2 k1 k2) : d.lim := by
  obtain ⟨_, _, _, x⟩ := h.LW
  obtain ⟨_, _, _, y⟩ := h.LB
  exact ⟨x.lim, y.lim⟩

theorem lay_small {d : AffD} (hv : d.vals) (l : d.lim) : layN d * layE d ≤ 4294967296 ^ d.size := by
  have h1 := list_small hv.1 l.W
  have h2 := list_small hv.2 l.B
  unfold layN layE AffD.size
  rw [Nat.mul_mul_mul_comm]
  refine Nat.le_trans (Nat.mul_le_mul h1 h2) ?_
  rw [← Nat.pow_add]
  exact Nat.pow_le_pow_right (by decide) (by omega)

theorem TK_small {A : Nat → AffD} {X : Nat → RatD} {nx n : Nat} (P : NetP n A) (l : ∀ k, k < n → (A k).lim) (ok : RatsOk X nx) (lx : ∀ i, i < nx → (X i).lim) {k : Nat} (hk : k ≤ n) : TK A (fun i => (X i).q) nx k ≤ 4294967296 ^ (szR X nx + szA A k) := by
  induction k with
  | zero =>
    have := list_small ok lx
    show nums _ nx * 1 * dens _ nx ≤ _
    rw [Nat.mul_one]
    exact this
  | succ k ih =>
    have h := ih (by omega)
    have h2 := lay_small (P.vals k (by omega)) (l k (by omega))
    rw [szA_succ, ← Nat.add_assoc, Nat.pow_add]
    show layN (A k) * TK _ _ nx k * layE (A k) ≤ _
    rw [Nat.mul_comm (layN (A k)), Nat.mul_assoc]
    exact Nat.mul_le_mul h h2

theorem qb_of {q : Rat} {n m K : Nat} (h1 : q.num.natAbs + 1 ≤ 4294967296 ^ n) (h2 : q.den ≤ 4294967296 ^ m) (hn : n ≤ K) (hm : m < K) : Qb q K :=
  ⟨Nat.lt_of_lt_of_le (Nat.lt_of_succ_le h1) (Nat.pow_le_pow_right (by decide) hn), Nat.lt_of_le_of_lt h2 (Nat.pow_lt_pow_right (by decide) hm)⟩

/-- A net and an input that were counted: every number that comes up keeps within 2^20 + 1 limbs. -/
theorem net_rowB {A : Nat → AffD} {X : Nat → RatD} {n : Nat} (P : NetP n A) (l : ∀ k, k < n → (A k).lim) (ok : RatsOk X (A 0).cols.toNat) (lx : ∀ i, i < (A 0).cols.toNat → (X i).lim) (hz : szR X (A 0).cols.toNat + szA A n ≤ 1048576) {k : Nat} (hk : k < n) :
    RowB (A k) (qIn A (fun i => (X i).q) k) := by
  have big : ∀ K, 1048577 ≤ K → ∀ j, j ≤ n → TK A (fun i => (X i).q) (A 0).cols.toNat j < 4294967296 ^ K := fun K hK j hj => by
    have h1 := TK_small P l ok lx hj
    have h2 := szA_mono (A := A) hj
    exact Nat.lt_of_le_of_lt h1 (Nat.pow_lt_pow_right (by decide) (by omega))
  have hin := in_rep (x := fun i => (X i).q) P hk
  refine ⟨fun r hr j hj => ?_, fun i hi => ?_, fun c hc => ?_⟩
  · have h := layer_rep (P.shape k hk) (DK_TK A (fun i => (X i).q) (A 0).cols.toNat k) hin hr hj
    exact Rep.qb (T := TK A (fun i => (X i).q) (A 0).cols.toNat (k + 1)) (D := DK A (fun i => (X i).q) (A 0).cols.toNat (k + 1)) h (DK_pos _ _ _ _) (big _ (Nat.le_refl _) _ hk) (Nat.lt_of_le_of_lt (DK_TK _ _ _ _) (big _ (Nat.le_refl _) _ hk))
  · obtain ⟨h1, h2⟩ := q_small ((P.vals k hk).1 i hi) ((l k hk).W i hi)
    have h3 := szR_at (R := (A k).W) hi
    have h4 := szA_at (A := A) hk
    unfold AffD.size at h4
    exact qb_of h1 h2 (by omega) (by omega)
  · exact (hin c hc).qb (DK_pos _ _ _ _) (big _ (Nat.le_refl _) _ (by omega)) (Nat.lt_of_le_of_lt (DK_TK _ _ _ _) (big _ (Nat.le_refl _) _ (by omega)))

end Go.Proofs.YtkhpggnnpfckdaaGreatDoor

namespace Go.Proofs.YtkhpggnnpfckdaaGreatDoor
open Go.RowKit

theorem OwnE.keep {w w' : World} {lo hi b off : Nat} {f : Bool} {g h : Nat} {a1 : Option Addr} {n1 k1 : Nat} {a2 : Option Addr} {n2 k2 : Nat} {X Y : Nat → Nat} (r : OwnE w lo hi b off f g h a1 n1 k1 a2 n2 k2 X Y) (s : w.Since w.heap.size w') : OwnE w' lo hi b off f g h a1 n1 k1 a2 n2 k2 X Y := by
  have lt : b < w.heap.size := World.block_lt_of_cell? _ _ r.c0
  exact ⟨(s.cell (a := ⟨b, off, none⟩) lt).trans r.c0, (s.cell (a := ⟨b, off + 1, none⟩) lt).trans r.c1, (s.cell (a := ⟨b, off + 2, none⟩) lt).trans r.c2, r.L1.keep s, r.L2.keep s, r.s1, r.s2,
    fun h0 => ⟨(r.lg h0).1, (r.lg h0).2.1, fun o => by rw [s.frozen (a := ⟨g, o, none⟩) (r.L1.lt h0)]; exact (r.lg h0).2.2 o⟩,
    fun h0 => ⟨(r.lh h0).1, (r.lh h0).2.1, fun o => by rw [s.frozen (a := ⟨h, o, none⟩) (r.L2.lt h0)]; exact (r.lh h0).2.2 o⟩, r.ne⟩

theorem OwnFrom.keep {w w' : World} {b k n : Nat} {E : Nat → Nat} (H : OwnFrom w b k n E) (s : w.Since w.heap.size w') : OwnFrom w' b k n E := fun i h1 h2 => by
  obtain ⟨f, g, h, a1, n1, k1, a2, n2, k2, X, Y, r⟩ := H i h1 h2
  exact ⟨f, g, h, a1, n1, k1, a2, n2, k2, X, Y, r.keep s⟩

/-- A list that grows: its first k entries own blocks behind it. -/
structure OwnK (w : World) (c k : Nat) (E : Nat → Nat) : Prop where
  lo : c < E 0
  mono : ∀ i, i < k → E i ≤ E (i + 1)
  hi : E k ≤ w.heap.size
  own : OwnFrom w c 0 k E

theorem OwnK.keep {w w' : World} {c k : Nat} {E : Nat → Nat} (H : OwnK w c k E) (s : w.Since w.heap.size w') : OwnK w' c k E :=
  ⟨H.lo, H.mono, Nat.le_trans H.hi s.size, H.own.keep s⟩

theorem OwnK.put {w w' : World} {c k B n1 n2 g h : Nat} {f : Bool} {E X Y : Nat → Nat} (H : OwnK w c k E) (hB : E k ≤ B) (M : Marked w w' c) (hc : ∀ o, o < k * 3 → w'.cell? ⟨c, o, none⟩ = w.cell? ⟨c, o, none⟩)
    (c0 : w'.cell? ⟨c, k * 3, none⟩ = some (.bool f)) (c1 : w'.cell? ⟨c, k * 3 + 1, none⟩ = some (.slice (some ⟨g, 0, none⟩) n1 n1)) (c2 : w'.cell? ⟨c, k * 3 + 2, none⟩ = some (.slice (some ⟨h, 0, none⟩) n2 n2))
    (L1 : Limbs w (some ⟨g, 0, none⟩) g 0 n1 X) (L2 : Limbs w (some ⟨h, 0, none⟩) h 0 n2 Y) (s1 : n1 ≤ 4194304) (s2 : n2 ≤ 4194304) (l1 : B ≤ g) (l2 : g < h) (l3 : h < w.heap.size)
    (f1 : ∀ o, w.frozen? ⟨g, o, none⟩ = false) (f2 : ∀ o, w.frozen? ⟨h, o, none⟩ = false) : OwnK w' c (k + 1) (fun i => if i ≤ k then E i else w.heap.size) := by
  have b1 : c < E k := Nat.lt_of_lt_of_le H.lo (e_mono H.mono (Nat.zero_le _) (Nat.le_refl _))
  refine ⟨by simpa using H.lo, fun i hi => ?_, ?_, fun i _ hi => ?_⟩
  · by_cases e : i = k
    · subst e
      simp only [Nat.le_refl, if_true, show ¬ i + 1 ≤ i by omega, if_false]
      exact H.hi
    · simp only [show i ≤ k by omega, show i + 1 ≤ k by omega, if_true]
      exact H.mono i (by omega)
  · simp only [show ¬ k + 1 ≤ k by omega, if_false]
    rw [M.size]; exact Nat.le_refl _
  · by_cases e : i = k
    · subst e
      simp only [Nat.le_refl, if_true, show ¬ i + 1 ≤ i by omega, if_false]
      exact ⟨f, g, h, _, n1, n1, _, n2, n2, X, Y, c0, c1, c2, L1.marked M (fun _ => by omega), L2.marked M (fun _ => by omega), s1, s2, fun _ => ⟨by omega, by omega, fun o => by rw [M.fr.frozen]; exact f1 o⟩, fun _ => ⟨by omega, by omega, fun o => by rw [M.fr.frozen]; exact f2 o⟩, fun _ _ => by omega⟩
    · simp only [show i ≤ k by omega, show i + 1 ≤ k by omega, if_true]
      obtain ⟨f', g', h', a1', n1', k1', a2', n2', k2', X', Y', r'⟩ := H.own i (Nat.zero_le _) (by omega)
      have := e_mono H.mono (Nat.zero_le i) (show i ≤ k by omega)
      have := H.lo
      exact ⟨f', g', h', a1', n1', k1', a2', n2', k2', X', Y', r'.frame M.fr (fun c h1 h2 h3 => by omega) (fun o h1 h2 => hc o (by omega))⟩

/-- A list whose memory lies from lo to hi, and may be written. -/
structure OwnL (w : World) (lo hi c n : Nat) : Prop where
  ex : ∃ E : Nat → Nat, lo ≤ c ∧ c < E 0 ∧ (∀ i, i < n → E i ≤ E (i + 1)) ∧ E n ≤ hi ∧ OwnFrom w c 0 n E
  f : ∀ o, w.frozen? ⟨c, o, none⟩ = false
  lt : c < w.heap.size

set_option maxHeartbeats 1600000 in
set_option maxRecDepth 100000 in
/-- toRatS, with what its copy owns. -/
theorem toRatS_own (a : Option Addr) (lo b off n cap : Nat) (R : Nat → RatD) (w : World) (hn : n ≤ 1048576) (hs : szR R n ≤ 1048576) (H : Rats w lo a b off n R) :
    Calls Tryz.prog 10 #[.slice a n cap] w fun e w' => ∃ c, e = .returned (.slice (some ⟨c, 0, none⟩) n n) ∧ w.heap.size ≤ c ∧ c < w'.heap.size ∧ OwnL w' w.heap.size w'.heap.size c n ∧ Rats w' (c + 1) (some ⟨c, 0, none⟩) c 0 n R ∧ w.Since w.heap.size w' := by
  have hmk := run_make_wide (P := Tryz.prog) 28 70 _ 3 56 Tryz.underlying28 info_Rat .i64 .i64 n (by omega) (by omega)
  have sA := (World.Since.refl w.heap.size w).alloc (Nat.le_refl _) (.cells (madeCells #[.bool false, .slice none 0 0, .slice none 0 0] (n * 3)) 70)
  have rA := Room.new w #[.bool false, .slice none 0 0, .slice none 0 0] (n * 3) 70
  go_enter Tryz.func10, Tryz.ntmps10
  go_wp2
  go_loopw [4] (fun i wr => ∃ (k : Nat) (E : Nat → Nat), OwnK wr w.heap.size k E ∧ k ≤ n ∧ i = .int .i64 k ∧ w.Since w.heap.size wr ∧ Room wr w.heap.size (n * 3) ∧ Rats wr (w.heap.size + 1) (some ⟨w.heap.size, 0, none⟩) w.heap.size 0 k R) (fun i _ => n - (intOf i).toNat)
  case atStart => exact ⟨0, fun _ => w.heap.size + 1, ⟨Nat.lt_succ_self _, fun i hi => absurd hi (by omega), by simp, fun i _ hi => absurd hi (by omega)⟩, Nat.zero_le _, rfl, sA, rA, fun i hi => absurd hi (by omega)⟩
  case round =>
    obtain ⟨k, E, ow, hk, rfl, s, r, T⟩ := hrel
    by_cases hlt : k < n
    · obtain ⟨rfl, a1, a2, k1, k2, M⟩ := H k hlt
      have M' := M.keep s
      have g0 := M'.c0
      have g1 := M'.c1
      have g2 := M'.c2
      have hz : (k : Int) < (n : Int) := by omega
      have hsz := szR_at (R := R) hlt
      obtain ⟨ba, oa, -, LX⟩ := M'.L.LX
      obtain ⟨bb, ob, -, LY⟩ := M'.L.LY
      go_wp2_with fail
      refine (toRat_any (R k).neg a1 a2 ba oa (R k).n k1 bb ob (R k).m k2 (R k).X (R k).Y wr (by omega) (by omega) LX LY).mono ?_
      rintro e w2 ⟨g, h, rfl, s2, l1, l2, l3, LX2, LY2, fz1, fz2⟩
      have r2 := r.keep s2
      have T2 := T.keep s2
      have S2 : w.Since w.heap.size w2 := s.trans (sinceMono s2 s.size)
      obtain ⟨v0, u0⟩ := r2.cell (k * 3) (by omega)
      obtain ⟨v1, u1⟩ := r2.cell (k * 3 + 1) (by omega)
      obtain ⟨v2, u2⟩ := r2.cell (k * 3 + 2) (by omega)
      have f0 := r2.f (k * 3)
      have f1 := r2.f (k * 3 + 1)
      have f2 := r2.f (k * 3 + 2)
      have rl := r.lt
      clear g0 g1 g2
      go_wp2
      go_roundw
      case rel =>
        go_light
        obtain ⟨w3, e3, M3, R3, x0, x1, x2, xo⟩ := put3 (q := k * 3) r2 (by omega) (.bool (R k).neg) (.slice (some ⟨g, 0, none⟩) (R k).n (R k).n) (.slice (some ⟨h, 0, none⟩) (R k).m (R k).m)
        rw [← e3]
        exact ⟨k + 1, _, (ow.keep s2).put ow.hi M3 (fun o ho => xo o (by omega)) x0 x1 x2 LX2 LY2 (by omega) (by omega) l1 l2 l3 fz1 fz2, by omega, by go_num, S2.trans (M3.since (Nat.le_refl _)), R3, T2.put M3 (fun o ho => xo o (by omega)) ⟨Nat.le_refl _, Nat.le_refl _, (fun h => by cases h), (fun h => by cases h), ⟨g, 0, fun _ => by omega, LX2⟩, ⟨h, 0, fun _ => by omega, LY2⟩, M.L.lX, M.L.lY, M.L.n63, M.L.m63⟩ x0 x1 x2⟩
      case measure => simp [intOf]; omega
    · have e : k = n := by omega
      subst e
      have rl := r.lt
      go_wp2
      go_ret
      exact ⟨w.heap.size, rfl, Nat.le_refl _, rl, ⟨⟨E, Nat.le_refl _, ow.lo, ow.mono, ow.hi, ow.own⟩, r.f, rl⟩, T, s⟩


end Go.Proofs.YtkhpggnnpfckdaaGreatDoor

namespace Go.Proofs.YtkhpggnnpfckdaaGreatDoor
open Go.RowKit

section
variable {w w' : World} {lo hi lo' hi' c n : Nat}
theorem OwnL.span (H : OwnL w lo hi c n) : lo ≤ c ∧ c < hi := by
  obtain ⟨E, h1, h2, h3, h4, -⟩ := H.ex
  have := e_mono h3 (Nat.zero_le n) (Nat.le_refl _)
  exact ⟨h1, by omega⟩
theorem OwnL.wide (H : OwnL w lo hi c n) (h1 : lo' ≤ lo) (h2 : hi ≤ hi') : OwnL w lo' hi' c n := by
  obtain ⟨E, a, b, e, d, o⟩ := H.ex
  exact ⟨⟨E, by omega, b, e, by omega, o⟩, H.f, H.lt⟩
theorem OwnL.keep (H : OwnL w lo hi c n) (s : w.Since w.heap.size w') : OwnL w' lo hi c n := by
  obtain ⟨E, a, b, e, d, o⟩ := H.ex
  exact ⟨⟨E, a, b, e, d, o.keep s⟩, fun o => by rw [s.frozen (a := ⟨c, o, none⟩) H.lt]; exact H.f o, Nat.lt_of_lt_of_le H.lt s.size⟩
theorem OwnL.frame {S : Nat → Prop} (H : OwnL w lo hi c n) (F : Fra w w' S) (hS : ∀ k, lo ≤ k → k < hi → ¬ S k) : OwnL w' lo hi c n := by
  have sp := H.span
  obtain ⟨E, a, b, e, d, o⟩ := H.ex
  refine ⟨⟨E, a, b, e, d, fun i h1 h2 => ?_⟩, fun o => by rw [F.frozen]; exact H.f o, by rw [F.size]; exact H.lt⟩
  obtain ⟨f', g', h', a1', n1', k1', a2', n2', k2', X', Y', r'⟩ := o i h1 h2
  have x1 := e_mono e (Nat.zero_le i) (show i ≤ n by omega)
  have x2 := e_mono e (i := i + 1) (j := n) (by omega) (Nat.le_refl _)
  exact ⟨f', g', h', a1', n1', k1', a2', n2', k2', X', Y', r'.frame F (fun k h1 h2 => hS k (by omega) (by omega)) (fun o _ _ => F.cell (a := ⟨c, o, none⟩) (hS c sp.1 sp.2))⟩
end

/-- markRatS at a list of its own memory. -/
theorem markRatS_own (lo hi c n cap k0 : Nat) (w : World) (hn : n ≤ 1048576) (hk0 : k0 ≤ 576460752303423488) (H : OwnL w lo hi c n) :
    Calls Tryz.prog 15 #[.slice (some ⟨c, 0, none⟩) n cap, .int .i64 k0] w fun e w' => ∃ k1 : Nat, k1 ≤ k0 + n * 8388609 ∧ e = .returned (.int .i64 (k1 : Int)) ∧ Fra w w' (fun k => lo ≤ k ∧ k < hi) := by
  have sp := H.span
  obtain ⟨E, a, b, e, d, o⟩ := H.ex
  refine (markRatS_any _ c n cap E k0 w hn hk0 (fun _ => rfl) e b (fun _ => H.f) o).mono ?_
  rintro e w' ⟨K, -, h2, rfl, F, -⟩
  exact ⟨K n, h2, rfl, F.mono (fun k hk => by omega)⟩

set_option maxHeartbeats 3200000 in
set_option maxRecDepth 100000 in
/-- toAffine, with what its copy owns. -/
theorem toAffine_own (d : AffD) (a1 a2 : Option Addr) (lo k1 k2 : Nat) (w : World) (hd : d.size ≤ 1048576) (H : AffL w lo d a1 a2 k1 k2) :
    Calls Tryz.prog 68 #[.agg #[.int .i64 d.rows, .int .i64 d.cols, .slice a1 d.nw k1, .slice a2 d.nb k2]] w fun e w' => ∃ g1 g3 m, e = .returned (.agg #[.int .i64 d.rows, .int .i64 d.cols, .slice (some ⟨g1, 0, none⟩) d.nw d.nw, .slice (some ⟨g3, 0, none⟩) d.nb d.nb]) ∧ OwnL w' w.heap.size m g1 d.nw ∧ OwnL w' m w'.heap.size g3 d.nb ∧
      AffL w' w.heap.size d (some ⟨g1, 0, none⟩) (some ⟨g3, 0, none⟩) d.nw d.nb ∧ w.Since w.heap.size w' := by
  have ts := hd
  unfold AffD.size at ts
  have e1 : ∃ wA : World, wA = (((w.alloc (.cells #[.int .i64 d.rows, .int .i64 d.cols, .slice a1 d.nw k1, .slice a2 d.nb k2] 103)).alloc (.cells #[.int .i64 0, .int .i64 0, .slice none 0 0, .slice none 0 0] 66)).alloc (.cells #[.int .i64 d.rows, .int .i64 d.cols, .slice none 0 0, .slice none 0 0] 66)) := ⟨_, rfl⟩
  obtain ⟨wA, eA⟩ := e1
  have sA : w.Since w.heap.size wA := by rw [eA]; exact (((World.Since.refl _ _).alloc (Nat.le_refl _) _).alloc (by simp) _).alloc (by simp; omega) _
  have zA : wA.heap.size = w.heap.size + 1 + 1 + 1 := by rw [eA]; simp
  have bA : Box4 wA w.heap.size (.int .i64 d.rows) (.int .i64 d.cols) (.slice a1 d.nw k1) (.slice a2 d.nb k2) := by rw [eA]; exact ((Box4.new w _ _ _ _ _).keep ((World.Since.refl _ _).alloc (Nat.le_refl _) _)).keep ((World.Since.refl _ _).alloc (Nat.le_refl _) _)
  have rA : Box4 wA (w.heap.size + 1) (.int .i64 0) (.int .i64 0) (.slice none 0 0) (.slice none 0 0) := by
    rw [eA]
    have := (Box4.new (w.alloc (.cells #[.int .i64 d.rows, .int .i64 d.cols, .slice a1 d.nw k1, .slice a2 d.nb k2] 103)) (.int .i64 0) (.int .i64 0) (.slice none 0 0) (.slice none 0 0) 66).keep ((World.Since.refl _ _).alloc (Nat.le_refl _) (.cells #[.int .i64 d.rows, .int .i64 d.cols, .slice none 0 0, .slice none 0 0] 66))
    simpa using this
  have oA : Box4 wA (w.heap.size + 1 + 1) (.int .i64 d.rows) (.int .i64 d.cols) (.slice none 0 0) (.slice none 0 0) := by
    rw [eA]
    have := Box4.new ((w.alloc (.cells #[.int .i64 d.rows, .int .i64 d.cols, .slice a1 d.nw k1, .slice a2 d.nb k2] 103)).alloc (.cells #[.int .i64 0, .int .i64 0, .slice none 0 0, .slice none 0 0] 66)) (.int .i64 d.rows) (.int .i64 d.cols) (.slice none 0 0) (.slice none 0 0) 66
    simpa using this
  have HA := H.keep sA
  obtain ⟨ba, oa, -, LW⟩ := HA.LW
  obtain ⟨bb, ob, -, LB⟩ := HA.LB
  have EA := hide eA
  clear eA
  go_enter Tryz.func68, Tryz.ntmps68
  go_wp2_with fail
  rw [← EA.out]
  refine (toRatS_own a1 lo ba oa d.nw k1 d.W wA (by omega) (by omega) LW).mono ?_
  rintro e w1 ⟨g1, rfl, l1, l1', U1, R1, s1⟩
  have S1 : w.Since w.heap.size w1 := sA.trans (sinceMono s1 sA.size)
  have B1 := bA.keep s1
  have Q1 := rA.keep s1
  have O1 := oA.keep s1
  have LB1 := LB.keep s1
  have b3 := B1.c3
  have o2 := O1.c2
  have f2 := O1.f 2
  have ll := B1.lt
  clear bA rA oA LW LB EA
  go_wp2_with fail
  have M2 : Marked w1 (w1.setCell ⟨w.heap.size + 1 + 1, 2, none⟩ (.slice (some ⟨g1, 0, none⟩) d.nw d.nw)) (w.heap.size + 1 + 1) := (Marked.refl w1 _).setCell _ _
  have O2 := O1.set2 (.slice (some ⟨g1, 0, none⟩) d.nw d.nw)
  have Q2 := Q1.marked M2 (by omega)
  have R2 := R1.marked M2 (by omega) (fun _ => by omega)
  have S2 := S1.trans (M2.since (B := w.heap.size) (by omega))
  have LB2 : Rats (w1.setCell ⟨w.heap.size + 1 + 1, 2, none⟩ (.slice (some ⟨g1, 0, none⟩) d.nw d.nw)) lo a2 bb ob d.nb d.B := by
    obtain ⟨bb', ob', -, L'⟩ := (H.keep S2).LB
    intro i hi
    obtain ⟨p1, -⟩ := LB1 i hi
    obtain ⟨q1, x1, x2, y1, y2, m⟩ := L' i hi
    obtain ⟨rfl, rfl⟩ : bb = bb' ∧ ob = ob' := by rw [p1] at q1; simpa using q1
    exact ⟨p1, x1, x2, y1, y2, m⟩
  have z2 := M2.size
  have U2 := U1.frame M2.fr (fun k h1 h2 h3 => by omega)
  have z1 := U1.span
  clear U1
  clear b3 o2 f2 B1 LB1 M2 O1 Q1 R1 S1
  generalize w1.setCell ⟨w.heap.size + 1 + 1, 2, none⟩ (.slice (some ⟨g1, 0, none⟩) d.nw d.nw) = w2 at *
  refine (toRatS_own a2 lo bb ob d.nb k2 d.B w2 (by omega) (by omega) LB2).mono ?_
  rintro e w3 ⟨g3, rfl, l3, l3', U3, R3, s3⟩
  have S3 : w.Since w.heap.size w3 := S2.trans (sinceMono s3 S2.size)
  have Q3 := Q2.keep s3
  have O3 := O2.keep s3
  have R2' := R2.keep s3
  have U2' := U2.keep s3
  have z3 := U3.span
  have o0 := O3.c0
  have o1 := O3.c1
  have o2 := O3.c2
  have o3 := O3.c3
  have of3 := O3.f 3
  have q0 := Q3.c0
  have q1 := Q3.c1
  have q2 := Q3.c2
  have q3 := Q3.c3
  have qf0 := Q3.f 0
  have qf1 := Q3.f 1
  have qf2 := Q3.f 2
  have qf3 := Q3.f 3
  clear LB2 R2 S2 O2 Q2
  have M4 : Marked w3 (w3.setCell ⟨w.heap.size + 1 + 1, 3, none⟩ (.slice (some ⟨g3, 0, none⟩) d.nb d.nb)) (w.heap.size + 1 + 1) := (Marked.refl w3 _).setCell _ _
  go_wp2
  have Q4 := ((((Q3.marked M4 (by omega)).set0 (.int .i64 d.rows)).set1 (.int .i64 d.cols)).set2 (.slice (some ⟨g1, 0, none⟩) d.nw d.nw)).set3 (.slice (some ⟨g3, 0, none⟩) d.nb d.nb)
  refine bodyPost_ret (results_box4T rfl Tryz.underlying66 rfl size_Affine _ _ _ _ _ _ _ rfl Q4) rfl ?_
  have M5 : Marked (w3.setCell ⟨w.heap.size + 1 + 1, 3, none⟩ (.slice (some ⟨g3, 0, none⟩) d.nb d.nb)) _ (w.heap.size + 1) := ((((Marked.refl _ _).setCell 0 (.int .i64 d.rows)).setCell 1 (.int .i64 d.cols)).setCell 2 (.slice (some ⟨g1, 0, none⟩) d.nw d.nw)).setCell 3 (.slice (some ⟨g3, 0, none⟩) d.nb d.nb)
  have z5 := M5.size
  have z4 := M4.size
  refine ⟨_, _, w1.heap.size, rfl, ((U2'.frame M4.fr (fun k h1 h2 h3 => by omega)).frame M5.fr (fun k h1 h2 h3 => by omega)).wide (by omega) (Nat.le_refl _), ((U3.frame M4.fr (fun k h1 h2 h3 => by omega)).frame M5.fr (fun k h1 h2 h3 => by omega)).wide (by omega) (by omega), ⟨Nat.le_refl _, Nat.le_refl _, ⟨g1, 0, fun _ => by omega, ?_⟩, ⟨g3, 0, fun _ => by omega, ?_⟩, H.r0, H.r1, H.q0, H.q1, H.n63, H.m63⟩, (S3.trans (M4.since (by omega))).trans (M5.since (by omega))⟩
  · exact ((R2'.marked M4 (by omega) (fun _ => by omega)).marked M5 (by omega) (fun _ => by omega)).down (by omega)
  · exact ((R3.marked M4 (by omega) (fun _ => by omega)).marked M5 (by omega) (fun _ => by omega)).down (by omega)

end Go.Proofs.YtkhpggnnpfckdaaGreatDoor

namespace Go.Proofs.YtkhpggnnpfckdaaGreatDoor
open Go.RowKit

theorem size_Node : (Tryz.prog.info? 84).map (·.size) = some 6 := by kernel_rfl
theorem size_Graph : (Tryz.prog.info? 50).map (·.size) = some 6 := by kernel_rfl
theorem info_Node : (Tryz.prog.info? 84).map (fun i => (i.zero, i.size, i.bytes)) = some (some (.agg #[.int .i64 0, .int .i64 0, .int .i64 0, .int .i64 0, .int .i64 0, .slice none 0 0]), 6, 64) := by kernel_rfl

set_option maxHeartbeats 3200000 in
set_option maxRecDepth 100000 in
/-- toNode, with what its copy owns. -/
theorem toNode_own (d : NodeD) (a1 : Option Addr) (lo k1 : Nat) (w : World) (hd : d.size ≤ 1048576) (H : NodL w lo d a1 k1) :
    Calls Tryz.prog 84 #[.agg #[.int .i64 d.op, .int .i64 d.a, .int .i64 d.b, .int .i64 d.k, .int .i64 d.s, .slice a1 d.nv k1]] w fun e w' => ∃ g1, e = .returned (.agg #[.int .i64 d.op, .int .i64 d.a, .int .i64 d.b, .int .i64 d.k, .int .i64 d.s, .slice (some ⟨g1, 0, none⟩) d.nv d.nv]) ∧ OwnL w' w.heap.size w'.heap.size g1 d.nv ∧
      NodL w' w.heap.size d (some ⟨g1, 0, none⟩) d.nv ∧ w.Since w.heap.size w' := by
  have ts := hd
  unfold NodeD.size at ts
  obtain ⟨wA, eA⟩ : ∃ wA : World, wA = (((w.alloc (.cells #[.int .i64 d.op, .int .i64 d.a, .int .i64 d.b, .int .i64 d.k, .int .i64 d.s, .slice a1 d.nv k1] 122)).alloc (.cells #[.int .i64 0, .int .i64 0, .int .i64 0, .int .i64 0, .int .i64 0, .slice none 0 0] 84)).alloc (.cells #[.int .i64 d.op, .int .i64 d.a, .int .i64 d.b, .int .i64 d.k, .int .i64 d.s, .slice none 0 0] 84)) := ⟨_, rfl⟩
  have sA : w.Since w.heap.size wA := by rw [eA]; exact (((World.Since.refl _ _).alloc (Nat.le_refl _) _).alloc (by simp) _).alloc (by simp; omega) _
  have zA : wA.heap.size = w.heap.size + 1 + 1 + 1 := by rw [eA]; simp
  have rA : Box6 wA (w.heap.size + 1) (.int .i64 0) (.int .i64 0) (.int .i64 0) (.int .i64 0) (.int .i64 0) (.slice none 0 0) := by
    rw [eA]
    have := (Box6.new (w.alloc (.cells #[.int .i64 d.op, .int .i64 d.a, .int .i64 d.b, .int .i64 d.k, .int .i64 d.s, .slice a1 d.nv k1] 122)) (.int .i64 0) (.int .i64 0) (.int .i64 0) (.int .i64 0) (.int .i64 0) (.slice none 0 0) 84).keep ((World.Since.refl _ _).alloc (Nat.le_refl _) (.cells #[.int .i64 d.op, .int .i64 d.a, .int .i64 d.b, .int .i64 d.k, .int .i64 d.s, .slice none 0 0] 84))
    simpa using this
  have oA : Box6 wA (w.heap.size + 1 + 1) (.int .i64 d.op) (.int .i64 d.a) (.int .i64 d.b) (.int .i64 d.k) (.int .i64 d.s) (.slice none 0 0) := by
    rw [eA]
    have := Box6.new ((w.alloc (.cells #[.int .i64 d.op, .int .i64 d.a, .int .i64 d.b, .int .i64 d.k, .int .i64 d.s, .slice a1 d.nv k1] 122)).alloc (.cells #[.int .i64 0, .int .i64 0, .int .i64 0, .int .i64 0, .int .i64 0, .slice none 0 0] 84)) (.int .i64 d.op) (.int .i64 d.a) (.int .i64 d.b) (.int .i64 d.k) (.int .i64 d.s) (.slice none 0 0) 84
    simpa using this
  obtain ⟨ba, oa, -, LV⟩ := (H.keep sA).LV
  have EA := hide eA
  clear eA
  go_enter Tryz.func84, Tryz.ntmps84
  go_wp2_with fail
  rw [← EA.out]
  refine (toRatS_own a1 lo ba oa d.nv k1 d.V wA (by omega) (by omega) LV).mono ?_
  rintro e w3 ⟨g1, rfl, l1, l1', U1, R1, s1⟩
  have S3 : w.Since w.heap.size w3 := sA.trans (sinceMono s1 sA.size)
  have Q3 := rA.keep s1
  have O3 := oA.keep s1
  have o0 := O3.c0
  have o1 := O3.c1
  have o2 := O3.c2
  have o3 := O3.c3
  have o4 := O3.c4
  have o5 := O3.c5
  have of5 := O3.f 5
  have q0 := Q3.c0
  have q1 := Q3.c1
  have q2 := Q3.c2
  have q3 := Q3.c3
  have q4 := Q3.c4
  have q5 := Q3.c5
  have qf0 := Q3.f 0
  have qf1 := Q3.f 1
  have qf2 := Q3.f 2
  have qf3 := Q3.f 3
  have qf4 := Q3.f 4
  have qf5 := Q3.f 5
  clear LV rA oA EA
  have M4 : Marked w3 (w3.setCell ⟨w.heap.size + 1 + 1, 5, none⟩ (.slice (some ⟨g1, 0, none⟩) d.nv d.nv)) (w.heap.size + 1 + 1) := (Marked.refl w3 _).setCell _ _
  go_wp2
  have Q4 := ((((((Q3.marked M4 (by omega)).set0 (.int .i64 d.op)).set1 (.int .i64 d.a)).set2 (.int .i64 d.b)).set3 (.int .i64 d.k)).set4 (.int .i64 d.s)).set5 (.slice (some ⟨g1, 0, none⟩) d.nv d.nv)
  refine bodyPost_ret (results_box6T rfl Tryz.underlying84 rfl size_Node _ _ _ _ _ _ _ _ _ rfl Q4) rfl ?_
  have M5 : Marked (w3.setCell ⟨w.heap.size + 1 + 1, 5, none⟩ (.slice (some ⟨g1, 0, none⟩) d.nv d.nv)) _ (w.heap.size + 1) := ((((((Marked.refl _ _).setCell 0 (.int .i64 d.op)).setCell 1 (.int .i64 d.a)).setCell 2 (.int .i64 d.b)).setCell 3 (.int .i64 d.k)).setCell 4 (.int .i64 d.s)).setCell 5 (.slice (some ⟨g1, 0, none⟩) d.nv d.nv)
  have z5 := M5.size
  have z4 := M4.size
  refine ⟨g1, rfl, ((U1.frame M4.fr (fun k h1 h2 h3 => by omega)).frame M5.fr (fun k h1 h2 h3 => by omega)).wide (by omega) (by omega), ⟨Nat.le_refl _, ⟨g1, 0, fun _ => by omega, ?_⟩, H.iop, H.ia, H.ib, H.ik, H.is, H.n63⟩, (S3.trans (M4.since (by omega))).trans (M5.since (by omega))⟩
  exact ((R1.marked M4 (by omega) (fun _ => by omega)).marked M5 (by omega) (fun _ => by omega)).down (by omega)

/-- A node of six cells whose list lies in memory of its own. -/
structure OwnD (w : World) (lo hi b off : Nat) (d : NodeD) (v0 v1 v2 v3 v4 : Value) (g1 : Nat) : Prop where
  c0 : w.cell? ⟨b, off, none⟩ = some v0
  c1 : w.cell? ⟨b, off + 1, none⟩ = some v1
  c2 : w.cell? ⟨b, off + 2, none⟩ = some v2
  c3 : w.cell? ⟨b, off + 3, none⟩ = some v3
  c4 : w.cell? ⟨b, off + 4, none⟩ = some v4
  c5 : w.cell? ⟨b, off + 5, none⟩ = some (.slice (some ⟨g1, 0, none⟩) d.nv d.nv)
  U1 : OwnL w lo hi g1 d.nv

section
variable {w w' : World} {lo hi b off : Nat} {d : NodeD} {v0 v1 v2 v3 v4 : Value} {g1 : Nat}
theorem OwnD.keep (r : OwnD w lo hi b off d v0 v1 v2 v3 v4 g1) (s : w.Since w.heap.size w') : OwnD w' lo hi b off d v0 v1 v2 v3 v4 g1 := by
  have lt : b < w.heap.size := World.block_lt_of_cell? _ _ r.c0
  exact ⟨(s.cell (a := ⟨b, off, none⟩) lt).trans r.c0, (s.cell (a := ⟨b, off + 1, none⟩) lt).trans r.c1, (s.cell (a := ⟨b, off + 2, none⟩) lt).trans r.c2, (s.cell (a := ⟨b, off + 3, none⟩) lt).trans r.c3, (s.cell (a := ⟨b, off + 4, none⟩) lt).trans r.c4, (s.cell (a := ⟨b, off + 5, none⟩) lt).trans r.c5, r.U1.keep s⟩
theorem OwnD.frame {S : Nat → Prop} (r : OwnD w lo hi b off d v0 v1 v2 v3 v4 g1) (F : Fra w w' S) (hS : ∀ k, lo ≤ k → k < hi → ¬ S k) (hc : ∀ o, off ≤ o → o < off + 6 → w'.cell? ⟨b, o, none⟩ = w.cell? ⟨b, o, none⟩) : OwnD w' lo hi b off d v0 v1 v2 v3 v4 g1 :=
  ⟨by rw [hc _ (by omega) (by omega)]; exact r.c0, by rw [hc _ (by omega) (by omega)]; exact r.c1, by rw [hc _ (by omega) (by omega)]; exact r.c2, by rw [hc _ (by omega) (by omega)]; exact r.c3, by rw [hc _ (by omega) (by omega)]; exact r.c4, by rw [hc _ (by omega) (by omega)]; exact r.c5,
    r.U1.frame F hS⟩
end

def OwnDs (w : World) (c k n : Nat) (E : Nat → Nat) (A : Nat → NodeD) : Prop := ∀ i, k ≤ i → i < n → ∃ v0 v1 v2 v3 v4 g1, OwnD w (E i) (E (i + 1)) c (i * 6) (A i) v0 v1 v2 v3 v4 g1

/-- A list of nodes that grows. -/
structure OwnDK (w : World) (c k : Nat) (E : Nat → Nat) (A : Nat → NodeD) : Prop where
  lo : c < E 0
  mono : ∀ i, i < k → E i ≤ E (i + 1)
  hi : E k ≤ w.heap.size
  own : OwnDs w c 0 k E A

theorem OwnDK.keep {w w' : World} {c k : Nat} {E : Nat → Nat} {A : Nat → NodeD} (H : OwnDK w c k E A) (s : w.Since w.heap.size w') : OwnDK w' c k E A :=
  ⟨H.lo, H.mono, Nat.le_trans H.hi s.size, fun i h1 h2 => by
    obtain ⟨v0, v1, v2, v3, v4, g1, r⟩ := H.own i h1 h2
    exact ⟨v0, v1, v2, v3, v4, g1, r.keep s⟩⟩

theorem OwnDK.put {w w' : World} {c k B g1 : Nat} {E : Nat → Nat} {A : Nat → NodeD} {v0 v1 v2 v3 v4 : Value} (H : OwnDK w c k E A) (hB : E k ≤ B) (M : Marked w w' c) (hc : ∀ o, o < k * 6 → w'.cell? ⟨c, o, none⟩ = w.cell? ⟨c, o, none⟩)
    (c0 : w'.cell? ⟨c, k * 6, none⟩ = some v0) (c1 : w'.cell? ⟨c, k * 6 + 1, none⟩ = some v1) (c2 : w'.cell? ⟨c, k * 6 + 2, none⟩ = some v2) (c3 : w'.cell? ⟨c, k * 6 + 3, none⟩ = some v3) (c4 : w'.cell? ⟨c, k * 6 + 4, none⟩ = some v4) (c5 : w'.cell? ⟨c, k * 6 + 5, none⟩ = some (.slice (some ⟨g1, 0, none⟩) (A k).nv (A k).nv))
    (U1 : OwnL w B w.heap.size g1 (A k).nv) : OwnDK w' c (k + 1) (fun i => if i ≤ k then E i else w.heap.size) A := by
  have b1 : c < E k := Nat.lt_of_lt_of_le H.lo (e_mono H.mono (Nat.zero_le _) (Nat.le_refl _))
  have p1 := U1.span
  refine ⟨by simpa using H.lo, fun i hi => ?_, ?_, fun i _ hi => ?_⟩
  · by_cases e : i = k
    · subst e
      simp only [Nat.le_refl, if_true, show ¬ i + 1 ≤ i by omega, if_false]
      exact H.hi
    · simp only [show i ≤ k by omega, show i + 1 ≤ k by omega, if_true]
      exact H.mono i (by omega)
  · simp only [show ¬ k + 1 ≤ k by omega, if_false]
    rw [M.size]; exact Nat.le_refl _
  · by_cases e : i = k
    · subst e
      simp only [Nat.le_refl, if_true, show ¬ i + 1 ≤ i by omega, if_false]
      exact ⟨v0, v1, v2, v3, v4, g1, c0, c1, c2, c3, c4, c5, (U1.frame M.fr (fun k h1 h2 h3 => by omega)).wide hB (Nat.le_refl _)⟩
    · simp only [show i ≤ k by omega, show i + 1 ≤ k by omega, if_true]
      obtain ⟨v0', v1', v2', v3', v4', g1', r'⟩ := H.own i (Nat.zero_le _) (by omega)
      have := e_mono H.mono (Nat.zero_le i) (show i ≤ k by omega)
      have := H.lo
      exact ⟨v0', v1', v2', v3', v4', g1', r'.frame M.fr (fun c h1 h2 h3 => by omega) (fun o h1 h2 => hc o (by omega))⟩

/-- A list of nodes whose memory lies from lo to hi, and may be written. -/
structure OwnN (w : World) (lo hi c n : Nat) (A : Nat → NodeD) : Prop where
  ex : ∃ E : Nat → Nat, lo ≤ c ∧ c < E 0 ∧ (∀ i, i < n → E i ≤ E (i + 1)) ∧ E n ≤ hi ∧ OwnDs w c 0 n E A
  f : ∀ o, w.frozen? ⟨c, o, none⟩ = false
  lt : c < w.heap.size

section
variable {w w' : World} {lo hi lo' hi' c n : Nat} {A : Nat → NodeD}
theorem OwnN.span (H : OwnN w lo hi c n A) : lo ≤ c ∧ c < hi := by
  obtain ⟨E, h1, h2, h3, h4, -⟩ := H.ex
  have := e_mono h3 (Nat.zero_le n) (Nat.le_refl _)
  exact ⟨h1, by omega⟩
theorem OwnN.wide (H : OwnN w lo hi c n A) (h1 : lo' ≤ lo) (h2 : hi ≤ hi') : OwnN w lo' hi' c n A := by
  obtain ⟨E, a, b, e, d, o⟩ := H.ex
  exact ⟨⟨E, by omega, b, e, by omega, o⟩, H.f, H.lt⟩
theorem OwnN.keep (H : OwnN w lo hi c n A) (s : w.Since w.heap.size w') : OwnN w' lo hi c n A := by
  obtain ⟨E, a, b, e, d, o⟩ := H.ex
  exact ⟨⟨E, a, b, e, d, fun i h1 h2 => by
    obtain ⟨v0, v1, v2, v3, v4, g1, r⟩ := o i h1 h2
    exact ⟨v0, v1, v2, v3, v4, g1, r.keep s⟩⟩, fun o => by rw [s.frozen (a := ⟨c, o, none⟩) H.lt]; exact H.f o, Nat.lt_of_lt_of_le H.lt s.size⟩
theorem OwnN.frame {S : Nat → Prop} (H : OwnN w lo hi c n A) (F : Fra w w' S) (hS : ∀ k, lo ≤ k → k < hi → ¬ S k) : OwnN w' lo hi c n A := by
  have sp := H.span
  obtain ⟨E, a, b, e, d, o⟩ := H.ex
  refine ⟨⟨E, a, b, e, d, fun i h1 h2 => ?_⟩, fun o => by rw [F.frozen]; exact H.f o, by rw [F.size]; exact H.lt⟩
  obtain ⟨v0, v1, v2, v3, v4, g1, r⟩ := o i h1 h2
  have x1 := e_mono e (Nat.zero_le i) (show i ≤ n by omega)
  have x2 := e_mono e (i := i + 1) (j := n) (by omega) (Nat.le_refl _)
  exact ⟨v0, v1, v2, v3, v4, g1, r.frame F (fun k h1 h2 => hS k (by omega) (by omega)) (fun o _ _ => F.cell (a := ⟨c, o, none⟩) (hS c sp.1 sp.2))⟩
end

set_option maxHeartbeats 1600000 in
set_option maxRecDepth 100000 in
/-- toNodeS, with what its copy owns. -/
theorem toNodeS_own (a : Option Addr) (lo b off n cap : Nat) (A : Nat → NodeD) (w : World) (hn : n ≤ 1048576) (hs : szN A n ≤ 1048576) (H : Nods w lo a b off n A) :
    Calls Tryz.prog 50 #[.slice a n cap] w fun e w' => ∃ c, e = .returned (.slice (some ⟨c, 0, none⟩) n n) ∧ w.heap.size ≤ c ∧ c < w'.heap.size ∧ OwnN w' w.heap.size w'.heap.size c n A ∧ Nods w' (c + 1) (some ⟨c, 0, none⟩) c 0 n A ∧ w.Since w.heap.size w' := by
  have hmk := run_make_wide (P := Tryz.prog) 48 84 _ 6 64 Tryz.underlying48 info_Node .i64 .i64 n (by omega) (by omega)
  have sA := (World.Since.refl w.heap.size w).alloc (Nat.le_refl _) (.cells (madeCells #[.int .i64 0, .int .i64 0, .int .i64 0, .int .i64 0, .int .i64 0, .slice none 0 0] (n * 6)) 84)
  have rA := Room.new w #[.int .i64 0, .int .i64 0, .int .i64 0, .int .i64 0, .int .i64 0, .slice none 0 0] (n * 6) 84
  go_enter Tryz.func50, Tryz.ntmps50
  go_wp2
  go_loopw [4] (fun i wr => ∃ (k : Nat) (E : Nat → Nat), OwnDK wr w.heap.size k E A ∧ k ≤ n ∧ i = .int .i64 k ∧ w.Since w.heap.size wr ∧ Room wr w.heap.size (n * 6) ∧ Nods wr (w.heap.size + 1) (some ⟨w.heap.size, 0, none⟩) w.heap.size 0 k A) (fun i _ => n - (intOf i).toNat)
  case atStart => exact ⟨0, fun _ => w.heap.size + 1, ⟨Nat.lt_succ_self _, fun i hi => absurd hi (by omega), by simp, fun i _ hi => absurd hi (by omega)⟩, Nat.zero_le _, rfl, sA, rA, fun i hi => absurd hi (by omega)⟩
  case round =>
    obtain ⟨k, E, ow, hk, rfl, s, r, T⟩ := hrel
    by_cases hlt : k < n
    · obtain ⟨rfl, a1, k1, M⟩ := H k hlt
      have M' := M.keep s
      have g0 := M'.c0
      have g1 := M'.c1
      have g2 := M'.c2
      have g3 := M'.c3
      have g4 := M'.c4
      have g5 := M'.c5
      have hz : (k : Int) < (n : Int) := by omega
      have hsz := szN_at (A := A) hlt
      go_wp2_with fail
      refine (toNode_own (A k) a1 lo k1 wr (by omega) M'.L).mono ?_
      rintro e w2 ⟨y1, rfl, U1, L2, s2⟩
      have r2 := r.keep s2
      have T2 := T.keep s2
      have S2 : w.Since w.heap.size w2 := s.trans (sinceMono s2 s.size)
      obtain ⟨v0, u0⟩ := r2.cell (k * 6) (by omega)
      obtain ⟨v1, u1⟩ := r2.cell (k * 6 + 1) (by omega)
      obtain ⟨v2, u2⟩ := r2.cell (k * 6 + 2) (by omega)
      obtain ⟨v3, u3⟩ := r2.cell (k * 6 + 3) (by omega)
      obtain ⟨v4, u4⟩ := r2.cell (k * 6 + 4) (by omega)
      obtain ⟨v5, u5⟩ := r2.cell (k * 6 + 5) (by omega)
      have f0 := r2.f (k * 6)
      have f1 := r2.f (k * 6 + 1)
      have f2 := r2.f (k * 6 + 2)
      have f3 := r2.f (k * 6 + 3)
      have f4 := r2.f (k * 6 + 4)
      have f5 := r2.f (k * 6 + 5)
      have rl := r.lt
      clear g0 g1 g2 g3 g4 g5
      go_wp2
      go_roundw
      case rel =>
        go_light
        obtain ⟨w3, e3, M3, R3, x0, x1, x2, x3, x4, x5, xo⟩ := put6 (q := k * 6) r2 (by omega) (.int .i64 (A k).op) (.int .i64 (A k).a) (.int .i64 (A k).b) (.int .i64 (A k).k) (.int .i64 (A k).s) (.slice (some ⟨y1, 0, none⟩) (A k).nv (A k).nv)
        rw [← e3]
        exact ⟨k + 1, _, (ow.keep s2).put ow.hi M3 (fun o ho => xo o (by omega)) x0 x1 x2 x3 x4 x5 U1, by omega, by go_num, S2.trans (M3.since (Nat.le_refl _)), R3, T2.put M3 (fun o ho => xo o (by omega)) (L2.down (by omega)) x0 x1 x2 x3 x4 x5⟩
      case measure => simp [intOf]; omega
    · have e : k = n := by omega
      subst e
      have rl := r.lt
      go_wp2
      go_ret
      exact ⟨w.heap.size, rfl, Nat.le_refl _, rl, ⟨⟨E, Nat.le_refl _, ow.lo, ow.mono, ow.hi, ow.own⟩, r.f, rl⟩, T, s⟩

/-- A graph whose memory lies from lo to hi, and may be written. -/
structure OwnG (w : World) (lo hi : Nat) (g : GraphD) (c1 c2 c3 : Nat) : Prop where
  ex : ∃ m1 m2, lo ≤ m1 ∧ m1 ≤ m2 ∧ m2 ≤ hi ∧ OwnL w lo m1 c1 g.nl ∧ OwnL w m1 m2 c2 g.nh ∧ OwnN w m2 hi c3 g.nn g.N

section
variable {w w' : World} {lo hi lo' hi' c1 c2 c3 : Nat} {g : GraphD}
theorem OwnG.keep (H : OwnG w lo hi g c1 c2 c3) (s : w.Since w.heap.size w') : OwnG w' lo hi g c1 c2 c3 := by
  obtain ⟨m1, m2, h1, h2, h3, U1, U2, U3⟩ := H.ex
  exact ⟨m1, m2, h1, h2, h3, U1.keep s, U2.keep s, U3.keep s⟩
theorem OwnG.wide (H : OwnG w lo hi g c1 c2 c3) (h1 : lo' ≤ lo) (h2 : hi ≤ hi') : OwnG w lo' hi' g c1 c2 c3 := by
  obtain ⟨m1, m2, a1, a2, a3, U1, U2, U3⟩ := H.ex
  exact ⟨m1, m2, by omega, a2, by omega, U1.wide h1 (Nat.le_refl _), U2, U3.wide (Nat.le_refl _) h2⟩
theorem OwnG.frame {S : Nat → Prop} (H : OwnG w lo hi g c1 c2 c3) (F : Fra w w' S) (hS : ∀ k, lo ≤ k → k < hi → ¬ S k) : OwnG w' lo hi g c1 c2 c3 := by
  obtain ⟨m1, m2, h1, h2, h3, U1, U2, U3⟩ := H.ex
  exact ⟨m1, m2, h1, h2, h3, U1.frame F (fun k a b => hS k a (by omega)), U2.frame F (fun k a b => hS k (by omega) (by omega)), U3.frame F (fun k a b => hS k (by omega) b)⟩
end

set_option maxHeartbeats 3200000 in
set_option maxRecDepth 100000 in
/-- toGraph, with what its copy owns. -/
theorem toGraph_own (g : GraphD) (aL aH aN : Option Addr) (lo kL kH kN : Nat) (w : World) (hd : g.size ≤ 1048576) (H : GraL w lo g aL aH aN kL kH kN) :
    Calls Tryz.prog 19 #[.agg #[.int .i64 g.inn, .int .i64 g.rounds, .slice aL g.nl kL, .slice aH g.nh kH, .slice aN g.nn kN, .int .i64 g.out]] w fun e w' => ∃ c1 c2 c3, e = .returned (.agg #[.int .i64 g.inn, .int .i64 g.rounds, .slice (some ⟨c1, 0, none⟩) g.nl g.nl, .slice (some ⟨c2, 0, none⟩) g.nh g.nh, .slice (some ⟨c3, 0, none⟩) g.nn g.nn, .int .i64 g.out]) ∧ OwnG w' w.heap.size w'.heap.size g c1 c2 c3 ∧
      GraL w' w.heap.size g (some ⟨c1, 0, none⟩) (some ⟨c2, 0, none⟩) (some ⟨c3, 0, none⟩) g.nl g.nh g.nn ∧ w.Since w.heap.size w' := by
  have ts := hd
  unfold GraphD.size at ts
  obtain ⟨wA, eA⟩ : ∃ wA : World, wA = (((w.alloc (.cells #[.int .i64 g.inn, .int .i64 g.rounds, .slice aL g.nl kL, .slice aH g.nh kH, .slice aN g.nn kN, .int .i64 g.out] 43)).alloc (.cells #[.int .i64 0, .int .i64 0, .slice none 0 0, .slice none 0 0, .slice none 0 0, .int .i64 0] 50)).alloc (.cells #[.int .i64 g.inn, .int .i64 g.rounds, .slice none 0 0, .slice none 0 0, .slice none 0 0, .int .i64 0] 50)) := ⟨_, rfl⟩
  have sA : w.Since w.heap.size wA := by rw [eA]; exact (((World.Since.refl _ _).alloc (Nat.le_refl _) _).alloc (by simp) _).alloc (by simp; omega) _
  have zA : wA.heap.size = w.heap.size + 1 + 1 + 1 := by rw [eA]; simp
  have bA : Box6 wA w.heap.size (.int .i64 g.inn) (.int .i64 g.rounds) (.slice aL g.nl kL) (.slice aH g.nh kH) (.slice aN g.nn kN) (.int .i64 g.out) := by rw [eA]; exact ((Box6.new w _ _ _ _ _ _ _).keep ((World.Since.refl _ _).alloc (Nat.le_refl _) _)).keep ((World.Since.refl _ _).alloc (Nat.le_refl _) _)
  have rA : Box6 wA (w.heap.size + 1) (.int .i64 0) (.int .i64 0) (.slice none 0 0) (.slice none 0 0) (.slice none 0 0) (.int .i64 0) := by
    rw [eA]
    have := (Box6.new (w.alloc (.cells #[.int .i64 g.inn, .int .i64 g.rounds, .slice aL g.nl kL, .slice aH g.nh kH, .slice aN g.nn kN, .int .i64 g.out] 43)) (.int .i64 0) (.int .i64 0) (.slice none 0 0) (.slice none 0 0) (.slice none 0 0) (.int .i64 0) 50).keep ((World.Since.refl _ _).alloc (Nat.le_refl _) (.cells #[.int .i64 g.inn, .int .i64 g.rounds, .slice none 0 0, .slice none 0 0, .slice none 0 0, .int .i64 0] 50))
    simpa using this
  have oA : Box6 wA (w.heap.size + 1 + 1) (.int .i64 g.inn) (.int .i64 g.rounds) (.slice none 0 0) (.slice none 0 0) (.slice none 0 0) (.int .i64 0) := by
    rw [eA]
    have := Box6.new ((w.alloc (.cells #[.int .i64 g.inn, .int .i64 g.rounds, .slice aL g.nl kL, .slice aH g.nh kH, .slice aN g.nn kN, .int .i64 g.out] 43)).alloc (.cells #[.int .i64 0, .int .i64 0, .slice none 0 0, .slice none 0 0, .slice none 0 0, .int .i64 0] 50)) (.int .i64 g.inn) (.int .i64 g.rounds) (.slice none 0 0) (.slice none 0 0) (.slice none 0 0) (.int .i64 0) 50
    simpa using this
  obtain ⟨b1, o1, -, L1⟩ := (H.keep sA).LL
  have EA := hide eA
  clear eA
  go_enter Tryz.func19, Tryz.ntmps19
  go_wp2_with fail
  rw [← EA.out]
  refine (toRatS_own aL lo b1 o1 g.nl kL g.Lo wA (by omega) (by omega) L1).mono ?_
  rintro e w1 ⟨g1, rfl, l1, l1', U1, R1, s1⟩
  have S1 : w.Since w.heap.size w1 := sA.trans (sinceMono s1 sA.size)
  have B1 := bA.keep s1
  have Q1 := rA.keep s1
  have O1 := oA.keep s1
  have b3 := B1.c3
  have o2 := O1.c2
  have f2 := O1.f 2
  clear bA rA oA L1 EA
  go_wp2_with fail
  have M2 : Marked w1 (w1.setCell ⟨w.heap.size + 1 + 1, 2, none⟩ (.slice (some ⟨g1, 0, none⟩) g.nl g.nl)) (w.heap.size + 1 + 1) := (Marked.refl w1 _).setCell _ _
  have O2 := O1.set2 (.slice (some ⟨g1, 0, none⟩) g.nl g.nl)
  have Q2 := Q1.marked M2 (by omega)
  have B2 := B1.marked M2 (by omega)
  have R2 := R1.marked M2 (by omega) (fun _ => by omega)
  have S2 := S1.trans (M2.since (B := w.heap.size) (by omega))
  have z2 := M2.size
  have z1 := U1.span
  have U2 := U1.frame M2.fr (fun k h1 h2 h3 => by omega)
  clear U1 b3 o2 f2 B1 M2 O1 Q1 R1 S1
  generalize w1.setCell ⟨w.heap.size + 1 + 1, 2, none⟩ (.slice (some ⟨g1, 0, none⟩) g.nl g.nl) = w2 at *
  obtain ⟨b2, o2, -, L2⟩ := (H.keep S2).LH
  refine (toRatS_own aH lo b2 o2 g.nh kH g.Hi w2 (by omega) (by omega) L2).mono ?_
  rintro e w3 ⟨g2, rfl, l3, l3', V1, T1, s3⟩
  have S3 : w.Since w.heap.size w3 := S2.trans (sinceMono s3 S2.size)
  have B3 := B2.keep s3
  have Q3 := Q2.keep s3
  have O3 := O2.keep s3
  have R3 := R2.keep s3
  have U3 := U2.keep s3
  have b4 := B3.c4
  have o3 := O3.c3
  have f3 := O3.f 3
  clear B2 Q2 O2 R2 U2 L2
  go_wp2_with fail
  have M4 : Marked w3 (w3.setCell ⟨w.heap.size + 1 + 1, 3, none⟩ (.slice (some ⟨g2, 0, none⟩) g.nh g.nh)) (w.heap.size + 1 + 1) := (Marked.refl w3 _).setCell _ _
  have O4 := O3.set3 (.slice (some ⟨g2, 0, none⟩) g.nh g.nh)
  have Q4 := Q3.marked M4 (by omega)
  have B4 := B3.marked M4 (by omega)
  have R4 := R3.marked M4 (by omega) (fun _ => by omega)
  have T4 := T1.marked M4 (by omega) (fun _ => by omega)
  have S4 := S3.trans (M4.since (B := w.heap.size) (by omega))
  have z4 := M4.size
  have z3 := V1.span
  have U4 := U3.frame M4.fr (fun k h1 h2 h3 => by omega)
  have V4 := V1.frame M4.fr (fun k h1 h2 h3 => by omega)
  clear U3 V1 b4 o3 f3 B3 M4 O3 Q3 R3 T1 S3
  generalize w3.setCell ⟨w.heap.size + 1 + 1, 3, none⟩ (.slice (some ⟨g2, 0, none⟩) g.nh g.nh) = w4 at *
  obtain ⟨b3, o3, -, L3⟩ := (H.keep S4).LN
  refine (toNodeS_own aN lo b3 o3 g.nn kN g.N w4 (by omega) (by omega) L3).mono ?_
  rintro e w5 ⟨g3, rfl, l5, l5', W1, X1, s5⟩
  have S5 : w.Since w.heap.size w5 := S4.trans (sinceMono s5 S4.size)
  have Q5 := Q4.keep s5
  have B5 := B4.keep s5
  have O5 := O4.keep s5
  have R5 := R4.keep s5
  have T5 := T4.keep s5
  have U5 := U4.keep s5
  have V5 := V4.keep s5
  have z5 := W1.span
  have o0 := O5.c0
  have o1 := O5.c1
  have o2 := O5.c2
  have o3 := O5.c3
  have o4 := O5.c4
  have o5 := O5.c5
  have of4 := O5.f 4
  have of5 := O5.f 5
  have q0 := Q5.c0
  have q1 := Q5.c1
  have q2 := Q5.c2
  have q3 := Q5.c3
  have q4 := Q5.c4
  have q5 := Q5.c5
  have qf0 := Q5.f 0
  have qf1 := Q5.f 1
  have qf2 := Q5.f 2
  have qf3 := Q5.f 3
  have qf4 := Q5.f 4
  have qf5 := Q5.f 5
  clear Q4 O4 R4 T4 U4 V4 L3 S4 B4
  have M6 : Marked w5 ((w5.setCell ⟨w.heap.size + 1 + 1, 4, none⟩ (.slice (some ⟨g3, 0, none⟩) g.nn g.nn)).setCell ⟨w.heap.size + 1 + 1, 5, none⟩ (.int .i64 g.out)) (w.heap.size + 1 + 1) := ((Marked.refl w5 _).setCell _ _).setCell _ _
  have b5 := B5.c5
  go_wp2
  have Q6 := ((((((Q5.marked M6 (by omega)).set0 (.int .i64 g.inn)).set1 (.int .i64 g.rounds)).set2 (.slice (some ⟨g1, 0, none⟩) g.nl g.nl)).set3 (.slice (some ⟨g2, 0, none⟩) g.nh g.nh)).set4 (.slice (some ⟨g3, 0, none⟩) g.nn g.nn)).set5 (.int .i64 g.out)
  refine bodyPost_ret (results_box6T rfl Tryz.underlying50 rfl size_Graph _ _ _ _ _ _ _ _ _ rfl Q6) rfl ?_
  have M7 : Marked ((w5.setCell ⟨w.heap.size + 1 + 1, 4, none⟩ (.slice (some ⟨g3, 0, none⟩) g.nn g.nn)).setCell ⟨w.heap.size + 1 + 1, 5, none⟩ (.int .i64 g.out)) _ (w.heap.size + 1) := ((((((Marked.refl _ _).setCell 0 (.int .i64 g.inn)).setCell 1 (.int .i64 g.rounds)).setCell 2 (.slice (some ⟨g1, 0, none⟩) g.nl g.nl)).setCell 3 (.slice (some ⟨g2, 0, none⟩) g.nh g.nh)).setCell 4 (.slice (some ⟨g3, 0, none⟩) g.nn g.nn)).setCell 5 (.int .i64 g.out)
  have z7 := M7.size
  have z6 := M6.size
  refine ⟨g1, g2, g3, rfl, ⟨w1.heap.size, w3.heap.size, by omega, by omega, by omega, ((U5.frame M6.fr (fun k h1 h2 h3 => by omega)).frame M7.fr (fun k h1 h2 h3 => by omega)).wide (by omega) (Nat.le_refl _), ((V5.frame M6.fr (fun k h1 h2 h3 => by omega)).frame M7.fr (fun k h1 h2 h3 => by omega)).wide (by omega) (Nat.le_refl _), ((W1.frame M6.fr (fun k h1 h2 h3 => by omega)).frame M7.fr (fun k h1 h2 h3 => by omega)).wide (by omega) (by omega)⟩,
    ⟨Nat.le_refl _, Nat.le_refl _, Nat.le_refl _, ⟨g1, 0, fun _ => by omega, ?_⟩, ⟨g2, 0, fun _ => by omega, ?_⟩, ⟨g3, 0, fun _ => by omega, ?_⟩, H.ii, H.ir, H.io, H.l63, H.h63, H.n63⟩, (S5.trans (M6.since (by omega))).trans (M7.since (by omega))⟩
  · exact ((R5.marked M6 (by omega) (fun _ => by omega)).marked M7 (by omega) (fun _ => by omega)).down (by omega)
  · exact ((T5.marked M6 (by omega) (fun _ => by omega)).marked M7 (by omega) (fun _ => by omega)).down (by omega)
  · exact ((X1.marked M6 (by omega) (fun _ => by omega)).marked M7 (by omega) (fun _ => by omega)).down (by omega)

end Go.Proofs.YtkhpggnnpfckdaaGreatDoor

namespace Go.Proofs.YtkhpggnnpfckdaaGreatDoor
open Go.RowKit

set_option maxHeartbeats 3200000 in
set_option maxRecDepth 100000 in
/-- markNodeS at a list of its own memory. -/
theorem markNodeS_own (lo hi c n cap k0 : Nat) (A : Nat → NodeD) (w : World) (hn : n ≤ 1048576) (hsz : szN A n ≤ 1048576) (hk0 : k0 ≤ 288230376151711744) (H : OwnN w lo hi c n A) :
    Calls Tryz.prog 56 #[.slice (some ⟨c, 0, none⟩) n cap, .int .i64 k0] w fun e w' => ∃ k1 : Nat, k1 ≤ k0 + 5 * n + szN A n * 8388609 ∧ e = .returned (.int .i64 (k1 : Int)) ∧ Fra w w' (fun k => lo ≤ k ∧ k < hi) := by
  have sp := H.span
  obtain ⟨E, ha, hb, hE, hd, ho⟩ := H.ex
  have hf := H.f
  go_enter Tryz.func56, Tryz.ntmps56
  go_wp2
  go_loopw [1, 5] (fun q i wr => ∃ (k Kk : Nat), k ≤ n ∧ i = .int .i64 k ∧ q = .int .i64 (Kk : Int) ∧ Kk ≤ k0 + 5 * k + szN A k * 8388609 ∧ Fra w wr (fun k => lo ≤ k ∧ k < hi) ∧ OwnDs wr c k n E A) (fun _ i _ => n - (intOf i).toNat)
  case atStart => exact ⟨0, k0, Nat.zero_le _, rfl, rfl, by omega, Fra.refl _ _, ho⟩
  case round =>
    obtain ⟨k, Kk, hk, rfl, rfl, hK, hs, ho⟩ := hrel
    have m1 := szN_mono (A := A) hk
    by_cases hlt : k < n
    · obtain ⟨v0, v1, v2, v3, v4, g1, r⟩ := ho k (Nat.le_refl _) hlt
      have e0 := r.c0
      have e1 := r.c1
      have e2 := r.c2
      have e3 := r.c3
      have e4 := r.c4
      have e5 := r.c5
      have fz0 : wr.frozen? ⟨c, k * 6, none⟩ = false := by rw [hs.frozen]; exact hf _
      have fz1 : wr.frozen? ⟨c, k * 6 + 1, none⟩ = false := by rw [hs.frozen]; exact hf _
      have fz2 : wr.frozen? ⟨c, k * 6 + 2, none⟩ = false := by rw [hs.frozen]; exact hf _
      have fz3 : wr.frozen? ⟨c, k * 6 + 3, none⟩ = false := by rw [hs.frozen]; exact hf _
      have fz4 : wr.frozen? ⟨c, k * 6 + 4, none⟩ = false := by rw [hs.frozen]; exact hf _
      have p1 := r.U1.span
      have b1 : c < E k := Nat.lt_of_lt_of_le hb (e_mono hE (Nat.zero_le _) hk)
      have m2 := szN_mono (A := A) (show k + 1 ≤ n by omega)
      rw [szN_succ] at m2
      have m3 : (A k).nv ≤ (A k).size := by unfold NodeD.size; omega
      have q1 := e_mono hE (Nat.zero_le k) hk
      have q2 := e_mono hE (i := k + 1) (j := n) (by omega) (Nat.le_refl _)
      go_wp2_with fail
      have M1 : Marked wr (((((wr.setCell ⟨c, k * 6, none⟩ (.int .i64 (Kk : Int))).setCell ⟨c, k * 6 + 1, none⟩ (.int .i64 ((Kk : Int) + 1))).setCell ⟨c, k * 6 + 2, none⟩ (.int .i64 ((Kk : Int) + 1 + 1))).setCell ⟨c, k * 6 + 3, none⟩ (.int .i64 ((Kk : Int) + 1 + 1 + 1))).setCell ⟨c, k * 6 + 4, none⟩ (.int .i64 ((Kk : Int) + 1 + 1 + 1 + 1))) c := (((((Marked.refl wr c).setCell _ _).setCell _ _).setCell _ _).setCell _ _).setCell _ _
      have d1 : ∀ o, o < k * 6 ∨ k * 6 + 4 < o → (((((wr.setCell ⟨c, k * 6, none⟩ (.int .i64 (Kk : Int))).setCell ⟨c, k * 6 + 1, none⟩ (.int .i64 ((Kk : Int) + 1))).setCell ⟨c, k * 6 + 2, none⟩ (.int .i64 ((Kk : Int) + 1 + 1))).setCell ⟨c, k * 6 + 3, none⟩ (.int .i64 ((Kk : Int) + 1 + 1 + 1))).setCell ⟨c, k * 6 + 4, none⟩ (.int .i64 ((Kk : Int) + 1 + 1 + 1 + 1))).cell? ⟨c, o, none⟩ = wr.cell? ⟨c, o, none⟩ := fun o h1 => by
        rw [cell_else _ _ (by omega), cell_else _ _ (by omega), cell_else _ _ (by omega), cell_else _ _ (by omega), cell_else _ _ (by omega)]
      generalize (((((wr.setCell ⟨c, k * 6, none⟩ (.int .i64 (Kk : Int))).setCell ⟨c, k * 6 + 1, none⟩ (.int .i64 ((Kk : Int) + 1))).setCell ⟨c, k * 6 + 2, none⟩ (.int .i64 ((Kk : Int) + 1 + 1))).setCell ⟨c, k * 6 + 3, none⟩ (.int .i64 ((Kk : Int) + 1 + 1 + 1))).setCell ⟨c, k * 6 + 4, none⟩ (.int .i64 ((Kk : Int) + 1 + 1 + 1 + 1))) = w1 at *
      rw [show ((Kk : Int) + 1 + 1 + 1 + 1 + 1) = ((Kk + 1 + 1 + 1 + 1 + 1 : Nat) : Int) by omega]
      refine (markRatS_own (E k) (E (k + 1)) g1 (A k).nv (A k).nv (Kk + 1 + 1 + 1 + 1 + 1) w1 (by omega) (by omega) (r.U1.frame M1.fr (fun k h1 h2 h3 => by omega))).mono ?_
      rintro e w2 ⟨ka, hka, rfl, F2⟩
      go_wp2
      go_roundw
      case rel =>
        have F : Fra wr w2 (fun x => x = c ∨ E k ≤ x ∧ x < E (k + 1)) :=
          (M1.fr.mono (fun x h0 => .inl h0)).trans (F2.mono (fun x h0 => .inr h0))
        have hcb : ∀ o, o < k * 6 ∨ k * 6 + 4 < o → w2.cell? ⟨c, o, none⟩ = wr.cell? ⟨c, o, none⟩ := fun o h0 => by
          rw [F2.cell (a := ⟨c, o, none⟩) (fun h0 => by have : E k ≤ c := h0.1; omega), d1 o h0]
        refine ⟨k + 1, ka, by omega, by go_num, rfl, ?_, hs.trans (F.mono fun x hx => ?_), fun i hi hi' => ?_⟩
        · rw [szN_succ]; omega
        · rcases hx with hx | hx <;> omega
        · obtain ⟨v0', v1', v2', v3', v4', g1', r'⟩ := ho i (by omega) hi'
          have := e_mono hE (i := k + 1) (j := i) (by omega) (by omega)
          exact ⟨v0', v1', v2', v3', v4', g1', r'.frame F (fun x h1 h2 h3 => by have := hE k hlt; rcases h3 with h3 | h3 <;> omega) (fun o h1 h2 => hcb o (by omega))⟩
      case measure => simp [intOf]; omega
    · have e : k = n := by omega
      subst e
      go_wp2
      go_ret
      exact ⟨Kk, hK, rfl, hs⟩

set_option maxHeartbeats 1600000 in
set_option maxRecDepth 100000 in
/-- markGraph at a graph of its own memory. -/
theorem markGraph_own (lo hi c1 c2 c3 x1 x2 x3 k0 : Nat) (g : GraphD) (w : World) (hsz : g.size ≤ 1048576) (hk0 : k0 ≤ 1048576) (hh : hi ≤ w.heap.size) (H : OwnG w lo hi g c1 c2 c3) :
    Calls Tryz.prog 23 #[.agg #[.int .i64 g.inn, .int .i64 g.rounds, .slice (some ⟨c1, 0, none⟩) g.nl x1, .slice (some ⟨c2, 0, none⟩) g.nh x2, .slice (some ⟨c3, 0, none⟩) g.nn x3, .int .i64 g.out], .int .i64 k0] w fun e w' => ∃ k1 : Nat, e = .returned (.int .i64 (k1 : Int)) ∧ k1 ≤ 288230376151711744 ∧
      ∃ w1, w.Since w.heap.size w1 ∧ Fra w1 w' (fun k => lo ≤ k ∧ k < hi) := by
  have ts := hsz
  unfold GraphD.size at ts
  have sA : w.Since w.heap.size (w.alloc (.cells #[.int .i64 g.inn, .int .i64 g.rounds, .slice (some ⟨c1, 0, none⟩) g.nl x1, .slice (some ⟨c2, 0, none⟩) g.nh x2, .slice (some ⟨c3, 0, none⟩) g.nn x3, .int .i64 g.out] 50)) := (World.Since.refl _ _).alloc (Nat.le_refl _) _
  have oA := Box6.new w (.int .i64 g.inn) (.int .i64 g.rounds) (.slice (some ⟨c1, 0, none⟩) g.nl x1) (.slice (some ⟨c2, 0, none⟩) g.nh x2) (.slice (some ⟨c3, 0, none⟩) g.nn x3) (.int .i64 g.out) 50
  go_enter Tryz.func23, Tryz.ntmps23
  go_wp2_with fail
  generalize w.alloc (.cells #[.int .i64 g.inn, .int .i64 g.rounds, .slice (some ⟨c1, 0, none⟩) g.nl x1, .slice (some ⟨c2, 0, none⟩) g.nh x2, .slice (some ⟨c3, 0, none⟩) g.nn x3, .int .i64 g.out] 50) = w1 at *
  obtain ⟨m1, m2, a1, a2, a3, U1, U2, U3⟩ := (H.keep sA).ex
  refine (markRatS_own lo m1 c1 g.nl x1 k0 w1 (by omega) (by omega) U1).mono ?_
  rintro e w2 ⟨k1, h1, rfl, F1⟩
  have i3 : w2.cell? ⟨w.heap.size, 3, none⟩ = some (.slice (some ⟨c2, 0, none⟩) g.nh x2) := by rw [F1.cell (a := ⟨w.heap.size, 3, none⟩) (fun h0 => by have : w.heap.size < m1 := h0.2; omega)]; exact oA.c3
  have i4 : w2.cell? ⟨w.heap.size, 4, none⟩ = some (.slice (some ⟨c3, 0, none⟩) g.nn x3) := by rw [F1.cell (a := ⟨w.heap.size, 4, none⟩) (fun h0 => by have : w.heap.size < m1 := h0.2; omega)]; exact oA.c4
  go_wp2_with fail
  refine (markRatS_own m1 m2 c2 g.nh x2 k1 w2 (by omega) (by omega) (U2.frame F1 (fun k h1 h2 h3 => by have := h3.2; omega))).mono ?_
  rintro e w3 ⟨k2, h2, rfl, F2⟩
  have j4 : w3.cell? ⟨w.heap.size, 4, none⟩ = some (.slice (some ⟨c3, 0, none⟩) g.nn x3) := by rw [F2.cell (a := ⟨w.heap.size, 4, none⟩) (fun h0 => by have : w.heap.size < m2 := h0.2; omega)]; exact i4
  clear i3 i4
  go_wp2_with fail
  refine (markNodeS_own m2 hi c3 g.nn x3 k2 g.N w3 (by omega) (by omega) (by omega) ((U3.frame F1 (fun k h1 h2 h3 => by have := h3.2; omega)).frame F2 (fun k h1 h2 h3 => by have := h3.2; omega))).mono ?_
  rintro e w4 ⟨k3, h3, rfl, F3⟩
  go_wp2
  go_ret
  exact ⟨k3, rfl, by omega, _, sA, ((F1.mono (fun x h0 => ⟨h0.1, by have := h0.2; omega⟩)).trans (F2.mono (fun x h0 => ⟨by have := h0.1; omega, by have := h0.2; omega⟩))).trans (F3.mono (fun x h0 => ⟨by have := h0.1; omega, h0.2⟩))⟩

end Go.Proofs.YtkhpggnnpfckdaaGreatDoor
