import Derived.Test.YtickondjmilehabDoorH3
import Derived.Deep.RegionHeld3
namespace Go.Proofs.YtickondjmilehabDoor
open Go.RowKit

theorem box3 (w : World) (x y z : Value) (t : TypeId) : (w.alloc (.cells #[x, y, z] t)).cell? ⟨w.heap.size, 0, none⟩ = some x ∧ (w.alloc (.cells #[x, y, z] t)).cell? ⟨w.heap.size, 1, none⟩ = some y ∧ (w.alloc (.cells #[x, y, z] t)).cell? ⟨w.heap.size, 2, none⟩ = some z := by
  simp [go_sem]

theorem cmpN_one (x : Nat) : (cmpN x 1 == 0) = decide (x = 1) := by
  rw [Bool.eq_iff_iff]
  simp only [beq_iff_eq, decide_eq_true_eq]
  constructor
  · intro h
    rcases Nat.lt_trichotomy x 1 with h1 | h1 | h1
    · rw [cmpN_lt h1] at h; cases h
    · exact h1
    · rw [cmpN_gt h1] at h; cases h
  · intro h; exact cmpN_eq h

set_option maxHeartbeats 1600000 in
set_option maxRecDepth 100000 in
theorem specRatOk_small_z (neg : Bool) (a b : Option Addr) (ba oa n ca bb ob m cb : Nat) (X Y : Nat → Nat) (w : World) (hn : n ≤ 1048576) (hm : m ≤ 1048576)
    (hX : Limbs w a ba oa n X) (hY : Limbs w b bb ob m Y) (hXl : ∀ j, j < n → X j < 4294967296) (hYl : ∀ j, j < m → Y j < 4294967296) (h1 : plainB X n = true) (h2 : plainB Y m = true) (h3 : ¬ m = 0) (h4 : ¬ (n = 0 ∧ neg = true)) (hs : smallB X n Y m = true) (h5 : n = 0) :
    Calls Tryd.prog 18 #[.agg #[.bool neg, .slice a n ca, .slice b m cb]] w fun e w' => e = .returned (.bool (ratOkB neg X n Y m)) ∧ w.Since w.heap.size w' := by
  have sA : w.Since w.heap.size (w.alloc (.cells #[.bool neg, .slice a n ca, .slice b m cb] 31)) := (World.Since.refl _ _).alloc (Nat.le_refl _) _
  have I1 := l1Plain_any a ba oa n ca X _ hn (hX.keep sA)
  have I2 := l1Plain_any b bb ob m cb Y _ hm (hY.keep sA)
  rw [h1] at I1
  rw [h2] at I2
  have q3 : ((m : Int) == 0) = false := by simp; omega
  have HR := hide (show (decide (Nat.gcd (lv X n) (lv Y m) = 1)) = ratOkB neg X n Y m by
    have e3 : (m != 0) = true := by simp [h3]
    have e4 : (neg && n == 0) = false := by cases neg <;> simp at h4 ⊢; exact h4
    rw [Bool.eq_iff_iff]
    simp [ratOkB, h1, h2, e3, e4])
  obtain ⟨c0, c1, c2⟩ := box3 w (.bool neg) (.slice a n ca) (.slice b m cb) 31
  have I3 := l1IsSmall_any neg a b ba oa n ca bb ob m cb X Y _ hn hm (hX.keep sA) (hY.keep sA) hXl hYl
  have HN : Hid (n = 0 → neg = false) := fun h => by cases neg; rfl; exact absurd ⟨h, rfl⟩ h4
  clear h1 h2 h4
  have XA := hX.keep sA
  have YA := hY.keep sA
  obtain ⟨y1, y2, z3, z4⟩ := smallB_iff.1 hs
  have v1 : lv X n < 18446744073709551616 := by omega
  have v2 : lv Y m < 18446744073709551616 := by omega
  have V := hide (And.intro v1 v2)
  rw [hs] at I3
  clear hs z3 z4 v1 v2
  have h6 := HN.out h5
  subst h5 h6
  go_enter Tryd.func18, Tryd.ntmps18
  go_wp2_with fail
  refine I1.mono ?_
  rintro e w1 ⟨rfl, rfl⟩
  go_wp2_with fail
  refine I2.mono ?_
  rintro e w1 ⟨rfl, rfl⟩
  clear I1 I2
  generalize w.alloc (.cells #[.bool false, .slice a 0 ca, .slice b m cb] 31) = wA at *
  go_wp2_with fail
  refine I3.mono ?_
  rintro e w1 ⟨rfl, s1⟩
  clear I3
  have zA : w.heap.size < wA.heap.size := World.block_lt_of_cell? _ _ c0
  have d1 : w1.cell? ⟨w.heap.size, 1, none⟩ = some (.slice a 0 ca) := (s1.cell (a := ⟨w.heap.size, 1, none⟩) zA).trans c1
  have d2 : w1.cell? ⟨w.heap.size, 2, none⟩ = some (.slice b m cb) := (s1.cell (a := ⟨w.heap.size, 2, none⟩) zA).trans c2
  have S1 : w.Since w.heap.size w1.drew := by have h := sA.trans (sinceMono s1 sA.size); exact ⟨h.os, h.tape, h.output, h.size, h.block⟩
  have z1 : w.heap.size < w1.drew.heap.size := Nat.lt_of_lt_of_le zA s1.size
  have X0 := XA.keep s1
  have Y0 := YA.keep s1
  have X1 : Limbs w1.drew a ba oa 0 X := X0
  have Y1 : Limbs w1.drew b bb ob m Y := Y0
  have XL := hide hXl
  have YL := hide hYl
  clear hXl hYl XA YA s1 c0 c1 c2 X0 Y0
  go_wp2
  have J1 := l1Small_any a ba oa 0 ca X w1.drew y1 X1 XL.out
  have J2 := l1Small_any b bb ob m cb Y w1.drew y2 Y1 YL.out
  have J3 := l1GcdSmall_any (lv X 0) (lv Y m) w1.drew V.out.1 V.out.2
  clear V XL YL X1 Y1
  obtain ⟨gg, hgg⟩ : ∃ gg, gg = Nat.gcd (lv X 0) (lv Y m) := ⟨_, rfl⟩
  obtain ⟨xx, hxx⟩ : ∃ xx, xx = lv X 0 := ⟨_, rfl⟩
  obtain ⟨yy, hyy⟩ : ∃ yy, yy = lv Y m := ⟨_, rfl⟩
  have HR : Hid (decide (gg = 1) = ratOkB false X 0 Y m) := by rw [hgg]; exact HR.out
  rw [← hgg, ← hxx, ← hyy] at J3
  rw [← hxx] at J1
  rw [← hyy] at J2
  clear hgg hxx hyy
  go_region_held3 (fun w' => w'.cell? ⟨w.heap.size, 1, none⟩ = some (.slice a 0 ca) ∧ w'.cell? ⟨w.heap.size, 2, none⟩ = some (.slice b m cb)) (go_keep)
    (first | (go_at_call 44; with_reducible refine J3.mono ?_; rintro e w' ⟨rfl, rfl⟩) | (go_at_call 45; first | (with_reducible refine J1.mono ?_; rintro e w' ⟨rfl, rfl⟩) | (with_reducible refine J2.mono ?_; rintro e w' ⟨rfl, rfl⟩)))
  all_goals go_wp2
  all_goals go_ret
  all_goals exact ⟨ret_bool (by rw [← HR.out, Bool.eq_iff_iff]; simp only [beq_iff_eq, decide_eq_true_eq]; omega), S1⟩

set_option maxHeartbeats 1600000 in
set_option maxRecDepth 100000 in
theorem specRatOk_small_n (neg : Bool) (a b : Option Addr) (ba oa n ca bb ob m cb : Nat) (X Y : Nat → Nat) (w : World) (hn : n ≤ 1048576) (hm : m ≤ 1048576)
    (hX : Limbs w a ba oa n X) (hY : Limbs w b bb ob m Y) (hXl : ∀ j, j < n → X j < 4294967296) (hYl : ∀ j, j < m → Y j < 4294967296) (h1 : plainB X n = true) (h2 : plainB Y m = true) (h3 : ¬ m = 0) (h4 : ¬ (n = 0 ∧ neg = true)) (hs : smallB X n Y m = true) (h5 : ¬ n = 0) :
    Calls Tryd.prog 18 #[.agg #[.bool neg, .slice a n ca, .slice b m cb]] w fun e w' => e = .returned (.bool (ratOkB neg X n Y m)) ∧ w.Since w.heap.size w' := by
  have sA : w.Since w.heap.size (w.alloc (.cells #[.bool neg, .slice a n ca, .slice b m cb] 31)) := (World.Since.refl _ _).alloc (Nat.le_refl _) _
  have I1 := l1Plain_any a ba oa n ca X _ hn (hX.keep sA)
  have I2 := l1Plain_any b bb ob m cb Y _ hm (hY.keep sA)
  rw [h1] at I1
  rw [h2] at I2
  have q3 : ((m : Int) == 0) = false := by simp; omega
  have HR := hide (show (decide (Nat.gcd (lv X n) (lv Y m) = 1)) = ratOkB neg X n Y m by
    have e3 : (m != 0) = true := by simp [h3]
    have e4 : (neg && n == 0) = false := by cases neg <;> simp at h4 ⊢; exact h4
    rw [Bool.eq_iff_iff]
    simp [ratOkB, h1, h2, e3, e4])
  obtain ⟨c0, c1, c2⟩ := box3 w (.bool neg) (.slice a n ca) (.slice b m cb) 31
  have I3 := l1IsSmall_any neg a b ba oa n ca bb ob m cb X Y _ hn hm (hX.keep sA) (hY.keep sA) hXl hYl
  have HN : Hid (n = 0 → neg = false) := fun h => by cases neg; rfl; exact absurd ⟨h, rfl⟩ h4
  clear h1 h2 h4
  have XA := hX.keep sA
  have YA := hY.keep sA
  obtain ⟨y1, y2, z3, z4⟩ := smallB_iff.1 hs
  have v1 : lv X n < 18446744073709551616 := by omega
  have v2 : lv Y m < 18446744073709551616 := by omega
  have V := hide (And.intro v1 v2)
  rw [hs] at I3
  clear hs z3 z4 v1 v2
  go_enter Tryd.func18, Tryd.ntmps18
  go_wp2_with fail
  refine I1.mono ?_
  rintro e w1 ⟨rfl, rfl⟩
  go_wp2_with fail
  refine I2.mono ?_
  rintro e w1 ⟨rfl, rfl⟩
  clear I1 I2
  generalize w.alloc (.cells #[.bool neg, .slice a n ca, .slice b m cb] 31) = wA at *
  have h6 : ((n : Int) == 0) = false := by simp; omega
  go_wp2_with fail
  refine I3.mono ?_
  rintro e w1 ⟨rfl, s1⟩
  clear I3
  have zA : w.heap.size < wA.heap.size := World.block_lt_of_cell? _ _ c0
  have d1 : w1.cell? ⟨w.heap.size, 1, none⟩ = some (.slice a n ca) := (s1.cell (a := ⟨w.heap.size, 1, none⟩) zA).trans c1
  have d2 : w1.cell? ⟨w.heap.size, 2, none⟩ = some (.slice b m cb) := (s1.cell (a := ⟨w.heap.size, 2, none⟩) zA).trans c2
  have S1 : w.Since w.heap.size w1.drew := by have h := sA.trans (sinceMono s1 sA.size); exact ⟨h.os, h.tape, h.output, h.size, h.block⟩
  have z1 : w.heap.size < w1.drew.heap.size := Nat.lt_of_lt_of_le zA s1.size
  have X0 := XA.keep s1
  have Y0 := YA.keep s1
  have X1 : Limbs w1.drew a ba oa n X := X0
  have Y1 : Limbs w1.drew b bb ob m Y := Y0
  have XL := hide hXl
  have YL := hide hYl
  clear hXl hYl XA YA s1 c0 c1 c2 X0 Y0
  go_wp2
  have J1 := l1Small_any a ba oa n ca X w1.drew y1 X1 XL.out
  have J2 := l1Small_any b bb ob m cb Y w1.drew y2 Y1 YL.out
  have J3 := l1GcdSmall_any (lv X n) (lv Y m) w1.drew V.out.1 V.out.2
  clear V XL YL X1 Y1
  obtain ⟨gg, hgg⟩ : ∃ gg, gg = Nat.gcd (lv X n) (lv Y m) := ⟨_, rfl⟩
  obtain ⟨xx, hxx⟩ : ∃ xx, xx = lv X n := ⟨_, rfl⟩
  obtain ⟨yy, hyy⟩ : ∃ yy, yy = lv Y m := ⟨_, rfl⟩
  have HR : Hid (decide (gg = 1) = ratOkB neg X n Y m) := by rw [hgg]; exact HR.out
  rw [← hgg, ← hxx, ← hyy] at J3
  rw [← hxx] at J1
  rw [← hyy] at J2
  clear hgg hxx hyy
  go_region_held3 (fun w' => w'.cell? ⟨w.heap.size, 1, none⟩ = some (.slice a n ca) ∧ w'.cell? ⟨w.heap.size, 2, none⟩ = some (.slice b m cb)) (go_keep)
    (first | (go_at_call 44; with_reducible refine J3.mono ?_; rintro e w' ⟨rfl, rfl⟩) | (go_at_call 45; first | (with_reducible refine J1.mono ?_; rintro e w' ⟨rfl, rfl⟩) | (with_reducible refine J2.mono ?_; rintro e w' ⟨rfl, rfl⟩)))
  all_goals go_wp2
  all_goals go_ret
  all_goals exact ⟨ret_bool (by rw [← HR.out, Bool.eq_iff_iff]; simp only [beq_iff_eq, decide_eq_true_eq]; omega), S1⟩

set_option maxHeartbeats 1600000 in
set_option maxRecDepth 100000 in
theorem specRatOk_big_z (neg : Bool) (a b : Option Addr) (ba oa n ca bb ob m cb : Nat) (X Y : Nat → Nat) (w : World) (hn : n ≤ 1048576) (hm : m ≤ 1048576)
    (hX : Limbs w a ba oa n X) (hY : Limbs w b bb ob m Y) (hXl : ∀ j, j < n → X j < 4294967296) (hYl : ∀ j, j < m → Y j < 4294967296) (h1 : plainB X n = true) (h2 : plainB Y m = true) (h3 : ¬ m = 0) (h4 : ¬ (n = 0 ∧ neg = true)) (hs : ¬ smallB X n Y m = true) (h5 : n = 0) :
    Calls Tryd.prog 18 #[.agg #[.bool neg, .slice a n ca, .slice b m cb]] w fun e w' => e = .returned (.bool (ratOkB neg X n Y m)) ∧ w.Since w.heap.size w' := by
  have sA : w.Since w.heap.size (w.alloc (.cells #[.bool neg, .slice a n ca, .slice b m cb] 31)) := (World.Since.refl _ _).alloc (Nat.le_refl _) _
  have I1 := l1Plain_any a ba oa n ca X _ hn (hX.keep sA)
  have I2 := l1Plain_any b bb ob m cb Y _ hm (hY.keep sA)
  rw [h1] at I1
  rw [h2] at I2
  have q3 : ((m : Int) == 0) = false := by simp; omega
  have HR := hide (show (decide (Nat.gcd (lv X n) (lv Y m) = 1)) = ratOkB neg X n Y m by
    have e3 : (m != 0) = true := by simp [h3]
    have e4 : (neg && n == 0) = false := by cases neg <;> simp at h4 ⊢; exact h4
    rw [Bool.eq_iff_iff]
    simp [ratOkB, h1, h2, e3, e4])
  obtain ⟨c0, c1, c2⟩ := box3 w (.bool neg) (.slice a n ca) (.slice b m cb) 31
  have I3 := l1IsSmall_any neg a b ba oa n ca bb ob m cb X Y _ hn hm (hX.keep sA) (hY.keep sA) hXl hYl
  have HN : Hid (n = 0 → neg = false) := fun h => by cases neg; rfl; exact absurd ⟨h, rfl⟩ h4
  clear h1 h2 h4
  have XA := hX.keep sA
  have YA := hY.keep sA
  rw [show smallB X n Y m = false by simpa using hs] at I3
  clear hs
  have h6 := HN.out h5
  subst h5 h6
  go_enter Tryd.func18, Tryd.ntmps18
  go_wp2_with fail
  refine I1.mono ?_
  rintro e w1 ⟨rfl, rfl⟩
  go_wp2_with fail
  refine I2.mono ?_
  rintro e w1 ⟨rfl, rfl⟩
  clear I1 I2
  generalize w.alloc (.cells #[.bool false, .slice a 0 ca, .slice b m cb] 31) = wA at *
  go_wp2_with fail
  refine I3.mono ?_
  rintro e w1 ⟨rfl, s1⟩
  clear I3
  have zA : w.heap.size < wA.heap.size := World.block_lt_of_cell? _ _ c0
  have d1 : w1.cell? ⟨w.heap.size, 1, none⟩ = some (.slice a 0 ca) := (s1.cell (a := ⟨w.heap.size, 1, none⟩) zA).trans c1
  have d2 : w1.cell? ⟨w.heap.size, 2, none⟩ = some (.slice b m cb) := (s1.cell (a := ⟨w.heap.size, 2, none⟩) zA).trans c2
  have S1 : w.Since w.heap.size w1.drew := by have h := sA.trans (sinceMono s1 sA.size); exact ⟨h.os, h.tape, h.output, h.size, h.block⟩
  have z1 : w.heap.size < w1.drew.heap.size := Nat.lt_of_lt_of_le zA s1.size
  have X0 := XA.keep s1
  have Y0 := YA.keep s1
  have X1 : Limbs w1.drew a ba oa 0 X := X0
  have Y1 : Limbs w1.drew b bb ob m Y := Y0
  have XL := hide hXl
  have YL := hide hYl
  clear hXl hYl XA YA s1 c0 c1 c2 X0 Y0
  go_wp2
  have J1 := l1Bits_any a ba oa 0 ca X w1.drew (by omega) X1 XL.out
  go_region_held3 (fun w' => w'.cell? ⟨w.heap.size, 1, none⟩ = some (.slice a 0 ca) ∧ w'.cell? ⟨w.heap.size, 2, none⟩ = some (.slice b m cb)) (go_keep)
    (first
      | (go_at_call 38
         first
          | (with_reducible refine J1.mono ?_
             rintro e w2 ⟨a1, g1, m1, t1, B1, rfl, k1, k2, L1, -, p1, e1, s2⟩
             have T1 : Tr w2 (.slice a1 m1 t1) m1 B1 := ⟨a1, g1, 0, t1, rfl, k1, L1, p1⟩
             have E1 := hide e1
             clear L1 p1 e1
             have z2 := s2.size
             have J2 := l1Bits_any b bb ob m cb Y w2 (by omega) (Y1.keep s2) YL.out
             have f1 : w2.cell? ⟨w.heap.size, 1, none⟩ = some (.slice a 0 ca) := (s2.cell (a := ⟨w.heap.size, 1, none⟩) z1).trans d1
             have f2 : w2.cell? ⟨w.heap.size, 2, none⟩ = some (.slice b m cb) := (s2.cell (a := ⟨w.heap.size, 2, none⟩) z1).trans d2)
          | (with_reducible refine J2.mono ?_
             rintro e w3 ⟨a2, g2, m2, t2, B2, rfl, q1, q2, L2, -, p2, e2, s3⟩
             have T2 : Tr w3 (.slice a2 m2 t2) m2 B2 := ⟨a2, g2, 0, t2, rfl, q1, L2, p2⟩
             have E2 := hide e2
             clear L2 p2 e2
             have T1' := T1.keep s3
             have J3 := l1GcdBits_any _ _ m1 m2 B1 B2 w3 (by omega) (by omega) T1' T2
             have S3 : w.Since w.heap.size w3 := (S1.trans (sinceMono s2 S1.size)).trans (sinceMono s3 (Nat.le_trans S1.size s2.size))
             have f3 : w3.cell? ⟨w.heap.size, 1, none⟩ = some (.slice a 0 ca) := (s3.cell (a := ⟨w.heap.size, 1, none⟩) (Nat.lt_of_lt_of_le z1 z2)).trans f1
             have f4 : w3.cell? ⟨w.heap.size, 2, none⟩ = some (.slice b m cb) := (s3.cell (a := ⟨w.heap.size, 2, none⟩) (Nat.lt_of_lt_of_le z1 z2)).trans f2
             have z3 := s3.size))
      | (go_at_call 37
         with_reducible refine J3.mono ?_
         rintro e w4 ⟨v, t, O, rfl, ht, T3, e3, s4⟩
         have E3 := hide e3
         have J4 : Calls Tryd.prog 47 #[.int .u64 1] w4 _ := l1BitsOf_any 1 w4 (by omega)
         clear e3
         have f5 : w4.cell? ⟨w.heap.size, 1, none⟩ = some (.slice a 0 ca) := (s4.cell (a := ⟨w.heap.size, 1, none⟩) (Nat.lt_of_lt_of_le z1 (Nat.le_trans z2 z3))).trans f3
         have f6 : w4.cell? ⟨w.heap.size, 2, none⟩ = some (.slice b m cb) := (s4.cell (a := ⟨w.heap.size, 2, none⟩) (Nat.lt_of_lt_of_le z1 (Nat.le_trans z2 z3))).trans f4
         have z4 := s4.size)
      | (go_at_call 47
         with_reducible refine J4.mono ?_
         rintro e w5 ⟨x, t5, B5, rfl, ht5, T5, e5, s5⟩
         have E5 := hide e5
         clear e5
         obtain ⟨a3, b3, o3, c3, rfl, -, L3, p3⟩ := T3.keep s5
         obtain ⟨a5, b5, o5, c5, rfl, -, L5, p5⟩ := T5
         have S5 : w.Since w.heap.size w5 := (S3.trans (sinceMono s4 S3.size)).trans (sinceMono s5 (Nat.le_trans S3.size s4.size))
         have f7 : w5.cell? ⟨w.heap.size, 1, none⟩ = some (.slice a 0 ca) := (s5.cell (a := ⟨w.heap.size, 1, none⟩) (Nat.lt_of_lt_of_le z1 (Nat.le_trans (Nat.le_trans z2 z3) z4))).trans f5
         have f8 : w5.cell? ⟨w.heap.size, 2, none⟩ = some (.slice b m cb) := (s5.cell (a := ⟨w.heap.size, 2, none⟩) (Nat.lt_of_lt_of_le z1 (Nat.le_trans (Nat.le_trans z2 z3) z4))).trans f6
         have J := l1CmpBits_any a3 a5 b3 o3 t c3 b5 o5 t5 c5 O B5 w5 (by omega) (by omega) L3 L5 p3 p5
         rw [E5.out, E3.out, E1.out, E2.out] at J
         clear T3 L3 L5 p3 p5)
      | (go_at_call 46
         with_reducible refine J.mono ?_
         rintro e w6 ⟨rfl, s6⟩
         have f9 : w6.cell? ⟨w.heap.size, 1, none⟩ = some (.slice a 0 ca) := by rw [s6.cell]; exact f7
         have f10 : w6.cell? ⟨w.heap.size, 2, none⟩ = some (.slice b m cb) := by rw [s6.cell]; exact f8))
  all_goals go_wp2
  all_goals go_ret
  all_goals exact ⟨ret_bool ((cmpN_one (Nat.gcd (lv X 0) (lv Y m))).trans HR.out), S5.trans (s6.since _)⟩

set_option maxHeartbeats 1600000 in
set_option maxRecDepth 100000 in
theorem specRatOk_big_n (neg : Bool) (a b : Option Addr) (ba oa n ca bb ob m cb : Nat) (X Y : Nat → Nat) (w : World) (hn : n ≤ 1048576) (hm : m ≤ 1048576)
    (hX : Limbs w a ba oa n X) (hY : Limbs w b bb ob m Y) (hXl : ∀ j, j < n → X j < 4294967296) (hYl : ∀ j, j < m → Y j < 4294967296) (h1 : plainB X n = true) (h2 : plainB Y m = true) (h3 : ¬ m = 0) (h4 : ¬ (n = 0 ∧ neg = true)) (hs : ¬ smallB X n Y m = true) (h5 : ¬ n = 0) :
    Calls Tryd.prog 18 #[.agg #[.bool neg, .slice a n ca, .slice b m cb]] w fun e w' => e = .returned (.bool (ratOkB neg X n Y m)) ∧ w.Since w.heap.size w' := by
  have sA : w.Since w.heap.size (w.alloc (.cells #[.bool neg, .slice a n ca, .slice b m cb] 31)) := (World.Since.refl _ _).alloc (Nat.le_refl _) _
  have I1 := l1Plain_any a ba oa n ca X _ hn (hX.keep sA)
  have I2 := l1Plain_any b bb ob m cb Y _ hm (hY.keep sA)
  rw [h1] at I1
  rw [h2] at I2
  have q3 : ((m : Int) == 0) = false := by simp; omega
  have HR := hide (show (decide (Nat.gcd (lv X n) (lv Y m) = 1)) = ratOkB neg X n Y m by
    have e3 : (m != 0) = true := by simp [h3]
    have e4 : (neg && n == 0) = false := by cases neg <;> simp at h4 ⊢; exact h4
    rw [Bool.eq_iff_iff]
    simp [ratOkB, h1, h2, e3, e4])
  obtain ⟨c0, c1, c2⟩ := box3 w (.bool neg) (.slice a n ca) (.slice b m cb) 31
  have I3 := l1IsSmall_any neg a b ba oa n ca bb ob m cb X Y _ hn hm (hX.keep sA) (hY.keep sA) hXl hYl
  have HN : Hid (n = 0 → neg = false) := fun h => by cases neg; rfl; exact absurd ⟨h, rfl⟩ h4
  clear h1 h2 h4
  have XA := hX.keep sA
  have YA := hY.keep sA
  rw [show smallB X n Y m = false by simpa using hs] at I3
  clear hs
  go_enter Tryd.func18, Tryd.ntmps18
  go_wp2_with fail
  refine I1.mono ?_
  rintro e w1 ⟨rfl, rfl⟩
  go_wp2_with fail
  refine I2.mono ?_
  rintro e w1 ⟨rfl, rfl⟩
  clear I1 I2
  generalize w.alloc (.cells #[.bool neg, .slice a n ca, .slice b m cb] 31) = wA at *
  have h6 : ((n : Int) == 0) = false := by simp; omega
  go_wp2_with fail
  refine I3.mono ?_
  rintro e w1 ⟨rfl, s1⟩
  clear I3
  have zA : w.heap.size < wA.heap.size := World.block_lt_of_cell? _ _ c0
  have d1 : w1.cell? ⟨w.heap.size, 1, none⟩ = some (.slice a n ca) := (s1.cell (a := ⟨w.heap.size, 1, none⟩) zA).trans c1
  have d2 : w1.cell? ⟨w.heap.size, 2, none⟩ = some (.slice b m cb) := (s1.cell (a := ⟨w.heap.size, 2, none⟩) zA).trans c2
  have S1 : w.Since w.heap.size w1.drew := by have h := sA.trans (sinceMono s1 sA.size); exact ⟨h.os, h.tape, h.output, h.size, h.block⟩
  have z1 : w.heap.size < w1.drew.heap.size := Nat.lt_of_lt_of_le zA s1.size
  have X0 := XA.keep s1
  have Y0 := YA.keep s1
  have X1 : Limbs w1.drew a ba oa n X := X0
  have Y1 : Limbs w1.drew b bb ob m Y := Y0
  have XL := hide hXl
  have YL := hide hYl
  clear hXl hYl XA YA s1 c0 c1 c2 X0 Y0
  go_wp2
  have J1 := l1Bits_any a ba oa n ca X w1.drew (by omega) X1 XL.out
  go_region_held3 (fun w' => w'.cell? ⟨w.heap.size, 1, none⟩ = some (.slice a n ca) ∧ w'.cell? ⟨w.heap.size, 2, none⟩ = some (.slice b m cb)) (go_keep)
    (first
      | (go_at_call 38
         first
          | (with_reducible refine J1.mono ?_
             rintro e w2 ⟨a1, g1, m1, t1, B1, rfl, k1, k2, L1, -, p1, e1, s2⟩
             have T1 : Tr w2 (.slice a1 m1 t1) m1 B1 := ⟨a1, g1, 0, t1, rfl, k1, L1, p1⟩
             have E1 := hide e1
             clear L1 p1 e1
             have z2 := s2.size
             have J2 := l1Bits_any b bb ob m cb Y w2 (by omega) (Y1.keep s2) YL.out
             have f1 : w2.cell? ⟨w.heap.size, 1, none⟩ = some (.slice a n ca) := (s2.cell (a := ⟨w.heap.size, 1, none⟩) z1).trans d1
             have f2 : w2.cell? ⟨w.heap.size, 2, none⟩ = some (.slice b m cb) := (s2.cell (a := ⟨w.heap.size, 2, none⟩) z1).trans d2)
          | (with_reducible refine J2.mono ?_
             rintro e w3 ⟨a2, g2, m2, t2, B2, rfl, q1, q2, L2, -, p2, e2, s3⟩
             have T2 : Tr w3 (.slice a2 m2 t2) m2 B2 := ⟨a2, g2, 0, t2, rfl, q1, L2, p2⟩
             have E2 := hide e2
             clear L2 p2 e2
             have T1' := T1.keep s3
             have J3 := l1GcdBits_any _ _ m1 m2 B1 B2 w3 (by omega) (by omega) T1' T2
             have S3 : w.Since w.heap.size w3 := (S1.trans (sinceMono s2 S1.size)).trans (sinceMono s3 (Nat.le_trans S1.size s2.size))
             have f3 : w3.cell? ⟨w.heap.size, 1, none⟩ = some (.slice a n ca) := (s3.cell (a := ⟨w.heap.size, 1, none⟩) (Nat.lt_of_lt_of_le z1 z2)).trans f1
             have f4 : w3.cell? ⟨w.heap.size, 2, none⟩ = some (.slice b m cb) := (s3.cell (a := ⟨w.heap.size, 2, none⟩) (Nat.lt_of_lt_of_le z1 z2)).trans f2
             have z3 := s3.size))
      | (go_at_call 37
         with_reducible refine J3.mono ?_
         rintro e w4 ⟨v, t, O, rfl, ht, T3, e3, s4⟩
         have E3 := hide e3
         have J4 : Calls Tryd.prog 47 #[.int .u64 1] w4 _ := l1BitsOf_any 1 w4 (by omega)
         clear e3
         have f5 : w4.cell? ⟨w.heap.size, 1, none⟩ = some (.slice a n ca) := (s4.cell (a := ⟨w.heap.size, 1, none⟩) (Nat.lt_of_lt_of_le z1 (Nat.le_trans z2 z3))).trans f3
         have f6 : w4.cell? ⟨w.heap.size, 2, none⟩ = some (.slice b m cb) := (s4.cell (a := ⟨w.heap.size, 2, none⟩) (Nat.lt_of_lt_of_le z1 (Nat.le_trans z2 z3))).trans f4
         have z4 := s4.size)
      | (go_at_call 47
         with_reducible refine J4.mono ?_
         rintro e w5 ⟨x, t5, B5, rfl, ht5, T5, e5, s5⟩
         have E5 := hide e5
         clear e5
         obtain ⟨a3, b3, o3, c3, rfl, -, L3, p3⟩ := T3.keep s5
         obtain ⟨a5, b5, o5, c5, rfl, -, L5, p5⟩ := T5
         have S5 : w.Since w.heap.size w5 := (S3.trans (sinceMono s4 S3.size)).trans (sinceMono s5 (Nat.le_trans S3.size s4.size))
         have f7 : w5.cell? ⟨w.heap.size, 1, none⟩ = some (.slice a n ca) := (s5.cell (a := ⟨w.heap.size, 1, none⟩) (Nat.lt_of_lt_of_le z1 (Nat.le_trans (Nat.le_trans z2 z3) z4))).trans f5
         have f8 : w5.cell? ⟨w.heap.size, 2, none⟩ = some (.slice b m cb) := (s5.cell (a := ⟨w.heap.size, 2, none⟩) (Nat.lt_of_lt_of_le z1 (Nat.le_trans (Nat.le_trans z2 z3) z4))).trans f6
         have J := l1CmpBits_any a3 a5 b3 o3 t c3 b5 o5 t5 c5 O B5 w5 (by omega) (by omega) L3 L5 p3 p5
         rw [E5.out, E3.out, E1.out, E2.out] at J
         clear T3 L3 L5 p3 p5)
      | (go_at_call 46
         with_reducible refine J.mono ?_
         rintro e w6 ⟨rfl, s6⟩
         have f9 : w6.cell? ⟨w.heap.size, 1, none⟩ = some (.slice a n ca) := by rw [s6.cell]; exact f7
         have f10 : w6.cell? ⟨w.heap.size, 2, none⟩ = some (.slice b m cb) := by rw [s6.cell]; exact f8))
  all_goals go_wp2
  all_goals go_ret
  all_goals exact ⟨ret_bool ((cmpN_one (Nat.gcd (lv X n) (lv Y m))).trans HR.out), S5.trans (s6.since _)⟩

set_option maxHeartbeats 3200000 in
set_option maxRecDepth 100000 in
theorem specRatOk_any (neg : Bool) (a b : Option Addr) (ba oa n ca bb ob m cb : Nat) (X Y : Nat → Nat) (w : World) (hn : n ≤ 1048576) (hm : m ≤ 1048576)
    (hX : Limbs w a ba oa n X) (hY : Limbs w b bb ob m Y) (hXl : ∀ j, j < n → X j < 4294967296) (hYl : ∀ j, j < m → Y j < 4294967296) :
    Calls Tryd.prog 18 #[.agg #[.bool neg, .slice a n ca, .slice b m cb]] w fun e w' => e = .returned (.bool (ratOkB neg X n Y m)) ∧ w.Since w.heap.size w' := by
  have sA : w.Since w.heap.size (w.alloc (.cells #[.bool neg, .slice a n ca, .slice b m cb] 31)) := (World.Since.refl _ _).alloc (Nat.le_refl _) _
  have I1 := l1Plain_any a ba oa n ca X _ hn (hX.keep sA)
  have I2 := l1Plain_any b bb ob m cb Y _ hm (hY.keep sA)
  by_cases h1 : plainB X n = false
  · have HR := hide (show false = ratOkB neg X n Y m by simp [ratOkB, h1])
    rw [h1] at I1
    clear h1
    go_enter Tryd.func18, Tryd.ntmps18
    go_wp2_with fail
    refine I1.mono ?_
    rintro e w1 ⟨rfl, rfl⟩
    go_wp2
    go_ret
    exact ⟨ret_bool HR.out, sA⟩
  have h1 : plainB X n = true := by simpa using h1
  rw [h1] at I1
  by_cases h2 : plainB Y m = false
  · have HR := hide (show false = ratOkB neg X n Y m by simp [ratOkB, h2])
    rw [h2] at I2
    clear h1 h2
    go_enter Tryd.func18, Tryd.ntmps18
    go_wp2_with fail
    refine I1.mono ?_
    rintro e w1 ⟨rfl, rfl⟩
    go_wp2_with fail
    refine I2.mono ?_
    rintro e w1 ⟨rfl, rfl⟩
    go_wp2
    go_ret
    exact ⟨ret_bool HR.out, sA⟩
  have h2 : plainB Y m = true := by simpa using h2
  rw [h2] at I2
  by_cases h3 : m = 0
  · have HR := hide (show false = ratOkB neg X n Y m by simp [ratOkB, h3])
    clear h1 h2
    subst h3
    go_enter Tryd.func18, Tryd.ntmps18
    go_wp2_with fail
    refine I1.mono ?_
    rintro e w1 ⟨rfl, rfl⟩
    go_wp2_with fail
    refine I2.mono ?_
    rintro e w1 ⟨rfl, rfl⟩
    go_wp2
    go_ret
    exact ⟨ret_bool HR.out, sA⟩
  have q3 : ((m : Int) == 0) = false := by simp; omega
  by_cases h4 : n = 0 ∧ neg = true
  · obtain ⟨rfl, rfl⟩ := h4
    have HR := hide (show false = ratOkB true X 0 Y m by simp [ratOkB])
    clear h1 h2
    go_enter Tryd.func18, Tryd.ntmps18
    go_wp2_with fail
    refine I1.mono ?_
    rintro e w1 ⟨rfl, rfl⟩
    go_wp2_with fail
    refine I2.mono ?_
    rintro e w1 ⟨rfl, rfl⟩
    go_wp2
    go_ret
    exact ⟨ret_bool HR.out, sA⟩
  by_cases hs : smallB X n Y m = true
  · by_cases h5 : n = 0
    · exact specRatOk_small_z neg a b ba oa n ca bb ob m cb X Y w hn hm hX hY hXl hYl h1 h2 h3 h4 hs h5
    · exact specRatOk_small_n neg a b ba oa n ca bb ob m cb X Y w hn hm hX hY hXl hYl h1 h2 h3 h4 hs h5
  · by_cases h5 : n = 0
    · exact specRatOk_big_z neg a b ba oa n ca bb ob m cb X Y w hn hm hX hY hXl hYl h1 h2 h3 h4 hs h5
    · exact specRatOk_big_n neg a b ba oa n ca bb ob m cb X Y w hn hm hX hY hXl hYl h1 h2 h3 h4 hs h5

end Go.Proofs.YtickondjmilehabDoor
