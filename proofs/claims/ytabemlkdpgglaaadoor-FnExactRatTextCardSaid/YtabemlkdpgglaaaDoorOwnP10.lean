import Derived.Test.YtabemlkdpgglaaaDoorOwnP9
import Derived.Deep.RegionHeld3
import Derived.Test.YtabemlkdpgglaaaDoorOwnP5
import Derived.Test.YtabemlkdpgglaaaDoorOwnP4
import Derived.Deep.RegionWith
namespace Go.Proofs.YtabemlkdpgglaaaDoor
open Go.RowKit

theorem box3 (w : World) (x y z : Value) (t : TypeId) : (w.alloc (.cells #[x, y, z] t)).cell? ⟨w.heap.size, 0, none⟩ = some x ∧ (w.alloc (.cells #[x, y, z] t)).cell? ⟨w.heap.size, 1, none⟩ = some y ∧ (w.alloc (.cells #[x, y, z] t)).cell? ⟨w.heap.size, 2, none⟩ = some z := by
  simp [go_sem]

theorem cmpN_one (x : Nat) : (cmpN x 1 == 0) = decide (x = 1) := by
  rw [Bool.eq_iff_iff]
  simp only [beq_iff_eq, decide_eq_true_eq]
  constructor
  · intro h
    rcases Nat.lt_trichotomy x 1 with h1 | h1 | h1
    · rw [cmpN_lt h1] at h; cases h
    · exact h1
    · rw [cmpN_gt h1] at h; cases h
  · intro h; exact cmpN_eq h

set_option maxHeartbeats 1600000 in
set_option maxRecDepth 100000 in
theorem specRatOk_small_z (neg : Bool) (a b : Option Addr) (ba oa n ca bb ob m cb : Nat) (X Y : Nat → Nat) (w : World) (hn : n ≤ 1048576) (hm : m ≤ 1048576)
    (hX : Limbs w a ba oa n X) (hY : Limbs w b bb ob m Y) (hXl : ∀ j, j < n → X j < 4294967296) (hYl : ∀ j, j < m → Y j < 4294967296) (h1 : plainB X n = true) (h2 : plainB Y m = true) (h3 : ¬ m = 0) (h4 : ¬ (n = 0 ∧ neg = true)) (hs : smallB X n Y m = true) (h5 : n = 0) :
    Calls Tryd.prog 7 #[.agg #[.bool neg, .slice a n ca, .slice b m cb]] w fun e w' => e = .returned (.bool (ratOkB neg X n Y m)) ∧ w.Since w.heap.size w' := by
  have sA : w.Since w.heap.size (w.alloc (.cells #[.bool neg, .slice a n ca, .slice b m cb] 25)) := (World.Since.refl _ _).alloc (Nat.le_refl _) _
  have I1 := l1Plain_any a ba oa n ca X _ hn (hX.keep sA)
  have I2 := l1Plain_any b bb ob m cb Y _ hm (hY.keep sA)
  rw [h1] at I1
  rw [h2] at I2
  have q3 : ((m : Int) == 0) = false := by simp; omega
  have HR := hide (show (decide (Nat.gcd (lv X n) (lv Y m) = 1)) = ratOkB neg X n Y m by
    have e3 : (m != 0) = true := by simp [h3]
    have e4 : (neg && n == 0) = false := by cases neg <;> simp at h4 ⊢; exact h4
    rw [Bool.eq_iff_iff]
    simp [ratOkB, h1, h2, e3, e4])
  obtain ⟨c0, c1, c2⟩ := box3 w (.bool neg) (.slice a n ca) (.slice b m cb) 25
  have I3 := l1IsSmall_any neg a b ba oa n ca bb ob m cb X Y _ hn hm (hX.keep sA) (hY.keep sA) hXl hYl
  have HN : Hid (n = 0 → neg = false) := fun h => by cases neg; rfl; exact absurd ⟨h, rfl⟩ h4
  clear h1 h2 h4
  have XA := hX.keep sA
  have YA := hY.keep sA
  obtain ⟨y1, y2, z3, z4⟩ := smallB_iff.1 hs
  have v1 : lv X n < 18446744073709551616 := by omega
  have v2 : lv Y m < 18446744073709551616 := by omega
  have V := hide (And.intro v1 v2)
  rw [hs] at I3
  clear hs z3 z4 v1 v2
  have h6 := HN.out h5
  subst h5 h6
  go_enter Tryd.func7, Tryd.ntmps7
  go_wp2_with fail
  refine I1.mono ?_
  rintro e w1 ⟨rfl, rfl⟩
  go_wp2_with fail
  refine I2.mono ?_
  rintro e w1 ⟨rfl, rfl⟩
  clear I1 I2
  generalize w.alloc (.cells #[.bool false, .slice a 0 ca, .slice b m cb] 25) = wA at *
  go_wp2_with fail
  refine I3.mono ?_
  rintro e w1 ⟨rfl, s1⟩
  clear I3
  have zA : w.heap.size < wA.heap.size := World.block_lt_of_cell? _ _ c0
  have d1 : w1.cell? ⟨w.heap.size, 1, none⟩ = some (.slice a 0 ca) := (s1.cell (a := ⟨w.heap.size, 1, none⟩) zA).trans c1
  have d2 : w1.cell? ⟨w.heap.size, 2, none⟩ = some (.slice b m cb) := (s1.cell (a := ⟨w.heap.size, 2, none⟩) zA).trans c2
  have S1 : w.Since w.heap.size w1.drew := by have h := sA.trans (sinceMono s1 sA.size); exact ⟨h.os, h.tape, h.output, h.size, h.block⟩
  have z1 : w.heap.size < w1.drew.heap.size := Nat.lt_of_lt_of_le zA s1.size
  have X0 := XA.keep s1
  have Y0 := YA.keep s1
  have X1 : Limbs w1.drew a ba oa 0 X := X0
  have Y1 : Limbs w1.drew b bb ob m Y := Y0
  have XL := hide hXl
  have YL := hide hYl
  clear hXl hYl XA YA s1 c0 c1 c2 X0 Y0
  go_wp2
  have J1 := l1Small_any a ba oa 0 ca X w1.drew y1 X1 XL.out
  have J2 := l1Small_any b bb ob m cb Y w1.drew y2 Y1 YL.out
  have J3 := l1GcdSmall_any (lv X 0) (lv Y m) w1.drew V.out.1 V.out.2
  clear V XL YL X1 Y1
  obtain ⟨gg, hgg⟩ : ∃ gg, gg = Nat.gcd (lv X 0) (lv Y m) := ⟨_, rfl⟩
  obtain ⟨xx, hxx⟩ : ∃ xx, xx = lv X 0 := ⟨_, rfl⟩
  obtain ⟨yy, hyy⟩ : ∃ yy, yy = lv Y m := ⟨_, rfl⟩
  have HR : Hid (decide (gg = 1) = ratOkB false X 0 Y m) := by rw [hgg]; exact HR.out
  rw [← hgg, ← hxx, ← hyy] at J3
  rw [← hxx] at J1
  rw [← hyy] at J2
  clear hgg hxx hyy
  go_region_held3 (fun w' => w'.cell? ⟨w.heap.size, 1, none⟩ = some (.slice a 0 ca) ∧ w'.cell? ⟨w.heap.size, 2, none⟩ = some (.slice b m cb)) (go_keep)
    (first | (go_at_call 26; with_reducible refine J3.mono ?_; rintro e w' ⟨rfl, rfl⟩) | (go_at_call 27; first | (with_reducible refine J1.mono ?_; rintro e w' ⟨rfl, rfl⟩) | (with_reducible refine J2.mono ?_; rintro e w' ⟨rfl, rfl⟩)))
  all_goals go_wp2
  all_goals go_ret
  all_goals exact ⟨ret_bool (by rw [← HR.out, Bool.eq_iff_iff]; simp only [beq_iff_eq, decide_eq_true_eq]; omega), S1⟩

set_option maxHeartbeats 1600000 in
set_option maxRecDepth 100000 in
theorem specRatOk_small_n (neg : Bool) (a b : Option Addr) (ba oa n ca bb ob m cb : Nat) (X Y : Nat → Nat) (w : World) (hn : n ≤ 1048576) (hm : m ≤ 1048576)
    (hX : Limbs w a ba oa n X) (hY : Limbs w b bb ob m Y) (hXl : ∀ j, j < n → X j < 4294967296) (hYl : ∀ j, j < m → Y j < 4294967296) (h1 : plainB X n = true) (h2 : plainB Y m = true) (h3 : ¬ m = 0) (h4 : ¬ (n = 0 ∧ neg = true)) (hs : smallB X n Y m = true) (h5 : ¬ n = 0) :
    Calls Tryd.prog 7 #[.agg #[.bool neg, .slice a n ca, .slice b m cb]] w fun e w' => e = .returned (.bool (ratOkB neg X n Y m)) ∧ w.Since w.heap.size w' := by
  have sA : w.Since w.heap.size (w.alloc (.cells #[.bool neg, .slice a n ca, .slice b m cb] 25)) := (World.Since.refl _ _).alloc (Nat.le_refl _) _
  have I1 := l1Plain_any a ba oa n ca X _ hn (hX.keep sA)
  have I2 := l1Plain_any b bb ob m cb Y _ hm (hY.keep sA)
  rw [h1] at I1
  rw [h2] at I2
  have q3 : ((m : Int) == 0) = false := by simp; omega
  have HR := hide (show (decide (Nat.gcd (lv X n) (lv Y m) = 1)) = ratOkB neg X n Y m by
    have e3 : (m != 0) = true := by simp [h3]
    have e4 : (neg && n == 0) = false := by cases neg <;> simp at h4 ⊢; exact h4
    rw [Bool.eq_iff_iff]
    simp [ratOkB, h1, h2, e3, e4])
  obtain ⟨c0, c1, c2⟩ := box3 w (.bool neg) (.slice a n ca) (.slice b m cb) 25
  have I3 := l1IsSmall_any neg a b ba oa n ca bb ob m cb X Y _ hn hm (hX.keep sA) (hY.keep sA) hXl hYl
  have HN : Hid (n = 0 → neg = false) := fun h => by cases neg; rfl; exact absurd ⟨h, rfl⟩ h4
  clear h1 h2 h4
  have XA := hX.keep sA
  have YA := hY.keep sA
  obtain ⟨y1, y2, z3, z4⟩ := smallB_iff.1 hs
  have v1 : lv X n < 18446744073709551616 := by omega
  have v2 : lv Y m < 18446744073709551616 := by omega
  have V := hide (And.intro v1 v2)
  rw [hs] at I3
  clear hs z3 z4 v1 v2
  go_enter Tryd.func7, Tryd.ntmps7
  go_wp2_with fail
  refine I1.mono ?_
  rintro e w1 ⟨rfl, rfl⟩
  go_wp2_with fail
  refine I2.mono ?_
  rintro e w1 ⟨rfl, rfl⟩
  clear I1 I2
  generalize w.alloc (.cells #[.bool neg, .slice a n ca, .slice b m cb] 25) = wA at *
  have h6 : ((n : Int) == 0) = false := by simp; omega
  go_wp2_with fail
  refine I3.mono ?_
  rintro e w1 ⟨rfl, s1⟩
  clear I3
  have zA : w.heap.size < wA.heap.size := World.block_lt_of_cell? _ _ c0
  have d1 : w1.cell? ⟨w.heap.size, 1, none⟩ = some (.slice a n ca) := (s1.cell (a := ⟨w.heap.size, 1, none⟩) zA).trans c1
  have d2 : w1.cell? ⟨w.heap.size, 2, none⟩ = some (.slice b m cb) := (s1.cell (a := ⟨w.heap.size, 2, none⟩) zA).trans c2
  have S1 : w.Since w.heap.size w1.drew := by have h := sA.trans (sinceMono s1 sA.size); exact ⟨h.os, h.tape, h.output, h.size, h.block⟩
  have z1 : w.heap.size < w1.drew.heap.size := Nat.lt_of_lt_of_le zA s1.size
  have X0 := XA.keep s1
  have Y0 := YA.keep s1
  have X1 : Limbs w1.drew a ba oa n X := X0
  have Y1 : Limbs w1.drew b bb ob m Y := Y0
  have XL := hide hXl
  have YL := hide hYl
  clear hXl hYl XA YA s1 c0 c1 c2 X0 Y0
  go_wp2
  have J1 := l1Small_any a ba oa n ca X w1.drew y1 X1 XL.out
  have J2 := l1Small_any b bb ob m cb Y w1.drew y2 Y1 YL.out
  have J3 := l1GcdSmall_any (lv X n) (lv Y m) w1.drew V.out.1 V.out.2
  clear V XL YL X1 Y1
  obtain ⟨gg, hgg⟩ : ∃ gg, gg = Nat.gcd (lv X n) (lv Y m) := ⟨_, rfl⟩
  obtain ⟨xx, hxx⟩ : ∃ xx, xx = lv X n := ⟨_, rfl⟩
  obtain ⟨yy, hyy⟩ : ∃ yy, yy = lv Y m := ⟨_, rfl⟩
  have HR : Hid (decide (gg = 1) = ratOkB neg X n Y m) := by rw [hgg]; exact HR.out
  rw [← hgg, ← hxx, ← hyy] at J3
  rw [← hxx] at J1
  rw [← hyy] at J2
  clear hgg hxx hyy
  go_region_held3 (fun w' => w'.cell? ⟨w.heap.size, 1, none⟩ = some (.slice a n ca) ∧ w'.cell? ⟨w.heap.size, 2, none⟩ = some (.slice b m cb)) (go_keep)
    (first | (go_at_call 26; with_reducible refine J3.mono ?_; rintro e w' ⟨rfl, rfl⟩) | (go_at_call 27; first | (with_reducible refine J1.mono ?_; rintro e w' ⟨rfl, rfl⟩) | (with_reducible refine J2.mono ?_; rintro e w' ⟨rfl, rfl⟩)))
  all_goals go_wp2
  all_goals go_ret
  all_goals exact ⟨ret_bool (by rw [← HR.out, Bool.eq_iff_iff]; simp only [beq_iff_eq, decide_eq_true_eq]; omega), S1⟩

set_option maxHeartbeats 1600000 in
set_option maxRecDepth 100000 in
theorem specRatOk_big_z (neg : Bool) (a b : Option Addr) (ba oa n ca bb ob m cb : Nat) (X Y : Nat → Nat) (w : World) (hn : n ≤ 1048576) (hm : m ≤ 1048576)
    (hX : Limbs w a ba oa n X) (hY : Limbs w b bb ob m Y) (hXl : ∀ j, j < n → X j < 4294967296) (hYl : ∀ j, j < m → Y j < 4294967296) (h1 : plainB X n = true) (h2 : plainB Y m = true) (h3 : ¬ m = 0) (h4 : ¬ (n = 0 ∧ neg = true)) (hs : ¬ smallB X n Y m = true) (h5 : n = 0) :
    Calls Tryd.prog 7 #[.agg #[.bool neg, .slice a n ca, .slice b m cb]] w fun e w' => e = .returned (.bool (ratOkB neg X n Y m)) ∧ w.Since w.heap.size w' := by
  have sA : w.Since w.heap.size (w.alloc (.cells #[.bool neg, .slice a n ca, .slice b m cb] 25)) := (World.Since.refl _ _).alloc (Nat.le_refl _) _
  have I1 := l1Plain_any a ba oa n ca X _ hn (hX.keep sA)
  have I2 := l1Plain_any b bb ob m cb Y _ hm (hY.keep sA)
  rw [h1] at I1
  rw [h2] at I2
  have q3 : ((m : Int) == 0) = false := by simp; omega
  have HR := hide (show (decide (Nat.gcd (lv X n) (lv Y m) = 1)) = ratOkB neg X n Y m by
    have e3 : (m != 0) = true := by simp [h3]
    have e4 : (neg && n == 0) = false := by cases neg <;> simp at h4 ⊢; exact h4
    rw [Bool.eq_iff_iff]
    simp [ratOkB, h1, h2, e3, e4])
  obtain ⟨c0, c1, c2⟩ := box3 w (.bool neg) (.slice a n ca) (.slice b m cb) 25
  have I3 := l1IsSmall_any neg a b ba oa n ca bb ob m cb X Y _ hn hm (hX.keep sA) (hY.keep sA) hXl hYl
  have HN : Hid (n = 0 → neg = false) := fun h => by cases neg; rfl; exact absurd ⟨h, rfl⟩ h4
  clear h1 h2 h4
  have XA := hX.keep sA
  have YA := hY.keep sA
  rw [show smallB X n Y m = false by simpa using hs] at I3
  clear hs
  have h6 := HN.out h5
  subst h5 h6
  go_enter Tryd.func7, Tryd.ntmps7
  go_wp2_with fail
  refine I1.mono ?_
  rintro e w1 ⟨rfl, rfl⟩
  go_wp2_with fail
  refine I2.mono ?_
  rintro e w1 ⟨rfl, rfl⟩
  clear I1 I2
  generalize w.alloc (.cells #[.bool false, .slice a 0 ca, .slice b m cb] 25) = wA at *
  go_wp2_with fail
  refine I3.mono ?_
  rintro e w1 ⟨rfl, s1⟩
  clear I3
  have zA : w.heap.size < wA.heap.size := World.block_lt_of_cell? _ _ c0
  have d1 : w1.cell? ⟨w.heap.size, 1, none⟩ = some (.slice a 0 ca) := (s1.cell (a := ⟨w.heap.size, 1, none⟩) zA).trans c1
  have d2 : w1.cell? ⟨w.heap.size, 2, none⟩ = some (.slice b m cb) := (s1.cell (a := ⟨w.heap.size, 2, none⟩) zA).trans c2
  have S1 : w.Since w.heap.size w1.drew := by have h := sA.trans (sinceMono s1 sA.size); exact ⟨h.os, h.tape, h.output, h.size, h.block⟩
  have z1 : w.heap.size < w1.drew.heap.size := Nat.lt_of_lt_of_le zA s1.size
  have X0 := XA.keep s1
  have Y0 := YA.keep s1
  have X1 : Limbs w1.drew a ba oa 0 X := X0
  have Y1 : Limbs w1.drew b bb ob m Y := Y0
  have XL := hide hXl
  have YL := hide hYl
  clear hXl hYl XA YA s1 c0 c1 c2 X0 Y0
  go_wp2
  have J1 := l1Bits_any a ba oa 0 ca X w1.drew (by omega) X1 XL.out
  go_region_held3 (fun w' => w'.cell? ⟨w.heap.size, 1, none⟩ = some (.slice a 0 ca) ∧ w'.cell? ⟨w.heap.size, 2, none⟩ = some (.slice b m cb)) (go_keep)
    (first
      | (go_at_call 30
         first
          | (with_reducible refine J1.mono ?_
             rintro e w2 ⟨a1, g1, m1, t1, B1, rfl, k1, k2, L1, -, p1, e1, s2⟩
             have T1 : Tr w2 (.slice a1 m1 t1) m1 B1 := ⟨a1, g1, 0, t1, rfl, k1, L1, p1⟩
             have E1 := hide e1
             clear L1 p1 e1
             have z2 := s2.size
             have J2 := l1Bits_any b bb ob m cb Y w2 (by omega) (Y1.keep s2) YL.out
             have f1 : w2.cell? ⟨w.heap.size, 1, none⟩ = some (.slice a 0 ca) := (s2.cell (a := ⟨w.heap.size, 1, none⟩) z1).trans d1
             have f2 : w2.cell? ⟨w.heap.size, 2, none⟩ = some (.slice b m cb) := (s2.cell (a := ⟨w.heap.size, 2, none⟩) z1).trans d2)
          | (with_reducible refine J2.mono ?_
             rintro e w3 ⟨a2, g2, m2, t2, B2, rfl, q1, q2, L2, -, p2, e2, s3⟩
             have T2 : Tr w3 (.slice a2 m2 t2) m2 B2 := ⟨a2, g2, 0, t2, rfl, q1, L2, p2⟩
             have E2 := hide e2
             clear L2 p2 e2
             have T1' := T1.keep s3
             have J3 := l1GcdBits_any _ _ m1 m2 B1 B2 w3 (by omega) (by omega) T1' T2
             have S3 : w.Since w.heap.size w3 := (S1.trans (sinceMono s2 S1.size)).trans (sinceMono s3 (Nat.le_trans S1.size s2.size))
             have f3 : w3.cell? ⟨w.heap.size, 1, none⟩ = some (.slice a 0 ca) := (s3.cell (a := ⟨w.heap.size, 1, none⟩) (Nat.lt_of_lt_of_le z1 z2)).trans f1
             have f4 : w3.cell? ⟨w.heap.size, 2, none⟩ = some (.slice b m cb) := (s3.cell (a := ⟨w.heap.size, 2, none⟩) (Nat.lt_of_lt_of_le z1 z2)).trans f2
             have z3 := s3.size))
      | (go_at_call 29
         with_reducible refine J3.mono ?_
         rintro e w4 ⟨v, t, O, rfl, ht, T3, e3, s4⟩
         have E3 := hide e3
         have J4 : Calls Tryd.prog 31 #[.int .u64 1] w4 _ := l1BitsOf_any 1 w4 (by omega)
         clear e3
         have f5 : w4.cell? ⟨w.heap.size, 1, none⟩ = some (.slice a 0 ca) := (s4.cell (a := ⟨w.heap.size, 1, none⟩) (Nat.lt_of_lt_of_le z1 (Nat.le_trans z2 z3))).trans f3
         have f6 : w4.cell? ⟨w.heap.size, 2, none⟩ = some (.slice b m cb) := (s4.cell (a := ⟨w.heap.size, 2, none⟩) (Nat.lt_of_lt_of_le z1 (Nat.le_trans z2 z3))).trans f4
         have z4 := s4.size)
      | (go_at_call 31
         with_reducible refine J4.mono ?_
         rintro e w5 ⟨x, t5, B5, rfl, ht5, T5, e5, s5⟩
         have E5 := hide e5
         clear e5
         obtain ⟨a3, b3, o3, c3, rfl, -, L3, p3⟩ := T3.keep s5
         obtain ⟨a5, b5, o5, c5, rfl, -, L5, p5⟩ := T5
         have S5 : w.Since w.heap.size w5 := (S3.trans (sinceMono s4 S3.size)).trans (sinceMono s5 (Nat.le_trans S3.size s4.size))
         have f7 : w5.cell? ⟨w.heap.size, 1, none⟩ = some (.slice a 0 ca) := (s5.cell (a := ⟨w.heap.size, 1, none⟩) (Nat.lt_of_lt_of_le z1 (Nat.le_trans (Nat.le_trans z2 z3) z4))).trans f5
         have f8 : w5.cell? ⟨w.heap.size, 2, none⟩ = some (.slice b m cb) := (s5.cell (a := ⟨w.heap.size, 2, none⟩) (Nat.lt_of_lt_of_le z1 (Nat.le_trans (Nat.le_trans z2 z3) z4))).trans f6
         have J := l1CmpBits_any a3 a5 b3 o3 t c3 b5 o5 t5 c5 O B5 w5 (by omega) (by omega) L3 L5 p3 p5
         rw [E5.out, E3.out, E1.out, E2.out] at J
         clear T3 L3 L5 p3 p5)
      | (go_at_call 28
         with_reducible refine J.mono ?_
         rintro e w6 ⟨rfl, s6⟩
         have f9 : w6.cell? ⟨w.heap.size, 1, none⟩ = some (.slice a 0 ca) := by rw [s6.cell]; exact f7
         have f10 : w6.cell? ⟨w.heap.size, 2, none⟩ = some (.slice b m cb) := by rw [s6.cell]; exact f8))
  all_goals go_wp2
  all_goals go_ret
  all_goals exact ⟨ret_bool ((cmpN_one (Nat.gcd (lv X 0) (lv Y m))).trans HR.out), S5.trans (s6.since _)⟩

set_option maxHeartbeats 1600000 in
set_option maxRecDepth 100000 in
theorem specRatOk_big_n (neg : Bool) (a b : Option Addr) (ba oa n ca bb ob m cb : Nat) (X Y : Nat → Nat) (w : World) (hn : n ≤ 1048576) (hm : m ≤ 1048576)
    (hX : Limbs w a ba oa n X) (hY : Limbs w b bb ob m Y) (hXl : ∀ j, j < n → X j < 4294967296) (hYl : ∀ j, j < m → Y j < 4294967296) (h1 : plainB X n = true) (h2 : plainB Y m = true) (h3 : ¬ m = 0) (h4 : ¬ (n = 0 ∧ neg = true)) (hs : ¬ smallB X n Y m = true) (h5 : ¬ n = 0) :
    Calls Tryd.prog 7 #[.agg #[.bool neg, .slice a n ca, .slice b m cb]] w fun e w' => e = .returned (.bool (ratOkB neg X n Y m)) ∧ w.Since w.heap.size w' := by
  have sA : w.Since w.heap.size (w.alloc (.cells #[.bool neg, .slice a n ca, .slice b m cb] 25)) := (World.Since.refl _ _).alloc (Nat.le_refl _) _
  have I1 := l1Plain_any a ba oa n ca X _ hn (hX.keep sA)
  have I2 := l1Plain_any b bb ob m cb Y _ hm (hY.keep sA)
  rw [h1] at I1
  rw [h2] at I2
  have q3 : ((m : Int) == 0) = false := by simp; omega
  have HR := hide (show (decide (Nat.gcd (lv X n) (lv Y m) = 1)) = ratOkB neg X n Y m by
    have e3 : (m != 0) = true := by simp [h3]
    have e4 : (neg && n == 0) = false := by cases neg <;> simp at h4 ⊢; exact h4
    rw [Bool.eq_iff_iff]
    simp [ratOkB, h1, h2, e3, e4])
  obtain ⟨c0, c1, c2⟩ := box3 w (.bool neg) (.slice a n ca) (.slice b m cb) 25
  have I3 := l1IsSmall_any neg a b ba oa n ca bb ob m cb X Y _ hn hm (hX.keep sA) (hY.keep sA) hXl hYl
  have HN : Hid (n = 0 → neg = false) := fun h => by cases neg; rfl; exact absurd ⟨h, rfl⟩ h4
  clear h1 h2 h4
  have XA := hX.keep sA
  have YA := hY.keep sA
  rw [show smallB X n Y m = false by simpa using hs] at I3
  clear hs
  go_enter Tryd.func7, Tryd.ntmps7
  go_wp2_with fail
  refine I1.mono ?_
  rintro e w1 ⟨rfl, rfl⟩
  go_wp2_with fail
  refine I2.mono ?_
  rintro e w1 ⟨rfl, rfl⟩
  clear I1 I2
  generalize w.alloc (.cells #[.bool neg, .slice a n ca, .slice b m cb] 25) = wA at *
  have h6 : ((n : Int) == 0) = false := by simp; omega
  go_wp2_with fail
  refine I3.mono ?_
  rintro e w1 ⟨rfl, s1⟩
  clear I3
  have zA : w.heap.size < wA.heap.size := World.block_lt_of_cell? _ _ c0
  have d1 : w1.cell? ⟨w.heap.size, 1, none⟩ = some (.slice a n ca) := (s1.cell (a := ⟨w.heap.size, 1, none⟩) zA).trans c1
  have d2 : w1.cell? ⟨w.heap.size, 2, none⟩ = some (.slice b m cb) := (s1.cell (a := ⟨w.heap.size, 2, none⟩) zA).trans c2
  have S1 : w.Since w.heap.size w1.drew := by have h := sA.trans (sinceMono s1 sA.size); exact ⟨h.os, h.tape, h.output, h.size, h.block⟩
  have z1 : w.heap.size < w1.drew.heap.size := Nat.lt_of_lt_of_le zA s1.size
  have X0 := XA.keep s1
  have Y0 := YA.keep s1
  have X1 : Limbs w1.drew a ba oa n X := X0
  have Y1 : Limbs w1.drew b bb ob m Y := Y0
  have XL := hide hXl
  have YL := hide hYl
  clear hXl hYl XA YA s1 c0 c1 c2 X0 Y0
  go_wp2
  have J1 := l1Bits_any a ba oa n ca X w1.drew (by omega) X1 XL.out
  go_region_held3 (fun w' => w'.cell? ⟨w.heap.size, 1, none⟩ = some (.slice a n ca) ∧ w'.cell? ⟨w.heap.size, 2, none⟩ = some (.slice b m cb)) (go_keep)
    (first
      | (go_at_call 30
         first
          | (with_reducible refine J1.mono ?_
             rintro e w2 ⟨a1, g1, m1, t1, B1, rfl, k1, k2, L1, -, p1, e1, s2⟩
             have T1 : Tr w2 (.slice a1 m1 t1) m1 B1 := ⟨a1, g1, 0, t1, rfl, k1, L1, p1⟩
             have E1 := hide e1
             clear L1 p1 e1
             have z2 := s2.size
             have J2 := l1Bits_any b bb ob m cb Y w2 (by omega) (Y1.keep s2) YL.out
             have f1 : w2.cell? ⟨w.heap.size, 1, none⟩ = some (.slice a n ca) := (s2.cell (a := ⟨w.heap.size, 1, none⟩) z1).trans d1
             have f2 : w2.cell? ⟨w.heap.size, 2, none⟩ = some (.slice b m cb) := (s2.cell (a := ⟨w.heap.size, 2, none⟩) z1).trans d2)
          | (with_reducible refine J2.mono ?_
             rintro e w3 ⟨a2, g2, m2, t2, B2, rfl, q1, q2, L2, -, p2, e2, s3⟩
             have T2 : Tr w3 (.slice a2 m2 t2) m2 B2 := ⟨a2, g2, 0, t2, rfl, q1, L2, p2⟩
             have E2 := hide e2
             clear L2 p2 e2
             have T1' := T1.keep s3
             have J3 := l1GcdBits_any _ _ m1 m2 B1 B2 w3 (by omega) (by omega) T1' T2
             have S3 : w.Since w.heap.size w3 := (S1.trans (sinceMono s2 S1.size)).trans (sinceMono s3 (Nat.le_trans S1.size s2.size))
             have f3 : w3.cell? ⟨w.heap.size, 1, none⟩ = some (.slice a n ca) := (s3.cell (a := ⟨w.heap.size, 1, none⟩) (Nat.lt_of_lt_of_le z1 z2)).trans f1
             have f4 : w3.cell? ⟨w.heap.size, 2, none⟩ = some (.slice b m cb) := (s3.cell (a := ⟨w.heap.size, 2, none⟩) (Nat.lt_of_lt_of_le z1 z2)).trans f2
             have z3 := s3.size))
      | (go_at_call 29
         with_reducible refine J3.mono ?_
         rintro e w4 ⟨v, t, O, rfl, ht, T3, e3, s4⟩
         have E3 := hide e3
         have J4 : Calls Tryd.prog 31 #[.int .u64 1] w4 _ := l1BitsOf_any 1 w4 (by omega)
         clear e3
         have f5 : w4.cell? ⟨w.heap.size, 1, none⟩ = some (.slice a n ca) := (s4.cell (a := ⟨w.heap.size, 1, none⟩) (Nat.lt_of_lt_of_le z1 (Nat.le_trans z2 z3))).trans f3
         have f6 : w4.cell? ⟨w.heap.size, 2, none⟩ = some (.slice b m cb) := (s4.cell (a := ⟨w.heap.size, 2, none⟩) (Nat.lt_of_lt_of_le z1 (Nat.le_trans z2 z3))).trans f4
         have z4 := s4.size)
      | (go_at_call 31
         with_reducible refine J4.mono ?_
         rintro e w5 ⟨x, t5, B5, rfl, ht5, T5, e5, s5⟩
         have E5 := hide e5
         clear e5
         obtain ⟨a3, b3, o3, c3, rfl, -, L3, p3⟩ := T3.keep s5
         obtain ⟨a5, b5, o5, c5, rfl, -, L5, p5⟩ := T5
         have S5 : w.Since w.heap.size w5 := (S3.trans (sinceMono s4 S3.size)).trans (sinceMono s5 (Nat.le_trans S3.size s4.size))
         have f7 : w5.cell? ⟨w.heap.size, 1, none⟩ = some (.slice a n ca) := (s5.cell (a := ⟨w.heap.size, 1, none⟩) (Nat.lt_of_lt_of_le z1 (Nat.le_trans (Nat.le_trans z2 z3) z4))).trans f5
         have f8 : w5.cell? ⟨w.heap.size, 2, none⟩ = some (.slice b m cb) := (s5.cell (a := ⟨w.heap.size, 2, none⟩) (Nat.lt_of_lt_of_le z1 (Nat.le_trans (Nat.le_trans z2 z3) z4))).trans f6
         have J := l1CmpBits_any a3 a5 b3 o3 t c3 b5 o5 t5 c5 O B5 w5 (by omega) (by omega) L3 L5 p3 p5
         rw [E5.out, E3.out, E1.out, E2.out] at J
         clear T3 L3 L5 p3 p5)
      | (go_at_call 28
         with_reducible refine J.mono ?_
         rintro e w6 ⟨rfl, s6⟩
         have f9 : w6.cell? ⟨w.heap.size, 1, none⟩ = some (.slice a n ca) := by rw [s6.cell]; exact f7
         have f10 : w6.cell? ⟨w.heap.size, 2, none⟩ = some (.slice b m cb) := by rw [s6.cell]; exact f8))
  all_goals go_wp2
  all_goals go_ret
  all_goals exact ⟨ret_bool ((cmpN_one (Nat.gcd (lv X n) (lv Y m))).trans HR.out), S5.trans (s6.since _)⟩

set_option maxHeartbeats 3200000 in
set_option maxRecDepth 100000 in
theorem specRatOk_any (neg : Bool) (a b : Option Addr) (ba oa n ca bb ob m cb : Nat) (X Y : Nat → Nat) (w : World) (hn : n ≤ 1048576) (hm : m ≤ 1048576)
    (hX : Limbs w a ba oa n X) (hY : Limbs w b bb ob m Y) (hXl : ∀ j, j < n → X j < 4294967296) (hYl : ∀ j, j < m → Y j < 4294967296) :
    Calls Tryd.prog 7 #[.agg #[.bool neg, .slice a n ca, .slice b m cb]] w fun e w' => e = .returned (.bool (ratOkB neg X n Y m)) ∧ w.Since w.heap.size w' := by
  have sA : w.Since w.heap.size (w.alloc (.cells #[.bool neg, .slice a n ca, .slice b m cb] 25)) := (World.Since.refl _ _).alloc (Nat.le_refl _) _
  have I1 := l1Plain_any a ba oa n ca X _ hn (hX.keep sA)
  have I2 := l1Plain_any b bb ob m cb Y _ hm (hY.keep sA)
  by_cases h1 : plainB X n = false
  · have HR := hide (show false = ratOkB neg X n Y m by simp [ratOkB, h1])
    rw [h1] at I1
    clear h1
    go_enter Tryd.func7, Tryd.ntmps7
    go_wp2_with fail
    refine I1.mono ?_
    rintro e w1 ⟨rfl, rfl⟩
    go_wp2
    go_ret
    exact ⟨ret_bool HR.out, sA⟩
  have h1 : plainB X n = true := by simpa using h1
  rw [h1] at I1
  by_cases h2 : plainB Y m = false
  · have HR := hide (show false = ratOkB neg X n Y m by simp [ratOkB, h2])
    rw [h2] at I2
    clear h1 h2
    go_enter Tryd.func7, Tryd.ntmps7
    go_wp2_with fail
    refine I1.mono ?_
    rintro e w1 ⟨rfl, rfl⟩
    go_wp2_with fail
    refine I2.mono ?_
    rintro e w1 ⟨rfl, rfl⟩
    go_wp2
    go_ret
    exact ⟨ret_bool HR.out, sA⟩
  have h2 : plainB Y m = true := by simpa using h2
  rw [h2] at I2
  by_cases h3 : m = 0
  · have HR := hide (show false = ratOkB neg X n Y m by simp [ratOkB, h3])
    clear h1 h2
    subst h3
    go_enter Tryd.func7, Tryd.ntmps7
    go_wp2_with fail
    refine I1.mono ?_
    rintro e w1 ⟨rfl, rfl⟩
    go_wp2_with fail
    refine I2.mono ?_
    rintro e w1 ⟨rfl, rfl⟩
    go_wp2
    go_ret
    exact ⟨ret_bool HR.out, sA⟩
  have q3 : ((m : Int) == 0) = false := by simp; omega
  by_cases h4 : n = 0 ∧ neg = true
  · obtain ⟨rfl, rfl⟩ := h4
    have HR := hide (show false = ratOkB true X 0 Y m by simp [ratOkB])
    clear h1 h2
    go_enter Tryd.func7, Tryd.ntmps7
    go_wp2_with fail
    refine I1.mono ?_
    rintro e w1 ⟨rfl, rfl⟩
    go_wp2_with fail
    refine I2.mono ?_
    rintro e w1 ⟨rfl, rfl⟩
    go_wp2
    go_ret
    exact ⟨ret_bool HR.out, sA⟩
  by_cases hs : smallB X n Y m = true
  · by_cases h5 : n = 0
    · exact specRatOk_small_z neg a b ba oa n ca bb ob m cb X Y w hn hm hX hY hXl hYl h1 h2 h3 h4 hs h5
    · exact specRatOk_small_n neg a b ba oa n ca bb ob m cb X Y w hn hm hX hY hXl hYl h1 h2 h3 h4 hs h5
  · by_cases h5 : n = 0
    · exact specRatOk_big_z neg a b ba oa n ca bb ob m cb X Y w hn hm hX hY hXl hYl h1 h2 h3 h4 hs h5
    · exact specRatOk_big_n neg a b ba oa n ca bb ob m cb X Y w hn hm hX hY hXl hYl h1 h2 h3 h4 hs h5

end Go.Proofs.YtabemlkdpgglaaaDoor

namespace Go.Proofs.YtabemlkdpgglaaaDoor
open Go.RowKit

/-- A natural in an answer: a slice in a block of its own, plain. -/
def NatV (w : World) (v : Value) (g N M : Nat) : Prop :=
  ∃ a m cap Y, v = .slice a m cap ∧ m ≤ cap ∧ m ≤ M ∧ (a = none → cap = 0) ∧ Limbs w a g 0 m Y ∧ (0 < m → ∀ o, w.frozen? ⟨g, o, none⟩ = false) ∧ (∀ j, j < m → Y j < 4294967296) ∧ (0 < m → Y (m - 1) ≠ 0) ∧ lv Y m = N

theorem natV_natAt {w : World} {v : Value} {g N M : Nat} : NatV w v g N M = NatAt w v g N M := rfl

/-- A Rat in an answer: its two lists lie in blocks of their own. -/
def RatV (w : World) (v : Value) (neg : Bool) (N D B M : Nat) : Prop :=
  ∃ v1 v2 g h, v = .agg #[.bool neg, v1, v2] ∧ NatAt w v1 g N M ∧ NatAt w v2 h D M ∧ B ≤ g ∧ B ≤ h ∧ g ≠ h

theorem natAt_nil (w : World) (g M : Nat) : NatAt w (.slice none 0 0) g 0 M :=
  ⟨none, 0, 0, fun _ => 0, rfl, Nat.le_refl _, Nat.zero_le _, fun _ => rfl, fun j hj => absurd hj (by omega), fun h => absurd h (by omega), fun j hj => absurd hj (by omega), fun h => absurd h (by omega), rfl⟩

theorem natAt_empty (w : World) (a : Addr) (cap g M : Nat) : NatAt w (.slice (some a) 0 cap) g 0 M :=
  ⟨some a, 0, cap, fun _ => 0, rfl, Nat.zero_le _, Nat.zero_le _, fun h => (by cases h), fun j hj => absurd hj (by omega), fun h => absurd h (by omega), fun j hj => absurd hj (by omega), fun h => absurd h (by omega), rfl⟩

theorem NatAt.keep {w w' : World} {v : Value} {g N M : Nat} (h : NatAt w v g N M) (s : w.Since w.heap.size w') : NatAt w' v g N M := by
  obtain ⟨a, m, cap, Y, h1, h2, h3, h4, h5, h6, h7, h8, h9⟩ := h
  exact ⟨a, m, cap, Y, h1, h2, h3, h4, h5.keep s, fun h0 o => by rw [s.frozen (a := ⟨g, o, none⟩) (h5.lt h0)]; exact h6 h0 o, h7, h8, h9⟩

theorem NatAt.marked {w w' : World} {v : Value} {g N M c : Nat} (h : NatAt w v g N M) (s : Marked w w' c) (hne : g ≠ c) : NatAt w' v g N M := by
  obtain ⟨a, m, cap, Y, h1, h2, h3, h4, h5, h6, h7, h8, h9⟩ := h
  exact ⟨a, m, cap, Y, h1, h2, h3, h4, h5.marked s (fun _ => hne), fun h0 o => by rw [s.frozenO (a := ⟨g, o, none⟩) hne]; exact h6 h0 o, h7, h8, h9⟩

theorem NatAt.more {w : World} {v : Value} {g N M M' : Nat} (h : NatAt w v g N M) (hM : M ≤ M') : NatAt w v g N M' := by
  obtain ⟨a, m, cap, Y, h1, h2, h3, h4⟩ := h
  exact ⟨a, m, cap, Y, h1, h2, Nat.le_trans h3 hM, h4⟩

theorem RatV.keep {w w' : World} {v : Value} {neg : Bool} {N D B M : Nat} (h : RatV w v neg N D B M) (s : w.Since w.heap.size w') : RatV w' v neg N D B M := by
  obtain ⟨v1, v2, g, k, h1, h2, h3, h4⟩ := h
  exact ⟨v1, v2, g, k, h1, h2.keep s, h3.keep s, h4⟩

theorem RatV.down {w : World} {v : Value} {neg : Bool} {N D B B' M : Nat} (h : RatV w v neg N D B M) (hB : B' ≤ B) : RatV w v neg N D B' M := by
  obtain ⟨v1, v2, g, k, h1, h2, h3, h4, h5, h6⟩ := h
  exact ⟨v1, v2, g, k, h1, h2, h3, by omega, by omega, h6⟩

theorem RatV.more {w : World} {v : Value} {neg : Bool} {N D B M M' : Nat} (h : RatV w v neg N D B M) (hM : M ≤ M') : RatV w v neg N D B M' := by
  obtain ⟨v1, v2, g, k, h1, h2, h3, h4⟩ := h
  exact ⟨v1, v2, g, k, h1, h2.more hM, h3.more hM, h4⟩

set_option maxHeartbeats 800000 in
set_option maxRecDepth 100000 in
theorem zeroRat_any (w : World) : Calls Tryd.prog 32 #[] w fun e w' => ∃ v, e = .returned v ∧ RatV w' v false 0 1 w.heap.size 4194304 ∧ w.Since w.heap.size w' := by
  have sA : w.Since w.heap.size ((w.alloc (.cells #[.bool false, .slice none 0 0, .slice (some ⟨w.heap.size + 1, 0, none⟩) 1 1] 25)).alloc (.cells #[.int .u32 1] 58)) := ((World.Since.refl _ _).alloc (Nat.le_refl _) _).alloc (by simp) _
  have bA : Box3 ((w.alloc (.cells #[.bool false, .slice none 0 0, .slice (some ⟨w.heap.size + 1, 0, none⟩) 1 1] 25)).alloc (.cells #[.int .u32 1] 58)) w.heap.size (.bool false) (.slice none 0 0) (.slice (some ⟨w.heap.size + 1, 0, none⟩) 1 1) :=
    (Box3.new w _ _ _ _).keep ((World.Since.refl _ _).alloc (Nat.le_refl _) _)
  have n1 := natAt_one (w.alloc (.cells #[.bool false, .slice none 0 0, .slice (some ⟨w.heap.size + 1, 0, none⟩) 1 1] 25))
  rw [show (w.alloc (.cells #[.bool false, .slice none 0 0, .slice (some ⟨w.heap.size + 1, 0, none⟩) 1 1] 25)).heap.size = w.heap.size + 1 by simp] at n1
  go_enter Tryd.func32, Tryd.ntmps32
  go_wp2
  refine bodyPost_ret (results_box3 rfl _ _ _ _ _ _ rfl bA) rfl ?_
  exact ⟨_, rfl, ⟨_, _, w.heap.size + 2, w.heap.size + 1, rfl, natAt_nil _ _ _, n1, by omega, by omega, by omega⟩, sA⟩

set_option maxHeartbeats 800000 in
set_option maxRecDepth 100000 in
theorem l1Zero_any (w : World) : Calls Tryd.prog 55 #[] w fun e w' => ∃ v, e = .returned v ∧ RatV w' v false 0 1 w.heap.size 4194304 ∧ w.Since w.heap.size w' := by
  have sA : w.Since w.heap.size (((w.alloc (.cells #[.bool false, .slice (some ⟨w.heap.size + 1, 0, none⟩) 0 0, .slice (some ⟨w.heap.size + 1 + 1, 0, none⟩) 1 1] 25)).alloc (.cells #[] 58)).alloc (.cells #[.int .u32 1] 58)) :=
    (((World.Since.refl _ _).alloc (Nat.le_refl _) _).alloc (by simp) _).alloc (by simp; omega) _
  have bA : Box3 (((w.alloc (.cells #[.bool false, .slice (some ⟨w.heap.size + 1, 0, none⟩) 0 0, .slice (some ⟨w.heap.size + 1 + 1, 0, none⟩) 1 1] 25)).alloc (.cells #[] 58)).alloc (.cells #[.int .u32 1] 58)) w.heap.size (.bool false) (.slice (some ⟨w.heap.size + 1, 0, none⟩) 0 0) (.slice (some ⟨w.heap.size + 1 + 1, 0, none⟩) 1 1) :=
    ((Box3.new w _ _ _ _).keep ((World.Since.refl _ _).alloc (Nat.le_refl _) _)).keep ((World.Since.refl _ _).alloc (Nat.le_refl _) _)
  have n1 := natAt_one ((w.alloc (.cells #[.bool false, .slice (some ⟨w.heap.size + 1, 0, none⟩) 0 0, .slice (some ⟨w.heap.size + 1 + 1, 0, none⟩) 1 1] 25)).alloc (.cells #[] 58))
  rw [show ((w.alloc (.cells #[.bool false, .slice (some ⟨w.heap.size + 1, 0, none⟩) 0 0, .slice (some ⟨w.heap.size + 1 + 1, 0, none⟩) 1 1] 25)).alloc (.cells #[] 58)).heap.size = w.heap.size + 1 + 1 by simp] at n1
  go_enter Tryd.func55, Tryd.ntmps55
  go_wp2
  refine bodyPost_ret (results_box3 rfl _ _ _ _ _ _ rfl bA) rfl ?_
  exact ⟨_, rfl, ⟨_, _, w.heap.size + 1, w.heap.size + 1 + 1, rfl, natAt_empty _ _ _ _ _, n1, by omega, by omega, by omega⟩, sA⟩

theorem tlen_plain {X : Nat → Nat} {n : Nat} (p : 0 < n → X (n - 1) ≠ 0) : tlen (nz X) n = n := by
  cases n with
  | zero => rfl
  | succ n => simp [tlen, nz]; exact fun h => absurd h (p (by omega))

set_option maxHeartbeats 1600000 in
set_option maxRecDepth 100000 in
/-- fractionOf of a Rat with plain lists shares them. -/
theorem fractionOf_any (neg : Bool) (a b : Option Addr) (ba oa n ca bb ob m cb : Nat) (X Y : Nat → Nat) (w : World) (hn : n ≤ 1048576) (hm : m ≤ 1048576) (hnc : n ≤ ca) (hmc : m ≤ cb)
    (hX : Limbs w a ba oa n X) (hY : Limbs w b bb ob m Y) (pX : 0 < n → X (n - 1) ≠ 0) (pY : 0 < m → Y (m - 1) ≠ 0) :
    Calls Tryd.prog 61 #[.agg #[.bool neg, .slice a n ca, .slice b m cb]] w fun e w' => e = .returned (.agg #[.bool neg, .slice a n ca, .slice b m cb]) ∧ w.Since w.heap.size w' := by
  have eX := tlen_plain pX
  have eY := tlen_plain pY
  clear pX pY
  have sA : w.Since w.heap.size ((w.alloc (.cells #[.bool neg, .slice a n ca, .slice b m cb] 25)).alloc (.cells #[.bool false, .slice none 0 0, .slice none 0 0] 72)) := ((World.Since.refl _ _).alloc (Nat.le_refl _) _).alloc (by simp) _
  have bA : Box3 ((w.alloc (.cells #[.bool neg, .slice a n ca, .slice b m cb] 25)).alloc (.cells #[.bool false, .slice none 0 0, .slice none 0 0] 72)) w.heap.size (.bool neg) (.slice a n ca) (.slice b m cb) := (Box3.new w _ _ _ _).keep ((World.Since.refl _ _).alloc (Nat.le_refl _) _)
  have qA : Box3 ((w.alloc (.cells #[.bool neg, .slice a n ca, .slice b m cb] 25)).alloc (.cells #[.bool false, .slice none 0 0, .slice none 0 0] 72)) (w.heap.size + 1) (.bool false) (.slice none 0 0) (.slice none 0 0) := by
    have := Box3.new (w.alloc (.cells #[.bool neg, .slice a n ca, .slice b m cb] 25)) (.bool false) (.slice none 0 0) (.slice none 0 0) 72
    simpa using this
  go_enter Tryd.func61, Tryd.ntmps61
  go_wp2
  generalize ((w.alloc (.cells #[.bool neg, .slice a n ca, .slice b m cb] 25)).alloc (.cells #[.bool false, .slice none 0 0, .slice none 0 0] 72)) = wA at *
  have SD : w.Since w.heap.size wA.drew := ⟨sA.os, sA.tape, sA.output, sA.size, sA.block⟩
  have bD : Box3 wA.drew w.heap.size (.bool neg) (.slice a n ca) (.slice b m cb) := ⟨bA.c0, bA.c1, bA.c2, bA.f⟩
  have qD : Box3 wA.drew (w.heap.size + 1) (.bool false) (.slice none 0 0) (.slice none 0 0) := ⟨qA.c0, qA.c1, qA.c2, qA.f⟩
  have k0 := bA.c0
  have k1 := bA.c1
  have k2 := bA.c2
  have J1 := readOnly_any a ba oa n ca X wA.drew (by omega) hnc (hX.keep SD)
  rw [eX] at J1
  clear sA bA qA
  go_region_held3 (fun w' => w'.cell? ⟨w.heap.size, 0, none⟩ = some (.bool neg) ∧ w'.cell? ⟨w.heap.size, 1, none⟩ = some (.slice a n ca) ∧ w'.cell? ⟨w.heap.size, 2, none⟩ = some (.slice b m cb)) (go_keep)
    (first
      | (go_at_call 75
         first
          | (with_reducible refine J1.mono ?_
             rintro e w1 ⟨rfl, s1⟩
             have S1 : w.Since w.heap.size w1 := SD.trans (sinceMono s1 SD.size)
             have b1 := bD.keep s1
             have q1 := qD.keep s1
             have i0 := b1.c0
             have i1 := b1.c1
             have i2 := b1.c2
             have J2 := readOnly_any b bb ob m cb Y w1 (by omega) hmc (hY.keep S1)
             rw [eY] at J2)
          | (with_reducible refine J2.mono ?_
             rintro e w2 ⟨rfl, s2⟩
             have S2 : w.Since w.heap.size w2 := S1.trans (sinceMono s2 S1.size)
             have b2 := b1.keep s2
             have q2 := q1.keep s2
             have i0 := b2.c0
             have i1 := b2.c1
             have i2 := b2.c2
             have j0 := q2.c0
             have j1 := q2.c1
             have j2 := q2.c2
             have f0 := q2.f 0
             have f1 := q2.f 1
             have f2 := q2.f 2)))
  all_goals go_wp2
  all_goals
    have q3 := ((q2.set0 (.bool neg)).set1 (.slice a n ca)).set2 (.slice b m cb)
    refine bodyPost_ret (results_box3T rfl Tryd.underlying72 rfl fracInfo _ _ _ _ _ _ rfl q3) rfl ?_
    have M : Marked w2 _ (w.heap.size + 1) := (((Marked.refl w2 _).setCell 0 (.bool neg)).setCell 1 (.slice a n ca)).setCell 2 (.slice b m cb)
    exact ⟨rfl, S2.trans (M.since (by omega))⟩

end Go.Proofs.YtabemlkdpgglaaaDoor

namespace Go.Proofs.YtabemlkdpgglaaaDoor
open Go.RowKit

/-- Old memory but for one block stands. -/
structure Oth (c : Nat) (w w' : World) : Prop where
  os : w'.os = w.os
  tape : w'.tape = w.tape
  output : w'.output = w.output
  size : w.heap.size ≤ w'.heap.size
  block : ∀ k, k < w.heap.size → k ≠ c → w'.heap[k]? = w.heap[k]?

section
variable {c d n g N M off : Nat} {w w' w1 w2 : World} {a : Option Addr} {X : Nat → Nat} {v x y z : Value}
theorem Oth.refl (c : Nat) (w : World) : Oth c w w := ⟨rfl, rfl, rfl, Nat.le_refl _, fun _ _ _ => rfl⟩
theorem Oth.trans (h : Oth c w w1) (k : Oth c w1 w2) : Oth c w w2 := ⟨k.os.trans h.os, k.tape.trans h.tape, k.output.trans h.output, Nat.le_trans h.size k.size, fun i h1 h2 => (k.block i (Nat.lt_of_lt_of_le h1 h.size) h2).trans (h.block i h1 h2)⟩
theorem Oth.ofSince (c : Nat) (h : w.Since w.heap.size w') : Oth c w w' := ⟨h.os, h.tape, h.output, h.size, fun k hk _ => h.block k hk⟩
theorem Oth.ofMarked (h : Marked w w' c) : Oth c w w' := ⟨h.os, h.tape, h.output, by rw [h.size]; exact Nat.le_refl _, fun k _ hk => h.other k hk⟩
theorem Oth.since (h : Oth c w w') (hc : c ≤ w.heap.size) : w.Since c w' := ⟨h.os, h.tape, h.output, h.size, fun k hk => h.block k (by omega) (by omega)⟩
theorem Oth.cell (h : Oth c w w') {a : Addr} (hl : a.block < w.heap.size) (hne : a.block ≠ c) : w'.cell? a = w.cell? a := World.cell?_of_block (w := w) (h.block _ hl hne)
theorem Oth.frozen (h : Oth c w w') {a : Addr} (hl : a.block < w.heap.size) (hne : a.block ≠ c) : w'.frozen? a = w.frozen? a := World.frozen?_of_block (w := w) (h.block _ hl hne)
theorem Limbs.oth (h : Limbs w a g off n X) (s : Oth c w w') (hne : 0 < n → g ≠ c) : Limbs w' a g off n X := fun j hj => ⟨(h j hj).1, by rw [s.cell (a := ⟨g, off + j, none⟩) (h.lt (by omega)) (hne (by omega))]; exact (h j hj).2⟩
theorem NatAt.oth (h : NatAt w v g N M) (s : Oth c w w') (hne : g ≠ c) : NatAt w' v g N M := by
  obtain ⟨a, m, cap, Y, h1, h2, h3, h4, h5, h6, h7, h8, h9⟩ := h
  exact ⟨a, m, cap, Y, h1, h2, h3, h4, h5.oth s (fun _ => hne), fun h0 o => by rw [s.frozen (a := ⟨g, o, none⟩) (h5.lt h0) hne]; exact h6 h0 o, h7, h8, h9⟩
theorem Box3.oth (h : Box3 w d x y z) (s : Oth c w w') (hne : d ≠ c) : Box3 w' d x y z :=
  ⟨(s.cell (a := ⟨d, 0, none⟩) h.lt hne).trans h.c0, (s.cell (a := ⟨d, 1, none⟩) h.lt hne).trans h.c1, (s.cell (a := ⟨d, 2, none⟩) h.lt hne).trans h.c2, fun k => (s.frozen (a := ⟨d, k, none⟩) h.lt hne).trans (h.f k)⟩
end

theorem Box3.drew {w : World} {c : Nat} {x y z : Value} (h : Box3 w c x y z) : Box3 w.drew c x y z := ⟨h.c0, h.c1, h.c2, h.f⟩
theorem Oth.drew {w w' : World} {c : Nat} (h : Oth c w w') : Oth c w w'.drew := ⟨h.os, h.tape, h.output, h.size, h.block⟩
theorem Limbs.drew {w : World} {a : Option Addr} {b off n : Nat} {X : Nat → Nat} (h : Limbs w a b off n X) : Limbs w.drew a b off n X := h
theorem NatAt.drew {w : World} {v : Value} {g N M : Nat} (h : NatAt w v g N M) : NatAt w.drew v g N M := h
theorem since_drew {w w' : World} {B : Nat} (h : w.Since B w') : w.Since B w'.drew := ⟨h.os, h.tape, h.output, h.size, h.block⟩

theorem natAt_row {w2 : World} {g n : Nat} {P : Nat → Nat} (r : w2.rowIs g 58 n (fun j => .int .u32 (P j : Nat))) (hP : ∀ k, P k < 4294967296) {N : Nat} (hN : lv P n = N) : NatAt w2 (.slice (some ⟨g, 0, none⟩) (tlen (nz P) n) n) g N n :=
  ⟨_, _, _, P, rfl, tlen_le _ _, tlen_le _ _, fun h => (by cases h), (limbs_row r).take (tlen_le _ _), fun _ o => r.frozen o, fun j _ => hP j, fun h => by have := tlen_top (nz P) n h; simpa [nz] using this, by rw [lv_tlen]; exact hN⟩

/-- multiply at the second cell of a struct. -/
theorem mulAt1 (c : Nat) (x z : Value) (a a' : Option Addr) (b off n cap b' off' m cap' : Nat) (X Y : Nat → Nat) (w : World) (hn : n ≤ 4194304) (hm : m ≤ 4194304) (hX : Limbs w a b off n X) (hY : Limbs w a' b' off' m Y)
    (hXl : ∀ j, j < n → X j < 4294967296) (hYl : ∀ j, j < m → Y j < 4294967296) (B : Box3 w c x (.slice a n cap) z) :
    Calls Tryd.prog 88 #[.pointer (some ⟨c, 1, none⟩), .slice a' m cap'] w fun e w' => e = .returned (.tuple #[]) ∧ ∃ v, Box3 w' c x v z ∧ NatAt w' v w.heap.size (lv X n * lv Y m) (n + m) ∧ Oth c w w' ∧ w.heap.size < w'.heap.size := by
  refine (multiply_any c 1 a a' b off n cap b' off' m cap' X Y w hn hm hX hY hXl hYl B.c1 (B.f 1)).mono ?_
  rintro e w' ⟨rfl, w2, P, s, r, hP, hv, rfl⟩
  have M := (Marked.refl w2 c).setCell 1 (.slice (some ⟨w.heap.size, 0, none⟩) (tlen (nz P) (n + m)) (n + m))
  exact ⟨rfl, _, (B.keep s).set1 _, (natAt_row r hP hv).marked M (Nat.ne_of_gt B.lt), (Oth.ofSince c s).trans (Oth.ofMarked M), by rw [M.size]; exact r.lt⟩

/-- multiply at the third cell of a struct. -/
theorem mulAt2 (c : Nat) (x z : Value) (a a' : Option Addr) (b off n cap b' off' m cap' : Nat) (X Y : Nat → Nat) (w : World) (hn : n ≤ 4194304) (hm : m ≤ 4194304) (hX : Limbs w a b off n X) (hY : Limbs w a' b' off' m Y)
    (hXl : ∀ j, j < n → X j < 4294967296) (hYl : ∀ j, j < m → Y j < 4294967296) (B : Box3 w c x z (.slice a n cap)) :
    Calls Tryd.prog 88 #[.pointer (some ⟨c, 2, none⟩), .slice a' m cap'] w fun e w' => e = .returned (.tuple #[]) ∧ ∃ v, Box3 w' c x z v ∧ NatAt w' v w.heap.size (lv X n * lv Y m) (n + m) ∧ Oth c w w' ∧ w.heap.size < w'.heap.size := by
  refine (multiply_any c 2 a a' b off n cap b' off' m cap' X Y w hn hm hX hY hXl hYl B.c2 (B.f 2)).mono ?_
  rintro e w' ⟨rfl, w2, P, s, r, hP, hv, rfl⟩
  have M := (Marked.refl w2 c).setCell 2 (.slice (some ⟨w.heap.size, 0, none⟩) (tlen (nz P) (n + m)) (n + m))
  exact ⟨rfl, _, (B.keep s).set2 _, (natAt_row r hP hv).marked M (Nat.ne_of_gt B.lt), (Oth.ofSince c s).trans (Oth.ofMarked M), by rw [M.size]; exact r.lt⟩

set_option maxHeartbeats 1600000 in
set_option maxRecDepth 100000 in
/-- (*fraction).multiply. -/
theorem fracMul_any (c : Nat) (f f' : Bool) (a b a' b' : Option Addr) (ba oa n ca bb ob m cb ba' oa' n' ca' bb' ob' m' cb' : Nat) (X Y X' Y' : Nat → Nat) (w : World) (hn : n ≤ 1048576) (hm : m ≤ 1048576) (hn' : n' ≤ 1048576) (hm' : m' ≤ 1048576)
    (hX : Limbs w a ba oa n X) (hY : Limbs w b bb ob m Y) (hX' : Limbs w a' ba' oa' n' X') (hY' : Limbs w b' bb' ob' m' Y') (hXl : ∀ j, j < n → X j < 4294967296) (hYl : ∀ j, j < m → Y j < 4294967296) (hXl' : ∀ j, j < n' → X' j < 4294967296) (hYl' : ∀ j, j < m' → Y' j < 4294967296)
    (ea : 0 < n → ba ≠ c) (eb : 0 < m → bb ≠ c) (ea' : 0 < n' → ba' ≠ c) (eb' : 0 < m' → bb' ≠ c) (B : Box3 w c (.bool f) (.slice a n ca) (.slice b m cb)) :
    Calls Tryd.prog 64 #[.pointer (some ⟨c, 0, none⟩), .agg #[.bool f', .slice a' n' ca', .slice b' m' cb']] w fun e w' => e = .returned (.tuple #[]) ∧ ∃ v1 v2 g h, Box3 w' c (.bool (f != f')) v1 v2 ∧
      NatAt w' v1 g (lv X n * lv X' n') (n + n') ∧ NatAt w' v2 h (lv Y m * lv Y' m') (m + m') ∧ w.heap.size ≤ g ∧ g < h ∧ h < w'.heap.size ∧ Oth c w w' := by
  have sA : w.Since w.heap.size (w.alloc (.cells #[.bool f', .slice a' n' ca', .slice b' m' cb'] 72)) := (World.Since.refl _ _).alloc (Nat.le_refl _) _
  have gA := Box3.new w (.bool f') (.slice a' n' ca') (.slice b' m' cb') 72
  have k0 := B.c0
  have kf := B.f 0
  have BA := B.keep sA
  have hcl := B.lt
  go_enter Tryd.func64, Tryd.ntmps64
  go_wp2
  have g0 := gA.c0
  have kA := BA.c0
  have kB := BA.f 0
  have M0 := (Marked.refl w c).setCell 0 (.bool (!(f == f')))
  have tS : (w.setCell ⟨c, 0, none⟩ (.bool (!(f == f')))).Since (w.setCell ⟨c, 0, none⟩ (.bool (!(f == f')))).heap.size ((w.setCell ⟨c, 0, none⟩ (.bool (!(f == f')))).alloc (.cells #[.bool f', .slice a' n' ca', .slice b' m' cb'] 72)).drew := by
    have h := (World.Since.refl _ (w.setCell ⟨c, 0, none⟩ (.bool (!(f == f'))))).alloc (Nat.le_refl _) (.cells #[.bool f', .slice a' n' ca', .slice b' m' cb'] 72)
    exact ⟨h.os, h.tape, h.output, h.size, h.block⟩
  have B1 : Box3 ((w.setCell ⟨c, 0, none⟩ (.bool (!(f == f')))).alloc (.cells #[.bool f', .slice a' n' ca', .slice b' m' cb'] 72)).drew c (.bool (!(f == f'))) (.slice a n ca) (.slice b m cb) := (B.set0 _).keep tS
  have G1 : Box3 ((w.setCell ⟨c, 0, none⟩ (.bool (!(f == f')))).alloc (.cells #[.bool f', .slice a' n' ca', .slice b' m' cb'] 72)).drew w.heap.size (.bool f') (.slice a' n' ca') (.slice b' m' cb') := by
    have h := Box3.new (w.setCell ⟨c, 0, none⟩ (.bool (!(f == f')))) (.bool f') (.slice a' n' ca') (.slice b' m' cb') 72
    rw [M0.size] at h
    exact ⟨h.c0, h.c1, h.c2, h.f⟩
  have O1 : Oth c w ((w.setCell ⟨c, 0, none⟩ (.bool (!(f == f')))).alloc (.cells #[.bool f', .slice a' n' ca', .slice b' m' cb'] 72)).drew := (Oth.ofMarked M0).trans (Oth.ofSince c tS)
  have z1 : w.heap.size < ((w.setCell ⟨c, 0, none⟩ (.bool (!(f == f')))).alloc (.cells #[.bool f', .slice a' n' ca', .slice b' m' cb'] 72)).drew.heap.size := G1.lt
  clear tS M0 gA BA sA B
  go_region_with (fail)
  all_goals
    generalize ((w.setCell ⟨c, 0, none⟩ (.bool (!(f == f')))).alloc (.cells #[.bool f', .slice a' n' ca', .slice b' m' cb'] 72)).drew = w1 at *
    have k2 := G1.c1
    have JA := mulAt1 c _ _ a a' ba oa n ca ba' oa' n' ca' X X' w1.drew (by omega) (by omega) (hX.oth O1.drew ea) (hX'.oth O1.drew ea') hXl hXl' B1.drew
    go_wp2
    go_region_held3 (fun w' => w'.cell? ⟨w.heap.size, 1, none⟩ = some (.slice a' n' ca')) (go_keep)
      (first
        | (go_at_call 88
           with_reducible refine JA.mono ?_
           rintro e w2 ⟨rfl, v1, B2, N1, O2, z2⟩
           have G2 := G1.drew.oth O2 (by omega)
           have O12 := O1.drew.trans O2
           have i1 := G2.c1))
    have k3 := G2.c2
    have JB := mulAt2 c _ _ b b' bb ob m cb bb' ob' m' cb' Y Y' w2.drew (by omega) (by omega) (hY.oth O12.drew eb) (hY'.oth O12.drew eb') hYl hYl' B2.drew
    go_wp2
    go_region_held3 (fun w' => w'.cell? ⟨w.heap.size, 2, none⟩ = some (.slice b' m' cb')) (go_keep)
      (first
        | (go_at_call 88
           with_reducible refine JB.mono ?_
           rintro e w3 ⟨rfl, v2, B3, N2, O3, z3⟩
           have i2 := (G2.drew.oth O3 (by omega)).c2))
    go_wp2
    go_end0
    exact ⟨rfl, v1, v2, w1.heap.size, w2.heap.size, B3, N1.drew.oth O3 (by show w1.heap.size ≠ _; omega), N2, by omega, z2, z3, O12.drew.trans O3⟩

end Go.Proofs.YtabemlkdpgglaaaDoor

namespace Go.Proofs.YtabemlkdpgglaaaDoor
open Go.RowKit

/-- The bytes handed in. -/
def Code (w : World) (a : Option Addr) (b off n : Nat) (X : Nat → Nat) : Prop := ∀ j, j < n → X j < 256 ∧ a = some ⟨b, off, none⟩ ∧ w.cell? ⟨b, off + j, none⟩ = some (.int .u8 (X j))

/-- A reader in its box. -/
structure Rd (w : World) (c : Nat) (a : Option Addr) (b off n cap : Nat) (X : Nat → Nat) : Prop where
  c0 : w.cell? ⟨c, 0, none⟩ = some (.slice a n cap)
  c1 : ∃ p : Nat, p ≤ n ∧ w.cell? ⟨c, 1, none⟩ = some (.int .i64 p)
  f : ∀ k, w.frozen? ⟨c, k, none⟩ = false
  code : Code w a b off n X
  ne : 0 < n → b ≠ c

theorem Code.lt {w : World} {a : Option Addr} {b off n : Nat} {X : Nat → Nat} (h : Code w a b off n X) (h0 : 0 < n) : b < w.heap.size := World.block_lt_of_cell? _ _ (h 0 h0).2.2
theorem Code.oth {w w' : World} {a : Option Addr} {b off n c : Nat} {X : Nat → Nat} (h : Code w a b off n X) (s : Oth c w w') (hne : 0 < n → b ≠ c) : Code w' a b off n X :=
  fun j hj => ⟨(h j hj).1, (h j hj).2.1, (s.cell (a := ⟨b, off + j, none⟩) (h.lt (by omega)) (hne (by omega))).trans (h j hj).2.2⟩
theorem Code.keep {w w' : World} {a : Option Addr} {b off n : Nat} {X : Nat → Nat} (h : Code w a b off n X) (s : w.Since w.heap.size w') : Code w' a b off n X :=
  fun j hj => ⟨(h j hj).1, (h j hj).2.1, (s.cell (a := ⟨b, off + j, none⟩) (h.lt (by omega))).trans (h j hj).2.2⟩
theorem Rd.lt {w : World} {c : Nat} {a : Option Addr} {b off n cap : Nat} {X : Nat → Nat} (h : Rd w c a b off n cap X) : c < w.heap.size := World.block_lt_of_cell? _ _ h.c0
theorem Rd.keep {w w' : World} {c : Nat} {a : Option Addr} {b off n cap : Nat} {X : Nat → Nat} (h : Rd w c a b off n cap X) (s : w.Since w.heap.size w') : Rd w' c a b off n cap X := by
  obtain ⟨p, hp, h1⟩ := h.c1
  exact ⟨(s.cell (a := ⟨c, 0, none⟩) h.lt).trans h.c0, ⟨p, hp, (s.cell (a := ⟨c, 1, none⟩) h.lt).trans h1⟩, fun k => (s.frozen (a := ⟨c, k, none⟩) h.lt).trans (h.f k), h.code.keep s, h.ne⟩

theorem Rd.same {w w' : World} {c : Nat} {a : Option Addr} {b off n cap : Nat} {X : Nat → Nat} (h : Rd w c a b off n cap X) (s : Same w w') : Rd w' c a b off n cap X := h.keep (s.since _)
theorem Oth.ofSame {w w' : World} (c : Nat) (s : Same w w') : Oth c w w' := Oth.ofSince c (s.since _)

theorem Rd.step {w w1 : World} {c : Nat} {a : Option Addr} {b off n cap p : Nat} {X : Nat → Nat} (h : Rd w c a b off n cap X) (hp : p < n) (k1 : w.cell? ⟨c, 1, none⟩ = some (.int .i64 p)) (s : Same w w1) :
    Rd (w1.setCell ⟨c, 1, none⟩ (.int .i64 ((p : Int) + 1))) c a b off n cap X ∧ Oth c w (w1.setCell ⟨c, 1, none⟩ (.int .i64 ((p : Int) + 1))) := by
  have M := (Marked.refl w1 c).setCell 1 (.int .i64 ((p : Int) + 1))
  have O : Oth c w (w1.setCell ⟨c, 1, none⟩ (.int .i64 ((p : Int) + 1))) := (Oth.ofSame c s).trans (Oth.ofMarked M)
  refine ⟨⟨?_, ⟨p + 1, hp, ?_⟩, fun k => ?_, h.code.oth O h.ne, h.ne⟩, O⟩
  · rw [World.cell?_setCell_other _ _ _ _ (by simp), s.cell]; exact h.c0
  · exact World.cell?_setCell_same _ _ _ (by rw [s.cell]; exact k1)
  · rw [M.frozen, s.frozen]; exact h.f k

set_option maxHeartbeats 800000 in
set_option maxRecDepth 100000 in
theorem next_any (c : Nat) (a : Option Addr) (b off n cap : Nat) (X : Nat → Nat) (w : World) (hn : n ≤ 1048576) (R : Rd w c a b off n cap X) :
    Calls Tryd.prog 49 #[.pointer (some ⟨c, 0, none⟩)] w fun e w' => ∃ v : Nat, e = .returned (.int .i64 v) ∧ v < 256 ∧ Rd w' c a b off n cap X ∧ Oth c w w' := by
  have k0 := R.c0
  obtain ⟨p, hp, k1⟩ := R.c1
  have kf := R.f 1
  by_cases hlt : p < n
  · obtain ⟨hx, rfl, kx⟩ := R.code p hlt
    have hlt' : (p : Int) < (n : Int) := by omega
    obtain ⟨x, ex⟩ : ∃ x, x = X p := ⟨_, rfl⟩
    rw [← ex] at kx hx
    clear ex
    go_enter Tryd.func49, Tryd.ntmps49
    go_wp2
    go_quiet (fail)
    go_wp2
    go_quiet (fail)
    go_wp2
    go_ret
    go_light
    exact ⟨x, rfl, hx, R.step hlt k1 ((Same.refl _).drewN _)⟩
  · go_enter Tryd.func49, Tryd.ntmps49
    go_wp2
    go_quiet (fail)
    go_wp2
    go_ret
    exact ⟨0, rfl, by omega, R.same (w' := w.drewN nq) ((Same.refl _).drewN _), Oth.ofSame c ((Same.refl _).drewN _)⟩

set_option maxHeartbeats 800000 in
set_option maxRecDepth 100000 in
theorem left_any (c : Nat) (a : Option Addr) (b off n cap : Nat) (X : Nat → Nat) (w : World) (hn : n ≤ 1048576) (R : Rd w c a b off n cap X) :
    Calls Tryd.prog 106 #[.pointer (some ⟨c, 0, none⟩)] w fun e w' => ∃ v : Nat, e = .returned (.int .i64 v) ∧ v ≤ 1048576 ∧ Same w w' := by
  have k0 := R.c0
  obtain ⟨p, hp, k1⟩ := R.c1
  go_enter Tryd.func106, Tryd.ntmps106
  go_wp2
  go_quiet (fail)
  go_wp2
  go_ret
  go_light
  exact ⟨n - p, ret_int (by omega), by omega, (Same.refl _).drewN _⟩

set_option maxHeartbeats 1600000 in
set_option maxRecDepth 100000 in
theorem l1DrawLimb_any (c : Nat) (a : Option Addr) (b off n cap : Nat) (X : Nat → Nat) (w : World) (hn : n ≤ 1048576) (R : Rd w c a b off n cap X) :
    Calls Tryd.prog 107 #[.pointer (some ⟨c, 0, none⟩)] w fun e w' => ∃ v : Nat, e = .returned (.int .u32 v) ∧ v < 4294967296 ∧ Rd w' c a b off n cap X ∧ Oth c w w' := by
  go_enter Tryd.func107, Tryd.ntmps107
  go_wp2_with fail
  refine (next_any c a b off n cap X w hn R).mono ?_
  rintro e w1 ⟨v, rfl, hv, R1, O1⟩
  by_cases c1 : (v : Int) % 8 = 1
  · have h1 : ((v : Int) % 8 == 1) = true := by simp [c1]
    go_wp2_with fail
    go_ret
    exact ⟨4294967295, rfl, by omega, R1, O1⟩
  have h1 : ((v : Int) % 8 == 1) = false := by simp [c1]
  by_cases c2 : (v : Int) % 8 = 2
  · have h2 : ((v : Int) % 8 == 2) = true := by simp [c2]
    go_wp2_with fail
    go_ret
    exact ⟨2147483648, rfl, by omega, R1, O1⟩
  have h2 : ((v : Int) % 8 == 2) = false := by simp [c2]
  by_cases c3 : (v : Int) % 8 = 3
  · have h3 : ((v : Int) % 8 == 3) = true := by simp [c3]
    go_wp2_with fail
    go_ret
    exact ⟨0, rfl, by omega, R1, O1⟩
  have h3 : ((v : Int) % 8 == 3) = false := by simp [c3]
  by_cases c4 : (v : Int) % 8 = 4
  · have h4 : ((v : Int) % 8 == 4) = true := by simp [c4]
    go_wp2_with fail
    go_ret
    exact ⟨v / 8, rfl, by omega, R1, O1⟩
  have h4 : ((v : Int) % 8 == 4) = false := by simp [c4]
  clear c1 c2 c3 c4
  go_wp2_with fail
  · go_loopw [4, 5] (fun q t wr => ∃ (x k : Nat), q = .int .u32 x ∧ x < 4294967296 ∧ t = .int .i64 k ∧ k ≤ 3 ∧ Rd wr c a b off n cap X ∧ Oth c w wr) (fun _ t _ => 3 - (intOf t).toNat)
    case atStart => exact ⟨v, 0, rfl, by omega, rfl, by omega, R1, O1⟩
    case round =>
      obtain ⟨x, k, rfl, hx, rfl, hk, R2, O2⟩ := hrel
      by_cases hlt : k < 3
      · go_wp2_with fail
        refine (next_any c a b off n cap X wr hn R2).mono ?_
        rintro e w2 ⟨y, rfl, hy, R3, O3⟩
        go_wp2
        go_roundw
        case rel =>
          go_light
          exact ⟨x * 256 % 4294967296 + y, k + 1, congrArg (Value.int .u32) (by omega), by omega, by go_num, by omega, R3, O2.trans O3⟩
        case measure => simp [intOf]; omega
      · go_wp2
        go_ret
        exact ⟨x, rfl, hx, R2, O2⟩

end Go.Proofs.YtabemlkdpgglaaaDoor

namespace Go.Proofs.YtabemlkdpgglaaaDoor
open Go.RowKit

theorem Oth.grown {c : Nat} {w w1 w2 : World} {row : Option Nat} (h : Oth c w w1) (g : w1.grownBy w2 row) (hr : ∀ k, row = some k → w.heap.size ≤ k) : Oth c w w2 :=
  ⟨g.os.trans h.os, g.tape.trans h.tape, g.output.trans h.output, Nat.le_trans h.size g.size, fun k h1 h2 => (g.block k (Nat.lt_of_lt_of_le h1 h.size) (fun e => by have := hr k e.symm; omega)).trans (h.block k h1 h2)⟩
theorem own_oth {w w' : World} {base c : Nat} {e : TypeId} {size : Nat} {v : Value} {n : Nat} {xs : List Value} (h : w.ownsRow base e size v n xs) (s : Oth c w w') (hc : c < base) : w'.ownsRow base e size v n xs :=
  h.kept (row := some c) ⟨s.os, s.tape, s.output, s.size, fun k h1 h2 => s.block k h1 (fun e => h2 (by rw [e]))⟩ (Or.inr (fun e => by have := (h.lt c e).1; omega))
theorem Rd.grown {w1 w2 : World} {c : Nat} {a : Option Addr} {b off n cap : Nat} {X : Nat → Nat} {row : Option Nat} (h : Rd w1 c a b off n cap X) (g : w1.grownBy w2 row) (hc : some c ≠ row) (hb : 0 < n → some b ≠ row) : Rd w2 c a b off n cap X := by
  obtain ⟨p, hp, h1⟩ := h.c1
  have e := g.block c h.lt hc
  exact ⟨(World.cell?_of_block (w := w1) (a := ⟨c, 0, none⟩) e).trans h.c0, ⟨p, hp, (World.cell?_of_block (w := w1) (a := ⟨c, 1, none⟩) e).trans h1⟩, fun k => (World.frozen?_of_block (w := w1) (a := ⟨c, k, none⟩) e).trans (h.f k),
    fun j hj => ⟨(h.code j hj).1, (h.code j hj).2.1, (World.cell?_of_block (w := w1) (a := ⟨b, off + j, none⟩) (g.block b (h.code.lt (by omega)) (hb (by omega)))).trans (h.code j hj).2.2⟩, h.ne⟩

set_option maxHeartbeats 3200000 in
set_option maxRecDepth 100000 in
theorem l1DrawNat_any (c : Nat) (a : Option Addr) (b off n cap : Nat) (X : Nat → Nat) (w : World) (hn : n ≤ 1048576) (R : Rd w c a b off n cap X) (hbl : 0 < n → b < w.heap.size) :
    Calls Tryd.prog 87 #[.pointer (some ⟨c, 0, none⟩)] w fun e w' => ∃ g t cap' D, e = .returned (.slice (some ⟨g, 0, none⟩) t cap') ∧ t ≤ cap' ∧ t ≤ 11 ∧ Limbs w' (some ⟨g, 0, none⟩) g 0 t D ∧ (∀ j, j < t → D j < 4294967296) ∧ w.heap.size ≤ g ∧ g < w'.heap.size ∧ Rd w' c a b off n cap X ∧ Oth c w w' := by
  obtain ⟨i0, hi, hz0, hz1, hz2⟩ := info_parts Tryd.info58
  have hcl := R.lt
  go_enter Tryd.func87, Tryd.ntmps87
  go_wp2_with fail
  refine (next_any c a b off n cap X w hn R).mono ?_
  rintro e w1 ⟨v, rfl, hv, R1, O1⟩
  by_cases c1 : (v : Int) % 5 = 4
  · have h1 : ((v : Int) % 5 == 4) = true := by simp [c1]
    clear c1
    go_wp2_with fail
    refine (left_any c a b off n cap X w1 hn R1).mono ?_
    rintro e w2 ⟨q, rfl, hq, s2⟩
    have O2 := O1.trans (Oth.ofSame c s2)
    have R2 := R1.same s2
    clear O1 R1 s2
    obtain ⟨M, hM⟩ : ∃ M : Nat, 4 + (q : Int) / 12 = (M : Int) := ⟨4 + q / 12, by omega⟩
    by_cases c2 : (10 : Int) < (M : Int)
    · obtain ⟨N, hN⟩ : ∃ N : Nat, N = 10 := ⟨_, rfl⟩
      have hN' : (N : Int) = 10 := by omega
      go_wp2_with fail
      rw [← hN']
      have hNl : N ≤ 10 := by omega
      clear hN hN'
      go_loopw [5, 6] (fun o t wr => ∃ (k : Nat) (D : Nat → Nat), k ≤ N ∧ t = .int .i64 k ∧ Hid (o ≠ .slice none 0 0) ∧ wr.ownsRow w.heap.size 58 1 o k (ll D k) ∧ Hid (∀ j, j < k → D j < 4294967296) ∧ Rd wr c a b off n cap X ∧ Oth c w wr) (fun _ t _ => N - (intOf t).toNat)
      case atStart => exact ⟨0, fun _ => 0, Nat.zero_le _, rfl, hide (by simp), World.ownsRow_made w2 #[] 0 O2.size (by decide) rfl, hide (fun j hj => absurd hj (by omega)), R2.keep ((World.Since.refl _ _).alloc (Nat.le_refl _) _), O2.trans (Oth.ofSince c ((World.Since.refl _ _).alloc (Nat.le_refl _) _))⟩
      case round =>
        obtain ⟨k, D, hkN, rfl, HN0, hown, HD, R2, O2⟩ := hrel
        have hs2 := O2.size
        by_cases hlt : k < N
        · go_wp2_with fail
          refine (l1DrawLimb_any c a b off n cap X wr hn R2).mono ?_
          rintro e w2 ⟨x, rfl, hx, R3, O3⟩
          have own3 := own_oth hown O3 hcl
          have hs3 := O3.size
          have O03 := O2.trans O3
          clear hown R2 O3 O2
          go_wp2_with (at_builtin; refine wpList_append_own _ rfl _ _ 23 rfl w.heap.size 58 i0 (.int .u32 0) 1 4 Tryd.underlying23 hi hz0 hz1 hz2 rfl (by decide) _ _ _ rfl (own3.alloc _) ⟨w2.heap.size, 0, none⟩ 1 1 [.int .u32 x] rfl rfl (new_cell _ _ _) (one_one _ rfl) (by unfold maxLen; omega) (by omega) (by simp; omega) ?_)
          intro v' w3 hown' hgrow hnn
          rw [show ll D k ++ [.int .u32 (x : Int)] = ll (upd D k x) (k + 1) from by rw [ll_succ, upd_same, ll_congr (fun j hj => upd_other _ _ _ _ (show j ≠ k by omega))]] at hown'
          have sW := (World.Since.refl w2.heap.size w2).alloc (Nat.le_refl _) (.cells #[.int .u32 (x : Int)] 58)
          have hlow := fun q hq => (own3.lt q hq).1
          have O4 : Oth c w w3 := (O03.trans (Oth.ofSince c sW)).grown hgrow hlow
          have R4 : Rd w3 c a b off n cap X := (R3.keep sW).grown hgrow (fun e => by have := hlow c e.symm; omega) (fun h0 e => by have := hlow b e.symm; have := hbl h0; omega)
          have HN1 := hide hnn
          have HD1 : Hid (∀ j, j < k + 1 → upd D k x j < 4294967296) := hide (fun j hj => by
            by_cases e2 : j = k
            · subst e2; rw [upd_same]; exact hx
            · rw [upd_other _ _ _ _ e2]; exact HD.out j (by omega))
          clear hgrow own3 hnn HN0 HD R3 O03 sW hlow
          go_wp2
          go_roundw
          case rel => exact ⟨k + 1, _, by omega, by go_num, HN1, hown', HD1, R4, O4⟩
          case measure => simp [intOf]; omega
        · have e : k = N := by omega
          subst e
          by_cases h224 : (224 : Int) ≤ (v : Int)
          · go_wp2_with (at_builtin; refine wpList_append_own _ rfl _ _ 23 rfl w.heap.size 58 i0 (.int .u32 0) 1 4 Tryd.underlying23 hi hz0 hz1 hz2 rfl (by decide) _ _ _ rfl (hown.alloc _) ⟨wr.heap.size, 0, none⟩ 1 1 [.int .u32 0] rfl rfl (new_cell _ _ _) (one_one _ rfl) (by unfold maxLen; omega) (by omega) (by simp; omega) ?_)
            intro v' w3 hown' hgrow hnn
            rw [show ll D k ++ [.int .u32 0] = ll (upd D k 0) (k + 1) from by rw [ll_succ, upd_same, ll_congr (fun j hj => upd_other _ _ _ _ (show j ≠ k by omega))]; rfl] at hown'
            have sW := (World.Since.refl wr.heap.size wr).alloc (Nat.le_refl _) (.cells #[.int .u32 0] 58)
            have hlow := fun q hq => (hown.lt q hq).1
            have O4 : Oth c w w3 := (O2.trans (Oth.ofSince c sW)).grown hgrow hlow
            have R4 : Rd w3 c a b off n cap X := (R2.keep sW).grown hgrow (fun e => by have := hlow c e.symm; omega) (fun h0 e => by have := hlow b e.symm; have := hbl h0; omega)
            obtain ⟨g, cap3, rfl, hmc, hbg, hgl, L3, -⟩ := own_limbs_some hown' hnn
            clear hgrow hown sW hlow R2 O2
            go_wp2
            go_ret
            refine ⟨g, k + 1, cap3, upd D k 0, rfl, hmc, by omega, L3, fun j hj => ?_, hbg, hgl, R4, O4⟩
            by_cases e2 : j = k
            · subst e2; rw [upd_same]; omega
            · rw [upd_other _ _ _ _ e2]; exact HD.out j (by omega)
          · obtain ⟨g, cap3, rfl, hmc, hbg, hgl, L3, -⟩ := own_limbs_some hown HN0.out
            go_wp2
            go_ret

            first
            | exact ⟨g, k, cap3, D, rfl, hmc, by omega, L3, HD.out, hbg, hgl, R2, O2⟩
            | exact ⟨g, k, cap3, rfl, hmc, by omega, D, L3, HD.out, hbg, hgl, R2, O2⟩
    · obtain ⟨N, hN⟩ : ∃ N : Nat, N = M := ⟨_, rfl⟩
      subst hN
      have hNl : N ≤ 10 := by omega
      go_wp2_with fail
      go_loopw [5, 6] (fun o t wr => ∃ (k : Nat) (D : Nat → Nat), k ≤ N ∧ t = .int .i64 k ∧ Hid (o ≠ .slice none 0 0) ∧ wr.ownsRow w.heap.size 58 1 o k (ll D k) ∧ Hid (∀ j, j < k → D j < 4294967296) ∧ Rd wr c a b off n cap X ∧ Oth c w wr) (fun _ t _ => N - (intOf t).toNat)
      case atStart => exact ⟨0, fun _ => 0, Nat.zero_le _, rfl, hide (by simp), World.ownsRow_made w2 #[] 0 O2.size (by decide) rfl, hide (fun j hj => absurd hj (by omega)), R2.keep ((World.Since.refl _ _).alloc (Nat.le_refl _) _), O2.trans (Oth.ofSince c ((World.Since.refl _ _).alloc (Nat.le_refl _) _))⟩
      case round =>
        obtain ⟨k, D, hkN, rfl, HN0, hown, HD, R2, O2⟩ := hrel
        have hs2 := O2.size
        by_cases hlt : k < N
        · go_wp2_with fail
          refine (l1DrawLimb_any c a b off n cap X wr hn R2).mono ?_
          rintro e w2 ⟨x, rfl, hx, R3, O3⟩
          have own3 := own_oth hown O3 hcl
          have hs3 := O3.size
          have O03 := O2.trans O3
          clear hown R2 O3 O2
          go_wp2_with (at_builtin; refine wpList_append_own _ rfl _ _ 23 rfl w.heap.size 58 i0 (.int .u32 0) 1 4 Tryd.underlying23 hi hz0 hz1 hz2 rfl (by decide) _ _ _ rfl (own3.alloc _) ⟨w2.heap.size, 0, none⟩ 1 1 [.int .u32 x] rfl rfl (new_cell _ _ _) (one_one _ rfl) (by unfold maxLen; omega) (by omega) (by simp; omega) ?_)
          intro v' w3 hown' hgrow hnn
          rw [show ll D k ++ [.int .u32 (x : Int)] = ll (upd D k x) (k + 1) from by rw [ll_succ, upd_same, ll_congr (fun j hj => upd_other _ _ _ _ (show j ≠ k by omega))]] at hown'
          have sW := (World.Since.refl w2.heap.size w2).alloc (Nat.le_refl _) (.cells #[.int .u32 (x : Int)] 58)
          have hlow := fun q hq => (own3.lt q hq).1
          have O4 : Oth c w w3 := (O03.trans (Oth.ofSince c sW)).grown hgrow hlow
          have R4 : Rd w3 c a b off n cap X := (R3.keep sW).grown hgrow (fun e => by have := hlow c e.symm; omega) (fun h0 e => by have := hlow b e.symm; have := hbl h0; omega)
          have HN1 := hide hnn
          have HD1 : Hid (∀ j, j < k + 1 → upd D k x j < 4294967296) := hide (fun j hj => by
            by_cases e2 : j = k
            · subst e2; rw [upd_same]; exact hx
            · rw [upd_other _ _ _ _ e2]; exact HD.out j (by omega))
          clear hgrow own3 hnn HN0 HD R3 O03 sW hlow
          go_wp2
          go_roundw
          case rel => exact ⟨k + 1, _, by omega, by go_num, HN1, hown', HD1, R4, O4⟩
          case measure => simp [intOf]; omega
        · have e : k = N := by omega
          subst e
          by_cases h224 : (224 : Int) ≤ (v : Int)
          · go_wp2_with (at_builtin; refine wpList_append_own _ rfl _ _ 23 rfl w.heap.size 58 i0 (.int .u32 0) 1 4 Tryd.underlying23 hi hz0 hz1 hz2 rfl (by decide) _ _ _ rfl (hown.alloc _) ⟨wr.heap.size, 0, none⟩ 1 1 [.int .u32 0] rfl rfl (new_cell _ _ _) (one_one _ rfl) (by unfold maxLen; omega) (by omega) (by simp; omega) ?_)
            intro v' w3 hown' hgrow hnn
            rw [show ll D k ++ [.int .u32 0] = ll (upd D k 0) (k + 1) from by rw [ll_succ, upd_same, ll_congr (fun j hj => upd_other _ _ _ _ (show j ≠ k by omega))]; rfl] at hown'
            have sW := (World.Since.refl wr.heap.size wr).alloc (Nat.le_refl _) (.cells #[.int .u32 0] 58)
            have hlow := fun q hq => (hown.lt q hq).1
            have O4 : Oth c w w3 := (O2.trans (Oth.ofSince c sW)).grown hgrow hlow
            have R4 : Rd w3 c a b off n cap X := (R2.keep sW).grown hgrow (fun e => by have := hlow c e.symm; omega) (fun h0 e => by have := hlow b e.symm; have := hbl h0; omega)
            obtain ⟨g, cap3, rfl, hmc, hbg, hgl, L3, -⟩ := own_limbs_some hown' hnn
            clear hgrow hown sW hlow R2 O2
            go_wp2
            go_ret
            refine ⟨g, k + 1, cap3, upd D k 0, rfl, hmc, by omega, L3, fun j hj => ?_, hbg, hgl, R4, O4⟩
            by_cases e2 : j = k
            · subst e2; rw [upd_same]; omega
            · rw [upd_other _ _ _ _ e2]; exact HD.out j (by omega)
          · obtain ⟨g, cap3, rfl, hmc, hbg, hgl, L3, -⟩ := own_limbs_some hown HN0.out
            go_wp2
            go_ret

            first
            | exact ⟨g, k, cap3, D, rfl, hmc, by omega, L3, HD.out, hbg, hgl, R2, O2⟩
            | exact ⟨g, k, cap3, rfl, hmc, by omega, D, L3, HD.out, hbg, hgl, R2, O2⟩
  · have h1 : ((v : Int) % 5 == 4) = false := by simp [c1]
    clear c1
    obtain ⟨N, hN⟩ : ∃ N : Nat, (v : Int) % 6 = (N : Int) := ⟨v % 6, by omega⟩
    have hNl : N ≤ 10 := by omega
    go_wp2_with fail
    rw [hN]
    clear hN
    go_loopw [5, 6] (fun o t wr => ∃ (k : Nat) (D : Nat → Nat), k ≤ N ∧ t = .int .i64 k ∧ Hid (o ≠ .slice none 0 0) ∧ wr.ownsRow w.heap.size 58 1 o k (ll D k) ∧ Hid (∀ j, j < k → D j < 4294967296) ∧ Rd wr c a b off n cap X ∧ Oth c w wr) (fun _ t _ => N - (intOf t).toNat)
    case atStart => exact ⟨0, fun _ => 0, Nat.zero_le _, rfl, hide (by simp), World.ownsRow_made w1 #[] 0 O1.size (by decide) rfl, hide (fun j hj => absurd hj (by omega)), R1.keep ((World.Since.refl _ _).alloc (Nat.le_refl _) _), O1.trans (Oth.ofSince c ((World.Since.refl _ _).alloc (Nat.le_refl _) _))⟩
    case round =>
      obtain ⟨k, D, hkN, rfl, HN0, hown, HD, R2, O2⟩ := hrel
      have hs2 := O2.size
      by_cases hlt : k < N
      · go_wp2_with fail
        refine (l1DrawLimb_any c a b off n cap X wr hn R2).mono ?_
        rintro e w2 ⟨x, rfl, hx, R3, O3⟩
        have own3 := own_oth hown O3 hcl
        have hs3 := O3.size
        have O03 := O2.trans O3
        clear hown R2 O3 O2
        go_wp2_with (at_builtin; refine wpList_append_own _ rfl _ _ 23 rfl w.heap.size 58 i0 (.int .u32 0) 1 4 Tryd.underlying23 hi hz0 hz1 hz2 rfl (by decide) _ _ _ rfl (own3.alloc _) ⟨w2.heap.size, 0, none⟩ 1 1 [.int .u32 x] rfl rfl (new_cell _ _ _) (one_one _ rfl) (by unfold maxLen; omega) (by omega) (by simp; omega) ?_)
        intro v' w3 hown' hgrow hnn
        rw [show ll D k ++ [.int .u32 (x : Int)] = ll (upd D k x) (k + 1) from by rw [ll_succ, upd_same, ll_congr (fun j hj => upd_other _ _ _ _ (show j ≠ k by omega))]] at hown'
        have sW := (World.Since.refl w2.heap.size w2).alloc (Nat.le_refl _) (.cells #[.int .u32 (x : Int)] 58)
        have hlow := fun q hq => (own3.lt q hq).1
        have O4 : Oth c w w3 := (O03.trans (Oth.ofSince c sW)).grown hgrow hlow
        have R4 : Rd w3 c a b off n cap X := (R3.keep sW).grown hgrow (fun e => by have := hlow c e.symm; omega) (fun h0 e => by have := hlow b e.symm; have := hbl h0; omega)
        have HN1 := hide hnn
        have HD1 : Hid (∀ j, j < k + 1 → upd D k x j < 4294967296) := hide (fun j hj => by
          by_cases e2 : j = k
          · subst e2; rw [upd_same]; exact hx
          · rw [upd_other _ _ _ _ e2]; exact HD.out j (by omega))
        clear hgrow own3 hnn HN0 HD R3 O03 sW hlow
        go_wp2
        go_roundw
        case rel => exact ⟨k + 1, _, by omega, by go_num, HN1, hown', HD1, R4, O4⟩
        case measure => simp [intOf]; omega
      · have e : k = N := by omega
        subst e
        by_cases h224 : (224 : Int) ≤ (v : Int)
        · go_wp2_with (at_builtin; refine wpList_append_own _ rfl _ _ 23 rfl w.heap.size 58 i0 (.int .u32 0) 1 4 Tryd.underlying23 hi hz0 hz1 hz2 rfl (by decide) _ _ _ rfl (hown.alloc _) ⟨wr.heap.size, 0, none⟩ 1 1 [.int .u32 0] rfl rfl (new_cell _ _ _) (one_one _ rfl) (by unfold maxLen; omega) (by omega) (by simp; omega) ?_)
          intro v' w3 hown' hgrow hnn
          rw [show ll D k ++ [.int .u32 0] = ll (upd D k 0) (k + 1) from by rw [ll_succ, upd_same, ll_congr (fun j hj => upd_other _ _ _ _ (show j ≠ k by omega))]; rfl] at hown'
          have sW := (World.Since.refl wr.heap.size wr).alloc (Nat.le_refl _) (.cells #[.int .u32 0] 58)
          have hlow := fun q hq => (hown.lt q hq).1
          have O4 : Oth c w w3 := (O2.trans (Oth.ofSince c sW)).grown hgrow hlow
          have R4 : Rd w3 c a b off n cap X := (R2.keep sW).grown hgrow (fun e => by have := hlow c e.symm; omega) (fun h0 e => by have := hlow b e.symm; have := hbl h0; omega)
          obtain ⟨g, cap3, rfl, hmc, hbg, hgl, L3, -⟩ := own_limbs_some hown' hnn
          clear hgrow hown sW hlow R2 O2
          go_wp2
          go_ret
          refine ⟨g, k + 1, cap3, upd D k 0, rfl, hmc, by omega, L3, fun j hj => ?_, hbg, hgl, R4, O4⟩
          by_cases e2 : j = k
          · subst e2; rw [upd_same]; omega
          · rw [upd_other _ _ _ _ e2]; exact HD.out j (by omega)
        · obtain ⟨g, cap3, rfl, hmc, hbg, hgl, L3, -⟩ := own_limbs_some hown HN0.out
          go_wp2
          go_ret

          first
          | exact ⟨g, k, cap3, D, rfl, hmc, by omega, L3, HD.out, hbg, hgl, R2, O2⟩
          | exact ⟨g, k, cap3, rfl, hmc, by omega, D, L3, HD.out, hbg, hgl, R2, O2⟩

end Go.Proofs.YtabemlkdpgglaaaDoor

namespace Go.Proofs.YtabemlkdpgglaaaDoor
open Go.RowKit

set_option maxHeartbeats 800000 in
set_option maxRecDepth 100000 in
theorem szU_ok (a : Option Addr) (n cap L : Nat) (w : World) (hL : L ≤ 1048576) (hn : n ≤ L) :
    Calls Tryd.prog 43 #[.slice a n cap, .int .i64 L] w fun e w' => e = .returned (.int .i64 ((L - n : Nat) : Int)) ∧ w' = w := by
  have h : (L : Int) - n = ((L - n : Nat) : Int) := by omega
  have H := hide h
  clear h
  go_enter Tryd.func43, Tryd.ntmps43
  go_wp2
  go_ret
  exact ⟨ret_int H.out, rfl⟩

set_option maxHeartbeats 800000 in
set_option maxRecDepth 100000 in
theorem szU_no (a : Option Addr) (n cap L : Nat) (w : World) (hL : L ≤ 1048576) (hn : L < n) (hm : n ≤ 9223372036854775807) :
    Calls Tryd.prog 43 #[.slice a n cap, .int .i64 L] w fun e w' => e = .returned (.int .i64 (-1)) ∧ w' = w := by
  go_enter Tryd.func43, Tryd.ntmps43
  go_wp2
  go_ret
  exact ⟨rfl, rfl⟩

set_option maxHeartbeats 800000 in
set_option maxRecDepth 100000 in
theorem szRat_ok (neg : Bool) (a b : Option Addr) (n ca m cb L : Nat) (w : World) (hL : L ≤ 1048576) (hn : n + m ≤ L) :
    Calls Tryd.prog 16 #[.agg #[.bool neg, .slice a n ca, .slice b m cb], .int .i64 L] w fun e w' => e = .returned (.int .i64 ((L - n - m : Nat) : Int)) ∧ w.Since w.heap.size w' := by
  have sA : w.Since w.heap.size (w.alloc (.cells #[.bool neg, .slice a n ca, .slice b m cb] 37)) := (World.Since.refl _ _).alloc (Nat.le_refl _) _
  go_enter Tryd.func16, Tryd.ntmps16
  go_wp2_with fail
  refine (szU_ok a n ca L _ hL (by omega)).mono ?_
  rintro e w1 ⟨rfl, rfl⟩
  go_wp2_with fail
  refine (szU_ok b m cb (L - n) _ (by omega) (by omega)).mono ?_
  rintro e w1 ⟨rfl, rfl⟩
  go_wp2
  go_ret
  exact ⟨rfl, sA⟩

set_option maxHeartbeats 800000 in
set_option maxRecDepth 100000 in
theorem szRat_no (neg : Bool) (a b : Option Addr) (n ca m cb L : Nat) (w : World) (hL : L ≤ 1048576) (hn : L < n + m) (hn1 : n ≤ 9223372036854775807) (hm : m ≤ 9223372036854775807) :
    Calls Tryd.prog 16 #[.agg #[.bool neg, .slice a n ca, .slice b m cb], .int .i64 L] w fun e w' => e = .returned (.int .i64 (-1)) ∧ w.Since w.heap.size w' := by
  have sA : w.Since w.heap.size (w.alloc (.cells #[.bool neg, .slice a n ca, .slice b m cb] 37)) := (World.Since.refl _ _).alloc (Nat.le_refl _) _
  by_cases h : L < n
  · go_enter Tryd.func16, Tryd.ntmps16
    go_wp2_with fail
    refine (szU_no a n ca L _ hL h hn1).mono ?_
    rintro e w1 ⟨rfl, rfl⟩
    go_wp2
    go_ret
    exact ⟨rfl, sA⟩
  · go_enter Tryd.func16, Tryd.ntmps16
    go_wp2_with fail
    refine (szU_ok a n ca L _ hL (by omega)).mono ?_
    rintro e w1 ⟨rfl, rfl⟩
    go_wp2_with fail
    refine (szU_no b m cb (L - n) _ (by omega) (by omega) hm).mono ?_
    rintro e w1 ⟨rfl, rfl⟩
    go_wp2
    go_ret
    exact ⟨rfl, sA⟩

set_option maxHeartbeats 1600000 in
set_option maxRecDepth 100000 in
theorem toRat_any (neg : Bool) (a b : Option Addr) (ba oa n ca bb ob m cb : Nat) (X Y : Nat → Nat) (w : World) (hn : n ≤ 1048576) (hm : m ≤ 1048576) (hX : Limbs w a ba oa n X) (hY : Limbs w b bb ob m Y) :
    Calls Tryd.prog 18 #[.agg #[.bool neg, .slice a n ca, .slice b m cb]] w fun e w' => ∃ g h, e = .returned (.agg #[.bool neg, .slice (some ⟨g, 0, none⟩) n n, .slice (some ⟨h, 0, none⟩) m m]) ∧ w.Since w.heap.size w' ∧ w.heap.size ≤ g ∧ g < h ∧
      h < w'.heap.size ∧ Limbs w' (some ⟨g, 0, none⟩) g 0 n X ∧ Limbs w' (some ⟨h, 0, none⟩) h 0 m Y ∧ (∀ o, w'.frozen? ⟨g, o, none⟩ = false) ∧ (∀ o, w'.frozen? ⟨h, o, none⟩ = false) := by
  have sA : w.Since w.heap.size (((w.alloc (.cells #[.bool neg, .slice a n ca, .slice b m cb] 37)).alloc (.cells #[.bool false, .slice none 0 0, .slice none 0 0] 25)).alloc (.cells #[.bool neg, .slice none 0 0, .slice none 0 0] 25)) :=
    (((World.Since.refl _ _).alloc (Nat.le_refl _) _).alloc (by simp) _).alloc (by simp; omega) _
  have zA : (((w.alloc (.cells #[.bool neg, .slice a n ca, .slice b m cb] 37)).alloc (.cells #[.bool false, .slice none 0 0, .slice none 0 0] 25)).alloc (.cells #[.bool neg, .slice none 0 0, .slice none 0 0] 25)).heap.size = w.heap.size + 1 + 1 + 1 := by simp
  have bA : Box3 (((w.alloc (.cells #[.bool neg, .slice a n ca, .slice b m cb] 37)).alloc (.cells #[.bool false, .slice none 0 0, .slice none 0 0] 25)).alloc (.cells #[.bool neg, .slice none 0 0, .slice none 0 0] 25)) w.heap.size (.bool neg) (.slice a n ca) (.slice b m cb) := ((Box3.new w _ _ _ _).keep ((World.Since.refl _ _).alloc (Nat.le_refl _) _)).keep ((World.Since.refl _ _).alloc (Nat.le_refl _) _)
  have rA : Box3 (((w.alloc (.cells #[.bool neg, .slice a n ca, .slice b m cb] 37)).alloc (.cells #[.bool false, .slice none 0 0, .slice none 0 0] 25)).alloc (.cells #[.bool neg, .slice none 0 0, .slice none 0 0] 25)) (w.heap.size + 1) (.bool false) (.slice none 0 0) (.slice none 0 0) := by
    have := (Box3.new (w.alloc (.cells #[.bool neg, .slice a n ca, .slice b m cb] 37)) (.bool false) (.slice none 0 0) (.slice none 0 0) 25).keep ((World.Since.refl _ _).alloc (Nat.le_refl _) (.cells #[.bool neg, .slice none 0 0, .slice none 0 0] 25))
    simpa using this
  have oA : Box3 (((w.alloc (.cells #[.bool neg, .slice a n ca, .slice b m cb] 37)).alloc (.cells #[.bool false, .slice none 0 0, .slice none 0 0] 25)).alloc (.cells #[.bool neg, .slice none 0 0, .slice none 0 0] 25)) (w.heap.size + 1 + 1) (.bool neg) (.slice none 0 0) (.slice none 0 0) := by
    have := Box3.new ((w.alloc (.cells #[.bool neg, .slice a n ca, .slice b m cb] 37)).alloc (.cells #[.bool false, .slice none 0 0, .slice none 0 0] 25)) (.bool neg) (.slice none 0 0) (.slice none 0 0) 25
    simpa using this
  go_enter Tryd.func18, Tryd.ntmps18
  go_wp2_with fail
  generalize (((w.alloc (.cells #[.bool neg, .slice a n ca, .slice b m cb] 37)).alloc (.cells #[.bool false, .slice none 0 0, .slice none 0 0] 25)).alloc (.cells #[.bool neg, .slice none 0 0, .slice none 0 0] 25)) = wA at *
  refine (to_any a ba oa n ca X wA hn (hX.keep sA)).mono ?_
  rintro e w1 ⟨rfl, s1, r1⟩
  have z1 := s1.size
  have b1 := bA.keep s1
  have q1 := rA.keep s1
  have o1 := oA.keep s1
  have S1 : w.Since w.heap.size w1 := sA.trans (sinceMono s1 sA.size)
  have L1 := limbs_row r1
  have F1 : ∀ o, w1.frozen? ⟨wA.heap.size, o, none⟩ = false := fun o => r1.frozen o
  have t1 : wA.heap.size < w1.heap.size := r1.lt
  rw [zA] at L1 F1 t1
  clear r1 bA rA oA
  have k1 := b1.c2
  have k2 := o1.c1
  have k3 := o1.f 1
  go_wp2_with fail
  clear k1 k2 k3
  have M2 : Marked w1 (w1.setCell ⟨w.heap.size + 1 + 1, 1, none⟩ (.slice (some ⟨w.heap.size + 1 + 1 + 1, 0, none⟩) n n)) (w.heap.size + 1 + 1) := (Marked.refl w1 _).setCell _ _
  have o2 := o1.set1 (.slice (some ⟨w.heap.size + 1 + 1 + 1, 0, none⟩) n n)
  have q2 := q1.marked M2 (by omega)
  have S2 : w.Since w.heap.size (w1.setCell ⟨w.heap.size + 1 + 1, 1, none⟩ (.slice (some ⟨w.heap.size + 1 + 1 + 1, 0, none⟩) n n)) := S1.trans (M2.since (by omega))
  have L2 := L1.marked M2 (fun _ => by omega)
  have F2 : ∀ o, (w1.setCell ⟨w.heap.size + 1 + 1, 1, none⟩ (.slice (some ⟨w.heap.size + 1 + 1 + 1, 0, none⟩) n n)).frozen? ⟨w.heap.size + 1 + 1 + 1, o, none⟩ = false := fun o => by rw [M2.frozenO (a := ⟨w.heap.size + 1 + 1 + 1, o, none⟩) (by show w.heap.size + 1 + 1 + 1 ≠ _; omega)]; exact F1 o
  have z2 := M2.size
  generalize w1.setCell ⟨w.heap.size + 1 + 1, 1, none⟩ (.slice (some ⟨w.heap.size + 1 + 1 + 1, 0, none⟩) n n) = w2 at *
  refine (to_any b bb ob m cb Y w2 hm (hY.keep S2)).mono ?_
  rintro e w3 ⟨rfl, s3, r3⟩
  have z3 := s3.size
  have q3 := q2.keep s3
  have o3 := o2.keep s3
  have S3 : w.Since w.heap.size w3 := S2.trans (sinceMono s3 S2.size)
  have L3 := L2.keep s3
  have F3 : ∀ o, w3.frozen? ⟨w.heap.size + 1 + 1 + 1, o, none⟩ = false := fun o => by rw [s3.frozen (a := ⟨w.heap.size + 1 + 1 + 1, o, none⟩) (by show w.heap.size + 1 + 1 + 1 < _; omega)]; exact F2 o
  have K3 := limbs_row r3
  have G3 : ∀ o, w3.frozen? ⟨w2.heap.size, o, none⟩ = false := fun o => r3.frozen o
  have t3 : w2.heap.size < w3.heap.size := r3.lt
  clear r3 L1 L2 F1 F2 b1 q1 o1 q2 o2
  have q30 := q3.c0
  have q31 := q3.c1
  have q32 := q3.c2
  have q3f0 := q3.f 0
  have q3f1 := q3.f 1
  have q3f2 := q3.f 2
  have o30 := o3.c0
  have o31 := o3.c1
  have o32 := o3.c2
  have o3f2 := o3.f 2
  have M4 : Marked w3 (w3.setCell ⟨w.heap.size + 1 + 1, 2, none⟩ (.slice (some ⟨w1.heap.size, 0, none⟩) m m)) (w.heap.size + 1 + 1) := (Marked.refl w3 _).setCell _ _
  rw [z2] at K3 G3 t3
  go_wp2
  have q4 := (((q3.marked M4 (by omega)).set0 (.bool neg)).set1 (.slice (some ⟨w.heap.size + 1 + 1 + 1, 0, none⟩) n n)).set2 (.slice (some ⟨w1.heap.size, 0, none⟩) m m)
  refine bodyPost_ret (results_box3 rfl _ _ _ _ _ _ rfl q4) rfl ?_
  have M5 : Marked (w3.setCell ⟨w.heap.size + 1 + 1, 2, none⟩ (.slice (some ⟨w1.heap.size, 0, none⟩) m m)) _ (w.heap.size + 1) := (((Marked.refl _ _).setCell 0 (.bool neg)).setCell 1 (.slice (some ⟨w.heap.size + 1 + 1 + 1, 0, none⟩) n n)).setCell 2 (.slice (some ⟨w1.heap.size, 0, none⟩) m m)
  refine ⟨w.heap.size + 1 + 1 + 1, w1.heap.size, rfl, (S3.trans (M4.since (by omega))).trans (M5.since (by omega)), by omega, by omega, by rw [M5.size, M4.size]; omega,
    (L3.marked M4 (fun _ => by omega)).marked M5 (fun _ => by omega), (K3.marked M4 (fun _ => by omega)).marked M5 (fun _ => by omega), fun o => ?_, fun o => ?_⟩
  · rw [M5.frozenO (a := ⟨w.heap.size + 1 + 1 + 1, o, none⟩) (by show w.heap.size + 1 + 1 + 1 ≠ _; omega), M4.frozenO (a := ⟨w.heap.size + 1 + 1 + 1, o, none⟩) (by show w.heap.size + 1 + 1 + 1 ≠ _; omega)]; exact F3 o
  · rw [M5.frozenO (a := ⟨w1.heap.size, o, none⟩) (by show w1.heap.size ≠ _; omega), M4.frozenO (a := ⟨w1.heap.size, o, none⟩) (by show w1.heap.size ≠ _; omega)]; exact G3 o

set_option maxHeartbeats 800000 in
set_option maxRecDepth 100000 in
/-- eqRat at two Rats of the same fields. -/
theorem eqRat_true (neg : Bool) (a a' b b' : Option Addr) (ba oa ba' oa' n ca ca' bb ob bb' ob' m cb cb' : Nat) (X Y : Nat → Nat) (w : World) (hn : n ≤ 4194304) (hm : m ≤ 4194304)
    (hX : Limbs w a ba oa n X) (hX' : Limbs w a' ba' oa' n X) (hY : Limbs w b bb ob m Y) (hY' : Limbs w b' bb' ob' m Y) :
    Calls Tryd.prog 20 #[.agg #[.bool neg, .slice a n ca, .slice b m cb], .agg #[.bool neg, .slice a' n ca', .slice b' m cb']] w fun e w' => e = .returned (.bool true) ∧ w.Since w.heap.size w' := by
  have sA : w.Since w.heap.size ((w.alloc (.cells #[.bool neg, .slice a n ca, .slice b m cb] 25)).alloc (.cells #[.bool neg, .slice a' n ca', .slice b' m cb'] 25)) := ((World.Since.refl _ _).alloc (Nat.le_refl _) _).alloc (by simp) _
  have bA : Box3 ((w.alloc (.cells #[.bool neg, .slice a n ca, .slice b m cb] 25)).alloc (.cells #[.bool neg, .slice a' n ca', .slice b' m cb'] 25)) w.heap.size (.bool neg) (.slice a n ca) (.slice b m cb) := (Box3.new w _ _ _ _).keep ((World.Since.refl _ _).alloc (Nat.le_refl _) _)
  have cA : Box3 ((w.alloc (.cells #[.bool neg, .slice a n ca, .slice b m cb] 25)).alloc (.cells #[.bool neg, .slice a' n ca', .slice b' m cb'] 25)) (w.heap.size + 1) (.bool neg) (.slice a' n ca') (.slice b' m cb') := by
    have := Box3.new (w.alloc (.cells #[.bool neg, .slice a n ca, .slice b m cb] 25)) (.bool neg) (.slice a' n ca') (.slice b' m cb') 25
    simpa using this
  go_enter Tryd.func20, Tryd.ntmps20
  go_wp2_with fail
  generalize ((w.alloc (.cells #[.bool neg, .slice a n ca, .slice b m cb] 25)).alloc (.cells #[.bool neg, .slice a' n ca', .slice b' m cb'] 25)) = wA at *
  refine (eq_true a a' ba oa ba' oa' n ca ca' X wA hn (hX.keep sA) (hX'.keep sA)).mono ?_
  rintro e w1 ⟨rfl, s1⟩
  have S1 := s1.since wA.heap.size
  have k1 := (bA.keep S1).c2
  have k2 := (cA.keep S1).c2
  go_wp2_with fail
  refine (eq_true b b' bb ob bb' ob' m cb cb' Y w1 hm ((hY.keep sA).keep S1) ((hY'.keep sA).keep S1)).mono ?_
  rintro e w2 ⟨rfl, s2⟩
  go_wp2
  go_ret
  exact ⟨rfl, (sA.trans (sinceMono S1 sA.size)).trans (s2.since _)⟩

end Go.Proofs.YtabemlkdpgglaaaDoor
