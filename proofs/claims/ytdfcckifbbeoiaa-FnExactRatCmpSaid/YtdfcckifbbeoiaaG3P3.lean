import Derived.Test.YtdfcckifbbeoiaaG2P4
import Derived.Test.YtdfcckifbbeoiaaG3P2
namespace Go.Proofs.Ytdfcckifbbeoiaa
open Go.RowKit

/-- ownCopy of a plain list. -/
theorem ownCopy_o (a : Option Addr) (b off n cap : Nat) (X : Nat → Nat) (w : World) (hn : n ≤ 4194304) (hnc : n ≤ cap) (hac : a = none → cap = 0) (hX : Limbs w a b off n X) (pX : 0 < n → X (n - 1) ≠ 0) :
    Calls Try.prog 55 #[.slice a n cap] w fun e w' => ∃ a' cap' g, e = .returned (.slice a' n cap') ∧ n ≤ cap' ∧ (a' = none → cap' = 0) ∧ Limbs w' a' g 0 n X ∧ (0 < n → w.heap.size ≤ g ∧ g < w'.heap.size ∧ ∀ o, w'.frozen? ⟨g, o, none⟩ = false) ∧ w.Since w.heap.size w' := by
  refine (ownCopy_any a b off n cap X w (by omega) hnc hac hX).mono ?_
  rintro e w' ⟨v, rfl, o, s⟩
  rw [tlen_plain pX] at o
  have hc := @World.ownsRow.cells _ _ _ _ _ _ _ o
  obtain ⟨_, ⟨rfl, rfl⟩ | ⟨g, cap', cur, rfl, hg, hb, hn', _⟩⟩ := o
  · exact ⟨none, 0, 0, rfl, Nat.le_refl _, fun _ => rfl, fun j hj => absurd hj (by omega), fun h => absurd h (by omega), s⟩
  · refine ⟨_, cap', g, rfl, hn', (fun h => by cases h), fun j hj => ⟨rfl, ?_⟩, fun h => ⟨hg, ?_, fun o => by simp [World.frozen?, hb]⟩, s⟩
    · have := hc (g := g) rfl j (.int .u32 (X j)) (ll_get X n j hj)
      rw [Go.WideShapes.add_plain] at this
      exact this
    · obtain ⟨hlt, _⟩ := Array.getElem?_eq_some_iff.1 hb
      exact hlt

set_option maxHeartbeats 1600000 in
set_option maxRecDepth 100000 in
/-- (*nat).without: by one of its divisors. -/
theorem without_any (c o : Nat) (b : Option Addr) (bb ob m cb : Nat) (Y : Nat → Nat) (d : Option Addr) (g k cd : Nat) (Z : Nat → Nat) (w : World) (hm : m ≤ 1048576) (hk : k ≤ 1048576) (hk0 : 0 < k) (hc0 : w.cell? ⟨c, o, none⟩ = some (.slice b m cb)) (hmc : m ≤ cb) (hbc : b = none → cb = 0) (hY : Limbs w b bb ob m Y)
    (lY : ∀ j, j < m → Y j < 4294967296) (pY : 0 < m → Y (m - 1) ≠ 0) (hZ : Limbs w d g 0 k Z) (lZ : ∀ j, j < k → Z j < 4294967296) (pZ : 0 < k → Z (k - 1) ≠ 0) :
    Calls Try.prog 132 #[.pointer (some ⟨c, o, none⟩), .slice d k cd] w fun e w' => ∃ (a : Option Addr) (q off n ca : Nat) (X : Nat → Nat), e = .returned (.slice a n ca) ∧ n ≤ ca ∧ n ≤ m ∧ (a = none → ca = 0) ∧ Limbs w' a q off n X ∧ (∀ j, j < n → X j < 4294967296) ∧ (0 < n → X (n - 1) ≠ 0) ∧
      lv X n = lv Y m / lv Z k ∧ (0 < n → (q = bb ∧ 0 < m) ∨ w.heap.size ≤ q) ∧ w.Since w.heap.size w' := by
  have sA : w.Since w.heap.size (w.alloc (.cells #[.slice d k cd] 68)) := (World.Since.refl _ _).alloc (Nat.le_refl _) _
  have qA : (w.alloc (.cells #[.slice d k cd] 68)).cell? ⟨w.heap.size, 0, none⟩ = some (.slice d k cd) := by simp [go_sem]
  have hcl : c < w.heap.size := World.block_lt_of_cell? _ _ hc0
  have cA : (w.alloc (.cells #[.slice d k cd] 68)).cell? ⟨c, o, none⟩ = some (.slice b m cb) := (sA.cell (a := ⟨c, o, none⟩) hcl).trans hc0
  have zA : w.heap.size < (w.alloc (.cells #[.slice d k cd] 68)).heap.size := by simp
  have YA := hY.keep sA
  have ZA := hZ.keep sA
  have I1 := isOne_any w.heap.size 0 d g 0 k cd Z (w.alloc (.cells #[.slice d k cd] 68)) qA ZA lZ pZ
  by_cases h1 : lv Z k = 1
  · rw [show decide (lv Z k = 1) = true by simp [h1]] at I1
    rw [h1, Nat.div_one]
    go_enter Try.func132, Try.ntmps132
    go_wp2_with fail
    generalize w.alloc (.cells #[.slice d k cd] 68) = w1 at *
    refine I1.mono ?_
    rintro e w2 ⟨rfl, hw2⟩
    rw [hw2]
    clear hw2 w2 I1
    go_wp2
    go_ret
    exact ⟨b, bb, ob, m, cb, Y, rfl, hmc, Nat.le_refl _, hbc, YA, lY, pY, rfl, fun h => Or.inl ⟨rfl, h⟩, sA⟩
  · rw [show decide (lv Z k = 1) = false by simp [h1]] at I1
    have J1 := ownCopy_o b bb ob m cb Y (w.alloc (.cells #[.slice d k cd] 68)) (by omega) hmc hbc YA pY
    go_enter Try.func132, Try.ntmps132
    go_wp2_with fail
    generalize w.alloc (.cells #[.slice d k cd] 68) = w1 at *
    refine I1.mono ?_
    rintro e w2 ⟨rfl, hw2⟩
    rw [hw2]
    clear hw2 w2 I1
    go_wp2_with fail
    refine J1.mono ?_
    rintro e w2 ⟨a2, c2, g2, rfl, x1, x2, L2, x3, s2⟩
    have S2 : w.Since w.heap.size w2 := sA.trans (sinceMono s2 sA.size)
    have q2 := (s2.cell (a := ⟨w.heap.size, 0, none⟩) zA).trans qA
    have z2 := s2.size
    have t3 : w2.Since w2.heap.size (w2.alloc (.cells #[.slice a2 m c2] 68)) := (World.Since.refl _ _).alloc (Nat.le_refl _) _
    have S3 : w.Since w.heap.size (w2.alloc (.cells #[.slice a2 m c2] 68)) := S2.trans (sinceMono t3 S2.size)
    have q3 := (t3.cell (a := ⟨w.heap.size, 0, none⟩) (show w.heap.size < w2.heap.size by omega)).trans q2
    have b3 : (w2.alloc (.cells #[.slice a2 m c2] 68)).cell? ⟨w2.heap.size, 0, none⟩ = some (.slice a2 m c2) := by simp [go_sem]
    have f3 : (w2.alloc (.cells #[.slice a2 m c2] 68)).frozen? ⟨w2.heap.size, 0, none⟩ = false := by simp [go_sem]
    have L3 := L2.keep t3
    have F3 : 0 < m → ∀ x, (w2.alloc (.cells #[.slice a2 m c2] 68)).frozen? ⟨g2, x, none⟩ = false := fun h x => (t3.frozen (a := ⟨g2, x, none⟩) (x3 h).2.1).trans ((x3 h).2.2 x)
    have z3 : w2.heap.size < (w2.alloc (.cells #[.slice a2 m c2] 68)).heap.size := by simp
    by_cases hm0 : 0 < m
    · have y3 := x3 hm0
      have J2 := divideBy_any w2.heap.size 0 a2 d g2 m c2 g k cd Y Z (w2.alloc (.cells #[.slice a2 m c2] 68)) (by omega) x1 x2 hk0 (by omega) b3 f3 L3 (hZ.keep S3) lY lZ F3 (by omega) (fun h => by omega) pY (pZ hk0)
      go_wp2_with fail
      generalize w2.alloc (.cells #[.slice a2 m c2] 68) = w3 at *
      refine J2.mono ?_
      rintro e w4 ⟨vq, vr, gq, gr, rfl, k1, ⟨aq, nq, cq, U, rfl, u1, u2, u3, LU, FU, lU, pU, eU⟩, -, k4, -, -, -, -, fr⟩
      have S4 : w.Since w.heap.size w4 := ⟨fr.os.trans S3.os, fr.tape.trans S3.tape, fr.output.trans S3.output, Nat.le_trans S3.size fr.size, fun i hi => (fr.block i (by omega) (by omega) (by omega)).trans (S3.block i hi)⟩
      have hl : nq ≤ m := lv_len_le lY pU (by rw [eU]; exact Nat.div_le_self _ _)
      clear J2 J1 k1 fr
      go_wp2
      go_ret
      exact ⟨aq, gq, 0, nq, cq, U, rfl, u1, hl, u3, LU, lU, pU, eU, fun _ => Or.inr (by omega), S4⟩
    · have e0 : m = 0 := by omega
      subst e0
      have hlt : lv Y 0 = 0 := rfl
      have J2 := divideBy_any w2.heap.size 0 a2 d (w2.heap.size + 1) 0 c2 g k cd Y Z (w2.alloc (.cells #[.slice a2 0 c2] 68)) (by omega) x1 x2 hk0 (by omega) b3 f3 (fun j hj => absurd hj (by omega)) (hZ.keep S3) (fun j hj => absurd hj (by omega)) lZ (fun h => absurd h (by omega)) (by omega) (fun h => absurd h (by omega)) (fun h => absurd h (by omega)) (pZ hk0)
      go_wp2_with fail
      generalize w2.alloc (.cells #[.slice a2 0 c2] 68) = w3 at *
      refine J2.mono ?_
      rintro e w4 ⟨vq, vr, gq, gr, rfl, k1, ⟨aq, nq, cq, U, rfl, u1, u2, u3, LU, FU, lU, pU, eU⟩, -, k4, -, -, -, -, fr⟩
      have S4 : w.Since w.heap.size w4 := ⟨fr.os.trans S3.os, fr.tape.trans S3.tape, fr.output.trans S3.output, Nat.le_trans S3.size fr.size, fun i hi => (fr.block i (by omega) (by omega) (by omega)).trans (S3.block i hi)⟩
      have hl : nq ≤ 0 := lv_len_le (X := U) (Y := Y) (m := 0) (fun j hj => absurd hj (by omega)) pU (by rw [eU]; exact Nat.div_le_self _ _)
      clear J2 J1 k1 fr
      go_wp2
      go_ret
      exact ⟨aq, gq, 0, nq, cq, U, rfl, u1, hl, u3, LU, lU, pU, eU, fun h => absurd h (by omega), S4⟩

/-- What divides the one as it divides the other. -/
theorem gcd_of_iff {a p y : Nat} (h : ∀ d, d ∣ y → (d ∣ a ↔ d ∣ p)) : Nat.gcd a y = Nat.gcd p y := by
  apply Nat.dvd_antisymm
  · exact Nat.dvd_gcd ((h _ (Nat.gcd_dvd_right _ _)).1 (Nat.gcd_dvd_left _ _)) (Nat.gcd_dvd_right _ _)
  · exact Nat.dvd_gcd ((h _ (Nat.gcd_dvd_right _ _)).2 (Nat.gcd_dvd_left _ _)) (Nat.gcd_dvd_right _ _)

end Go.Proofs.Ytdfcckifbbeoiaa

namespace Go.Proofs.Ytdfcckifbbeoiaa
open Go.RowKit

theorem Oth.up3 {c g h : Nat} {w w1 w2 : World} (x : Oth c w w1) (y : Oth3 c g h w1 w2) (hg : w.heap.size ≤ g) (hh : w.heap.size ≤ h) : Oth c w w2 :=
  ⟨y.os.trans x.os, y.tape.trans x.tape, y.output.trans x.output, Nat.le_trans x.size y.size, fun k h1 h2 => (y.block k (Nat.lt_of_lt_of_le h1 x.size) h2 (by omega) (by omega)).trans (x.block k h1 h2)⟩

theorem sumTop_scale (f f' : Bool) (p r s : Nat) (hs : 0 < s) : sumTop f f' (p * s) (r * s) = sumTop f f' p r * s := by
  unfold sumTop
  split
  · rw [Nat.add_mul]
  · by_cases h : p < r
    · rw [if_pos h, if_pos (Nat.mul_lt_mul_of_pos_right h hs), Nat.sub_mul]
    · rw [if_neg h, if_neg (by have := Nat.mul_le_mul_right s (Nat.le_of_not_lt h); omega), Nat.sub_mul]

theorem sumNeg_scale (f f' : Bool) (p r s : Nat) (hs : 0 < s) : sumNeg f f' (p * s) (r * s) = sumNeg f f' p r := by
  unfold sumNeg
  split
  · rfl
  · by_cases h : p < r
    · rw [if_pos h, if_pos (Nat.mul_lt_mul_of_pos_right h hs)]
    · rw [if_neg h, if_neg (by have := Nat.mul_le_mul_right s (Nat.le_of_not_lt h); omega)]

theorem gcd_sumTop_l (f f' : Bool) {p r y : Nat} (h : y ∣ r) : Nat.gcd (sumTop f f' p r) y = Nat.gcd p y := by
  refine gcd_of_iff (fun d hd => ?_)
  have hr : d ∣ r := Nat.dvd_trans hd h
  unfold sumTop
  split
  · exact (Nat.dvd_add_iff_left hr).symm
  · split
    · constructor
      · intro k
        have h2 := Nat.dvd_sub hr k
        rw [Nat.sub_sub_self (by omega)] at h2; exact h2
      · exact fun k => Nat.dvd_sub hr k
    · constructor
      · intro k
        have h2 := Nat.dvd_add k hr
        rw [Nat.sub_add_cancel (by omega)] at h2; exact h2
      · exact fun k => Nat.dvd_sub k hr

theorem sumTop_comm (f f' : Bool) (p r : Nat) : sumTop f f' p r = sumTop f' f r p := by
  unfold sumTop
  by_cases h : f = f'
  · simp [h, Nat.add_comm]
  · have h2 : ¬ f' = f := fun e => h e.symm
    simp only [h, h2, if_false]
    split <;> split <;> omega

/-- All that the parts of a sum have in common divides what the bottoms share. -/
theorem gcd_add_shared (f f' : Bool) {x y x' y' : Nat} (h : Nat.gcd x y = 1) (h' : Nat.gcd x' y' = 1) (hy : 0 < y) : Nat.gcd (sumTop f f' (x * (y' / Nat.gcd y y')) (x' * (y / Nat.gcd y y'))) (y * (y' / Nat.gcd y y')) ∣ Nat.gcd y y' := by
  have s0 : 0 < Nat.gcd y y' := Nat.gcd_pos_of_pos_left _ hy
  have co : Nat.gcd (y / Nat.gcd y y') (y' / Nat.gcd y y') = 1 := Nat.coprime_div_gcd_div_gcd s0
  have e1 : y = y / Nat.gcd y y' * Nat.gcd y y' := (Nat.div_mul_cancel (Nat.gcd_dvd_left y y')).symm
  have e2 : y' = y' / Nat.gcd y y' * Nat.gcd y y' := (Nat.div_mul_cancel (Nat.gcd_dvd_right y y')).symm
  generalize Nat.gcd y y' = s at *
  generalize y / s = m at *
  generalize y' / s = k at *
  subst e1
  have hxm : Nat.gcd x m = 1 := Nat.Coprime.coprime_mul_right_right h
  have hxk : Nat.gcd x' k = 1 := by rw [e2] at h'; exact Nat.Coprime.coprime_mul_right_right h'
  have c1 : Nat.gcd (sumTop f f' (x * k) (x' * m)) m = 1 := by
    rw [gcd_sumTop_l f f' (Nat.dvd_mul_left m x')]
    exact Nat.Coprime.mul_left hxm (by rw [Nat.Coprime, Nat.gcd_comm]; exact co)
  have c2 : Nat.gcd (sumTop f f' (x * k) (x' * m)) k = 1 := by
    rw [sumTop_comm, gcd_sumTop_l f' f (Nat.dvd_mul_left k x)]
    exact Nat.Coprime.mul_left hxk co
  generalize sumTop f f' (x * k) (x' * m) = t at *
  have d1 : Nat.gcd t (m * s * k) = Nat.gcd t s := by
    rw [Nat.Coprime.gcd_mul_right_cancel_right (m * s) (Nat.Coprime.symm c2), Nat.Coprime.gcd_mul_left_cancel_right s (Nat.Coprime.symm c1)]
  rw [d1]
  exact Nat.gcd_dvd_right _ _

set_option maxHeartbeats 1600000 in
set_option maxRecDepth 100000 in
/-- (*fraction).add. -/
theorem fracAdd_any (c : Nat) (f f' : Bool) (a b a' b' : Option Addr) (ba oa n ca bb ob m cb ba' oa' n' ca' bb' ob' m' cb' : Nat) (X Y X' Y' : Nat → Nat) (w : World) (hn : n + n' + m + m' ≤ 1048576) (hm0 : 0 < m) (hm0' : 0 < m')
    (hX : Limbs w a ba oa n X) (hY : Limbs w b bb ob m Y) (hX' : Limbs w a' ba' oa' n' X') (hY' : Limbs w b' bb' ob' m' Y') (hXl : ∀ j, j < n → X j < 4294967296) (hYl : ∀ j, j < m → Y j < 4294967296) (hXl' : ∀ j, j < n' → X' j < 4294967296) (hYl' : ∀ j, j < m' → Y' j < 4294967296)
    (ea : 0 < n → ba ≠ c) (eb : 0 < m → bb ≠ c) (_ea' : 0 < n' → ba' ≠ c) (eb' : 0 < m' → bb' ≠ c) (pY : 0 < m → Y (m - 1) ≠ 0) (pY' : 0 < m' → Y' (m' - 1) ≠ 0) (hmc : m ≤ cb) (hmc' : m' ≤ cb') (hbc : b = none → cb = 0) (hbc' : b' = none → cb' = 0)
    (hY0 : 0 < lv Y m) (hY0' : 0 < lv Y' m') (s s' : Value) (B : Box4 w c (.bool f) (.slice a n ca) (.slice b m cb) s) :
    Calls Try.prog 111 #[.pointer (some ⟨c, 0, none⟩), .agg #[.bool f', .slice a' n' ca', .slice b' m' cb', s']] w fun e w' => e = .returned (.tuple #[]) ∧ ∃ v1 v2 v3 g h q,
      Box4 w' c (.bool (sumNeg f f' (lv X n * (lv Y' m' / Nat.gcd (lv Y m) (lv Y' m'))) (lv X' n' * (lv Y m / Nat.gcd (lv Y m) (lv Y' m'))))) v1 v2 v3 ∧ NatAt w' v3 q (Nat.gcd (lv Y m) (lv Y' m')) 1048576 ∧
      NatAt w' v1 g (sumTop f f' (lv X n * (lv Y' m' / Nat.gcd (lv Y m) (lv Y' m'))) (lv X' n' * (lv Y m / Nat.gcd (lv Y m) (lv Y' m')))) 1048576 ∧ NatAt w' v2 h (lv Y m * (lv Y' m' / Nat.gcd (lv Y m) (lv Y' m'))) 1048576 ∧ w.heap.size ≤ g ∧ w.heap.size ≤ h ∧ g ≠ h ∧ g < w'.heap.size ∧ h < w'.heap.size ∧ Oth c w w' := by
  obtain ⟨sv, hsv⟩ : ∃ sv, sv = Nat.gcd (lv Y m) (lv Y' m') := ⟨_, rfl⟩
  have HS := hide hsv
  rw [← hsv]
  clear hsv
  have sA : w.Since w.heap.size (w.alloc (.cells #[.bool f', .slice a' n' ca', .slice b' m' cb', s'] 90)) := (World.Since.refl _ _).alloc (Nat.le_refl _) _
  have gA := Box4.new w (.bool f') (.slice a' n' ca') (.slice b' m' cb') s' 90
  have BA := B.keep sA
  have hcl := B.lt
  have k1 := BA.c2
  have g2 := gA.c2
  go_enter Try.func111, Try.ntmps111
  go_wp2
  have hz0 : w.heap.size < (w.alloc (.cells #[.bool f', .slice a' n' ca', .slice b' m' cb', s'] 90)).heap.size := gA.lt
  generalize w.alloc (.cells #[.bool f', .slice a' n' ca', .slice b' m' cb', s'] 90) = w1 at *
  clear B
  have S1 : w.Since w.heap.size w1.drew := since_drew sA
  have J1 := gcdOf_any b b' bb ob m cb bb' ob' m' cb' Y Y' w1.drew (Nat.zero_le _) (by omega) (by omega) hmc hmc' hbc hbc' (hY.keep S1) (hY'.keep S1) hYl hYl' pY pY' trivial
  have B1 := BA.drew
  have G1 := gA.drew
  clear sA BA gA
  go_region_held3 (fun w' => w'.cell? ⟨c, 2, none⟩ = some (.slice b m cb) ∧ w'.cell? ⟨w.heap.size, 2, none⟩ = some (.slice b' m' cb')) (go_keep)
    (first
      | (go_at_call 62
         with_reducible refine J1.mono ?_
         rintro e w2 ⟨v4, g4, rfl, N4, hg4, s4⟩
         have B2 := B1.keep s4
         have G2 := G1.keep s4
         have S2 : w.Since w.heap.size w2 := S1.trans (sinceMono s4 S1.size)
         have N4' := gcd_len N4 hY0' hYl' rfl
         have N4q := N4'
         obtain ⟨a4, n4, c4, Z4, rfl, y1, y2, y3, L4, F4, l4, p4, e4⟩ := N4'
         have i1 := B2.c2
         have i2 := G2.c2))
  have hs0 : 0 < Nat.gcd (lv Y m) (lv Y' m') := Nat.gcd_pos_of_pos_left _ hY0
  rw [← HS.out] at e4 hs0 N4q
  clear HS
  have hn4 : 0 < n4 := by
    rcases Nat.eq_zero_or_pos n4 with e | e
    · subst e; rw [show lv Z4 0 = 0 from rfl] at e4; omega
    · exact e
  have hz2 : w1.heap.size ≤ w2.heap.size := s4.size
  have hg4' : w1.heap.size ≤ g4 := hg4
  have hg4l : g4 < w2.heap.size := L4.lt hn4
  clear k1 g2 i1 i2 J1 B1 G1 S1
  have J2 := without_any c 2 b bb ob m cb Y a4 g4 n4 c4 Z4 w2 (by omega) (by omega) hn4 B2.c2 hmc hbc (hY.keep S2) hYl pY L4 l4 p4
  rw [e4] at J2
  go_wp2_with fail
  refine J2.mono ?_
  rintro e w3 ⟨a5, q5, o5, n5, c5, Z5, rfl, x1, x2, x3, L5, l5, p5, e5, b5, s5⟩
  have S3 : w.Since w.heap.size w3 := S2.trans (sinceMono s5 S2.size)
  have B3 := B2.keep s5
  have G3 := G2.keep s5
  have hz3 := s5.size
  have J3 := without_any w.heap.size 2 b' bb' ob' m' cb' Y' a4 g4 n4 c4 Z4 w3 (by omega) (by omega) hn4 G3.c2 hmc' hbc' (hY'.keep S3) hYl' pY' (L4.keep s5) l4 p4
  rw [e4] at J3
  clear J2 B2 G2
  go_wp2_with fail
  refine J3.mono ?_
  rintro e w4 ⟨a6, q6, o6, n6, c6, Z6, rfl, u1, u2, u3, L6, l6, p6, e6, b6, s6⟩
  have S4 : w.Since w.heap.size w4 := S3.trans (sinceMono s6 S3.size)
  have B4 := B3.keep s6
  have G4 := G3.keep s6
  have hz4 := s6.size
  have L5' := L5.keep s6
  have N5 := (N4q.keep s5).keep s6
  have t5 : w4.Since w4.heap.size (w4.alloc (.cells #[.slice a' n' ca'] 68)) := (World.Since.refl _ _).alloc (Nat.le_refl _) _
  have B5 := B4.keep t5
  have G5 := G4.keep t5
  have S5 : w.Since w.heap.size (w4.alloc (.cells #[.slice a' n' ca'] 68)) := S4.trans (sinceMono t5 S4.size)
  have qA : (w4.alloc (.cells #[.slice a' n' ca'] 68)).cell? ⟨w4.heap.size, 0, none⟩ = some (.slice a' n' ca') := by simp [go_sem]
  have fA : (w4.alloc (.cells #[.slice a' n' ca'] 68)).frozen? ⟨w4.heap.size, 0, none⟩ = false := by simp [go_sem]
  have zA : (w4.alloc (.cells #[.slice a' n' ca'] 68)).heap.size = w4.heap.size + 1 := by simp
  have L5a := L5'.keep t5
  have L6a := L6.keep t5
  have N5a := N5.keep t5
  have kk := G4.c1
  clear J3 B3 G3
  go_wp2_with fail
  generalize (w4.alloc (.cells #[.slice a' n' ca'] 68)) = w5 at *
  have zl : w4.heap.size + 1 ≤ w5.heap.size := by omega
  clear zA
  have q5c : 0 < n5 → q5 ≠ c := fun h => by
    rcases b5 h with ⟨e, hm⟩ | e
    · rw [e]; exact eb hm
    · omega
  have q6c : 0 < n6 → q6 ≠ c := fun h => by
    rcases b6 h with ⟨e, hm⟩ | e
    · rw [e]; exact eb' hm
    · omega
  have q5l : 0 < n5 → q5 < w4.heap.size := fun h => L5'.lt h
  have q6l : 0 < n6 → q6 < w4.heap.size := fun h => L6.lt h
  refine (mulAtR w4.heap.size a' a5 ba' oa' n' ca' q5 o5 n5 c5 X' Z5 w5 (by omega) (by omega) (hX'.keep S5) L5a hXl' l5 qA fA).mono ?_
  rintro e w6 ⟨rfl, P1, q2, qf2, r2, hP1, e1, O2, z2⟩
  have O02 : Oth c w w6 := (Oth.ofSince c S5).up O2 (by omega)
  have B6 := B5.oth O2 (by omega)
  have G6 := G5.oth O2 (by omega)
  have L6b := L6a.oth O2 (fun h => by have := q6l h; omega)
  have N6a := N5a.oth O2 (by omega)
  have hw6 : w5.heap.size < w6.heap.size := z2
  clear B5 G5 qA fA L5a L6a N5a O2 kk
  go_wp2_with fail
  refine (mulAt1r c _ _ _ a a6 ba oa n ca q6 o6 n6 c6 X Z6 w6 (by omega) (by omega) (hX.oth O02 ea) L6b hXl l6 B6).mono ?_
  rintro e w7 ⟨rfl, P2, B7, r3, hP2, e2, O3, z3⟩
  have O03 := O02.trans O3
  have G7 := G6.oth O3 (by omega)
  have q3 : w7.cell? ⟨w4.heap.size, 0, none⟩ = _ := (O3.cell (a := ⟨w4.heap.size, 0, none⟩) (World.block_lt_of_cell? _ _ q2) (show w4.heap.size ≠ c by omega)).trans q2
  have r23 := row_oth r2 O3 (by omega)
  have L7b := L6b.oth O3 q6c
  have N7a := N6a.oth O3 (by omega)
  clear B6 G6 q2 qf2 r2 L6b N6a
  go_wp2_with fail
  refine (mulAt2 c _ _ _ b a6 bb ob m cb q6 o6 n6 c6 Y Z6 w7 (by omega) (by omega) (hY.oth O03 eb) L7b hYl l6 B7).mono ?_
  rintro e w8 ⟨rfl, v2, B8, N8, O4, z4⟩
  have O04 := O03.trans O4
  have G8 := G7.oth O4 (by omega)
  have q4 : w8.cell? ⟨w4.heap.size, 0, none⟩ = _ := (O4.cell (a := ⟨w4.heap.size, 0, none⟩) (World.block_lt_of_cell? _ _ q3) (show w4.heap.size ≠ c by omega)).trans q3
  have r24 := row_oth r23 O4 (by omega)
  have r34 := row_oth r3 O4 (by omega)
  have N8a := N7a.oth O4 (by omega)
  clear B7 G7 q3 r23 r3 L7b N7a
  have k1 := G8.c0
  have k3 := q4
  go_wp2_with fail
  refine (addTop_any c f f' v2 _ w6.heap.size w5.heap.size (n + n6) (n' + n5) P2 P1 w8 (by omega) (by omega) B8 r34 r24 hP2 hP1 (by omega) (by omega) (by omega)).mono ?_
  rintro e w9 ⟨rfl, v, gg, B9, N9, hgg, hgl, O5⟩
  rw [e1, e2, e5, e6] at B9 N9
  rw [e6] at N8
  have hs9 := O5.size
  have ND := N8.ofBlock (fun _ => O5.block w7.heap.size (by omega) (by omega) (by omega) (by omega))
  have NS := N8a.ofBlock (fun _ => O5.block g4 (by omega) (by omega) (by omega) (by omega))
  have MS := (Marked.refl w9 c).setCell 3 (.slice a4 n4 c4)
  have f3 := B9.f 3
  have c3 := B9.c3
  have O09 : Oth c w w9 := O04.up3 O5 (by omega) (by omega)
  clear k1 k3
  go_wp2
  go_end0
  refine ⟨rfl, v, v2, _, gg, w7.heap.size, g4, B9.set3 _, (NS.marked MS (by omega)).more (by omega), N9.marked MS (by omega), (ND.marked MS (by omega)).more (by omega), by omega, by omega, by omega, by rw [MS.size]; exact hgl, by rw [MS.size]; omega, O09.trans (Oth.ofMarked MS)⟩

end Go.Proofs.Ytdfcckifbbeoiaa

namespace Go.Proofs.Ytdfcckifbbeoiaa
open Go.RowKit

set_option maxHeartbeats 1600000 in
set_option maxRecDepth 100000 in
theorem sumOf_any (f f' : Bool) (a b a' b' : Option Addr) (ba oa n ca bb ob m cb ba' oa' n' ca' bb' ob' m' cb' : Nat) (X Y X' Y' : Nat → Nat) (w : World) (hw : 0 ≤ w.heap.size) (hT : Tab w) (hn : n + n' + m + m' ≤ 1048576)
    (R : RIn w a b ba oa n ca bb ob m cb X Y) (R' : RIn w a' b' ba' oa' n' ca' bb' ob' m' cb' X' Y') (co : Nat.gcd (lv X n) (lv Y m) = 1) (co' : Nat.gcd (lv X' n') (lv Y' m') = 1) :
    Calls Try.prog 71 #[.agg #[.bool f, .slice a n ca, .slice b m cb], .agg #[.bool f', .slice a' n' ca', .slice b' m' cb']] w fun e w' => ∃ v, e = .returned v ∧
      RatV w' v (sumNeg f f' (lv X n * lv Y' m') (lv X' n' * lv Y m) && sumTop f f' (lv X n * lv Y' m') (lv X' n' * lv Y m) != 0) (sumTop f f' (lv X n * lv Y' m') (lv X' n' * lv Y m) / Nat.gcd (sumTop f f' (lv X n * lv Y' m') (lv X' n' * lv Y m)) (lv Y m * lv Y' m')) (lv Y m * lv Y' m' / Nat.gcd (sumTop f f' (lv X n * lv Y' m') (lv X' n' * lv Y m)) (lv Y m * lv Y' m')) w.heap.size 1048578 ∧ w.Since w.heap.size w' := by
  have HCO := hide (gcd_add_shared f f' co co' R.den)
  obtain ⟨sv, hsv⟩ : ∃ sv, sv = Nat.gcd (lv Y m) (lv Y' m') := ⟨_, rfl⟩
  have hs0 : 0 < sv := by rw [hsv]; exact Nat.gcd_pos_of_pos_left _ R.den
  have dY : lv Y m / sv * sv = lv Y m := by rw [hsv]; exact Nat.div_mul_cancel (Nat.gcd_dvd_left _ _)
  have dY' : lv Y' m' / sv * sv = lv Y' m' := by rw [hsv]; exact Nat.div_mul_cancel (Nat.gcd_dvd_right _ _)
  rw [← hsv] at HCO
  have eP : lv X n * lv Y' m' = lv X n * (lv Y' m' / sv) * sv := by rw [Nat.mul_assoc, dY']
  have eR : lv X' n' * lv Y m = lv X' n' * (lv Y m / sv) * sv := by rw [Nat.mul_assoc, dY]
  have eD : lv Y m * lv Y' m' = lv Y m * (lv Y' m' / sv) * sv := by rw [Nat.mul_assoc, dY']
  have hD1 : 0 < lv Y m * (lv Y' m' / sv) := Nat.mul_pos R.den (by rcases Nat.eq_zero_or_pos (lv Y' m' / sv) with e | e; (have h2 := R'.den; rw [e] at dY'; omega); exact e)
  rw [eP, eR, eD, sumTop_scale _ _ _ _ _ hs0, sumNeg_scale _ _ _ _ _ hs0, Nat.gcd_mul_right, Nat.mul_div_mul_right _ _ hs0, Nat.mul_div_mul_right _ _ hs0]
  have hnz : ∀ t : Nat, (t * sv != 0) = (t != 0) := fun t => by
    rcases Nat.eq_zero_or_pos t with e | e
    · subst e; simp
    · have h2 := Nat.mul_pos e hs0
      have h3 : (t * sv != 0) = true := bne_iff_ne.2 (by omega)
      have h4 : (t != 0) = true := bne_iff_ne.2 (by omega)
      rw [h3, h4]
  rw [hnz]
  have HSV := hide hsv
  have HD1 := hide hD1
  clear co co' hsv dY dY' eP eR eD hnz hD1
  have sA : w.Since w.heap.size (((w.alloc (.cells #[.bool f, .slice a n ca, .slice b m cb] 27)).alloc (.cells #[.bool f', .slice a' n' ca', .slice b' m' cb'] 27)).alloc (.cells #[.bool false, .slice none 0 0, .slice none 0 0] 27)) := (((World.Since.refl _ _).alloc (Nat.le_refl _) _).alloc (by simp) _).alloc (by simp; omega) _
  have zA : (((w.alloc (.cells #[.bool f, .slice a n ca, .slice b m cb] 27)).alloc (.cells #[.bool f', .slice a' n' ca', .slice b' m' cb'] 27)).alloc (.cells #[.bool false, .slice none 0 0, .slice none 0 0] 27)).heap.size = w.heap.size + 1 + 1 + 1 := by simp
  have pA : Box3 (((w.alloc (.cells #[.bool f, .slice a n ca, .slice b m cb] 27)).alloc (.cells #[.bool f', .slice a' n' ca', .slice b' m' cb'] 27)).alloc (.cells #[.bool false, .slice none 0 0, .slice none 0 0] 27)) (w.heap.size + 1) (.bool f') (.slice a' n' ca') (.slice b' m' cb') := by
    have := (Box3.new (w.alloc (.cells #[.bool f, .slice a n ca, .slice b m cb] 27)) (.bool f') (.slice a' n' ca') (.slice b' m' cb') 27).keep ((World.Since.refl _ _).alloc (Nat.le_refl _) (.cells #[.bool false, .slice none 0 0, .slice none 0 0] 27))
    simpa using this
  have rA : Box3 (((w.alloc (.cells #[.bool f, .slice a n ca, .slice b m cb] 27)).alloc (.cells #[.bool f', .slice a' n' ca', .slice b' m' cb'] 27)).alloc (.cells #[.bool false, .slice none 0 0, .slice none 0 0] 27)) (w.heap.size + 1 + 1) (.bool false) (.slice none 0 0) (.slice none 0 0) := by
    have := Box3.new ((w.alloc (.cells #[.bool f, .slice a n ca, .slice b m cb] 27)).alloc (.cells #[.bool f', .slice a' n' ca', .slice b' m' cb'] 27)) (.bool false) (.slice none 0 0) (.slice none 0 0) 27
    simpa using this
  have m1 := R.m0
  have m1' := R'.m0
  go_enter Try.func71, Try.ntmps71
  go_wp2_with fail
  generalize (((w.alloc (.cells #[.bool f, .slice a n ca, .slice b m cb] 27)).alloc (.cells #[.bool f', .slice a' n' ca', .slice b' m' cb'] 27)).alloc (.cells #[.bool false, .slice none 0 0, .slice none 0 0] 27)) = w1 at *
  refine (fractionOf_any f a b ba oa n ca bb ob m cb X Y w1 (by omega) (by omega) R.nc R.mc (R.keep sA).LX (R.keep sA).LY R.pX R.pY).mono ?_
  rintro e w2 ⟨rfl, s2⟩
  have S2 : w.Since w.heap.size w2 := sA.trans (sinceMono s2 sA.size)
  have z2 := s2.size
  have p2 := pA.keep s2
  have r2 := rA.keep s2
  clear pA rA s2
  have t3 : w2.Since w2.heap.size (w2.alloc (.cells #[.bool f, .slice a n ca, .slice b m cb, .slice none 0 0] 90)) := (World.Since.refl _ _).alloc (Nat.le_refl _) _
  have c3 := Box4.new w2 (.bool f) (.slice a n ca) (.slice b m cb) (.slice none 0 0) 90
  have p3 := p2.keep t3
  have r3 := r2.keep t3
  have S3 : w.Since w.heap.size (w2.alloc (.cells #[.bool f, .slice a n ca, .slice b m cb, .slice none 0 0] 90)) := S2.trans (sinceMono t3 S2.size)
  have k0 := p3.c0
  have k1 := p3.c1
  have k2 := p3.c2
  go_wp2_with fail
  generalize w2.alloc (.cells #[.bool f, .slice a n ca, .slice b m cb, .slice none 0 0] 90) = w3 at *
  refine (fractionOf_any f' a' b' ba' oa' n' ca' bb' ob' m' cb' X' Y' w3 (by omega) (by omega) R'.nc R'.mc (R'.keep S3).LX (R'.keep S3).LY R'.pX R'.pY).mono ?_
  rintro e w4 ⟨rfl, s4⟩
  have S4 : w.Since w.heap.size w4 := S3.trans (sinceMono s4 S3.size)
  have c4 := c3.keep s4
  have r4 := r3.keep s4
  have R4 := R.keep S4
  have R4' := R'.keep S4
  have zc : w.heap.size ≤ w2.heap.size := by omega
  have lX : 0 < n → ba < w.heap.size := R.LX.lt
  have lY : 0 < m → bb < w.heap.size := R.LY.lt
  have lX' : 0 < n' → ba' < w.heap.size := R'.LX.lt
  have lY' : 0 < m' → bb' < w.heap.size := R'.LY.lt
  clear k0 k1 k2 p3 p2 r2 c3 r3 s4
  go_wp2_with fail
  refine (fracAdd_any w2.heap.size f f' a b a' b' ba oa n ca bb ob m cb ba' oa' n' ca' bb' ob' m' cb' X Y X' Y' w4 hn m1 m1' R4.LX R4.LY R4'.LX R4'.LY R.lX R.lY R'.lX R'.lY
    (fun h => by have := lX h; omega) (fun h => by have := lY h; omega) (fun h => by have := lX' h; omega) (fun h => by have := lY' h; omega) R.pY R'.pY R.mc R'.mc R.bc R'.bc R.den R'.den _ _ c4).mono ?_
  rw [← HSV.out]
  rintro e w5 ⟨rfl, v1, v2, v3, g, h, q, c5, K5, N5, D5, b5, b6, b7, b8, b9, O5⟩
  have hcl := c4.lt
  have r5 := r4.oth O5 (by omega)
  have S5 : w.Since w.heap.size w5 := S4.trans (sinceMono (O5.since (by omega)) zc)
  have T5 := hT.stay hw S5
  clear R4 R4' R R' lX lY lX' lY'
  go_wp2_with fail
  refine (normalise_any w2.heap.size _ v1 v2 v3 g h q _ _ _ (w.heap.size + 1 + 1 + 1) w5 (Nat.zero_le _) T5 c5 N5 D5 K5 HCO.out b7 b8 b9 (by omega) (by omega) (by omega) (by omega) (by omega) (by omega) HD1.out).mono ?_
  rintro e w6 ⟨v, rfl, ⟨x1, x2, g6, h6, rfl, N6, D6, y1, y2, y3⟩, s6⟩
  have rB := r5.since s6 (by omega)
  have N6' := N6
  have D6' := D6
  obtain ⟨a1, q1, c1, Y1, rfl, -⟩ := N6
  obtain ⟨a2, q2, c2, Y2, rfl, -⟩ := D6
  have S6 : w.Since w.heap.size w6 := S5.trans (sinceMono s6 (by omega))
  have u0 := rB.c0
  have u1 := rB.c1
  have u2 := rB.c2
  have uf0 := rB.f 0
  have uf1 := rB.f 1
  have uf2 := rB.f 2
  obtain ⟨neg, hneg⟩ : ∃ neg, (sumNeg f f' (lv X n * (lv Y' m' / sv)) (lv X' n' * (lv Y m / sv)) && sumTop f f' (lv X n * (lv Y' m' / sv)) (lv X' n' * (lv Y m / sv)) != 0) = neg := ⟨_, rfl⟩
  rw [hneg]
  have hneg := hide hneg
  go_wp2
  have rC := ((rB.set0 (.bool neg)).set1 (.slice a1 q1 c1)).set2 (.slice a2 q2 c2)
  refine bodyPost_ret (results_box3 rfl _ _ _ _ _ _ rfl rC) rfl ?_
  have M : Marked w6 _ (w.heap.size + 1 + 1) := (((Marked.refl w6 _).setCell 0 (.bool neg)).setCell 1 (.slice a1 q1 c1)).setCell 2 (.slice a2 q2 c2)
  exact ⟨_, rfl, ⟨_, _, g6, h6, by rw [hneg.out], N6'.marked M (by omega), D6'.marked M (by omega), by omega, by omega, y3⟩, S6.trans (M.since (by omega))⟩

set_option maxHeartbeats 1600000 in
set_option maxRecDepth 100000 in
/-- impl.RatAdd where both are valid. -/
theorem implRatAdd_ok (f f' : Bool) (a b a' b' : Option Addr) (ba oa n ca bb ob m cb ba' oa' n' ca' bb' ob' m' cb' : Nat) (X Y X' Y' : Nat → Nat) (w : World) (hw : 0 ≤ w.heap.size) (hT : Tab w) (hn : n + n' + m + m' ≤ 1048576)
    (R : RIn w a b ba oa n ca bb ob m cb X Y) (R' : RIn w a' b' ba' oa' n' ca' bb' ob' m' cb' X' Y') (ok : ratOkB f X n Y m = true) (ok' : ratOkB f' X' n' Y' m' = true) :
    Calls Try.prog 23 #[.agg #[.bool f, .slice a n ca, .slice b m cb], .agg #[.bool f', .slice a' n' ca', .slice b' m' cb']] w fun e w' => ∃ v, e = .returned v ∧
      RatV w' v (sumNeg f f' (lv X n * lv Y' m') (lv X' n' * lv Y m) && sumTop f f' (lv X n * lv Y' m') (lv X' n' * lv Y m) != 0) (sumTop f f' (lv X n * lv Y' m') (lv X' n' * lv Y m) / Nat.gcd (sumTop f f' (lv X n * lv Y' m') (lv X' n' * lv Y m)) (lv Y m * lv Y' m')) (lv Y m * lv Y' m' / Nat.gcd (sumTop f f' (lv X n * lv Y' m') (lv X' n' * lv Y m)) (lv Y m * lv Y' m')) w.heap.size 1048578 ∧ w.Since w.heap.size w' := by
  have sA : w.Since w.heap.size (((w.alloc (.cells #[.bool f, .slice a n ca, .slice b m cb] 27)).alloc (.cells #[.bool f', .slice a' n' ca', .slice b' m' cb'] 27)).alloc (.cells #[.bool false, .slice none 0 0, .slice none 0 0] 27)) := (((World.Since.refl _ _).alloc (Nat.le_refl _) _).alloc (by simp) _).alloc (by simp; omega) _
  have zA : (((w.alloc (.cells #[.bool f, .slice a n ca, .slice b m cb] 27)).alloc (.cells #[.bool f', .slice a' n' ca', .slice b' m' cb'] 27)).alloc (.cells #[.bool false, .slice none 0 0, .slice none 0 0] 27)).heap.size = w.heap.size + 1 + 1 + 1 := by simp
  have oA : Box3 (((w.alloc (.cells #[.bool f, .slice a n ca, .slice b m cb] 27)).alloc (.cells #[.bool f', .slice a' n' ca', .slice b' m' cb'] 27)).alloc (.cells #[.bool false, .slice none 0 0, .slice none 0 0] 27)) w.heap.size (.bool f) (.slice a n ca) (.slice b m cb) := ((Box3.new w _ _ _ _).keep ((World.Since.refl _ _).alloc (Nat.le_refl _) _)).keep ((World.Since.refl _ _).alloc (Nat.le_refl _) _)
  have pA : Box3 (((w.alloc (.cells #[.bool f, .slice a n ca, .slice b m cb] 27)).alloc (.cells #[.bool f', .slice a' n' ca', .slice b' m' cb'] 27)).alloc (.cells #[.bool false, .slice none 0 0, .slice none 0 0] 27)) (w.heap.size + 1) (.bool f') (.slice a' n' ca') (.slice b' m' cb') := by
    have := (Box3.new (w.alloc (.cells #[.bool f, .slice a n ca, .slice b m cb] 27)) (.bool f') (.slice a' n' ca') (.slice b' m' cb') 27).keep ((World.Since.refl _ _).alloc (Nat.le_refl _) (.cells #[.bool false, .slice none 0 0, .slice none 0 0] 27))
    simpa using this
  have rA : Box3 (((w.alloc (.cells #[.bool f, .slice a n ca, .slice b m cb] 27)).alloc (.cells #[.bool f', .slice a' n' ca', .slice b' m' cb'] 27)).alloc (.cells #[.bool false, .slice none 0 0, .slice none 0 0] 27)) (w.heap.size + 1 + 1) (.bool false) (.slice none 0 0) (.slice none 0 0) := by
    have := Box3.new ((w.alloc (.cells #[.bool f, .slice a n ca, .slice b m cb] 27)).alloc (.cells #[.bool f', .slice a' n' ca', .slice b' m' cb'] 27)) (.bool false) (.slice none 0 0) (.slice none 0 0) 27
    simpa using this
  have m1 := R.m0
  have m1' := R'.m0
  have TA := hT.stay hw sA
  go_enter Try.func23, Try.ntmps23
  go_wp2_with fail
  generalize (((w.alloc (.cells #[.bool f, .slice a n ca, .slice b m cb] 27)).alloc (.cells #[.bool f', .slice a' n' ca', .slice b' m' cb'] 27)).alloc (.cells #[.bool false, .slice none 0 0, .slice none 0 0] 27)) = w1 at *
  have RA := R.keep sA
  have RA' := R'.keep sA
  have I1 := implRatOk_any f a b ba oa n ca bb ob m cb X Y w1 (Nat.zero_le _) (by omega) (by omega) R.nc R.mc R.ac R.bc RA.LX RA.LY R.lX R.lY TA
  rw [ok] at I1
  refine I1.mono ?_
  rintro e w2 ⟨rfl, s2⟩
  have o2 := oA.keep s2
  have p2 := pA.keep s2
  have r2 := rA.keep s2
  have S2 : w.Since w.heap.size w2 := sA.trans (sinceMono s2 sA.size)
  have z2 := s2.size
  have RB' := RA'.keep s2
  have I2 := implRatOk_any f' a' b' ba' oa' n' ca' bb' ob' m' cb' X' Y' w2 (Nat.zero_le _) (by omega) (by omega) R'.nc R'.mc R'.ac R'.bc RB'.LX RB'.LY R'.lX R'.lY (hT.stay hw S2)
  rw [ok'] at I2
  clear I1 oA pA rA
  have k0 := p2.c0
  have k1 := p2.c1
  have k2 := p2.c2
  go_wp2_with fail
  refine I2.mono ?_
  rintro e w3 ⟨rfl, s3⟩
  have S3 : w.Since w.heap.size w3 := S2.trans (sinceMono s3 S2.size)
  have z3 := s3.size
  have o3 := o2.keep s3
  have p3 := p2.keep s3
  have r3 := r2.keep s3
  clear I2 k0 k1 k2 o2 p2 r2
  have k0 := p3.c0
  have k1 := p3.c1
  have k2 := p3.c2
  have j0 := o3.c0
  have j1 := o3.c1
  have j2 := o3.c2
  have JP := sumOf_any f f' a b a' b' ba oa n ca bb ob m cb ba' oa' n' ca' bb' ob' m' cb' X Y X' Y' w3 (Nat.zero_le _) (hT.stay hw S3) hn (R.keep S3) (R'.keep S3) (co_of ok) (co_of ok')
  go_wp2_with fail
  refine JP.mono ?_
  rintro e w6 ⟨v, rfl, ⟨x1, x2, g6, h6, rfl, N6, D6, y1, y2, y3⟩, s6⟩
  have rB := r3.keep s6
  have N6' := N6
  have D6' := D6
  obtain ⟨a1, q1, c1, Y1, rfl, -⟩ := N6
  obtain ⟨a2, q2, c2, Y2, rfl, -⟩ := D6
  have S6 : w.Since w.heap.size w6 := S3.trans (sinceMono s6 S3.size)
  have u0 := rB.c0
  have u1 := rB.c1
  have u2 := rB.c2
  have uf0 := rB.f 0
  have uf1 := rB.f 1
  have uf2 := rB.f 2
  obtain ⟨neg, hneg⟩ : ∃ neg, (sumNeg f f' (lv X n * lv Y' m') (lv X' n' * lv Y m) && sumTop f f' (lv X n * lv Y' m') (lv X' n' * lv Y m) != 0) = neg := ⟨_, rfl⟩
  rw [hneg]
  have hneg := hide hneg
  clear JP
  go_wp2
  have rC := ((rB.set0 (.bool neg)).set1 (.slice a1 q1 c1)).set2 (.slice a2 q2 c2)
  refine bodyPost_ret (results_box3 rfl _ _ _ _ _ _ rfl rC) rfl ?_
  have M : Marked w6 _ (w.heap.size + 1 + 1) := (((Marked.refl w6 _).setCell 0 (.bool neg)).setCell 1 (.slice a1 q1 c1)).setCell 2 (.slice a2 q2 c2)
  exact ⟨_, rfl, ⟨_, _, g6, h6, by rw [hneg.out], N6'.marked M (by omega), D6'.marked M (by omega), by omega, by omega, y3⟩, S6.trans (M.since (by omega))⟩

end Go.Proofs.Ytdfcckifbbeoiaa

namespace Go.Proofs.Ytdfcckifbbeoiaa
open Go.RowKit

set_option maxHeartbeats 1600000 in
set_option maxRecDepth 100000 in
/-- impl.RatAdd where one is not valid. -/
theorem implRatAdd_no (f f' : Bool) (a b a' b' : Option Addr) (ba oa n ca bb ob m cb ba' oa' n' ca' bb' ob' m' cb' : Nat) (X Y X' Y' : Nat → Nat) (w : World) (hw : 0 ≤ w.heap.size) (hT : Tab w) (hn : n + n' ≤ 1048576) (hm : m + m' ≤ 1048576)
    (R : RRaw w a b ba oa n ca bb ob m cb X Y) (R' : RRaw w a' b' ba' oa' n' ca' bb' ob' m' cb' X' Y') (ok : ¬ (ratOkB f X n Y m = true ∧ ratOkB f' X' n' Y' m' = true)) :
    Calls Try.prog 23 #[.agg #[.bool f, .slice a n ca, .slice b m cb], .agg #[.bool f', .slice a' n' ca', .slice b' m' cb']] w fun e w' => ∃ v, e = .returned v ∧ RatV w' v false 0 1 w.heap.size 4194304 ∧ w.Since w.heap.size w' := by
  have sA : w.Since w.heap.size (((w.alloc (.cells #[.bool f, .slice a n ca, .slice b m cb] 27)).alloc (.cells #[.bool f', .slice a' n' ca', .slice b' m' cb'] 27)).alloc (.cells #[.bool false, .slice none 0 0, .slice none 0 0] 27)) := (((World.Since.refl _ _).alloc (Nat.le_refl _) _).alloc (by simp) _).alloc (by simp; omega) _
  have zA : (((w.alloc (.cells #[.bool f, .slice a n ca, .slice b m cb] 27)).alloc (.cells #[.bool f', .slice a' n' ca', .slice b' m' cb'] 27)).alloc (.cells #[.bool false, .slice none 0 0, .slice none 0 0] 27)).heap.size = w.heap.size + 1 + 1 + 1 := by simp
  have pA : Box3 (((w.alloc (.cells #[.bool f, .slice a n ca, .slice b m cb] 27)).alloc (.cells #[.bool f', .slice a' n' ca', .slice b' m' cb'] 27)).alloc (.cells #[.bool false, .slice none 0 0, .slice none 0 0] 27)) (w.heap.size + 1) (.bool f') (.slice a' n' ca') (.slice b' m' cb') := by
    have := (Box3.new (w.alloc (.cells #[.bool f, .slice a n ca, .slice b m cb] 27)) (.bool f') (.slice a' n' ca') (.slice b' m' cb') 27).keep ((World.Since.refl _ _).alloc (Nat.le_refl _) (.cells #[.bool false, .slice none 0 0, .slice none 0 0] 27))
    simpa using this
  have rA : Box3 (((w.alloc (.cells #[.bool f, .slice a n ca, .slice b m cb] 27)).alloc (.cells #[.bool f', .slice a' n' ca', .slice b' m' cb'] 27)).alloc (.cells #[.bool false, .slice none 0 0, .slice none 0 0] 27)) (w.heap.size + 1 + 1) (.bool false) (.slice none 0 0) (.slice none 0 0) := by
    have := Box3.new ((w.alloc (.cells #[.bool f, .slice a n ca, .slice b m cb] 27)).alloc (.cells #[.bool f', .slice a' n' ca', .slice b' m' cb'] 27)) (.bool false) (.slice none 0 0) (.slice none 0 0) 27
    simpa using this
  have TA := hT.stay hw sA
  go_enter Try.func23, Try.ntmps23
  go_wp2_with fail
  generalize (((w.alloc (.cells #[.bool f, .slice a n ca, .slice b m cb] 27)).alloc (.cells #[.bool f', .slice a' n' ca', .slice b' m' cb'] 27)).alloc (.cells #[.bool false, .slice none 0 0, .slice none 0 0] 27)) = w1 at *
  have RA := R.keep sA
  have RA' := R'.keep sA
  have I1 := implRatOk_any f a b ba oa n ca bb ob m cb X Y w1 (Nat.zero_le _) (by omega) (by omega) R.nc R.mc R.ac R.bc RA.LX RA.LY R.lX R.lY TA
  by_cases h1 : ratOkB f X n Y m = true
  · have h2 : ratOkB f' X' n' Y' m' = false := by
      cases e : ratOkB f' X' n' Y' m'
      · rfl
      · exact absurd ⟨h1, e⟩ ok
    rw [h1] at I1
    clear h1 ok
    refine I1.mono ?_
    rintro e w2 ⟨rfl, s2⟩
    have p2 := pA.keep s2
    have r2 := rA.keep s2
    have S2 : w.Since w.heap.size w2 := sA.trans (sinceMono s2 sA.size)
    have z2 := s2.size
    have RB' := RA'.keep s2
    have I2 := implRatOk_any f' a' b' ba' oa' n' ca' bb' ob' m' cb' X' Y' w2 (Nat.zero_le _) (by omega) (by omega) R'.nc R'.mc R'.ac R'.bc RB'.LX RB'.LY R'.lX R'.lY (hT.stay hw S2)
    rw [h2] at I2
    clear I1 pA rA h2
    have k0 := p2.c0
    have k1 := p2.c1
    have k2 := p2.c2
    go_wp2_with fail
    refine I2.mono ?_
    rintro e w3 ⟨rfl, s3⟩
    have S3 : w.Since w.heap.size w3 := S2.trans (sinceMono s3 S2.size)
    have z3 := s3.size
    have r3 := r2.keep s3
    clear I2 k0 k1 k2 p2 r2
    go_wp2_with fail
    refine (zeroRat_any w3).mono ?_
    rintro e w6 ⟨v, rfl, ⟨x1, x2, g6, h6, rfl, N6, D6, y1, y2, y3⟩, s6⟩
    have rB := r3.keep s6
    have N6' := N6
    have D6' := D6
    obtain ⟨a1, q1, c1, Y1, rfl, -⟩ := N6
    obtain ⟨a2, q2, c2, Y2, rfl, -⟩ := D6
    have S6 : w.Since w.heap.size w6 := S3.trans (sinceMono s6 S3.size)
    have u0 := rB.c0
    have u1 := rB.c1
    have u2 := rB.c2
    have uf0 := rB.f 0
    have uf1 := rB.f 1
    have uf2 := rB.f 2
    go_wp2
    have rC := ((rB.set0 (.bool false)).set1 (.slice a1 q1 c1)).set2 (.slice a2 q2 c2)
    refine bodyPost_ret (results_box3 rfl _ _ _ _ _ _ rfl rC) rfl ?_
    have M : Marked w6 _ (w.heap.size + 1 + 1) := (((Marked.refl w6 _).setCell 0 (.bool false)).setCell 1 (.slice a1 q1 c1)).setCell 2 (.slice a2 q2 c2)
    exact ⟨_, rfl, ⟨_, _, g6, h6, rfl, N6'.marked M (by omega), D6'.marked M (by omega), by omega, by omega, y3⟩, S6.trans (M.since (by omega))⟩
  · have h1' : ratOkB f X n Y m = false := by simpa using h1
    rw [h1'] at I1
    clear h1 h1' ok
    refine I1.mono ?_
    rintro e w3 ⟨rfl, s3⟩
    have S3 : w.Since w.heap.size w3 := sA.trans (sinceMono s3 sA.size)
    have z3 := s3.size
    have z2 : w1.heap.size ≤ w1.heap.size := Nat.le_refl _
    have r3 := rA.keep s3
    clear I1 pA rA
    go_wp2_with fail
    refine (zeroRat_any w3).mono ?_
    rintro e w6 ⟨v, rfl, ⟨x1, x2, g6, h6, rfl, N6, D6, y1, y2, y3⟩, s6⟩
    have rB := r3.keep s6
    have N6' := N6
    have D6' := D6
    obtain ⟨a1, q1, c1, Y1, rfl, -⟩ := N6
    obtain ⟨a2, q2, c2, Y2, rfl, -⟩ := D6
    have S6 : w.Since w.heap.size w6 := S3.trans (sinceMono s6 S3.size)
    have u0 := rB.c0
    have u1 := rB.c1
    have u2 := rB.c2
    have uf0 := rB.f 0
    have uf1 := rB.f 1
    have uf2 := rB.f 2
    go_wp2
    have rC := ((rB.set0 (.bool false)).set1 (.slice a1 q1 c1)).set2 (.slice a2 q2 c2)
    refine bodyPost_ret (results_box3 rfl _ _ _ _ _ _ rfl rC) rfl ?_
    have M : Marked w6 _ (w.heap.size + 1 + 1) := (((Marked.refl w6 _).setCell 0 (.bool false)).setCell 1 (.slice a1 q1 c1)).setCell 2 (.slice a2 q2 c2)
    exact ⟨_, rfl, ⟨_, _, g6, h6, rfl, N6'.marked M (by omega), D6'.marked M (by omega), by omega, by omega, y3⟩, S6.trans (M.since (by omega))⟩

end Go.Proofs.Ytdfcckifbbeoiaa
