import Derived.Test.YtigggjcnnlidgaaU9
namespace Go.Proofs.Ytigggjcnnlidgaa
open Go.RowKit

theorem cmpN_neg2 {x y : Nat} (h : x < y) : cmpN x y < 0 := by rw [cmpN_lt h]; decide
theorem cmpN_nonneg2 {x y : Nat} (h : y ≤ x) : 0 ≤ cmpN x y := by unfold cmpN; split <;> (try split) <;> omega

theorem lv_len_le {X Y : Nat → Nat} {n m : Nat} (hY : ∀ j, j < m → Y j < 4294967296) (pX : 0 < n → X (n - 1) ≠ 0) (h : lv X n ≤ lv Y m) : n ≤ m := by
  by_cases e : n ≤ m
  · exact e
  · have := lv_short (A := Y) (B := X) hY (show m < n by omega) pX
    omega

set_option maxHeartbeats 3200000 in
set_option maxRecDepth 100000 in
theorem divideBy_any (c o : Nat) (a a' : Option Addr) (b n cap b' dl cap' : Nat) (X Y : Nat → Nat) (w : World) (hn : n ≤ 2097152) (hnc : n ≤ cap) (hac : a = none → cap = 0) (hdl : 0 < dl) (hdm : dl ≤ 2097152)
    (hc0 : w.cell? ⟨c, o, none⟩ = some (.slice a n cap)) (hf0 : w.frozen? ⟨c, o, none⟩ = false) (hX : Limbs w a b 0 n X) (hY : Limbs w a' b' 0 dl Y) (hXl : ∀ j, j < n → X j < 4294967296) (hYl : ∀ j, j < dl → Y j < 4294967296)
    (hf : 0 < n → ∀ x, w.frozen? ⟨b, x, none⟩ = false) (hcb : c ≠ b) (hbl : 0 < n → b < w.heap.size) (tX : 0 < n → X (n - 1) ≠ 0) (tY : Y (dl - 1) ≠ 0) :
    Calls Try.prog 21 #[.pointer (some ⟨c, o, none⟩), .slice a' dl cap'] w fun e w' => ∃ vq vr gq gr, e = .returned vq ∧ w'.cell? ⟨c, o, none⟩ = some vr ∧ NatAt w' vq gq (lv X n / lv Y dl) (n + 2) ∧ NatAt w' vr gr (lv X n % lv Y dl) (n + 2) ∧
      (gq = b ∨ w.heap.size ≤ gq) ∧ (gr = b ∨ w.heap.size ≤ gr) ∧ gq ≠ gr ∧ gq ≠ c ∧ gr ≠ c ∧ Fr c o b w w' := by
  have hcl : c < w.heap.size := World.block_lt_of_cell? _ _ hc0
  by_cases hlt : lv X n < lv Y dl
  · have hcmp := cmpN_neg2 hlt
    have HLt := hide hlt
    have HtX := hide tX
    have HXl := hide hXl
    clear hlt tX
    go_enter Try.func21, Try.ntmps21
    go_wp2_with fail
    refine (compare_any c o a a' b 0 n cap b' 0 dl cap' X Y _ (by omega) (by omega) hc0 hX hY hXl hYl HtX.out (fun _ => tY)).mono ?_
    rintro e w1 ⟨rfl, s1⟩
    clear hXl hYl tY
    generalize cmpN (lv X n) (lv Y dl) = z at *
    go_wp2
    go_ret
    refine ⟨_, _, w1.heap.size + b + 1, b, rfl, by rw [s1.cell]; exact hc0, ⟨none, 0, 0, fun _ => 0, rfl, Nat.le_refl _, by omega, fun _ => rfl, fun j hj => absurd hj (by omega), fun h => absurd h (by omega), fun j hj => absurd hj (by omega), fun h => absurd h (by omega), ?_⟩,
      ⟨a, n, cap, X, rfl, hnc, by omega, hac, hX.same s1, fun h x => by rw [s1.frozen]; exact hf h x, HXl.out, HtX.out, ?_⟩, Or.inr (by rw [s1.size]; omega), Or.inl rfl, by omega, by rw [s1.size]; omega, by omega, (Fr.refl o b hcl).same s1⟩
    · rw [Nat.div_eq_of_lt HLt.out]; rfl
    · rw [Nat.mod_eq_of_lt HLt.out]
  · have hcmp := cmpN_nonneg2 (Nat.le_of_not_lt hlt)
    have hdn := lv_len_le hXl (fun _ => tY) (Nat.le_of_not_lt hlt)
    have HtX := hide tX
    have HXl := hide hXl
    clear hlt tX
    by_cases h1 : dl = 1
    · subst h1
      obtain ⟨rfl, kd⟩ := hY 0 (by omega)
      have hyl := hYl 0 (by omega)
      have hy0 : 0 < Y 0 := by simp at tY; omega
      have HYv : Hid (lv Y 1 = Y 0) := by simp [Hid, lv]
      go_enter Try.func21, Try.ntmps21
      go_wp2_with fail
      refine (compare_any c o a _ b 0 n cap b' 0 1 cap' X Y _ (by omega) (by omega) hc0 hX hY hXl hYl HtX.out (fun _ => tY)).mono ?_
      rintro e w1 ⟨rfl, s1⟩
      clear hXl hYl tY
      generalize cmpN (lv X n) (lv Y 1) = z at *
      have fr1 : Fr c o b w w1 := (Fr.refl o b hcl).same s1
      have c1 : w1.cell? ⟨c, o, none⟩ = some (.slice a n cap) := by rw [s1.cell]; exact hc0
      have d1 : w1.cell? ⟨b', 0, none⟩ = some (.int .u32 (Y 0)) := by rw [s1.cell]; simpa using kd
      have X1 := hX.same s1
      have F1 : 0 < n → ∀ x, w1.frozen? ⟨b, x, none⟩ = false := fun h x => by rw [s1.frozen]; exact hf h x
      have Z1 := hide s1.size
      have zb : b < w1.heap.size := by rw [s1.size]; exact hbl (by omega)
      have zc : c < w1.heap.size := by rw [s1.size]; exact hcl
      have bl' : b' < w1.heap.size := World.block_lt_of_cell? _ _ d1
      clear hX hY kd s1 hc0
      have a1 : ∀ x, (w1.alloc x).cell? ⟨b', 0, none⟩ = some (.int .u32 (Y 0)) := fun x => by rw [World.cell?_alloc_old _ _ _ (by show b' ≠ _; omega)]; exact d1
      go_wp2_with fail
      have sA : w1.Since w1.heap.size (w1.alloc (.cells #[.slice a n cap] 34)) := (World.Since.refl _ _).alloc (Nat.le_refl _) _
      refine (divideByLimb_any w1.heap.size 0 a b n cap (Y 0) X _ (by omega) hnc (by simp [go_sem]) (by simp [go_sem]) (X1.keep sA) HXl.out (fun h x => by rw [sA.frozen (a := ⟨b, x, none⟩) zb]; exact F1 h x) (by omega) hy0 hyl).mono ?_
      rintro e w3 ⟨rfl, w2, Q, m2, L2, l2, v2, hw3⟩
      have z2 : w2.heap.size = w1.heap.size + 1 := by rw [m2.size]; simp
      have q0 : w2.cell? ⟨w1.heap.size, 0, none⟩ = some (.slice a n cap) := by rw [m2.cell (a := ⟨w1.heap.size, 0, none⟩) (by show w1.heap.size ≠ b; omega)]; simp [go_sem]
      have fr3 : Fr c o b w w3 := by rw [hw3]; exact ((fr1.alloc _).marked m2 (Or.inl rfl) (Ne.symm hcb)).setNew (Or.inr (by have := fr1.size; omega)) (by omega) _
      have c3 : w3.cell? ⟨c, o, none⟩ = some (.slice a n cap) := by
        rw [hw3, World.cell?_setCell_other _ _ _ _ (fun e => by have := congrArg Addr.block e; simp at this; omega), m2.cell (a := ⟨c, o, none⟩) hcb, World.cell?_alloc_old _ _ _ (by show c ≠ _; omega)]; exact c1
      have f3 : w3.frozen? ⟨c, o, none⟩ = false := by rw [fr3.frozen]; exact hf0
      have L3 : Limbs w3 a b 0 n Q := by rw [hw3]; exact L2.setOther (by omega) _
      have b3 : w3.cell? ⟨w1.heap.size, 0, none⟩ = some (.slice a (tlen (nz Q) n) cap) := by rw [hw3]; exact World.cell?_setCell_same _ _ _ q0
      have F3 : 0 < n → ∀ x, w3.frozen? ⟨b, x, none⟩ = false := fun h x => by rw [hw3]; simp [m2.frozen, sA.frozen (a := ⟨b, x, none⟩) zb, F1 h x]
      have z3 : w1.heap.size + 1 ≤ w3.heap.size := by rw [hw3]; simp [World.setCell, z2]
      have HV2 := hide v2
      have HL2 := hide l2
      clear hw3 q0 z2 m2 L2 l2 v2 sA a1 d1 c1 X1 F1 fr1
      obtain ⟨r, hr⟩ : ∃ r, r = lv X n % Y 0 := ⟨_, rfl⟩
      have HRr := hide hr
      have hrl : r < 4294967296 := by rw [hr]; have := Nat.mod_lt (lv X n) hy0; omega
      rw [← hr]
      clear hr
      have nc : c ≠ w3.heap.size := by omega
      have a3 : ∀ x, (w3.alloc x).cell? ⟨c, o, none⟩ = some (.slice a n cap) := fun x => by rw [World.cell?_alloc_old _ _ _ nc]; exact c3
      have a4 : ∀ x, (w3.alloc x).frozen? ⟨c, o, none⟩ = false := fun x => by
        rw [((World.Since.refl _ w3).alloc (Nat.le_refl _) x).frozen (a := ⟨c, o, none⟩) (by show c < w3.heap.size; omega)]; exact f3
      have rr : (w3.alloc (.cells #[.int .u32 (r : Int)] 33)).rowIs w3.heap.size 33 1 (fun j => .int .u32 (((fun _ => r) : Nat → Nat) j)) := World.rowIs_alloc w3 #[.int .u32 (r : Int)] 33 _ (fun i hi => by simp at hi; subst hi; rfl)
      go_wp2_with fail
      have fr4 := (fr3.alloc (.cells #[.int .u32 (r : Int)] 33)).set (.slice (some ⟨w3.heap.size, 0, none⟩) 1 1)
      have c4 := World.cell?_setCell_same _ _ (.slice (some ⟨w3.heap.size, 0, none⟩) 1 1) (a3 (.cells #[.int .u32 (r : Int)] 33))
      have R4 := (limbs_row rr).setOther (c := c) (o := o) nc (.slice (some ⟨w3.heap.size, 0, none⟩) 1 1)
      refine (trimAt_any c o _ w3.heap.size 0 1 1 (fun _ => r) _ (by omega) (Nat.le_refl _) c4 (by rw [fr4.frozen]; exact hf0) R4).mono ?_
      rintro e w5 ⟨rfl, hw5⟩
      rw [setCell_twice] at hw5
      have fr5 : Fr c o b w w5 := by rw [hw5]; exact (fr3.alloc _).set _
      have c5 : w5.cell? ⟨c, o, none⟩ = some (.slice (some ⟨w3.heap.size, 0, none⟩) (tlen (nz (fun _ => r)) 1) 1) := by rw [hw5]; exact World.cell?_setCell_same _ _ _ (a3 _)
      have R5 : Limbs w5 (some ⟨w3.heap.size, 0, none⟩) w3.heap.size 0 1 (fun _ => r) := by rw [hw5]; exact (limbs_row rr).setOther nc _
      have FR5 : ∀ x, w5.frozen? ⟨w3.heap.size, x, none⟩ = false := fun x => by rw [hw5]; simp [rr.frozen x]
      have L5 : Limbs w5 a b 0 n Q := by rw [hw5]; exact (L3.keep ((World.Since.refl _ _).alloc (Nat.le_refl _) _)).setOther hcb _
      have F5 : 0 < n → ∀ x, w5.frozen? ⟨b, x, none⟩ = false := fun h x => by
        rw [hw5]; simp [((World.Since.refl w3.heap.size w3).alloc (Nat.le_refl _) (.cells #[.int .u32 (r : Int)] 33)).frozen (a := ⟨b, x, none⟩) (by show b < w3.heap.size; omega), F3 h x]
      have b5 : w5.cell? ⟨w1.heap.size, 0, none⟩ = some (.slice a (tlen (nz Q) n) cap) := by
        rw [hw5, World.cell?_setCell_other _ _ _ _ (fun e => by have := congrArg Addr.block e; simp at this; omega), World.cell?_alloc_old _ _ _ (by show w1.heap.size ≠ _; omega)]; exact b3
      clear hw5 c4 R4 fr4 rr a3 a4 L3 F3 b3 c3 f3 fr3
      go_wp2
      go_ret
      have t1 := tlen_le (nz Q) n
      have t2 := tlen_le (nz (fun _ => r)) 1
      have hz := Z1.out
      refine ⟨_, _, b, w3.heap.size, rfl, c5, ⟨_, _, _, Q, rfl, by omega, by omega, hac, L5.take t1, fun h x => F5 (by omega) x, fun j hj => HL2.out j (by omega), fun h => ?_, ?_⟩,
        ⟨_, _, _, fun _ => r, rfl, by omega, by omega, fun h => (by cases h), R5.take t2, fun _ x => FR5 x, fun j _ => hrl, fun h => ?_, ?_⟩, Or.inl rfl, Or.inr (by omega), by omega, by omega, by omega, fr5⟩
      · have := tlen_top _ _ h; simpa [nz] using this
      · rw [lv_tlen, HV2.out, HYv.out]
      · have := tlen_top _ _ h; simpa [nz] using this
      · rw [lv_tlen, HYv.out, ← HRr.out]; simp [lv]
    · have h2 : 2 ≤ dl := by omega
      have hne : ((dl : Int) == 1) = false := by simp; omega
      have hn0 : 0 < n := by omega
      go_enter Try.func21, Try.ntmps21
      go_wp2_with fail
      refine (compare_any c o a a' b 0 n cap b' 0 dl cap' X Y _ (by omega) (by omega) hc0 hX hY hXl hYl HtX.out (fun _ => tY)).mono ?_
      rintro e w1 ⟨rfl, s1⟩
      generalize cmpN (lv X n) (lv Y dl) = z at *
      go_wp2_with fail
      refine (divideByLong_any c o a a' b n cap b' dl cap' X Y _ hn hdn h2 (by rw [s1.cell]; exact hc0) (by rw [s1.frozen]; exact hf0) (hX.same s1) (hY.same s1) hXl hYl (HtX.out hn0) tY).mono ?_
      rintro e w2 ⟨vq, vr, gq, gr, rfl, k1, k2, k3, k4, k5, k6, k7, k8, k9⟩
      have hz := s1.size
      rw [hz] at k4 k5
      have hfr : Fr c o b w w2 := ⟨k9.os.trans s1.os, k9.tape.trans s1.tape, k9.output.trans s1.output, by rw [← hz]; exact k9.size, fun k a1 a2 a3 => (k9.block k (by rw [hz]; exact a1) a2 a3).trans (by rw [s1.heap]), fun x hx => (k9.cell x hx).trans (s1.cell _), fun x => (k9.frozen x).trans (s1.frozen _), hcl⟩
      clear k9 s1 hX hY hXl hYl
      go_wp2
      go_ret
      exact ⟨vq, vr, gq, gr, rfl, k1, k2, k3, Or.inr k4, Or.inr k5, k6, by omega, by omega, hfr⟩

end Go.Proofs.Ytigggjcnnlidgaa
