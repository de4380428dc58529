import Derived.Test.YtigggjcnnlidgaaW3
import Derived.Test.YtigggjcnnlidgaaMath2
namespace Go.Proofs.Ytigggjcnnlidgaa
open Go.RowKit

set_option maxHeartbeats 800000 in
set_option maxRecDepth 100000 in
/-- (*nat).trim: the receiver's own cell is turned; nothing else. -/
theorem trimAt_any (c o : Nat) (a : Option Addr) (b off n cap : Nat) (X : Nat → Nat) (w : World) (hn : n ≤ 281474976710656) (hnc : n ≤ cap)
    (hc0 : w.cell? ⟨c, o, none⟩ = some (.slice a n cap)) (hf0 : w.frozen? ⟨c, o, none⟩ = false) (hX : Limbs w a b off n X) :
    Calls Try.prog 23 #[.pointer (some ⟨c, o, none⟩)] w fun e w' => e = .returned (.tuple #[]) ∧ w' = w.setCell ⟨c, o, none⟩ (.slice a (tlen (nz X) n) cap) := by
  go_enter Try.func23, Try.ntmps23
  go_wp2
  go_loop [2] (fun i => ∃ k : Nat, k ≤ n ∧ i = .int .i64 k ∧ tlen (nz X) k = tlen (nz X) n) (fun i => (intOf i).toNat)
  case atStart => exact ⟨n, Nat.le_refl _, rfl, rfl⟩
  case round =>
    obtain ⟨k, hk, rfl, ht⟩ := hrel
    have HT : Hid (tlen (nz X) k = tlen (nz X) n) := ht
    clear ht
    by_cases hlt : 0 < k
    · obtain ⟨rfl, hc⟩ := hX (k - 1) (by omega)
      by_cases hB : X (k - 1) = 0
      · rw [hB] at hc
        have HB : Hid (nz X (k - 1) = false) := by simp [Hid, nz, hB]
        clear hB
        go_wp2
        go_round
        case rel => exact ⟨k - 1, by omega, by go_num, (tlen_false hlt HB.out).trans HT.out⟩
        case measure => simp [intOf]; omega
      · have HB : Hid (nz X (k - 1) = true) := by simp [Hid, nz, hB]
        have hne : ((X (k - 1) : Int) == 0) = false := by simp; omega
        clear hB
        go_wp2
        go_end0
        exact ⟨rfl, by rw [← HT.out, tlen_true hlt HB.out]⟩
    · have e : k = 0 := by omega
      subst e
      go_wp2
      go_end0
      exact ⟨rfl, by rw [← HT.out]; rfl⟩

set_option maxHeartbeats 800000 in
set_option maxRecDepth 100000 in
theorem isZero_any (c o : Nat) (a : Option Addr) (n cap : Nat) (w : World) (hc0 : w.cell? ⟨c, o, none⟩ = some (.slice a n cap)) :
    Calls Try.prog 19 #[.pointer (some ⟨c, o, none⟩)] w fun e w' => e = .returned (.bool ((n : Int) == 0)) ∧ w' = w := by
  go_enter Try.func19, Try.ntmps19
  go_wp2
  go_ret
  exact ⟨rfl, rfl⟩

set_option maxHeartbeats 800000 in
set_option maxRecDepth 100000 in
theorem cmpInt_lt (x y : Int) (w : World) (h : x < y) : Calls Try.prog 29 #[.int .i64 x, .int .i64 y] w fun e w' => e = .returned (.int .i64 (-1)) ∧ w' = w := by
  go_enter Try.func29, Try.ntmps29
  go_wp2
  go_ret
  exact ⟨rfl, rfl⟩

set_option maxHeartbeats 800000 in
set_option maxRecDepth 100000 in
theorem cmpInt_gt (x y : Int) (w : World) (h : y < x) : Calls Try.prog 29 #[.int .i64 x, .int .i64 y] w fun e w' => e = .returned (.int .i64 1) ∧ w' = w := by
  go_enter Try.func29, Try.ntmps29
  go_wp2
  go_ret
  exact ⟨rfl, rfl⟩

set_option maxHeartbeats 800000 in
set_option maxRecDepth 100000 in
theorem cmpLimb_lt (x y : Int) (w : World) (h : x < y) : Calls Try.prog 30 #[.int .u32 x, .int .u32 y] w fun e w' => e = .returned (.int .i64 (-1)) ∧ w' = w := by
  go_enter Try.func30, Try.ntmps30
  go_wp2
  go_ret
  exact ⟨rfl, rfl⟩

set_option maxHeartbeats 800000 in
set_option maxRecDepth 100000 in
theorem cmpLimb_gt (x y : Int) (w : World) (h : y < x) : Calls Try.prog 30 #[.int .u32 x, .int .u32 y] w fun e w' => e = .returned (.int .i64 1) ∧ w' = w := by
  go_enter Try.func30, Try.ntmps30
  go_wp2
  go_ret
  exact ⟨rfl, rfl⟩

set_option maxHeartbeats 1600000 in
set_option maxRecDepth 100000 in
/-- (*nat).compare on two plain numbers. -/
theorem compare_any (c o : Nat) (a a' : Option Addr) (b off n cap b' off' m cap' : Nat) (A B : Nat → Nat) (w : World) (hn : n ≤ 281474976710656) (hm : m ≤ 281474976710656) (hc0 : w.cell? ⟨c, o, none⟩ = some (.slice a n cap))
    (hA : Limbs w a b off n A) (hB : Limbs w a' b' off' m B) (lA : ∀ j, j < n → A j < 4294967296) (lB : ∀ j, j < m → B j < 4294967296) (tA : 0 < n → A (n - 1) ≠ 0) (tB : 0 < m → B (m - 1) ≠ 0) :
    Calls Try.prog 26 #[.pointer (some ⟨c, o, none⟩), .slice a' m cap'] w fun e w' => e = .returned (.int .i64 (cmpN (lv A n) (lv B m))) ∧ Same w w' := by
  by_cases h1 : n < m
  · rw [cmpN_lt (lv_short lA h1 tB)]
    clear tA tB lA lB
    go_enter Try.func26, Try.ntmps26
    go_wp2_with fail
    refine (cmpInt_lt _ _ _ (by omega)).mono ?_
    rintro e w1 ⟨rfl, rfl⟩
    go_wp2
    go_ret
    exact ⟨rfl, Same.refl _⟩
  by_cases h2 : m < n
  · rw [cmpN_gt (lv_short lB h2 tA)]
    clear tA tB lA lB
    go_enter Try.func26, Try.ntmps26
    go_wp2_with fail
    refine (cmpInt_gt _ _ _ (by omega)).mono ?_
    rintro e w1 ⟨rfl, rfl⟩
    go_wp2
    go_ret
    exact ⟨rfl, Same.refl _⟩
  have e : m = n := by omega
  subst e
  have HA := hide lA
  have HB := hide lB
  clear tA tB h1 h2 lA lB
  go_enter Try.func26, Try.ntmps26
  go_wp2
  go_loopw [5] (fun t wr => ∃ (k : Nat) (z : Int), k ≤ m ∧ t = .int .i64 z ∧ Hid (z = k - 1) ∧ Same w wr ∧ Hid (∀ j, k ≤ j → j < m → A j = B j)) (fun t _ => (intOf t + 1).toNat)
  case atStart => exact ⟨m, (m : Int) - 1, Nat.le_refl _, rfl, rfl, Same.refl _, fun j h1 h2 => absurd h2 (by omega)⟩
  case round =>
    obtain ⟨k, z, hk, rfl, HZ, hs, HE⟩ := hrel
    by_cases hz : 0 ≤ z
    · obtain ⟨i, rfl⟩ := Int.eq_ofNat_of_zero_le hz
      have hki : k = i + 1 := by have := HZ.out; omega
      subst hki
      clear HZ
      obtain ⟨rfl, hc⟩ := hA i (by omega)
      obtain ⟨rfl, hc'⟩ := hB i (by omega)
      have g0 : wr.cell? ⟨b, off + i, none⟩ = some (.int .u32 (A i)) := by rw [hs.cell]; exact hc
      have g1 : wr.cell? ⟨b', off' + i, none⟩ = some (.int .u32 (B i)) := by rw [hs.cell]; exact hc'
      have g2 : wr.cell? ⟨c, o, none⟩ = some (.slice (some ⟨b, off, none⟩) m cap) := by rw [hs.cell]; exact hc0
      have hzi : (i : Int) < (m : Int) := by omega
      clear hc hc' hc0
      by_cases hab : A i = B i
      · have HAB : Hid (A i = B i) := hab
        rw [hab] at g0
        clear hab
        go_wp2
        go_quiet (fail)
        go_wp2
        go_roundw
        case rel =>
          refine ⟨i, (i : Int) - 1, by omega, rfl, rfl, hs.drewN _, fun j h1 h2 => ?_⟩
          by_cases e : j = i
          · subst e; exact HAB.out
          · exact HE.out j (by omega) h2
        case measure => simp [intOf]
      · have hne : ((A i : Int) == (B i : Int)) = false := by simp; omega
        by_cases hlt : A i < B i
        · have HC : Hid (cmpN (lv A m) (lv B m) = -1) := cmpN_lt (lv_top HA.out (i := i) (by omega) (fun j h1 h2 => HE.out j (by omega) h2) hlt)
          go_wp2
          go_quiet (fail)
          go_wp2
          have hs1 := hs.drewN nq
          obtain ⟨wq, hwq⟩ : ∃ wq, wq = wr.drewN nq := ⟨_, rfl⟩
          have q0 : wq.cell? ⟨b, off + i, none⟩ = some (.int .u32 (A i)) := by rw [hwq]; exact g0
          have q1 : wq.cell? ⟨b', off' + i, none⟩ = some (.int .u32 (B i)) := by rw [hwq]; exact g1
          have q2 : wq.cell? ⟨c, o, none⟩ = some (.slice (some ⟨b, off, none⟩) m cap) := by rw [hwq]; exact g2
          rw [← hwq] at hs1 ⊢
          clear hwq g0 g1 g2
          go_quiet ((go_at_call 30; exact Calls.quiet_of_same (cmpLimb_lt ((A i : Nat) : Int) ((B i : Nat) : Int) _ (by omega))))
          go_wp2
          go_ret
          exact ⟨ret_int HC.out.symm, hs1.drewN _⟩
        · have HC : Hid (cmpN (lv A m) (lv B m) = 1) := cmpN_gt (lv_top HB.out (i := i) (by omega) (fun j h1 h2 => (HE.out j (by omega) h2).symm) (by omega))
          have hgt : B i < A i := by omega
          go_wp2
          go_quiet (fail)
          go_wp2
          have hs1 := hs.drewN nq
          obtain ⟨wq, hwq⟩ : ∃ wq, wq = wr.drewN nq := ⟨_, rfl⟩
          have q0 : wq.cell? ⟨b, off + i, none⟩ = some (.int .u32 (A i)) := by rw [hwq]; exact g0
          have q1 : wq.cell? ⟨b', off' + i, none⟩ = some (.int .u32 (B i)) := by rw [hwq]; exact g1
          have q2 : wq.cell? ⟨c, o, none⟩ = some (.slice (some ⟨b, off, none⟩) m cap) := by rw [hwq]; exact g2
          rw [← hwq] at hs1 ⊢
          clear hwq g0 g1 g2
          go_quiet ((go_at_call 30; exact Calls.quiet_of_same (cmpLimb_gt ((A i : Nat) : Int) ((B i : Nat) : Int) _ (by omega))))
          go_wp2
          go_ret
          exact ⟨ret_int HC.out.symm, hs1.drewN _⟩
    · have hk0 : k = 0 := by have := HZ.out; omega
      subst hk0
      have HC : Hid (cmpN (lv A m) (lv B m) = 0) := cmpN_eq (lv_congr (fun j hj => HE.out j (by omega) hj))
      go_wp2
      go_ret
      exact ⟨ret_int HC.out.symm, hs⟩

end Go.Proofs.Ytigggjcnnlidgaa
