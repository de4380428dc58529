import Derived.Test.YtigggjcnnlidgaaBase
namespace Go.Proofs.Ytigggjcnnlidgaa
open Go.RowKit

theorem tlen_false {P : Nat → Bool} {k : Nat} (h0 : 0 < k) (h : P (k - 1) = false) : tlen P (k - 1) = tlen P k := by
  obtain ⟨m, rfl⟩ : ∃ m, k = m + 1 := ⟨k - 1, by omega⟩
  simp only [Nat.add_sub_cancel] at *
  simp [tlen, h]

theorem tlen_true {P : Nat → Bool} {k : Nat} (h0 : 0 < k) (h : P (k - 1) = true) : tlen P k = k := by
  obtain ⟨m, rfl⟩ : ∃ m, k = m + 1 := ⟨k - 1, by omega⟩
  simp only [Nat.add_sub_cancel] at *
  simp [tlen, h]

theorem ret_slice {a : Option Addr} {n m cap : Nat} (h : n = m) : Ending.returned (.slice a n cap) = .returned (.slice a m cap) := by rw [h]

set_option maxHeartbeats 800000 in
set_option maxRecDepth 100000 in
theorem l1Trim_any (a : Option Addr) (b off n cap : Nat) (B : Nat → Bool) (w : World) (hn : n ≤ 281474976710656) (hnc : n ≤ cap) (hX : Bits w a b off n B) :
    Calls Try.prog 22 #[.slice a n cap] w fun e w' => e = .returned (.slice a (tlen B n) cap) ∧ w' = w := by
  go_enter Try.func22, Try.ntmps22
  go_wp2
  go_loop [3] (fun i => ∃ k : Nat, k ≤ n ∧ i = .int .i64 k ∧ tlen B k = tlen B n) (fun i => (intOf i).toNat)
  case atStart => exact ⟨n, Nat.le_refl _, rfl, rfl⟩
  case round =>
    obtain ⟨k, hk, rfl, ht⟩ := hrel
    have HT : Hid (tlen B k = tlen B n) := ht
    clear ht
    by_cases hlt : 0 < k
    · obtain ⟨rfl, hc⟩ := hX (k - 1) (by omega)
      cases hB : B (k - 1)
      · rw [hB] at hc
        have HB : Hid (B (k - 1) = false) := hB
        clear hB
        go_wp2
        go_round
        case rel => exact ⟨k - 1, by omega, by go_num, (tlen_false hlt HB.out).trans HT.out⟩
        case measure => simp [intOf]; omega
      · rw [hB] at hc
        have HB : Hid (B (k - 1) = true) := hB
        clear hB
        go_wp2
        go_ret
        exact ⟨ret_slice ((tlen_true hlt HB.out).symm.trans HT.out), rfl⟩
    · have e : k = 0 := by omega
      subst e
      go_wp2
      go_ret
      exact ⟨ret_slice HT.out, rfl⟩

set_option maxHeartbeats 800000 in
set_option maxRecDepth 100000 in
/-- (*nat).trim: the receiver's own cell (block c) is turned; nothing else. -/
theorem trim_any (c : Nat) (a : Option Addr) (b off n cap : Nat) (X : Nat → Nat) (w : World) (hn : n ≤ 281474976710656) (hnc : n ≤ cap)
    (hc0 : w.cell? ⟨c, 0, none⟩ = some (.slice a n cap)) (hf0 : w.frozen? ⟨c, 0, none⟩ = false) (hX : Limbs w a b off n X) :
    Calls Try.prog 23 #[.pointer (some ⟨c, 0, none⟩)] w fun e w' => e = .returned (.tuple #[]) ∧ w' = w.setCell ⟨c, 0, none⟩ (.slice a (tlen (nz X) n) cap) := by
  go_enter Try.func23, Try.ntmps23
  go_wp2
  go_loop [2] (fun i => ∃ k : Nat, k ≤ n ∧ i = .int .i64 k ∧ tlen (nz X) k = tlen (nz X) n) (fun i => (intOf i).toNat)
  case atStart => exact ⟨n, Nat.le_refl _, rfl, rfl⟩
  case round =>
    obtain ⟨k, hk, rfl, ht⟩ := hrel
    have HT : Hid (tlen (nz X) k = tlen (nz X) n) := ht
    clear ht
    by_cases hlt : 0 < k
    · obtain ⟨rfl, hc⟩ := hX (k - 1) (by omega)
      by_cases hB : X (k - 1) = 0
      · rw [hB] at hc
        have HB : Hid (nz X (k - 1) = false) := by simp [Hid, nz, hB]
        clear hB
        go_wp2
        go_round
        case rel => exact ⟨k - 1, by omega, by go_num, (tlen_false hlt HB.out).trans HT.out⟩
        case measure => simp [intOf]; omega
      · have HB : Hid (nz X (k - 1) = true) := by simp [Hid, nz, hB]
        have hne : ((X (k - 1) : Int) == 0) = false := by simp; omega
        clear hB
        go_wp2
        go_end0
        exact ⟨rfl, by rw [← HT.out, tlen_true hlt HB.out]⟩
    · have e : k = 0 := by omega
      subst e
      go_wp2
      go_end0
      exact ⟨rfl, by rw [← HT.out]; rfl⟩

set_option maxHeartbeats 800000 in
set_option maxRecDepth 100000 in
theorem readOnly_any (a : Option Addr) (b off n cap : Nat) (X : Nat → Nat) (w : World) (hn : n ≤ 281474976710656) (hnc : n ≤ cap) (hX : Limbs w a b off n X) :
    Calls Try.prog 16 #[.slice a n cap] w fun e w' => e = .returned (.slice a (tlen (nz X) n) cap) ∧ w.Since w.heap.size w' := by
  go_enter Try.func16, Try.ntmps16
  go_wp2_with fail
  refine (trim_any w.heap.size a b off n cap X _ hn hnc (by simp [go_sem]) (by simp [go_sem]) (hX.keep ((World.Since.refl _ _).alloc (Nat.le_refl _) _))).mono ?_
  rintro e w1 ⟨rfl, rfl⟩
  go_wp2
  go_ret
  exact ⟨rfl, (World.Since.refl _ _).alloc (Nat.le_refl _) _⟩

end Go.Proofs.Ytigggjcnnlidgaa
