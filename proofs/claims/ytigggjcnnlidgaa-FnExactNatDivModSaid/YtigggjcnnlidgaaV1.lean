import Derived.Test.YtigggjcnnlidgaaW6
import Derived.Test.YtigggjcnnlidgaaMath2
namespace Go.Proofs.Ytigggjcnnlidgaa
open Go.RowKit

set_option maxHeartbeats 1600000 in
set_option maxRecDepth 100000 in
/-- l1CmpBits on two trimmed lists. -/
theorem l1CmpBits_any (a a' : Option Addr) (b off n cap b' off' m cap' : Nat) (A B : Nat → Bool) (w : World) (hn : n ≤ 281474976710656) (hm : m ≤ 281474976710656) (hA : Bits w a b off n A) (hB : Bits w a' b' off' m B)
    (tA : 0 < n → A (n - 1) = true) (tB : 0 < m → B (m - 1) = true) :
    Calls Try.prog 24 #[.slice a n cap, .slice a' m cap'] w fun e w' => e = .returned (.int .i64 (cmpN (bv A n) (bv B m))) ∧ Same w w' := by
  by_cases h1 : n < m
  · rw [cmpN_lt (bv_short h1 tB)]
    clear tA tB
    go_enter Try.func24, Try.ntmps24
    go_wp2
    go_ret
    exact ⟨rfl, Same.refl _⟩
  by_cases h2 : m < n
  · rw [cmpN_gt (bv_short h2 tA)]
    clear tA tB
    go_enter Try.func24, Try.ntmps24
    go_wp2
    go_ret
    exact ⟨rfl, Same.refl _⟩
  have e : m = n := by omega
  subst e
  clear tA tB h1 h2
  go_enter Try.func24, Try.ntmps24
  go_wp2
  go_loopw [5] (fun t wr => ∃ (k : Nat) (z : Int), k ≤ m ∧ t = .int .i64 z ∧ Hid (z = k - 1) ∧ Same w wr ∧ Hid (∀ j, k ≤ j → j < m → A j = B j)) (fun t _ => (intOf t + 1).toNat)
  case atStart => exact ⟨m, (m : Int) - 1, Nat.le_refl _, rfl, rfl, Same.refl _, fun j h1 h2 => absurd h2 (by omega)⟩
  case round =>
    obtain ⟨k, z, hk, rfl, HZ, hs, HE⟩ := hrel
    by_cases hz : 0 ≤ z
    · obtain ⟨i, rfl⟩ := Int.eq_ofNat_of_zero_le hz
      have hki : k = i + 1 := by have := HZ.out; omega
      subst hki
      clear HZ
      obtain ⟨rfl, hc⟩ := hA i (by omega)
      obtain ⟨rfl, hc'⟩ := hB i (by omega)
      have g0 : wr.cell? ⟨b, off + i, none⟩ = some (.bool (A i)) := by rw [hs.cell]; exact hc
      have g1 : wr.cell? ⟨b', off' + i, none⟩ = some (.bool (B i)) := by rw [hs.cell]; exact hc'
      have hzi : (i : Int) < (m : Int) := by omega
      clear hc hc'
      by_cases hab : A i = B i
      · have HAB : Hid (A i = B i) := hab
        rw [hab] at g0
        clear hab
        go_wp2
        go_quiet (fail)
        go_wp2
        go_roundw
        case rel =>
          refine ⟨i, (i : Int) - 1, by omega, rfl, rfl, hs.drewN _, fun j h1 h2 => ?_⟩
          by_cases e : j = i
          · subst e; exact HAB.out
          · exact HE.out j (by omega) h2
        case measure => simp [intOf]
      · cases hb : B i
        · have ha : A i = true := by cases h : A i <;> simp_all
          have HC : Hid (cmpN (bv A m) (bv B m) = 1) := cmpN_gt (bv_top (i := i) (by omega) (fun j h1 h2 => (HE.out j (by omega) h2).symm) hb ha)
          rw [ha] at g0
          rw [hb] at g1
          clear hb ha hab
          go_wp2
          go_quiet (fail)
          go_wp2
          go_ret
          exact ⟨ret_int HC.out.symm, hs.drewN _⟩
        · have ha : A i = false := by cases h : A i <;> simp_all
          have HC : Hid (cmpN (bv A m) (bv B m) = -1) := cmpN_lt (bv_top (i := i) (by omega) (fun j h1 h2 => (HE.out j (by omega) h2)) ha hb)
          rw [ha] at g0
          rw [hb] at g1
          clear hb ha hab
          go_wp2
          go_quiet (fail)
          go_wp2
          go_ret
          exact ⟨ret_int HC.out.symm, hs.drewN _⟩
    · have hk0 : k = 0 := by have := HZ.out; omega
      subst hk0
      have HC : Hid (cmpN (bv A m) (bv B m) = 0) := cmpN_eq (bv_congr (fun j hj => HE.out j (by omega) hj))
      go_wp2
      go_ret
      exact ⟨ret_int HC.out.symm, hs⟩

end Go.Proofs.Ytigggjcnnlidgaa
