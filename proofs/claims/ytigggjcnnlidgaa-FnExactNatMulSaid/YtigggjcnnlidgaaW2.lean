import Derived.Test.YtigggjcnnlidgaaBase
namespace Go.Proofs.Ytigggjcnnlidgaa
open Go.RowKit

set_option maxHeartbeats 800000 in
set_option maxRecDepth 100000 in
theorem eq_true (a a' : Option Addr) (b off b' off' n cap cap' : Nat) (X : Nat → Nat) (w : World) (hn : n ≤ 4194304) (hX : Limbs w a b off n X) (hY : Limbs w a' b' off' n X) :
    Calls Try.prog 8 #[.slice a n cap, .slice a' n cap'] w fun e w' => e = .returned (.bool true) ∧ Same w w' := by
  go_enter Try.func8, Try.ntmps8
  go_wp2
  go_loopw [5] (fun i wr => ∃ k : Nat, k ≤ n ∧ i = .int .i64 k ∧ Same w wr) (fun i _ => n - (intOf i).toNat)
  case atStart => exact ⟨0, Nat.zero_le _, rfl, Same.refl _⟩
  case round =>
    obtain ⟨k, hk, rfl, hs⟩ := hrel
    by_cases hlt : k < n
    · obtain ⟨rfl, hc⟩ := hX k hlt
      obtain ⟨rfl, hc'⟩ := hY k hlt
      have g0 : wr.cell? ⟨b, off + k, none⟩ = some (.int .u32 (X k)) := by rw [hs.cell]; exact hc
      have g1 : wr.cell? ⟨b', off' + k, none⟩ = some (.int .u32 (X k)) := by rw [hs.cell]; exact hc'
      have hz : (k : Int) < (n : Int) := by omega
      go_wp2
      go_quiet (fail)
      go_wp2
      go_roundw
      case rel => exact ⟨k + 1, by omega, by go_num, hs.drewN _⟩
      case measure => simp [intOf]; omega
    · go_wp2
      go_ret
      exact ⟨rfl, hs⟩

set_option maxHeartbeats 800000 in
set_option maxRecDepth 100000 in
theorem mark_any (a : Option Addr) (b n cap : Nat) (X : Nat → Nat) (k0 : Nat) (w : World) (hn : n ≤ 4194304) (hk0 : k0 ≤ 16777216) (hX : Limbs w a b 0 n X) (hf : 0 < n → ∀ o, w.frozen? ⟨b, o, none⟩ = false) :
    Calls Try.prog 9 #[.slice a n cap, .int .i64 k0] w fun e w' => e = .returned (.int .i64 ((k0 + n : Nat) : Int)) ∧ Marked w w' b ∧ Limbs w' a b 0 n (fun j => k0 + j) := by
  go_enter Try.func9, Try.ntmps9
  go_wp2
  go_loopw [1, 5] (fun q i wr => ∃ k : Nat, k ≤ n ∧ i = .int .i64 k ∧ q = .int .i64 ((k0 + k : Nat) : Int) ∧ Marked w wr b ∧ Limbs wr a b 0 n (fun j => if j < k then k0 + j else X j)) (fun _ i _ => n - (intOf i).toNat)
  case atStart => exact ⟨0, Nat.zero_le _, rfl, rfl, Marked.refl _ _, fun j hj => by simpa using hX j hj⟩
  case round =>
    obtain ⟨k, hk, rfl, rfl, hs, hr⟩ := hrel
    by_cases hlt : k < n
    · obtain ⟨rfl, hc⟩ := hr k hlt
      have g0 : wr.cell? ⟨b, k, none⟩ = some (.int .u32 ((X k : Nat) : Int)) := by simpa using hc
      have g1 : wr.frozen? ⟨b, k, none⟩ = false := by rw [hs.frozen]; exact hf (by omega) k
      clear hc
      go_wp2
      go_roundw
      case rel =>
        refine ⟨k + 1, by omega, by go_num, by go_num, hs.setCell _ _, fun j hj => ⟨rfl, ?_⟩⟩
        go_light
        by_cases e : j = k
        · subst e
          rw [Nat.zero_add, World.cell?_setCell_same _ _ _ g0]
          simp
        · rw [World.cell?_setCell_other _ _ _ _ (fun h => by have := congrArg Addr.off h; simp at this; omega)]
          have := (hr j hj).2
          simp only [this]
          by_cases e2 : j < k
          · rw [if_pos e2, if_pos (by omega)]
          · rw [if_neg e2, if_neg (by omega)]
      case measure => simp [intOf]; omega
    · have e : k = n := by omega
      subst e
      go_wp2
      go_ret
      exact ⟨rfl, hs, fun j hj => by have := hr j hj; simpa [hj] using this⟩

set_option maxHeartbeats 800000 in
set_option maxRecDepth 100000 in
theorem held_any (a : Option Addr) (b off n cap : Nat) (k0 : Nat) (w : World) (hn : n ≤ 4194304) (hk0 : k0 ≤ 16777216) (hX : Limbs w a b off n (fun j => k0 + j)) :
    Calls Try.prog 10 #[.slice a n cap, .int .i64 k0] w fun e w' => e = .returned (.int .i64 ((k0 + n : Nat) : Int)) ∧ w' = w := by
  go_enter Try.func10, Try.ntmps10
  go_wp2
  go_loop [1, 5] (fun q i => ∃ k : Nat, k ≤ n ∧ i = .int .i64 k ∧ q = .int .i64 ((k0 + k : Nat) : Int)) (fun _ i => n - (intOf i).toNat)
  case atStart => exact ⟨0, Nat.zero_le _, rfl, rfl⟩
  case round =>
    obtain ⟨k, hk, rfl, rfl⟩ := hrel
    by_cases hlt : k < n
    · obtain ⟨rfl, hc⟩ := hX k hlt
      go_wp2
      go_round
      case rel => exact ⟨k + 1, by omega, by go_num, by go_num⟩
      case measure => simp [intOf]; omega
    · have e : k = n := by omega
      subst e
      go_wp2
      go_ret
      exact ⟨rfl, rfl⟩

end Go.Proofs.Ytigggjcnnlidgaa
