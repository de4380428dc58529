import Derived.Test.YtigggjcnnlidgaaBase
namespace Go.Proofs.Ytigggjcnnlidgaa
open Go.RowKit

set_option maxHeartbeats 800000 in
set_option maxRecDepth 100000 in
theorem to_any (a : Option Addr) (b off n cap : Nat) (X : Nat → Nat) (w : World) (hn : n ≤ 1048576) (hX : Limbs w a b off n X) :
    Calls Try.prog 6 #[.slice a n cap] w fun e w' => e = .returned (.slice (some ⟨w.heap.size, 0, none⟩) n n) ∧ w.Since w.heap.size w' ∧ w'.rowIs w.heap.size 33 n (fun j => .int .u32 (X j)) := by
  have hmk := run_make_row' (P := Try.prog) 22 33 (.int .u32 0) 4 Try.underlying22 Try.info33 rfl .i64 .i64 n (by omega) (by omega)
  go_enter Try.func6, Try.ntmps6
  go_wp2
  clear hmk
  go_loopw [4] (fun i wr => ∃ k : Nat, k ≤ n ∧ i = .int .i64 k ∧ w.Since w.heap.size wr ∧ wr.rowIs w.heap.size 33 n (fun j => .int .u32 (if j < k then X j else 0))) (fun i _ => n - (intOf i).toNat)
  case atStart =>
    exact ⟨0, Nat.zero_le _, rfl, (World.Since.refl _ _).alloc (Nat.le_refl _) _, (World.rowIs_made w _ n 33).congr (fun j _ => by simp)⟩
  case round =>
    obtain ⟨k, hk, rfl, hs, hr⟩ := hrel
    by_cases hlt : k < n
    · obtain ⟨rfl, hc⟩ := hX k hlt
      have hb : b < w.heap.size := World.block_lt_of_cell? _ _ hc
      have g0 : wr.cell? ⟨b, off + k, none⟩ = some (.int .u32 (X k)) := by rw [hs.cell (a := ⟨b, off + k, none⟩) hb]; exact hc
      have g1 := hr.cell hlt
      have g2 := hr.frozen k
      go_wp2
      go_roundw
      case rel =>
        refine ⟨k + 1, by omega, by go_num, hs.setCell (Nat.le_refl _) _, (hr.set k _).congr (fun j _ => ?_)⟩
        by_cases e : j = k
        · subst e; simp
        · simp only [e, if_false]
          by_cases e2 : j < k
          · rw [if_pos e2, if_pos (by omega)]
          · rw [if_neg e2, if_neg (by omega)]
      case measure => simp [intOf]; omega
    · have e : k = n := by omega
      subst e
      go_wp2
      go_ret
      exact ⟨rfl, hs, hr.congr (fun j hj => by simp [hj])⟩

end Go.Proofs.Ytigggjcnnlidgaa
