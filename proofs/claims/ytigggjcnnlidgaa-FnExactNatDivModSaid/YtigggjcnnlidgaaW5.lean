import Derived.Test.YtigggjcnnlidgaaW4
namespace Go.Proofs.Ytigggjcnnlidgaa
open Go.RowKit

theorem add_close {w wr : World} {O0 O A : Nat → Bool} {n L j i : Nat} {x y cb : Bool} (s c' : Bool) (hs : w.Since w.heap.size wr) (hr : wr.rowIs w.heap.size 4 L (fun k => .bool (O k))) (HR : AddRel O0 O A n j i cb)
    (hx : O (j + i) = x) (hy : ext A n i = y) (es : s = ((x != y) != cb)) (ec : c' = ((x && y) || (x && cb) || (y && cb))) :
    ∃ O', w.Since w.heap.size (wr.setCell ⟨w.heap.size, j + i, none⟩ (.bool s)) ∧ (wr.setCell ⟨w.heap.size, j + i, none⟩ (.bool s)).rowIs w.heap.size 4 L (fun k => .bool (O' k)) ∧ AddRel O0 O' A n j (i + 1) c' := by
  subst es ec
  refine ⟨_, hs.setCell (Nat.le_refl _) _, (hr.set (j + i) _).congr (fun k _ => ?_), addRel_step HR hx hy⟩
  by_cases e : k = j + i
  · simp [e]
  · simp [e]

set_option maxHeartbeats 3200000 in
set_option maxRecDepth 100000 in
theorem l1MulBits_any (a a' : Option Addr) (b off n cap b' off' m cap' : Nat) (A B : Nat → Bool) (w : World) (hn : n ≤ 134217728) (hm : m ≤ 134217728) (hA : Bits w a b off n A) (hB : Bits w a' b' off' m B) :
    Calls Try.prog 14 #[.slice a n cap, .slice a' m cap'] w fun e w' => ∃ g t cap'' O, e = .returned (.slice (some ⟨g, 0, none⟩) t cap'') ∧ t ≤ cap'' ∧ t ≤ n + m ∧ Bits w' (some ⟨g, 0, none⟩) g 0 t O ∧ w.heap.size ≤ g ∧
      (0 < t → O (t - 1) = true) ∧ bv O t = bv A n * bv B m ∧ w.Since w.heap.size w' := by
  have hmk := run_make_row' (P := Try.prog) 30 4 (.bool false) 1 Try.underlying30 Try.info4 rfl .i64 .i64 (n + m) (by omega) (by omega)
  rw [Int.natCast_add] at hmk
  go_enter Try.func14, Try.ntmps14
  go_wp2
  clear hmk
  go_loopw [6] (fun q wr => ∃ j : Nat, j ≤ m ∧ q = .int .i64 j ∧ w.Since w.heap.size wr ∧ ∃ O, wr.rowIs w.heap.size 4 (n + m) (fun k => .bool (O k)) ∧ bv O (n + m) = bv A n * bv B j) (fun q _ => m - (intOf q).toNat)
  case atStart =>
    exact ⟨0, Nat.zero_le _, rfl, (World.Since.refl _ _).alloc (Nat.le_refl _) _, fun _ => false, World.rowIs_made w _ _ _, by rw [bv_more (fun _ => false) 0 (n + m) (by omega) (fun _ _ _ => rfl)]; simp [bv]⟩
  case round =>
    obtain ⟨j, hj, rfl, hs, O0, hr0, h0⟩ := hrel
    have H0 : Hid (bv O0 (n + m) = bv A n * bv B j) := h0
    clear h0
    by_cases hlt : j < m
    · obtain ⟨rfl, hc⟩ := hB j hlt
      have g0 : wr.cell? ⟨b', off' + j, none⟩ = some (.bool (B j)) := by rw [hs.cell (a := ⟨b', off' + j, none⟩) (hB.lt (by omega))]; exact hc
      clear hc
      cases hbj : B j
      · rw [hbj] at g0
        have HB : Hid (B j = false) := hbj
        clear hbj
        go_wp2
        go_roundw
        case rel => exact ⟨j + 1, by omega, by go_num, hs, O0, hr0, mul_skip H0.out HB.out⟩
        case measure => simp [intOf]; omega
      · rw [hbj] at g0
        have HB : Hid (B j = true) := hbj
        clear hbj
        go_wp2
        clear g0
        go_loopw [7, 8] (fun c t wr' => ∃ (i : Nat) (cb : Bool) (O : Nat → Bool), j + i ≤ n + m ∧ t = .int .i64 i ∧ c = .bool cb ∧ w.Since w.heap.size wr' ∧ wr'.rowIs w.heap.size 4 (n + m) (fun k => .bool (O k)) ∧ AddRel O0 O A n j i cb) (fun _ t _ => n + m - (intOf t).toNat)
        case atStart => exact ⟨0, false, O0, by omega, rfl, rfl, hs, hr0, addRel_start O0 A n j⟩
        case round =>
          clear hr0 hs
          obtain ⟨i, cb, O, hi, rfl, rfl, hs, hr, hR⟩ := hrel
          have HR : Hid (AddRel O0 O A n j i cb) := hR
          clear hR
          by_cases hlt2 : j + i < n + m
          · have g1 := hr.cell hlt2
            have g2 := hr.frozen (j + i)
            obtain ⟨x, hx⟩ : ∃ x, x = O (j + i) := ⟨_, rfl⟩
            rw [← hx] at g1
            have HX : Hid (O (j + i) = x) := hx.symm
            clear hx
            by_cases hin : i < n
            · obtain ⟨rfl, hc⟩ := hA i hin
              have g3 : wr.cell? ⟨b, off + i, none⟩ = some (.bool (A i)) := by rw [hs.cell (a := ⟨b, off + i, none⟩) (hA.lt (by omega))]; exact hc
              obtain ⟨y, hy⟩ : ∃ y, y = A i := ⟨_, rfl⟩
              rw [← hy] at g3
              have HY : Hid (ext A n i = y) := by simp [Hid, ext, hin, hy]
              clear hy hc
              cases x <;> cases y <;> cases cb
              all_goals
                go_wp2
                go_roundw
                case rel =>
                  go_light
                  obtain ⟨O', k1, k2, k3⟩ := add_close _ _ hs hr HR.out HX.out HY.out rfl rfl
                  exact ⟨i + 1, _, O', by omega, by go_num, rfl, k1, k2, k3⟩
                case measure => go_light; simp [intOf]; omega
            · have HY : Hid (ext A n i = false) := by simp [Hid, ext, hin]
              cases x <;> cases cb
              all_goals
                go_wp2
                go_roundw
                case rel =>
                  go_light
                  obtain ⟨O', k1, k2, k3⟩ := add_close _ _ hs hr HR.out HX.out HY.out rfl rfl
                  exact ⟨i + 1, _, O', by omega, by go_num, rfl, k1, k2, k3⟩
                case measure => go_light; simp [intOf]; omega
          · have e : j + i = n + m := by omega
            go_wp2
            go_roundw
            case rel => exact ⟨j + 1, by omega, by go_num, hs, O, hr, addRel_end HR.out e hlt H0.out HB.out⟩
            case measure => simp [intOf]; omega
    · have e : j = m := by omega
      subst e
      go_wp2_with fail
      refine (l1Trim_any _ w.heap.size 0 (n + j) _ O0 _ (by omega) (Nat.le_refl _) (bits_row hr0)).mono ?_
      rintro e w1 ⟨rfl, rfl⟩
      go_wp2
      go_ret
      have htl := tlen_le O0 (n + j)
      exact ⟨w.heap.size, _, _, O0, rfl, htl, htl, (bits_row hr0).take htl, Nat.le_refl _, fun h => tlen_top _ _ h, (bv_tlen _ _).trans H0.out, hs⟩

end Go.Proofs.Ytigggjcnnlidgaa
