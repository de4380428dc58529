import Derived.Test.YtickondjmilehabDoorG2
import Derived.Test.YtickondjmilehabDoorU9
namespace Go.Proofs.YtickondjmilehabDoor
open Go.RowKit

def extL (Y : Nat → Nat) (m : Nat) : Nat → Nat := fun j => if j < m then Y j else 0

theorem lv_extL (Y : Nat → Nat) (m n : Nat) (h : m ≤ n) : lv (extL Y m) n = lv Y m := by
  rw [lv_more (extL Y m) m n h (fun j h1 _ => by simp [extL]; omega)]
  exact lv_congr (fun j hj => by simp [extL, hj])

def SubL (X V Y : Nat → Nat) (m i c : Nat) : Prop := lv V i + lv (extL Y m) i = lv X i + c * 2 ^ (32 * i) ∧ c ≤ 1 ∧ (∀ k, i ≤ k → V k = X k) ∧ ∀ k, k < i → V k < 4294967296

theorem subL_step {X V Y : Nat → Nat} {m i c s c' x y : Nat} (h : SubL X V Y m i c) (hx : V i = x) (hy : extL Y m i = y) (hs : s < 4294967296) (hc : c' ≤ 1) (e : s + y + c = x + c' * 4294967296) : SubL X (upd V i s) Y m (i + 1) c' := by
  obtain ⟨h1, h2, h3, h4⟩ := h
  have hx0 : X i = x := by rw [← hx]; exact (h3 i (Nat.le_refl _)).symm
  refine ⟨?_, hc, fun k hk => by rw [upd_other _ _ _ _ (by omega)]; exact h3 k (by omega), fun k hk => ?_⟩
  · simp only [lv, upd_same, lv_upd V i s i (Nat.le_refl _), hx0, hy]
    rw [pow32]
    generalize 2 ^ (32 * i) = P at *
    have e2 : s * P + y * P + c * P = x * P + c' * (4294967296 * P) := by rw [← Nat.mul_assoc, ← Nat.add_mul, ← Nat.add_mul, ← Nat.add_mul, e]
    omega
  · by_cases e2 : k = i
    · subst e2; rw [upd_same]; exact hs
    · rw [upd_other _ _ _ _ e2]; exact h4 k (by omega)

theorem subL_end {X V Y : Nat → Nat} {n m c : Nat} (h : SubL X V Y m n c) (hm : m ≤ n) (hle : lv Y m ≤ lv X n) : lv V n = lv X n - lv Y m := by
  obtain ⟨h1, h2, h3, h4⟩ := h
  rw [lv_extL Y m n hm] at h1
  have hc : c = 0 ∨ c = 1 := by omega
  rcases hc with rfl | rfl
  · omega
  · have := lv_lt V n (fun j hj => h4 j hj)
    omega

theorem Limbs.putI {w : World} {a : Option Addr} {b n i : Nat} {Q : Nat → Nat} (h : Limbs w a b 0 n Q) (v : Nat) (E : Int) (hE : E = (v : Int)) : Limbs (w.setCell ⟨b, i, none⟩ (.int .u32 E)) a b 0 n (upd Q i v) := by subst hE; exact h.put v

theorem wrap_neg1 : IntKind.u64.wrap (-1) = 18446744073709551615 := by rw [IntKind.wrap_u64]; rfl

set_option maxHeartbeats 3200000 in
set_option maxRecDepth 100000 in
theorem subtract_any (c o b n cap : Nat) (a' : Option Addr) (b' off' m cap' : Nat) (X Y : Nat → Nat) (w : World) (hn : n ≤ 16777216) (hnc : n ≤ cap) (hmn : m ≤ n) (hc0 : w.cell? ⟨c, o, none⟩ = some (.slice (some ⟨b, 0, none⟩) n cap)) (hf0 : w.frozen? ⟨c, o, none⟩ = false)
    (hf : ∀ x, w.frozen? ⟨b, x, none⟩ = false) (hcb : c ≠ b) (hbb : b' ≠ b) (hX : Limbs w (some ⟨b, 0, none⟩) b 0 n X) (hY : Limbs w a' b' off' m Y) (hXl : ∀ j, j < n → X j < 4294967296) (hYl : ∀ j, j < m → Y j < 4294967296) (hle : lv Y m ≤ lv X n) :
    Calls Tryd.prog 126 #[.pointer (some ⟨c, o, none⟩), .slice a' m cap'] w fun e w' => e = .returned (.tuple #[]) ∧ ∃ w2 V, Marked w w2 b ∧ Limbs w2 (some ⟨b, 0, none⟩) b 0 n V ∧ (∀ j, j < n → V j < 4294967296) ∧ lv V n = lv X n - lv Y m ∧
      w' = w2.setCell ⟨c, o, none⟩ (.slice (some ⟨b, 0, none⟩) (tlen (nz V) n) cap) := by
  have HXl := hide hXl
  have HYl := hide hYl
  have HL := hide hle
  clear hXl hYl hle
  go_enter Tryd.func126, Tryd.ntmps126
  go_wp2
  go_loopw [4, 12] (fun q t wr => ∃ (i cb : Nat) (V : Nat → Nat), i ≤ n ∧ t = .int .i64 i ∧ q = .int .u64 cb ∧ cb ≤ 1 ∧ Marked w wr b ∧ Limbs wr (some ⟨b, 0, none⟩) b 0 n V ∧ Hid (SubL X V Y m i cb)) (fun _ t _ => n - (intOf t).toNat)
  case atStart => exact ⟨0, 0, X, Nat.zero_le _, rfl, rfl, by omega, Marked.refl _ _, hX, ⟨by simp [lv], by omega, fun _ _ => rfl, fun k hk => absurd hk (by omega)⟩⟩
  case round =>
    obtain ⟨i, cb, V, hi, rfl, rfl, hcb1, hs, hV, HR⟩ := hrel
    have q0 : wr.cell? ⟨c, o, none⟩ = some (.slice (some ⟨b, 0, none⟩) n cap) := by rw [hs.cell (a := ⟨c, o, none⟩) hcb]; exact hc0
    by_cases hlt : i < n
    · have g1 : wr.cell? ⟨b, i, none⟩ = some (.int .u32 (V i)) := by simpa using (hV i hlt).2
      have g2 : wr.frozen? ⟨b, i, none⟩ = false := by rw [hs.frozen]; exact hf _
      have hxl : V i < 4294967296 := by rw [HR.out.2.2.1 i (Nat.le_refl _)]; exact HXl.out i hlt
      have STEP := hide (fun (s c' : Nat) (y : Nat) (hy : extL Y m i = y) => subL_step (s := s) (c' := c') HR.out rfl hy)
      obtain ⟨x, ex⟩ : ∃ y, y = V i := ⟨_, rfl⟩
      rw [← ex] at g1 hxl STEP
      clear ex
      have hin : (i : Int) < (n : Int) := by omega
      by_cases him : i < m
      · obtain ⟨rfl, ky⟩ := hY i him
        have g3 : wr.cell? ⟨b', off' + i, none⟩ = some (.int .u32 (Y i)) := by rw [hs.cell (a := ⟨b', off' + i, none⟩) hbb]; exact ky
        have hyl := HYl.out i him
        have HEy : Hid (extL Y m i = Y i) := by simp [Hid, extL, him]
        obtain ⟨y, ey⟩ : ∃ y, y = Y i := ⟨_, rfl⟩
        rw [← ey] at g3 hyl HEy
        clear ey ky
        have hc2 : cb = 0 ∨ cb = 1 := by omega
        rcases hc2 with rfl | rfl
        · by_cases hb : x < y
          · have hsw := sub_wrap x y hxl hyl hb
            obtain ⟨dd, edd⟩ : ∃ dd, dd = 18446744073709551616 + x - y := ⟨_, rfl⟩
            rw [← edd] at hsw
            have hdd : dd ≤ 18446744073709551615 := by omega
            have HE := hide edd
            clear edd
            go_wp2
            go_roundw
            case rel => go_light; exact ⟨i + 1, 1, _, by omega, by go_num, congrArg (Value.int .u64) (by have := HE.out; omega), by omega, hs.setCell _ _, hV.putI (x + 4294967296 - y) _ (by have := HE.out; omega), STEP.out _ _ y HEy.out (by omega) (by omega) (by omega)⟩
            case measure => simp [intOf]; omega
          · go_wp2
            go_roundw
            case rel => go_light; exact ⟨i + 1, 0, _, by omega, by go_num, congrArg (Value.int .u64) (by omega), by omega, hs.setCell _ _, hV.putI (x - y) _ (by omega), STEP.out _ _ y HEy.out (by omega) (by omega) (by omega)⟩
            case measure => simp [intOf]; omega
        · by_cases hx0 : x = 0
          · subst hx0
            have hw1 := wrap_neg1
            go_wp2
            go_roundw
            case rel => go_light; exact ⟨i + 1, 1, _, by omega, by go_num, congrArg (Value.int .u64) (by omega), by omega, hs.setCell _ _, hV.putI (4294967295 - y) _ (by omega), STEP.out _ _ y HEy.out (by omega) (by omega) (by omega)⟩
            case measure => simp [intOf]; omega
          · obtain ⟨x', rfl⟩ : ∃ x', x = x' + 1 := ⟨x - 1, by omega⟩
            have hpr : ((x' + 1 : Nat) : Int) - 1 = (x' : Int) := by omega
            by_cases hb : x' < y
            · have hsw := sub_wrap x' y (by omega) hyl hb
              obtain ⟨dd, edd⟩ : ∃ dd, dd = 18446744073709551616 + x' - y := ⟨_, rfl⟩
              rw [← edd] at hsw
              have hdd : dd ≤ 18446744073709551615 := by omega
              have HE := hide edd
              clear edd
              go_wp2
              go_roundw
              case rel => go_light; exact ⟨i + 1, 1, _, by omega, by go_num, congrArg (Value.int .u64) (by have := HE.out; omega), by omega, hs.setCell _ _, hV.putI (x' + 4294967296 - y) _ (by have := HE.out; omega), STEP.out _ _ y HEy.out (by omega) (by omega) (by omega)⟩
              case measure => simp [intOf]; omega
            · go_wp2
              go_roundw
              case rel => go_light; exact ⟨i + 1, 0, _, by omega, by go_num, congrArg (Value.int .u64) (by omega), by omega, hs.setCell _ _, hV.putI (x' - y) _ (by omega), STEP.out _ _ y HEy.out (by omega) (by omega) (by omega)⟩
              case measure => simp [intOf]; omega
      · have HEy : Hid (extL Y m i = 0) := by simp [Hid, extL, him]
        have hc2 : cb = 0 ∨ cb = 1 := by omega
        rcases hc2 with rfl | rfl
        · go_wp2
          go_roundw
          case rel => go_light; exact ⟨i + 1, 0, _, by omega, by go_num, congrArg (Value.int .u64) (by omega), by omega, hs.setCell _ _, hV.putI x _ (by omega), STEP.out _ _ 0 HEy.out (by omega) (by omega) (by omega)⟩
          case measure => simp [intOf]; omega
        · by_cases hx0 : x = 0
          · subst hx0
            have hw1 := wrap_neg1
            go_wp2
            go_roundw
            case rel => go_light; exact ⟨i + 1, 1, _, by omega, by go_num, congrArg (Value.int .u64) (by omega), by omega, hs.setCell _ _, hV.putI 4294967295 _ (by omega), STEP.out _ _ 0 HEy.out (by omega) (by omega) (by omega)⟩
            case measure => simp [intOf]; omega
          · go_wp2
            go_roundw
            case rel => go_light; exact ⟨i + 1, 0, _, by omega, by go_num, congrArg (Value.int .u64) (by omega), by omega, hs.setCell _ _, hV.putI (x - 1) _ (by omega), STEP.out _ _ 0 HEy.out (by omega) (by omega) (by omega)⟩
            case measure => simp [intOf]; omega
    · have e : i = n := by omega
      subst e
      have g3 : wr.frozen? ⟨c, o, none⟩ = false := by rw [hs.frozenO (a := ⟨c, o, none⟩) hcb]; exact hf0
      have HV := hide (subL_end HR.out hmn HL.out)
      go_wp2_with fail
      refine (trimAt_any c o _ b 0 i cap V _ (by omega) hnc q0 g3 hV).mono ?_
      rintro e w1 ⟨rfl, rfl⟩
      go_wp2
      go_end0
      exact ⟨rfl, wr, V, hs, hV, HR.out.2.2.2, HV.out, rfl⟩

end Go.Proofs.YtickondjmilehabDoor
