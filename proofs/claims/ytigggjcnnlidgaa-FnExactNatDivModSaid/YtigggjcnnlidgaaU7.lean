import Derived.Test.YtigggjcnnlidgaaU2
import Derived.Test.YtigggjcnnlidgaaMath5
namespace Go.Proofs.Ytigggjcnnlidgaa
open Go.RowKit

theorem and_low (m : Nat) (h : m < 18446744073709551616) : bits .and .u64 (m : Int) 4294967295 = ((m % 4294967296 : Nat) : Int) := by
  have := u64_and_nat m 4294967295 h (by omega)
  rw [show (4294967295 : Nat) = 2 ^ 32 - 1 by rfl, Nat.and_two_pow_sub_one_eq_mod] at this
  exact this

theorem sub_wrap (x lo : Nat) (hx : x < 4294967296) (hl : lo < 4294967296) (h : x < lo) : IntKind.u64.wrap ((x : Int) - (lo : Int)) = ((18446744073709551616 + x - lo : Nat) : Int) := by
  rw [IntKind.wrap_u64]; omega

theorem ret_bool {a b : Bool} (h : a = b) : Ending.returned (.bool a) = .returned (.bool b) := by rw [h]

set_option maxHeartbeats 3200000 in
set_option maxRecDepth 100000 in
theorem takeTimes_any (c o b nn cap b' dl cap' g p : Nat) (W Y : Nat → Nat) (w : World) (hnn : nn ≤ 16777216) (hg : g ≤ 4294967295) (hat : p + dl < nn)
    (hc0 : w.cell? ⟨c, o, none⟩ = some (.slice (some ⟨b, 0, none⟩) nn cap)) (hf : ∀ o, w.frozen? ⟨b, o, none⟩ = false) (hcb : c ≠ b) (hbb : b' ≠ b)
    (hW : Limbs w (some ⟨b, 0, none⟩) b 0 nn W) (hY : Limbs w (some ⟨b', 0, none⟩) b' 0 dl Y) (hWl : ∀ k, W k < 4294967296) (hYl : ∀ j, j < dl → Y j < 4294967296) :
    Calls Try.prog 34 #[.pointer (some ⟨c, o, none⟩), .slice (some ⟨b', 0, none⟩) dl cap', .int .u32 g, .int .i64 p] w fun e w' => ∃ (W' : Nat → Nat) (bo : Bool), e = .returned (.bool bo) ∧ Marked w w' b ∧ Limbs w' (some ⟨b, 0, none⟩) b 0 nn W' ∧
      lv (fun t => W' (p + t)) (dl + 1) + g * lv Y dl = lv (fun t => W (p + t)) (dl + 1) + bo.toNat * 2 ^ (32 * (dl + 1)) ∧ (∀ k, k < p ∨ p + dl + 1 ≤ k → W' k = W k) ∧ ∀ k, W' k < 4294967296 := by
  have HY := hide hYl
  have HW := hide hWl
  clear hYl hWl
  go_enter Try.func34, Try.ntmps34
  go_wp2
  go_loopw [9, 17] (fun q t wr => ∃ (i ow : Nat) (V : Nat → Nat), i ≤ dl ∧ t = .int .i64 i ∧ q = .int .u64 ow ∧ ow ≤ 4294967295 ∧ Marked w wr b ∧ Limbs wr (some ⟨b, 0, none⟩) b 0 nn V ∧ Hid (TakeRel W V Y g p i ow)) (fun _ t _ => dl - (intOf t).toNat)
  case atStart => exact ⟨0, 0, W, Nat.zero_le _, rfl, rfl, by omega, Marked.refl _ _, hW, take_start HW.out Y g p⟩
  case round =>
    obtain ⟨i, ow, V, hi, rfl, rfl, how, hs, hV, HR⟩ := hrel
    have q0 : wr.cell? ⟨c, o, none⟩ = some (.slice (some ⟨b, 0, none⟩) nn cap) := by rw [hs.cell (a := ⟨c, o, none⟩) hcb]; exact hc0
    by_cases hlt : i < dl
    · have g0 : wr.cell? ⟨b', i, none⟩ = some (.int .u32 (Y i)) := by rw [hs.cell (a := ⟨b', i, none⟩) hbb]; simpa using (hY i hlt).2
      have g1 : wr.cell? ⟨b, p + i, none⟩ = some (.int .u32 (V (p + i))) := by simpa using (hV (p + i) (by omega)).2
      have g2 : wr.frozen? ⟨b, p + i, none⟩ = false := by rw [hs.frozen]; exact hf _
      have hy := HY.out i hlt
      have hx := HR.out.2.2.2 (p + i)
      obtain ⟨hml, hst⟩ := take_step HR.out hg hy rfl rfl
      have HS := hide hst
      clear hst
      obtain ⟨y, ey⟩ : ∃ y, y = Y i := ⟨_, rfl⟩
      obtain ⟨x, ex⟩ : ∃ y, y = V (p + i) := ⟨_, rfl⟩
      rw [← ey] at g0 hy hml HS
      rw [← ex] at g1 hx HS
      clear ey ex
      obtain ⟨m, em⟩ : ∃ m, m = g * y + ow := ⟨_, rfl⟩
      rw [← em] at hml HS
      have mi : (g : Int) * (y : Int) + (ow : Int) = (m : Int) := by rw [em]; simp
      have mi0 : (0 : Int) ≤ (g : Int) * (y : Int) := by rw [← Int.natCast_mul]; omega
      have hml2 : (m : Int) ≤ 18446744073709551615 := by omega
      have han := and_low m hml
      obtain ⟨lo, elo⟩ : ∃ lo, lo = m % 4294967296 := ⟨_, rfl⟩
      rw [← elo] at han HS
      have hlo : lo < 4294967296 := by omega
      clear em elo
      by_cases hb : x < lo
      · have hsw := sub_wrap x lo hx hlo hb
        obtain ⟨dd, edd⟩ : ∃ dd, dd = 18446744073709551616 + x - lo := ⟨_, rfl⟩
        rw [← edd] at hsw
        have hdd : dd ≤ 18446744073709551615 := by omega
        have HE := hide edd
        clear edd
        go_wp2
        go_roundw
        case rel =>
          go_light
          have HS := HS.out
          rw [if_pos hb] at HS
          rw [show (dd : Int) % 4294967296 = (((x + 4294967296 - lo) % 4294967296 : Nat) : Int) from by have := HE.out; omega]
          exact ⟨i + 1, m / 4294967296 + 1, _, by omega, by go_num, congrArg (Value.int .u64) (by have := HE.out; omega), HS.2.1, hs.setCell _ _, hV.put _, HS⟩
        case measure => simp [intOf]; omega
      · go_wp2
        go_roundw
        case rel =>
          go_light
          have HS := HS.out
          rw [if_neg hb] at HS
          rw [show (x : Int) - (lo : Int) = (((x + 4294967296 - lo) % 4294967296 : Nat) : Int) from by omega]
          exact ⟨i + 1, m / 4294967296 + 0, _, by omega, by go_num, congrArg (Value.int .u64) (by omega), HS.2.1, hs.setCell _ _, hV.put _, HS⟩
        case measure => simp [intOf]; omega
    · have e : i = dl := by omega
      subst e
      have g1 : wr.cell? ⟨b, p + i, none⟩ = some (.int .u32 (V (p + i))) := by simpa using (hV (p + i) (by omega)).2
      have g2 : wr.frozen? ⟨b, p + i, none⟩ = false := by rw [hs.frozen]; exact hf _
      have hx := HR.out.2.2.2 (p + i)
      have HS := hide (take_end HR.out rfl)
      obtain ⟨x, ex⟩ : ∃ y, y = V (p + i) := ⟨_, rfl⟩
      rw [← ex] at g1 hx HS
      clear ex
      by_cases hb : x < ow
      · have hsw := sub_wrap x ow hx (by omega) hb
        obtain ⟨dd, edd⟩ : ∃ dd, dd = 18446744073709551616 + x - ow := ⟨_, rfl⟩
        rw [← edd] at hsw
        have hdd : dd ≤ 18446744073709551615 := by omega
        have hdg : 9223372036854775808 ≤ dd := by omega
        have HE := hide edd
        clear edd
        go_wp2
        go_ret
        go_light
        have HS := HS.out
        rw [if_pos hb] at HS
        rw [show (dd : Int) % 4294967296 = (((x + 4294967296 - ow) % 4294967296 : Nat) : Int) from by have := HE.out; omega]
        refine ⟨_, true, ?_, hs.setCell _ _, hV.put _, HS.1, HS.2.1, HS.2.2⟩
        exact ret_bool (by simp only [bne_iff_ne]; omega)
      · go_wp2
        go_ret
        go_light
        have HS := HS.out
        rw [if_neg hb] at HS
        rw [show (x : Int) - (ow : Int) = (((x + 4294967296 - ow) % 4294967296 : Nat) : Int) from by omega]
        refine ⟨_, false, ?_, hs.setCell _ _, hV.put _, HS.1, HS.2.1, HS.2.2⟩
        exact ret_bool (by simp only [bne_eq_false_iff_eq]; omega)

set_option maxHeartbeats 3200000 in
set_option maxRecDepth 100000 in
theorem giveBack_any (c o b nn cap b' dl cap' p : Nat) (W Y : Nat → Nat) (w : World) (hnn : nn ≤ 16777216) (hat : p + dl < nn)
    (hc0 : w.cell? ⟨c, o, none⟩ = some (.slice (some ⟨b, 0, none⟩) nn cap)) (hf : ∀ o, w.frozen? ⟨b, o, none⟩ = false) (hcb : c ≠ b) (hbb : b' ≠ b)
    (hW : Limbs w (some ⟨b, 0, none⟩) b 0 nn W) (hY : Limbs w (some ⟨b', 0, none⟩) b' 0 dl Y) (hWl : ∀ k, W k < 4294967296) (hYl : ∀ j, j < dl → Y j < 4294967296) :
    Calls Try.prog 35 #[.pointer (some ⟨c, o, none⟩), .slice (some ⟨b', 0, none⟩) dl cap', .int .i64 p] w fun e w' => ∃ (W' : Nat → Nat) (cy : Nat), e = .returned (.tuple #[]) ∧ Marked w w' b ∧ Limbs w' (some ⟨b, 0, none⟩) b 0 nn W' ∧
      lv (fun t => W' (p + t)) (dl + 1) + cy * 2 ^ (32 * (dl + 1)) = lv (fun t => W (p + t)) (dl + 1) + lv Y dl ∧ (∀ k, k < p ∨ p + dl + 1 ≤ k → W' k = W k) ∧ (∀ k, W' k < 4294967296) ∧ cy ≤ 1 := by
  have HY := hide hYl
  have HW := hide hWl
  clear hYl hWl
  go_enter Try.func35, Try.ntmps35
  go_wp2
  go_loopw [6, 12] (fun q t wr => ∃ (i cy : Nat) (V : Nat → Nat), i ≤ dl ∧ t = .int .i64 i ∧ q = .int .u64 cy ∧ cy ≤ 1 ∧ Marked w wr b ∧ Limbs wr (some ⟨b, 0, none⟩) b 0 nn V ∧ Hid (GiveRel W V Y p i cy)) (fun _ t _ => dl - (intOf t).toNat)
  case atStart => exact ⟨0, 0, W, Nat.zero_le _, rfl, rfl, by omega, Marked.refl _ _, hW, give_start HW.out Y p⟩
  case round =>
    obtain ⟨i, cy, V, hi, rfl, rfl, how, hs, hV, HR⟩ := hrel
    have q0 : wr.cell? ⟨c, o, none⟩ = some (.slice (some ⟨b, 0, none⟩) nn cap) := by rw [hs.cell (a := ⟨c, o, none⟩) hcb]; exact hc0
    by_cases hlt : i < dl
    · have g0 : wr.cell? ⟨b', i, none⟩ = some (.int .u32 (Y i)) := by rw [hs.cell (a := ⟨b', i, none⟩) hbb]; simpa using (hY i hlt).2
      have g1 : wr.cell? ⟨b, p + i, none⟩ = some (.int .u32 (V (p + i))) := by simpa using (hV (p + i) (by omega)).2
      have g2 : wr.frozen? ⟨b, p + i, none⟩ = false := by rw [hs.frozen]; exact hf _
      have hy := HY.out i hlt
      have hx := HR.out.2.2.2 (p + i)
      have HS := hide (give_step HR.out hy rfl rfl)
      obtain ⟨y, ey⟩ : ∃ y, y = Y i := ⟨_, rfl⟩
      obtain ⟨x, ex⟩ : ∃ y, y = V (p + i) := ⟨_, rfl⟩
      rw [← ey] at g0 hy HS
      rw [← ex] at g1 hx HS
      clear ey ex
      go_wp2
      go_roundw
      case rel =>
        go_light
        have HS := HS.out
        rw [show ((x : Int) + (y : Int) + (cy : Int)) % 4294967296 = (((x + y + cy) % 4294967296 : Nat) : Int) from by omega]
        exact ⟨i + 1, (x + y + cy) / 4294967296, _, by omega, by go_num, congrArg (Value.int .u64) (by omega), HS.2.1, hs.setCell _ _, hV.put _, HS⟩
      case measure => simp [intOf]; omega
    · have e : i = dl := by omega
      subst e
      have g1 : wr.cell? ⟨b, p + i, none⟩ = some (.int .u32 (V (p + i))) := by simpa using (hV (p + i) (by omega)).2
      have g2 : wr.frozen? ⟨b, p + i, none⟩ = false := by rw [hs.frozen]; exact hf _
      have hx := HR.out.2.2.2 (p + i)
      have HS := hide (give_end HR.out rfl)
      obtain ⟨x, ex⟩ : ∃ y, y = V (p + i) := ⟨_, rfl⟩
      rw [← ex] at g1 hx HS
      clear ex
      go_wp2
      go_end0
      go_light
      have HS := HS.out
      rw [show ((x : Int) + (cy : Int)) % 4294967296 = (((x + cy) % 4294967296 : Nat) : Int) from by omega]
      exact ⟨_, (x + cy) / 4294967296, rfl, hs.setCell _ _, hV.put _, HS.1, HS.2.1, HS.2.2.1, HS.2.2.2⟩

end Go.Proofs.Ytigggjcnnlidgaa
