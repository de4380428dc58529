import Derived.Test.YtigggjcnnlidgaaU2
import Derived.Test.YtigggjcnnlidgaaMath5
namespace Go.Proofs.Ytigggjcnnlidgaa
open Go.RowKit

set_option maxHeartbeats 3200000 in
set_option maxRecDepth 100000 in
/-- The loop of guessDigit, and what stands behind it, by itself would need the frame; so the whole function at once. -/
theorem guess_any (c o b nn cap b' dl cap' p : Nat) (W Y : Nat → Nat) (w : World) (hnn : nn ≤ 16777216) (hdl : 2 ≤ dl) (hat : p + dl < nn)
    (hc0 : w.cell? ⟨c, o, none⟩ = some (.slice (some ⟨b, 0, none⟩) nn cap)) (hW : Limbs w (some ⟨b, 0, none⟩) b 0 nn W) (hY : Limbs w (some ⟨b', 0, none⟩) b' 0 dl Y)
    (hWl : ∀ k, W k < 4294967296) (hYl : ∀ j, j < dl → Y j < 4294967296) (hv : 2147483648 ≤ Y (dl - 1)) (hu : W (p + dl) ≤ Y (dl - 1)) :
    Calls Try.prog 33 #[.pointer (some ⟨c, o, none⟩), .slice (some ⟨b', 0, none⟩) dl cap', .int .i64 p] w fun e w' =>
      e = .returned (.int .u32 ((guess3 (W (p + dl)) (W (p + dl - 1)) (W (p + dl - 2)) (Y (dl - 1)) (Y (dl - 2)) : Nat) : Int)) ∧ Same w w' := by
  have k0 : w.cell? ⟨b, p + dl, none⟩ = some (.int .u32 (W (p + dl))) := by simpa using (hW (p + dl) (by omega)).2
  have k1 : w.cell? ⟨b, p + dl - 1, none⟩ = some (.int .u32 (W (p + dl - 1))) := by simpa using (hW (p + dl - 1) (by omega)).2
  have k2 : w.cell? ⟨b, p + dl - 2, none⟩ = some (.int .u32 (W (p + dl - 2))) := by simpa using (hW (p + dl - 2) (by omega)).2
  have k3 : w.cell? ⟨b', dl - 1, none⟩ = some (.int .u32 (Y (dl - 1))) := by simpa using (hY (dl - 1) (by omega)).2
  have k4 : w.cell? ⟨b', dl - 2, none⟩ = some (.int .u32 (Y (dl - 2))) := by simpa using (hY (dl - 2) (by omega)).2
  have l0 := hWl (p + dl)
  have l1 := hWl (p + dl - 1)
  have l2 := hWl (p + dl - 2)
  have l3 := hYl (dl - 1) (by omega)
  have l4 := hYl (dl - 2) (by omega)
  clear hWl hYl hW hY
  obtain ⟨u0, e0⟩ : ∃ x, x = W (p + dl) := ⟨_, rfl⟩
  obtain ⟨u1, e1⟩ : ∃ x, x = W (p + dl - 1) := ⟨_, rfl⟩
  obtain ⟨u2, e2⟩ : ∃ x, x = W (p + dl - 2) := ⟨_, rfl⟩
  obtain ⟨v1, e3⟩ : ∃ x, x = Y (dl - 1) := ⟨_, rfl⟩
  obtain ⟨v2, e4⟩ : ∃ x, x = Y (dl - 2) := ⟨_, rfl⟩
  rw [← e0] at k0 l0 hu ⊢
  rw [← e1] at k1 l1 ⊢
  rw [← e2] at k2 l2 ⊢
  rw [← e3] at k3 l3 hu hv ⊢
  rw [← e4] at k4 l4 ⊢
  clear e0 e1 e2 e3 e4
  have t1 : IntKind.u64.wrap (v1 : Int) = (v1 : Int) := wrap_u64_id v1 (by omega)
  have t2 : IntKind.u64.wrap (v2 : Int) = (v2 : Int) := wrap_u64_id v2 (by omega)
  have t3 : IntKind.u64.wrap (u0 : Int) = (u0 : Int) := wrap_u64_id u0 (by omega)
  have t4 : IntKind.u64.wrap (u1 : Int) = (u1 : Int) := wrap_u64_id u1 (by omega)
  have t5 := or64 u0 u1 l0 l1
  have t6 : IntKind.u64.wrap ((u0 : Int) * 4294967296) = (u0 : Int) * 4294967296 := by rw [IntKind.wrap_u64]; omega
  have d1 : (1 : Int) ≤ (dl : Int) := by omega
  go_enter Try.func33, Try.ntmps33
  go_wp2
  go_quiet (fail)
  go_wp2
  go_quiet (fail)
  go_wp2
  clear t5 t6 t3 t4 k0 k1 k3 k4
  obtain ⟨l, hl⟩ : ∃ l, l = u0 * 4294967296 + u1 := ⟨_, rfl⟩
  have hli : (u0 : Int) * 4294967296 + (u1 : Int) = (l : Int) := by omega
  have hll : l < 18446744073709551616 := by omega
  rw [hli]
  clear hli
  have HG0 := hide (guess_start (u0 := u0) (u1 := u1) (v2 := v2) (show 0 < v1 by omega) l2)
  rw [← hl] at HG0
  obtain ⟨g0, hg0⟩ : ∃ g, g = l / v1 := ⟨_, rfl⟩
  obtain ⟨r0, hr0⟩ : ∃ g, g = l % v1 := ⟨_, rfl⟩
  rw [← hg0, ← hr0] at HG0
  have hr0l : r0 ≤ 4294967295 := by have := Nat.mod_lt l (show 0 < v1 by omega); omega
  have hg0l : g0 < 18446744073709551616 := by rw [hg0]; exact Nat.lt_of_le_of_lt (Nat.div_le_self _ _) hll
  have s1 : IntKind.u64.wrap ((l : Int) / (v1 : Int)) = (g0 : Int) := by rw [← Int.natCast_ediv, ← hg0]; exact wrap_u64_id g0 hg0l
  have s2 : IntKind.u64.wrap ((l : Int) % (v1 : Int)) = (r0 : Int) := by rw [← Int.natCast_emod, ← hr0]; exact wrap_u64_id r0 (by omega)
  have s3 : ¬ (v1 : Int) = 0 := by omega
  have HR0 := hide hr0
  have HL := hide hg0
  clear hg0 hr0 hl
  go_quiet (fail)
  go_wp2
  clear s1 s2 s3 t1 t2 hll
  go_loop [11, 12] (fun x y => ∃ g r : Nat, x = .int .u64 g ∧ y = .int .u64 r ∧ r ≤ 4294967295 ∧ Hid (GuessRel u0 u1 u2 v1 v2 g r)) (fun x _ => (intOf x).toNat)
  case atStart => exact ⟨g0, r0, by first | rfl | exact congrArg (Value.int .u64) (by rw [HL.out, Int.natCast_ediv]), congrArg (Value.int .u64) (by rw [HR0.out, Int.natCast_emod]), hr0l, HG0⟩
  case round =>
    clear HG0 hr0l hg0l HR0 HL
    obtain ⟨g, r, rfl, rfl, hr, HG⟩ := hrel
    have hgl := guess_small HG.out hv hu l1
    by_cases hA : 4294967295 < g
    · obtain ⟨hg1, hd⟩ := guess_down HG.out (Or.inl hA)
      have HD := hide hd
      have HB := hide (fun h => guess_break hd (show 0 < v1 by omega) l4 hu l1 h)
      clear hd
      by_cases hB : 4294967295 < r + v1
      · have HB := hide (HB.out hB)
        go_wp2
        go_ret
        exact ⟨ret_int (by have := HB.out; omega), (Same.refl _).drewN _⟩
      · clear HB
        go_wp2
        go_light
        exact ⟨⟨g - 1, by omega, r + v1, by omega, by omega, HD⟩, by simp [intOf]; omega⟩
    · have hor := or64 r u2 (by omega) l2
      have hp1 : g * v2 ≤ 4294967295 * 4294967295 := Nat.mul_le_mul (by omega) (by omega)
      have hm0 : (0 : Int) ≤ (g : Int) * (v2 : Int) := by rw [← Int.natCast_mul]; omega
      have hm1 : (g : Int) * (v2 : Int) ≤ 18446744065119617025 := by rw [← Int.natCast_mul]; omega
      by_cases hC : r * 4294967296 + u2 < g * v2
      · obtain ⟨hg1, hd⟩ := guess_down HG.out (Or.inr hC)
        have HD := hide hd
        have HB := hide (fun h => guess_break hd (show 0 < v1 by omega) l4 hu l1 h)
        have hCi : (r : Int) * 4294967296 + (u2 : Int) < (g : Int) * (v2 : Int) := by rw [← Int.natCast_mul]; omega
        clear hd hp1 hC
        by_cases hB : 4294967295 < r + v1
        · have HB := hide (HB.out hB)
          go_wp2
          go_ret
          exact ⟨ret_int (by have := HB.out; omega), (Same.refl _).drewN _⟩
        · clear HB
          go_wp2
          go_light
          exact ⟨⟨g - 1, by omega, r + v1, by omega, by omega, HD⟩, by simp [intOf]; omega⟩
      · have HS := hide (guess_stop HG.out (show 0 < v1 by omega) (by omega) (by omega))
        have hCi : (g : Int) * (v2 : Int) ≤ (r : Int) * 4294967296 + (u2 : Int) := by rw [← Int.natCast_mul]; omega
        clear hp1 hC
        go_wp2
        go_ret
        exact ⟨ret_int (by have := HS.out; omega), (Same.refl _).drewN _⟩

end Go.Proofs.Ytigggjcnnlidgaa
