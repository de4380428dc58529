import Derived.Test.YtigggjcnnlidgaaW4
namespace Go.Proofs.Ytigggjcnnlidgaa
open Go.RowKit

/-- The limb under way: the bits from place k on, of the 32 that begin at s. -/
def part (E : Nat → Bool) (s k : Nat) : Nat := bv (fun t => E (s + k + t)) (32 - k)

theorem part_step (E : Nat → Bool) (s k : Nat) (hk : k < 32) : part E s k = 2 * part E s (k + 1) + (E (s + k)).toNat := by
  unfold part
  rw [show 32 - k = (32 - (k + 1)) + 1 by omega, bv_front]
  congr 2
  exact bv_congr (fun j _ => by rw [show s + k + (j + 1) = s + (k + 1) + j by omega])

theorem part_lt (E : Nat → Bool) (s k : Nat) (hk : 0 < k) : part E s k < 2147483648 := by
  have h := bv_lt (fun t => E (s + k + t)) (32 - k)
  have h2 : 2 ^ (32 - k) ≤ 2 ^ 31 := Nat.pow_le_pow_right (by omega) (by omega)
  unfold part; omega

theorem part_all (E : Nat → Bool) (q : Nat) : part E (32 * q) 0 = limbsOf E q := rfl

theorem part_top (E : Nat → Bool) (s : Nat) : part E s 32 = 0 := rfl

set_option maxHeartbeats 3200000 in
set_option maxRecDepth 100000 in
theorem l1Limbs_any (a : Option Addr) (b off n cap : Nat) (B : Nat → Bool) (w : World) (hn : n ≤ 268435456) (hnc : n ≤ cap) (hB : Bits w a b off n B) :
    Calls Try.prog 13 #[.slice a n cap] w fun e w' => ∃ a' g m cap' Y, e = .returned (.slice a' m cap') ∧ m ≤ cap' ∧ 32 * m < n + 32 ∧ Limbs w' a' g 0 m Y ∧ (0 < m → w.heap.size ≤ g) ∧ (0 < m → ∀ o, w'.frozen? ⟨g, o, none⟩ = false) ∧
      (∀ j, Y j < 4294967296) ∧ (0 < m → Y (m - 1) ≠ 0) ∧ lv Y m = bv B n ∧ w.Since w.heap.size w' := by
  obtain ⟨i0, hi, hz0, hz1, hz2⟩ := info_parts Try.info33
  obtain ⟨m, hm⟩ : ∃ m, m = tlen B n := ⟨_, rfl⟩
  have hmn : m ≤ n := by rw [hm]; exact tlen_le _ _
  have HM : Hid (m = tlen B n) := hm
  clear hm
  obtain ⟨E, hE⟩ : ∃ E, E = ext B m := ⟨_, rfl⟩
  have HE : Hid (E = ext B m) := hE
  clear hE
  have hB' := hB.take hmn
  go_enter Try.func13, Try.ntmps13
  go_wp2_with fail
  refine (l1Trim_any a b off n cap B _ (by omega) hnc hB).mono ?_
  rintro e w1 ⟨rfl, rfl⟩
  rw [← HM.out]
  clear hB
  go_wp2
  go_loopw [4, 5] (fun v t wr => ∃ q : Nat, 32 * q < m + 32 ∧ t = .int .i64 ((32 * q : Nat) : Int) ∧ wr.ownsRow w1.heap.size 33 1 v q (ll (limbsOf E) q) ∧ w1.Since w1.heap.size wr) (fun _ t _ => m + 32 - (intOf t).toNat)
  case atStart => exact ⟨0, by omega, rfl, World.ownsRow_made w1 #[] 0 (Nat.le_refl _) (by decide) rfl, (World.Since.refl _ _).alloc (Nat.le_refl _) _⟩
  case round =>
    obtain ⟨q, hq, rfl, hown, hs⟩ := hrel
    by_cases hlt : 32 * q < m
    · go_wp2
      go_loop [6, 7] (fun v t => ∃ (k p : Nat) (z : Int), k ≤ 32 ∧ t = .int .i64 z ∧ v = .int .u32 p ∧ Hid (z = k - 1) ∧ Hid (p = part E (32 * q) k)) (fun _ t => (intOf t + 1).toNat)
      case atStart => exact ⟨32, 0, 31, by omega, rfl, rfl, (by decide : (31 : Int) = ((32 : Nat) : Int) - 1), (part_top E (32 * q)).symm⟩
      case round =>
        obtain ⟨k, p, z, hk, rfl, rfl, HZ, HP⟩ := hrel
        by_cases hz : 0 ≤ z
        · obtain ⟨k', rfl⟩ := Int.eq_ofNat_of_zero_le hz
          have hkk : k = k' + 1 := by have := HZ.out; omega
          subst hkk
          clear HZ
          have hp := part_lt E (32 * q) (k' + 1) (by omega)
          rw [← HP.out] at hp
          have HS : Hid (part E (32 * q) k' = 2 * p + (E (32 * q + k')).toNat) := by have := part_step E (32 * q) k' (by omega); rw [← HP.out] at this; exact this
          by_cases hin : 32 * q + k' < m
          · obtain ⟨rfl, hc⟩ := hB' (32 * q + k') hin
            have g0 : wr.cell? ⟨b, off + (32 * q + k'), none⟩ = some (.bool (B (32 * q + k'))) := by rw [hs.cell (a := ⟨b, off + (32 * q + k'), none⟩) (hB'.lt (by omega))]; exact hc
            have HEk : Hid (E (32 * q + k') = B (32 * q + k')) := by rw [HE.out]; simp [Hid, ext, hin]
            clear hc
            cases hb : B (32 * q + k')
            · rw [hb] at g0
              have HF : Hid (E (32 * q + k') = false) := HEk.out.trans hb
              clear hb HEk
              go_wp2
              go_light
              exact ⟨⟨k', by omega, 2 * p, by omega, show (k' : Int) = k' from rfl, show 2 * p = _ by rw [HS.out, HF.out]; rfl⟩, by simp [intOf]; omega⟩
            · rw [hb] at g0
              have HF : Hid (E (32 * q + k') = true) := HEk.out.trans hb
              clear hb HEk
              go_wp2
              go_light
              exact ⟨⟨k', by omega, 2 * p + 1, by omega, show (k' : Int) = k' from rfl, show 2 * p + 1 = _ by rw [HS.out, HF.out]; rfl⟩, by simp [intOf]; omega⟩
          · have HF : Hid (E (32 * q + k') = false) := by rw [HE.out]; simp [Hid, ext, hin]
            go_wp2
            go_light
            exact ⟨⟨k', by omega, 2 * p, by omega, show (k' : Int) = k' from rfl, show 2 * p = _ by rw [HS.out, HF.out]; rfl⟩, by simp [intOf]; omega⟩
        · have hk0 : k = 0 := by have := HZ.out; omega
          subst hk0
          go_wp2_with (at_builtin; refine wpList_append_own _ rfl _ _ 22 rfl w1.heap.size 33 i0 (.int .u32 0) 1 4 Try.underlying22 hi hz0 hz1 hz2 rfl (by decide) _ _ _ rfl (hown.alloc _) ⟨wr.heap.size, 0, none⟩ 1 1 [.int .u32 p] rfl rfl ?c1 ?c2 ?c3 ?c4 ?c5 ?_)
          case c2 => first | rfl | (intro u hu; simp at hu; subst hu; rfl)
          case c3 => unfold maxLen; omega
          case c4 => omega
          case c5 => have := hs.size; simp; omega
          intro v' w2 hown' hgrow _
          have hs1 : w1.Since w1.heap.size w2 := (hs.alloc hs.size _).grown hgrow (by have := hs.size; simp; omega) (fun k hk => (hown.lt k hk).1)
          rw [HP.out, part_all, ← ll_succ] at hown'
          clear hgrow hown hs
          go_wp2
          go_roundw
          case rel => exact ⟨q + 1, by omega, by go_num, hown', hs1⟩
          case measure => simp [intOf]; omega
    · obtain ⟨a', g, cap', rfl, hmc, hg, hL, hf⟩ := own_limbs hown
      go_wp2
      go_ret
      refine ⟨a', g, q, cap', limbsOf E, rfl, hmc, by omega, hL, hg, hf, fun j => limbsOf_lt E j, ?_, ?_, hs⟩
      · intro h0
        have hm0 : 0 < m := by omega
        refine limbs_top E m (q - 1) (by omega) (by omega) ?_
        rw [HE.out]
        have := tlen_top B n (by rw [← HM.out]; exact hm0)
        rw [← HM.out] at this
        simp [ext, this]; omega
      · rw [lv_limbs, HE.out, bv_ext B m (32 * q) (by omega), HM.out, bv_tlen]

end Go.Proofs.Ytigggjcnnlidgaa
