import Derived.Test.YtdfcckifbbeoiaaG1P2
import Derived.Test.YtdfcckifbbeoiaaG1P5
import Derived.Test.YtdfcckifbbeoiaaG2P1
namespace Go.Proofs.Ytdfcckifbbeoiaa
open Go.RowKit

set_option maxHeartbeats 3200000 in
set_option maxRecDepth 100000 in
theorem l1Limbs_any2 (a : Option Addr) (b off n cap : Nat) (B : Nat → Bool) (w : World) (hn : n ≤ 268435456) (hnc : n ≤ cap) (hB : Bits w a b off n B) :
    Calls Try.prog 49 #[.slice a n cap] w fun e w' => ∃ a' g m cap' Y, e = .returned (.slice a' m cap') ∧ m ≤ cap' ∧ (a' = none → cap' = 0) ∧ 32 * m < n + 32 ∧ Limbs w' a' g 0 m Y ∧ (0 < m → w.heap.size ≤ g) ∧ (0 < m → ∀ o, w'.frozen? ⟨g, o, none⟩ = false) ∧
      (∀ j, Y j < 4294967296) ∧ (0 < m → Y (m - 1) ≠ 0) ∧ lv Y m = bv B n ∧ w.Since w.heap.size w' := by
  obtain ⟨i0, hi, hz0, hz1, hz2⟩ := info_parts Try.info35
  obtain ⟨m, hm⟩ : ∃ m, m = tlen B n := ⟨_, rfl⟩
  have hmn : m ≤ n := by rw [hm]; exact tlen_le _ _
  have HM : Hid (m = tlen B n) := hm
  clear hm
  obtain ⟨E, hE⟩ : ∃ E, E = ext B m := ⟨_, rfl⟩
  have HE : Hid (E = ext B m) := hE
  clear hE
  have hB' := hB.take hmn
  go_enter Try.func49, Try.ntmps49
  go_wp2_with fail
  refine (l1Trim_any a b off n cap B _ (by omega) hnc hB).mono ?_
  rintro e w1 ⟨rfl, rfl⟩
  rw [← HM.out]
  clear hB
  go_wp2
  go_loopw [4, 5] (fun v t wr => ∃ q : Nat, 32 * q < m + 32 ∧ t = .int .i64 ((32 * q : Nat) : Int) ∧ wr.ownsRow w1.heap.size 35 1 v q (ll (limbsOf E) q) ∧ w1.Since w1.heap.size wr) (fun _ t _ => m + 32 - (intOf t).toNat)
  case atStart => exact ⟨0, by omega, rfl, World.ownsRow_made w1 #[] 0 (Nat.le_refl _) (by decide) rfl, (World.Since.refl _ _).alloc (Nat.le_refl _) _⟩
  case round =>
    obtain ⟨q, hq, rfl, hown, hs⟩ := hrel
    by_cases hlt : 32 * q < m
    · go_wp2
      go_loop [6, 7] (fun v t => ∃ (k p : Nat) (z : Int), k ≤ 32 ∧ t = .int .i64 z ∧ v = .int .u32 p ∧ Hid (z = k - 1) ∧ Hid (p = part E (32 * q) k)) (fun _ t => (intOf t + 1).toNat)
      case atStart => exact ⟨32, 0, 31, by omega, rfl, rfl, (by decide : (31 : Int) = ((32 : Nat) : Int) - 1), (part_top E (32 * q)).symm⟩
      case round =>
        obtain ⟨k, p, z, hk, rfl, rfl, HZ, HP⟩ := hrel
        by_cases hz : 0 ≤ z
        · obtain ⟨k', rfl⟩ := Int.eq_ofNat_of_zero_le hz
          have hkk : k = k' + 1 := by have := HZ.out; omega
          subst hkk
          clear HZ
          have hp := part_lt E (32 * q) (k' + 1) (by omega)
          rw [← HP.out] at hp
          have HS : Hid (part E (32 * q) k' = 2 * p + (E (32 * q + k')).toNat) := by have := part_step E (32 * q) k' (by omega); rw [← HP.out] at this; exact this
          by_cases hin : 32 * q + k' < m
          · obtain ⟨rfl, hc⟩ := hB' (32 * q + k') hin
            have g0 : wr.cell? ⟨b, off + (32 * q + k'), none⟩ = some (.bool (B (32 * q + k'))) := by rw [hs.cell (a := ⟨b, off + (32 * q + k'), none⟩) (hB'.lt (by omega))]; exact hc
            have HEk : Hid (E (32 * q + k') = B (32 * q + k')) := by rw [HE.out]; simp [Hid, ext, hin]
            clear hc
            cases hb : B (32 * q + k')
            · rw [hb] at g0
              have HF : Hid (E (32 * q + k') = false) := HEk.out.trans hb
              clear hb HEk
              go_wp2
              go_light
              exact ⟨⟨k', by omega, 2 * p, by omega, show (k' : Int) = k' from rfl, show 2 * p = _ by rw [HS.out, HF.out]; rfl⟩, by simp [intOf]; omega⟩
            · rw [hb] at g0
              have HF : Hid (E (32 * q + k') = true) := HEk.out.trans hb
              clear hb HEk
              go_wp2
              go_light
              exact ⟨⟨k', by omega, 2 * p + 1, by omega, show (k' : Int) = k' from rfl, show 2 * p + 1 = _ by rw [HS.out, HF.out]; rfl⟩, by simp [intOf]; omega⟩
          · have HF : Hid (E (32 * q + k') = false) := by rw [HE.out]; simp [Hid, ext, hin]
            go_wp2
            go_light
            exact ⟨⟨k', by omega, 2 * p, by omega, show (k' : Int) = k' from rfl, show 2 * p = _ by rw [HS.out, HF.out]; rfl⟩, by simp [intOf]; omega⟩
        · have hk0 : k = 0 := by have := HZ.out; omega
          subst hk0
          go_wp2_with (at_builtin; refine wpList_append_own _ rfl _ _ 23 rfl w1.heap.size 35 i0 (.int .u32 0) 1 4 Try.underlying23 hi hz0 hz1 hz2 rfl (by decide) _ _ _ rfl (hown.alloc _) ⟨wr.heap.size, 0, none⟩ 1 1 [.int .u32 p] rfl rfl ?c1 ?c2 ?c3 ?c4 ?c5 ?_)
          case c2 => first | rfl | (intro u hu; simp at hu; subst hu; rfl)
          case c3 => unfold maxLen; omega
          case c4 => omega
          case c5 => have := hs.size; simp; omega
          intro v' w2 hown' hgrow _
          have hs1 : w1.Since w1.heap.size w2 := (hs.alloc hs.size _).grown hgrow (by have := hs.size; simp; omega) (fun k hk => (hown.lt k hk).1)
          rw [HP.out, part_all, ← ll_succ] at hown'
          clear hgrow hown hs
          go_wp2
          go_roundw
          case rel => exact ⟨q + 1, by omega, by go_num, hown', hs1⟩
          case measure => simp [intOf]; omega
    · obtain ⟨a', g, cap', rfl, hmc, hnn, hg, -, -, hL, hf⟩ := own_nat hown w1.heap.size (Nat.le_refl _)
      go_wp2
      go_ret
      refine ⟨a', g, q, cap', limbsOf E, rfl, hmc, hnn, by omega, hL, fun _ => hg, hf, fun j => limbsOf_lt E j, ?_, ?_, hs⟩
      · intro h0
        have hm0 : 0 < m := by omega
        refine limbs_top E m (q - 1) (by omega) (by omega) ?_
        rw [HE.out]
        have := tlen_top B n (by rw [← HM.out]; exact hm0)
        rw [← HM.out] at this
        simp [ext, this]; omega
      · rw [lv_limbs, HE.out, bv_ext B m (32 * q) (by omega), HM.out, bv_tlen]

end Go.Proofs.Ytdfcckifbbeoiaa

namespace Go.Proofs.Ytdfcckifbbeoiaa
open Go.RowKit

set_option maxHeartbeats 1600000 in
set_option maxRecDepth 100000 in
theorem implNatMul_any (a a' : Option Addr) (b off n cap b' off' m cap' : Nat) (X Y : Nat → Nat) (w : World) (hn : n ≤ 1048576) (hm : m ≤ 1048576) (hnc : n ≤ cap) (hmc : m ≤ cap') (hX : Limbs w a b off n X) (hY : Limbs w a' b' off' m Y)
    (hXl : ∀ j, j < n → X j < 4294967296) (hYl : ∀ j, j < m → Y j < 4294967296) :
    Calls Try.prog 16 #[.slice a n cap, .slice a' m cap'] w fun e w' => ∃ v, e = .returned v ∧ NatOut w w' v (lv X n * lv Y m) (n + m + 1) ∧ w.Since w.heap.size w' := by
  have l1 := tlen_le (nz X) n
  have l2 := tlen_le (nz Y) m
  go_enter Try.func16, Try.ntmps16
  go_wp2_with fail
  refine (readOnly_any a b off n cap X _ (by omega) hnc hX).mono ?_
  rintro e w1 ⟨rfl, hs1⟩
  go_wp2_with fail
  refine (readOnly_any a' b' off' m cap' Y _ (by omega) hmc (hY.keep (hs1.alloc hs1.size _))).mono ?_
  rintro e w2 ⟨rfl, hs2⟩
  have hs12 : w.Since w.heap.size w2 := (hs1.alloc hs1.size _).trans (sinceMono hs2 (by have := hs1.size; simp; omega))
  have q0 : w2.cell? ⟨w1.heap.size, 0, none⟩ = some (.slice a (tlen (nz X) n) cap) := by rw [hs2.cell (a := ⟨w1.heap.size, 0, none⟩) (by simp)]; simp [go_sem]
  have q1 : w2.frozen? ⟨w1.heap.size, 0, none⟩ = false := by rw [hs2.frozen (a := ⟨w1.heap.size, 0, none⟩) (by simp)]; simp [go_sem]
  have hsz : w1.heap.size + 1 ≤ w2.heap.size := by have := hs2.size; simp at this; omega
  clear hs2
  go_wp2_with fail
  refine (multiply_any w1.heap.size 0 a a' b off _ cap b' off' _ cap' X Y _ (by omega) (by omega) ((hX.keep hs12).take l1) ((hY.keep hs12).take l2) (fun j hj => hXl j (by omega)) (fun j hj => hYl j (by omega)) q0 q1).mono ?_
  rintro e w3 ⟨rfl, w4, P, hs3, hr, hPl, hv, rfl⟩
  have HV : Hid (lv P (tlen (nz X) n + tlen (nz Y) m) = lv X (tlen (nz X) n) * lv Y (tlen (nz Y) m)) := hv
  clear hv
  have q3 : w4.cell? ⟨w1.heap.size, 0, none⟩ = some (.slice a (tlen (nz X) n) cap) := by rw [hs3.cell (a := ⟨w1.heap.size, 0, none⟩) (by show w1.heap.size < _; omega)]; exact q0
  clear q0 q1
  go_wp2
  go_ret
  go_light
  have hb : w1.heap.size ≠ w2.heap.size := by omega
  have htl := tlen_le (nz P) (tlen (nz X) n + tlen (nz Y) m)
  have hr' := hr.setOther (a := ⟨w1.heap.size, 0, none⟩) (by show w2.heap.size ≠ w1.heap.size; omega) (.slice (some ⟨w2.heap.size, 0, none⟩) (tlen (nz P) (tlen (nz X) n + tlen (nz Y) m)) (tlen (nz X) n + tlen (nz Y) m))
  refine ⟨_, rfl, ⟨_, w2.heap.size, _, _, P, rfl, htl, by omega, (limbs_row hr').take htl, hs12.size, fun _ o => hr'.frozen o, fun j _ => hPl j, fun h => by have := tlen_top _ _ h; simpa [nz] using this, ?_⟩, ?_⟩
  · rw [lv_tlen, HV.out, lv_tlen, lv_tlen]
  · exact (hs12.trans (sinceMono hs3 hs12.size)).setCell (by show w.heap.size ≤ w1.heap.size; exact hs1.size) _

set_option maxHeartbeats 1600000 in
set_option maxRecDepth 100000 in
theorem implNatDivMod_zero (a a' : Option Addr) (n cap b' off' m cap' : Nat) (Y : Nat → Nat) (w : World) (hm : m ≤ 1048576) (hmc : m ≤ cap') (hY : Limbs w a' b' off' m Y) (h0 : lv Y m = 0) :
    Calls Try.prog 14 #[.slice a n cap, .slice a' m cap'] w fun e w' => e = .returned (.tuple #[.slice none 0 0, .slice none 0 0, .bool false]) ∧ w.Since w.heap.size w' := by
  have e0 := lv_nought h0
  go_enter Try.func14, Try.ntmps14
  go_wp2_with fail
  refine (readOnly_any a' b' off' m cap' Y _ (by omega) hmc hY).mono ?_
  rintro e w1 ⟨rfl, hs1⟩
  rw [e0]
  clear h0 e0
  go_wp2_with fail
  refine (isZero_any w1.heap.size 0 a' 0 cap' _ (by simp [go_sem])).mono ?_
  rintro e w2 ⟨rfl, rfl⟩
  go_wp2
  go_ret3
  exact ⟨rfl, hs1.alloc hs1.size _⟩

set_option maxHeartbeats 1600000 in
set_option maxRecDepth 100000 in
theorem implNatDivMod_any (a a' : Option Addr) (b n cap b' m cap' : Nat) (X Y : Nat → Nat) (w : World) (hn : n ≤ 1048576) (hm : m ≤ 1048576) (hnc : n ≤ cap) (hmc : m ≤ cap') (hac : a = none → cap = 0) (hX : Limbs w a b 0 n X) (hY : Limbs w a' b' 0 m Y)
    (hXl : ∀ j, j < n → X j < 4294967296) (hYl : ∀ j, j < m → Y j < 4294967296) (h0 : 0 < lv Y m) :
    Calls Try.prog 14 #[.slice a n cap, .slice a' m cap'] w fun e w' => ∃ vq vr gq gr, e = .returned (.tuple #[vq, vr, .bool true]) ∧ NatAt w' vq gq (lv X n / lv Y m) (n + 2) ∧ NatAt w' vr gr (lv X n % lv Y m) (n + 2) ∧
      w.heap.size ≤ gq ∧ w.heap.size ≤ gr ∧ gq ≠ gr ∧ w.Since w.heap.size w' := by
  have e0 := lv_some h0
  have l2 := tlen_le (nz Y) m
  have HTY := hide (tlen_top (nz Y) m e0)
  have HVY := hide (lv_tlen Y m)
  obtain ⟨t, ht⟩ : ∃ t, t = tlen (nz Y) m := ⟨_, rfl⟩
  rw [← ht] at e0 l2 HTY HVY
  have HT := hide ht
  clear h0 ht
  go_enter Try.func14, Try.ntmps14
  go_wp2_with fail
  refine (readOnly_any a' b' 0 m cap' Y _ (by omega) hmc hY).mono ?_
  rintro e w1 ⟨rfl, s1⟩
  rw [← HT.out]
  go_wp2_with fail
  refine (isZero_any w1.heap.size 0 a' t cap' _ (by simp [go_sem])).mono ?_
  rintro e w2 ⟨rfl, hw2⟩
  have s2 : w.Since w.heap.size w2 := by rw [hw2]; exact s1.alloc s1.size _
  have bx2 : w2.cell? ⟨w1.heap.size, 0, none⟩ = some (.slice a' t cap') := by rw [hw2]; simp [go_sem]
  have z12 : w1.heap.size < w2.heap.size := by rw [hw2]; simp
  have zw := s1.size
  clear hw2 s1
  have ht0 : ((t : Int) == 0) = false := by simp; omega
  go_wp2_with fail
  refine (ownCopy_any a b 0 n cap X _ (by omega) hnc hac (hX.keep s2)).mono ?_
  rintro e w3 ⟨v3, rfl, own3, s3⟩
  have S3 : w.Since w.heap.size w3 := s2.trans (sinceMono s3 s2.size)
  have bx3 : w3.cell? ⟨w1.heap.size, 0, none⟩ = some (.slice a' t cap') := by rw [s3.cell (a := ⟨w1.heap.size, 0, none⟩) z12]; exact bx2
  have z23 := s3.size
  obtain ⟨a3, g3, c3, rfl, k1, k2, k3, k4, k5, L3, F3⟩ := own_nat own3 (w3.heap.size + 1) (by omega)
  have HTX := hide (tlen_top (nz X) n)
  have HVX := hide (lv_tlen X n)
  have hxl := tlen_le (nz X) n
  obtain ⟨u, hu⟩ : ∃ t, t = tlen (nz X) n := ⟨_, rfl⟩
  rw [← hu] at k1 k5 L3 F3 HTX HVX hxl ⊢
  clear own3 hu s2 s3 bx2
  have bxA : ∀ x, (w3.alloc x).cell? ⟨w1.heap.size, 0, none⟩ = some (.slice a' t cap') := fun x => by rw [World.cell?_alloc_old _ _ _ (by show w1.heap.size ≠ _; omega)]; exact bx3
  have sA : w3.Since w3.heap.size (w3.alloc (.cells #[.slice a3 u c3] 68)) := (World.Since.refl _ _).alloc (Nat.le_refl _) _
  have SA : w.Since w.heap.size (w3.alloc (.cells #[.slice a3 u c3] 68)) := S3.alloc S3.size _
  have cA : (w3.alloc (.cells #[.slice a3 u c3] 68)).cell? ⟨w3.heap.size, 0, none⟩ = some (.slice a3 u c3) := by simp [go_sem]
  have fA : (w3.alloc (.cells #[.slice a3 u c3] 68)).frozen? ⟨w3.heap.size, 0, none⟩ = false := by simp [go_sem]
  have zA : (w3.alloc (.cells #[.slice a3 u c3] 68)).heap.size = w3.heap.size + 1 := by simp
  have LA := L3.keep sA
  have FA : 0 < u → ∀ x, (w3.alloc (.cells #[.slice a3 u c3] 68)).frozen? ⟨g3, x, none⟩ = false := fun h x => by rw [sA.frozen (a := ⟨g3, x, none⟩) (k5 h)]; exact F3 h x
  have YA := (hY.keep SA).take l2
  go_wp2_with fail
  generalize w3.alloc (.cells #[.slice a3 u c3] 68) = wA at *
  refine (divideBy_any w3.heap.size 0 a3 a' g3 u c3 b' t cap' X Y wA (by omega) k1 k2 e0 (by omega) cA fA LA YA (fun j hj => hXl j (by omega)) (fun j hj => hYl j (by omega)) FA (by omega) (fun h => by have := k5 h; omega) (fun h => by have := HTX.out h; simpa [nz] using this) (by have := HTY.out; simpa [nz] using this)).mono ?_
  rintro e w4 ⟨vq, vr, gq, gr, rfl, q1, q2, q3, q4, q5, q6, q7, q8, fr⟩
  rw [HVX.out, HVY.out] at q2 q3
  have S4 : w.Since w.heap.size w4 := fr.to_since SA (by omega) (by omega)
  rw [zA] at q4 q5
  clear fr LA FA YA SA sA S3 L3 F3 cA fA zA bxA bx3 hX hY hXl hYl
  have p2 := hide q2
  have p3 := hide q3
  clear q2 q3
  go_wp2
  go_quiet (fail)
  go_wp2
  go_ret3
  exact ⟨vq, vr, gq, gr, rfl, natAt_mono (p2.out.same ((Same.refl _).drewN _)) (by omega), natAt_mono (p3.out.same ((Same.refl _).drewN _)) (by omega), by omega, by omega, q6, S4.trans (((Same.refl _).drewN _).since _)⟩

end Go.Proofs.Ytdfcckifbbeoiaa
