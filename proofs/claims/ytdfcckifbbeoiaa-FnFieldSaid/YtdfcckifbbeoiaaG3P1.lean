import Derived.Test.YtdfcckifbbeoiaaG1P2
namespace Go.Proofs.Ytdfcckifbbeoiaa
open Go.RowKit

/-- What holds when i bits have been added. -/
def SumRel (O A B : Nat → Bool) (n m i : Nat) (c : Bool) : Prop := bv O i + c.toNat * 2 ^ i = bv (ext A n) i + bv (ext B m) i

theorem sumRel_step {O A B : Nat → Bool} {n m i : Nat} {c x y : Bool} (h : SumRel O A B n m i c) (hx : ext A n i = x) (hy : ext B m i = y) :
    SumRel (upd O i ((x != y) != c)) A B n m (i + 1) ((x && y) || (x && c) || (y && c)) := by
  unfold SumRel at *
  have hf := full_add x y c
  simp only [bv, bv_upd O i _ i (Nat.le_refl _), upd_same, hx, hy]
  generalize ((x != y) != c).toNat = s at hf ⊢
  generalize ((x && y) || (x && c) || (y && c)).toNat = d at hf ⊢
  have e : s * 2 ^ i + d * 2 ^ (i + 1) = x.toNat * 2 ^ i + y.toNat * 2 ^ i + c.toNat * 2 ^ i := by
    rw [← Nat.add_mul, ← Nat.add_mul, ← hf, Nat.add_mul, Nat.pow_succ, Nat.mul_comm (2 ^ i) 2, ← Nat.mul_assoc, Nat.mul_comm d 2]
  omega

theorem sumRel_end {O A B : Nat → Bool} {n m i : Nat} {c : Bool} (h : SumRel O A B n m i c) (hn : n ≤ i) (hm : m ≤ i) : bv O i + c.toNat * 2 ^ i = bv A n + bv B m := by
  unfold SumRel at h
  rw [bv_ext A n i hn, bv_ext B m i hm] at h
  exact h

theorem not_eq2b (y c : Bool) : (!(y == c)) = ((false != y) != c) := by cases y <;> cases c <;> rfl

set_option maxHeartbeats 6400000 in
set_option maxRecDepth 100000 in
theorem l1AddBits_any (a a' : Option Addr) (b off n cap b' off' m cap' : Nat) (A B : Nat → Bool) (w : World) (hn : n ≤ 134217728) (hm : m ≤ 134217728) (hA : Bits w a b off n A) (hB : Bits w a' b' off' m B) :
    Calls Try.prog 50 #[.slice a n cap, .slice a' m cap'] w fun e w' => ∃ g t cap'' D, e = .returned (.slice (some ⟨g, 0, none⟩) t cap'') ∧ t ≤ cap'' ∧ t ≤ max n m + 1 ∧ Bits w' (some ⟨g, 0, none⟩) g 0 t D ∧ w.heap.size ≤ g ∧
      (0 < t → D (t - 1) = true) ∧ bv D t = bv A n + bv B m ∧ w.Since w.heap.size w' := by
  obtain ⟨i0, hi, hz0, hz1, hz2⟩ := info_parts Try.info4
  obtain ⟨k, hk1, hk2, hk3, hk4, hk5⟩ : ∃ k, n ≤ k ∧ m ≤ k ∧ k ≤ 134217728 ∧ k ≤ max n m ∧ (k = n ∨ k = m) := by
    rcases Nat.le_total n m with h | h
    · exact ⟨m, h, Nat.le_refl _, hm, Nat.le_max_right _ _, Or.inr rfl⟩
    · exact ⟨n, Nat.le_refl _, h, hn, Nat.le_max_left _ _, Or.inl rfl⟩
  have HK := hide hk4
  clear hk4
  go_enter Try.func50, Try.ntmps50
  go_wp2
  go_loopw [5, 6, 7] (fun v c t wr => ∃ (i : Nat) (cb : Bool) (D : Nat → Bool), i ≤ k ∧ t = .int .i64 i ∧ c = .bool cb ∧ Hid (v ≠ .slice none 0 0) ∧ wr.ownsRow w.heap.size 4 1 v i (bl D i) ∧ w.Since w.heap.size wr ∧ Hid (SumRel D A B n m i cb)) (fun _ _ t _ => k - (intOf t).toNat)
  case atStart => exact ⟨0, false, fun _ => false, Nat.zero_le _, rfl, rfl, hide (by simp), World.ownsRow_made w #[] 0 (Nat.le_refl _) (by decide) rfl, (World.Since.refl _ _).alloc (Nat.le_refl _) _, hide (by simp [SumRel, bv])⟩
  case round =>
    obtain ⟨i, cb, D, hin, rfl, rfl, HN, hown, hs, HR⟩ := hrel
    by_cases hlt : i < n
    · by_cases him : i < m
      · obtain ⟨rfl, hc⟩ := hA i hlt
        have g0 : wr.cell? ⟨b, off + i, none⟩ = some (.bool (A i)) := by rw [hs.cell (a := ⟨b, off + i, none⟩) (hA.lt (by omega))]; exact hc
        clear hc
        obtain ⟨x, hx⟩ : ∃ x, x = A i := ⟨_, rfl⟩
        rw [← hx] at g0
        have HX : Hid (ext A n i = x) := by simp [Hid, ext, hlt, hx]
        clear hx
        obtain ⟨rfl, hc⟩ := hB i him
        have g1 : wr.cell? ⟨b', off' + i, none⟩ = some (.bool (B i)) := by rw [hs.cell (a := ⟨b', off' + i, none⟩) (hB.lt (by omega))]; exact hc
        obtain ⟨y, hy⟩ : ∃ y, y = B i := ⟨_, rfl⟩
        rw [← hy] at g1
        have HY : Hid (ext B m i = y) := by simp [Hid, ext, him, hy]
        clear hc hy
        have HS := hide (sumRel_step HR.out HX.out HY.out)
        go_wp2_with (at_builtin; refine wpList_append_own _ rfl _ _ 61 rfl w.heap.size 4 i0 (.bool false) 1 1 Try.underlying61 hi hz0 hz1 hz2 rfl (by decide) _ _ _ rfl (hown.alloc _) ⟨wr.heap.size, 0, none⟩ 1 1 [.bool _] rfl rfl (new_cell _ _ _) (one_one _ rfl) (by unfold maxLen; omega) (by omega) (by have := hs.size; simp; omega) ?_)
        intro v' w1 hown' hgrow hnn
        have hs1 : w.Since w.heap.size w1 := (hs.alloc hs.size _).grown hgrow (by have := hs.size; simp; omega) (fun k hk => (hown.lt k hk).1)
        have HN' := hide hnn
        rw [not_eq3 x y cb, ← bl_upd] at hown'
        clear hgrow hown hs hnn HN
        cases x <;> cases y <;> cases cb
        all_goals
          go_wp2
          go_roundw
          case rel => exact ⟨i + 1, _, _, by omega, by go_num, rfl, HN', hown', hs1, HS⟩
          case measure => simp [intOf]; omega
      · obtain ⟨rfl, hc⟩ := hA i hlt
        have g0 : wr.cell? ⟨b, off + i, none⟩ = some (.bool (A i)) := by rw [hs.cell (a := ⟨b, off + i, none⟩) (hA.lt (by omega))]; exact hc
        clear hc
        obtain ⟨x, hx⟩ : ∃ x, x = A i := ⟨_, rfl⟩
        rw [← hx] at g0
        have HX : Hid (ext A n i = x) := by simp [Hid, ext, hlt, hx]
        clear hx
        have HY : Hid (ext B m i = false) := by simp [Hid, ext, him]
        have HS := hide (sumRel_step HR.out HX.out HY.out)
        go_wp2_with (at_builtin; refine wpList_append_own _ rfl _ _ 61 rfl w.heap.size 4 i0 (.bool false) 1 1 Try.underlying61 hi hz0 hz1 hz2 rfl (by decide) _ _ _ rfl (hown.alloc _) ⟨wr.heap.size, 0, none⟩ 1 1 [.bool _] rfl rfl (new_cell _ _ _) (one_one _ rfl) (by unfold maxLen; omega) (by omega) (by have := hs.size; simp; omega) ?_)
        intro v' w1 hown' hgrow hnn
        have hs1 : w.Since w.heap.size w1 := (hs.alloc hs.size _).grown hgrow (by have := hs.size; simp; omega) (fun k hk => (hown.lt k hk).1)
        have HN' := hide hnn
        rw [not_eq2 x cb, ← bl_upd] at hown'
        clear hgrow hown hs hnn HN
        cases x <;> cases cb
        all_goals
          go_wp2
          go_roundw
          case rel => exact ⟨i + 1, _, _, by omega, by go_num, rfl, HN', hown', hs1, HS⟩
          case measure => simp [intOf]; omega
    · by_cases him : i < m
      · have HX : Hid (ext A n i = false) := by simp [Hid, ext, hlt]
        obtain ⟨rfl, hc⟩ := hB i him
        have g1 : wr.cell? ⟨b', off' + i, none⟩ = some (.bool (B i)) := by rw [hs.cell (a := ⟨b', off' + i, none⟩) (hB.lt (by omega))]; exact hc
        obtain ⟨y, hy⟩ : ∃ y, y = B i := ⟨_, rfl⟩
        rw [← hy] at g1
        have HY : Hid (ext B m i = y) := by simp [Hid, ext, him, hy]
        clear hc hy
        have HS := hide (sumRel_step HR.out HX.out HY.out)
        go_wp2_with (at_builtin; refine wpList_append_own _ rfl _ _ 61 rfl w.heap.size 4 i0 (.bool false) 1 1 Try.underlying61 hi hz0 hz1 hz2 rfl (by decide) _ _ _ rfl (hown.alloc _) ⟨wr.heap.size, 0, none⟩ 1 1 [.bool _] rfl rfl (new_cell _ _ _) (one_one _ rfl) (by unfold maxLen; omega) (by omega) (by have := hs.size; simp; omega) ?_)
        intro v' w1 hown' hgrow hnn
        have hs1 : w.Since w.heap.size w1 := (hs.alloc hs.size _).grown hgrow (by have := hs.size; simp; omega) (fun k hk => (hown.lt k hk).1)
        have HN' := hide hnn
        rw [not_eq2b y cb, ← bl_upd] at hown'
        clear hgrow hown hs hnn HN
        cases y <;> cases cb
        all_goals
          go_wp2
          go_roundw
          case rel => exact ⟨i + 1, _, _, by omega, by go_num, rfl, HN', hown', hs1, HS⟩
          case measure => simp [intOf]; omega
      · have e : i = k := by omega
        subst e
        have HE := hide (sumRel_end HR.out hk1 hk2)
        cases cb
        · obtain ⟨g, cap3, rfl, hmc, hg, hD⟩ := own_bits_some hown HN.out
          go_wp2_with fail
          refine (l1Trim_any _ g 0 i cap3 D _ (by omega) hmc hD).mono ?_
          rintro e w1 ⟨rfl, rfl⟩
          go_wp2
          go_ret
          have htl := tlen_le D i
          have := HK.out
          exact ⟨g, _, cap3, D, rfl, by omega, by omega, hD.take htl, hg, fun h => tlen_top _ _ h, (bv_tlen _ _).trans (by have := HE.out; simpa using this), hs⟩
        · go_wp2_with (at_builtin; refine wpList_append_own _ rfl _ _ 61 rfl w.heap.size 4 i0 (.bool false) 1 1 Try.underlying61 hi hz0 hz1 hz2 rfl (by decide) _ _ _ rfl (hown.alloc _) ⟨wr.heap.size, 0, none⟩ 1 1 [.bool true] rfl rfl (new_cell _ _ _) (one_one _ rfl) (by unfold maxLen; omega) (by omega) (by have := hs.size; simp; omega) ?_)
          intro v' w1 hown' hgrow hnn
          have hs1 : w.Since w.heap.size w1 := (hs.alloc hs.size _).grown hgrow (by have := hs.size; simp; omega) (fun k hk => (hown.lt k hk).1)
          rw [← bl_upd] at hown'
          obtain ⟨g, cap3, rfl, hmc, hg, hD⟩ := own_bits_some hown' hnn
          clear hgrow hown hs
          go_wp2_with fail
          refine (l1Trim_any _ g 0 (i + 1) cap3 (upd D i true) _ (by omega) hmc hD).mono ?_
          rintro e w2 ⟨rfl, rfl⟩
          go_wp2
          go_ret
          have htl := tlen_le (upd D i true) (i + 1)
          have := HK.out
          refine ⟨g, _, cap3, upd D i true, rfl, by omega, by omega, hD.take htl, hg, fun h => tlen_top _ _ h, (bv_tlen _ _).trans ?_, hs1⟩
          have h9 := HE.out
          simp only [bv, upd_same, bv_upd D i true i (Nat.le_refl _)]
          exact h9

end Go.Proofs.Ytdfcckifbbeoiaa
