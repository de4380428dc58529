import Derived.Test.YtdfcckifbbeoiaaG3P2
namespace Go.Proofs.Ytdfcckifbbeoiaa
open Go.RowKit

/-- What holds when i limbs have been multiplied. -/
def MulA (X V : Nat → Nat) (F E i c : Nat) : Prop := lv V i + c * 2 ^ (32 * i) = lv X i * F + E ∧ c < 4294967296 ∧ (∀ k, i ≤ k → V k = X k) ∧ ∀ k, k < i → V k < 4294967296

theorem mulA_step {X V : Nat → Nat} {F E i c s c' x : Nat} (h : MulA X V F E i c) (hx : V i = x) (hs : s < 4294967296) (hc : c' < 4294967296) (e : s + c' * 4294967296 = x * F + c) : MulA X (upd V i s) F E (i + 1) c' := by
  obtain ⟨h1, h2, h3, h4⟩ := h
  have hx0 : X i = x := by rw [← hx]; exact (h3 i (Nat.le_refl _)).symm
  refine ⟨?_, hc, fun k hk => by rw [upd_other _ _ _ _ (by omega)]; exact h3 k (by omega), fun k hk => ?_⟩
  · simp only [lv, upd_same, lv_upd V i s i (Nat.le_refl _), hx0]
    rw [pow32]
    generalize 2 ^ (32 * i) = P at *
    have e2 : s * P + c' * (4294967296 * P) = x * P * F + c * P := by
      rw [← Nat.mul_assoc, ← Nat.add_mul, e, Nat.add_mul, Nat.mul_assoc x F P, Nat.mul_comm F P, ← Nat.mul_assoc]
    rw [Nat.add_mul (lv X i)]
    omega
  · by_cases e2 : k = i
    · subst e2; rw [upd_same]; exact hs
    · rw [upd_other _ _ _ _ e2]; exact h4 k (by omega)

set_option maxHeartbeats 3200000 in
set_option maxRecDepth 100000 in
/-- (*nat).multiplyAdd in a row of its own. -/
theorem multiplyAdd_any (c o base n : Nat) (v0 : Value) (E : Nat) (X : Nat → Nat) (w : World) (hn : n ≤ 4194304) (hE : E < 4294967296) (hc0 : w.cell? ⟨c, o, none⟩ = some v0) (hf0 : w.frozen? ⟨c, o, none⟩ = false)
    (hown : w.ownsRow base 35 1 v0 n (ll X n)) (hne : v0.ownBlock ≠ some c) (hcl : c < w.heap.size) (hbase : base ≤ w.heap.size) (hXl : ∀ j, j < n → X j < 4294967296) :
    Calls Try.prog 118 #[.pointer (some ⟨c, o, none⟩), .int .u32 1000000000, .int .u32 E] w fun e w' => e = .returned (.tuple #[]) ∧ ∃ v k V, w'.cell? ⟨c, o, none⟩ = some v ∧ w'.ownsRow base 35 1 v k (ll V k) ∧ (v = .slice none 0 0 → v0 = .slice none 0 0) ∧ v.ownBlock ≠ some c ∧
      At1 c o v0.ownBlock w w' ∧ (∀ j, j < k → V j < 4294967296) ∧ lv V k = lv X n * 1000000000 + E ∧ k ≤ n + 1 ∧ (k = n ∨ V (k - 1) ≠ 0) := by
  obtain ⟨i0, hi, hz0, hz1, hz2⟩ := info_parts Try.info35
  have HXl := hide hXl
  clear hXl
  obtain ⟨a, cap, rfl, hkc, hac, hag⟩ := own_slice hown
  go_enter Try.func118, Try.ntmps118
  have HV0 : Hid (MulA X X 1000000000 E 0 E) := hide ⟨by simp [lv], hE, fun _ _ => rfl, fun j hj => absurd hj (by omega)⟩
  go_wp2
  go_loopw [6, 16] (fun q t wr => ∃ (i cb : Nat) (V : Nat → Nat), i ≤ n ∧ t = .int .i64 i ∧ q = .int .u64 cb ∧ cb < 4294967296 ∧ wr.cell? ⟨c, o, none⟩ = some (.slice a n cap) ∧ wr.ownsRow base 35 1 (.slice a n cap) n (ll V n) ∧ At1 c o (Value.slice a n cap).ownBlock w wr ∧ Hid (MulA X V 1000000000 E i cb)) (fun _ t _ => n - (intOf t).toNat)
  case atStart => exact ⟨0, E, X, Nat.zero_le _, rfl, rfl, hE, hc0, hown, At1.refl _ _ _ _, HV0⟩
  case round =>
    obtain ⟨i, cb, V, hik, rfl, rfl, hcb1, q2, ho2, hs2, HR⟩ := hrel
    clear hown hc0 HV0
    by_cases hlt : i < n
    · obtain ⟨g, rfl⟩ := hag i hlt
      obtain ⟨g', cap', e, -, hbg, hgl, LV, FV⟩ := own_limbs_some ho2 (by simp)
      cases e
      have g1 : wr.cell? ⟨g, i, none⟩ = some (.int .u32 (V i)) := by simpa using (LV i hlt).2
      have g2 : wr.frozen? ⟨g, i, none⟩ = false := FV i
      have hxl : V i < 4294967296 := by
        rw [HR.out.2.2.1 i (Nat.le_refl _)]
        exact HXl.out i hlt
      have STEP := hide (fun (s c' : Nat) => mulA_step (s := s) (c' := c') HR.out rfl)
      obtain ⟨x, ex⟩ : ∃ y, y = V i := ⟨_, rfl⟩
      rw [← ex] at g1 hxl STEP
      clear ex LV FV
      have hin : (i : Int) < (n : Int) := by omega
      have hcg : g ≠ c := fun e => hne (by rw [e]; rfl)
      have q3 : ∀ u, (wr.setCell ⟨g, i, none⟩ u).cell? ⟨c, o, none⟩ = some (.slice (some ⟨g, 0, none⟩) n cap) := fun u => by rw [((Marked.refl wr g).setCell i u).cell (a := ⟨c, o, none⟩) (Ne.symm hcg)]; exact q2
      go_wp2
      go_roundw
      case rel => go_light; exact ⟨i + 1, (x * 1000000000 + cb) / 4294967296, _, by omega, by go_num, congrArg (Value.int .u64) (by omega), by omega, q3 _, own_setI ho2 i ((x * 1000000000 + cb) % 4294967296) hlt _ (by omega), hs2.setRow g i _ (Or.inl rfl) hcg, STEP.out _ _ (by omega) (by omega) (by omega)⟩
      case measure => simp [intOf]; omega
    · have e : i = n := by omega
      subst e
      have HE := hide HR.out.1
      have HV1 := hide HR.out.2.2.2
      rcases Nat.eq_zero_or_pos cb with hc2 | hc2
      · subst hc2
        go_wp2
        go_end0
        exact ⟨rfl, _, i, V, q2, ho2, fun h => h, hne, hs2, HV1.out, by have := HE.out; omega, by omega, Or.inl rfl⟩
      · have hC : some c ≠ (Value.slice a i cap).ownBlock := fun e => hne e.symm
        have hsz2 := hs2.size
        have hcf : ((cb : Int) == 0) = false := by simp; omega
        go_wp2_with (at_builtin; refine wpList_append_own_at _ rfl _ _ 68 rfl base 35 i0 (.int .u32 0) 1 4 Try.underlying68 hi hz0 hz1 hz2 rfl (by decide) _ _ _ rfl (ho2.alloc _) ⟨wr.heap.size, 0, none⟩ 1 1 [.int .u32 cb] rfl rfl (new_cell _ _ _) (one_one _ rfl) (by unfold maxLen; omega) (by omega) (by simp; omega) ?_)
        intro v' w1 hown' hgrow hnn hat
        rw [show ll V i ++ [.int .u32 (cb : Int)] = ll (upd V i cb) (i + 1) from by rw [ll_succ, upd_same, ll_congr (fun j hj => upd_other _ _ _ _ (show j ≠ i by omega))]] at hown'
        have sW := (World.Since.refl wr.heap.size wr).alloc (Nat.le_refl _) (.cells #[.int .u32 (cb : Int)] 35)
        have hs1 : At1 c o (Value.slice a i cap).ownBlock w w1 := (hs2.alloc hcl _).grown hgrow hcl (Or.inl rfl) hC
        have q1 : w1.cell? ⟨c, o, none⟩ = some (.slice a i cap) := hgrow.cell ((sW.cell (a := ⟨c, o, none⟩) (show c < wr.heap.size by omega)).trans q2) hC
        have f1 : w1.frozen? ⟨c, o, none⟩ = false := by rw [hs1.frozen]; exact hf0
        have hCv : v'.ownBlock ≠ some c := fun e => by
          rcases hat with h | h
          · exact hne (h.symm.trans e)
          · rw [e] at h; simp at h; omega
        obtain ⟨a1, cap1, rfl, hkc1, hac1, hag1⟩ := own_slice hown'
        clear hgrow hnn hat sW ho2 hs2 q2 hC HR
        go_wp2
        go_end0
        refine ⟨rfl, _, i + 1, upd V i cb, World.cell?_setCell_same _ _ _ q1, ownsRow_setCell_other hown' hCv _, fun h => by simp at h, hCv, hs1.setC _, fun j hj => ?_, ?_, by omega, Or.inr (by rw [show i + 1 - 1 = i by omega, upd_same]; omega)⟩
        · by_cases e2 : j = i
          · subst e2; rw [upd_same]; omega
          · rw [upd_other _ _ _ _ e2]; exact HV1.out j (by omega)
        · have := HE.out
          simp only [lv, upd_same, lv_upd V i cb i (Nat.le_refl _)]
          exact this

end Go.Proofs.Ytdfcckifbbeoiaa
