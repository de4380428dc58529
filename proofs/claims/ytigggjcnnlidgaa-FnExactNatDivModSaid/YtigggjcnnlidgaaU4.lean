import Derived.Test.YtigggjcnnlidgaaU3
namespace Go.Proofs.Ytigggjcnnlidgaa
open Go.RowKit

/-- F below i, X from i on. -/
def mix (F X : Nat → Nat) (i : Nat) : Nat → Nat := fun j => if j < i then F j else X j
theorem mix_lt (F X : Nat → Nat) (i j : Nat) (h : j < i) : mix F X i j = F j := by simp [mix, h]
theorem mix_ge (F X : Nat → Nat) (i j : Nat) (h : i ≤ j) : mix F X i j = X j := by simp [mix]; omega
theorem mix_upd (F X : Nat → Nat) (i v : Nat) (h : v = F i) (j : Nat) : upd (mix F X i) i v j = mix F X (i + 1) j := by
  by_cases e : j = i
  · subst e; rw [upd_same, mix_lt _ _ _ _ (by omega), h]
  · rw [upd_other _ _ _ _ e]
    by_cases e2 : j < i
    · rw [mix_lt _ _ _ _ e2, mix_lt _ _ _ _ (by omega)]
    · rw [mix_ge _ _ _ _ (by omega), mix_ge _ _ _ _ (by omega)]

theorem shr_val (v p : Nat) : (v : Int) / 2 ^ p % 4294967296 = ((v / 2 ^ p % 4294967296 : Nat) : Int) := by
  rw [Int.natCast_emod, Int.natCast_ediv, Int.natCast_pow]; rfl

theorem Limbs.setOther {w : World} {a : Option Addr} {b off n : Nat} {X : Nat → Nat} (h : Limbs w a b off n X) {c o : Nat} (hne : c ≠ b) (v : Value) : Limbs (w.setCell ⟨c, o, none⟩ v) a b off n X :=
  fun j hj => ⟨(h j hj).1, by rw [World.cell?_setCell_other _ _ _ _ (fun h => by have := congrArg Addr.block h; simp at this; omega)]; exact (h j hj).2⟩

theorem setCell_twice (w : World) (b o : Nat) (u v : Value) : (w.setCell ⟨b, o, none⟩ u).setCell ⟨b, o, none⟩ v = w.setCell ⟨b, o, none⟩ v := by
  unfold World.setCell
  congr 1
  apply Array.ext_getElem?
  intro i
  simp only [Array.getElem?_modify]
  split
  · cases w.heap[i]? with
    | none => rfl
    | some x => cases x <;> simp
  · rfl

theorem or64b (a b : Nat) (ha : a < 4294967296) (hb : b < 4294967296) : bits .or .u64 (a : Int) ((b : Int) * 4294967296) = (a : Int) + (b : Int) * 4294967296 := by
  have h := u64_or_nat a (b * 4294967296) (by omega) (by omega)
  rw [Nat.or_comm, or_add32 b a ha] at h
  rw [show ((b * 4294967296 : Nat) : Int) = (b : Int) * 4294967296 by omega] at h
  rw [h]; omega

set_option maxHeartbeats 3200000 in
set_option maxRecDepth 100000 in
theorem shiftRight_any (c o : Nat) (b n cap whole p : Nat) (X : Nat → Nat) (w : World) (hn : n ≤ 16777216) (hnc : n ≤ cap) (hw : whole < n) (hp : p < 32) (hX : Limbs w (some ⟨b, 0, none⟩) b 0 n X)
    (hXl : ∀ j, j < n → X j < 4294967296) (hc0 : w.cell? ⟨c, o, none⟩ = some (.slice (some ⟨b, 0, none⟩) n cap)) (hf0 : w.frozen? ⟨c, o, none⟩ = false) (hf : ∀ o, w.frozen? ⟨b, o, none⟩ = false) (hcb : c ≠ b) :
    Calls Try.prog 36 #[.pointer (some ⟨c, o, none⟩), .int .i64 ((32 * whole + p : Nat) : Int)] w fun e w' => e = .returned (.tuple #[]) ∧ ∃ w2 S k, Marked w w2 b ∧ Limbs w2 (some ⟨b, 0, none⟩) b 0 k S ∧
      k ≤ n ∧ (∀ j, j < k → S j < 4294967296) ∧ lv S k = lv X n / 2 ^ (32 * whole + p) ∧ w' = w2.setCell ⟨c, o, none⟩ (.slice (some ⟨b, 0, none⟩) (tlen (nz S) k) cap) := by
  have hq1 : ((32 * whole + p : Nat) : Int) / 32 = (whole : Int) := by omega
  have hq2 : ((32 * whole + p : Nat) : Int) % 32 = (p : Int) := by omega
  obtain ⟨cnt, hcnt⟩ : ∃ q, q = 32 * whole + p := ⟨_, rfl⟩
  have HC := hide hcnt
  rw [← hcnt] at hq1 hq2 ⊢
  have hcb2 : cnt ≤ 536870943 := by omega
  clear hcnt
  go_enter Try.func36, Try.ntmps36
  go_wp2
  rw [hq2]
  clear hq1 hq2
  have hmin : ¬ (n : Int) < (whole : Int) := by omega
  go_region
  go_wp2
  obtain ⟨K, hK⟩ : ∃ K, K = n - whole := ⟨_, rfl⟩
  have HK : Hid (K = n - whole) := hK
  have hKn : K + whole = n := by omega
  rw [← hK]
  clear hK hmin
  go_loopw [26] (fun q wr => ∃ (i : Nat), i ≤ K ∧ q = .int .i64 i ∧ Marked w wr b ∧ Limbs wr (some ⟨b, 0, none⟩) b 0 n (mix (shrLimb (fun t => X (whole + t)) K p) X i)) (fun q _ => K - (intOf q).toNat)
  case atStart => exact ⟨0, Nat.zero_le _, rfl, (Marked.refl _ _).drew, hX.congr (fun j _ => (mix_ge _ _ _ _ (by omega)).symm)⟩
  case round =>
    obtain ⟨i, hi, rfl, hs, hL⟩ := hrel
    have g2 : wr.cell? ⟨c, o, none⟩ = some (.slice (some ⟨b, 0, none⟩) n cap) := by rw [hs.cell (a := ⟨c, o, none⟩) hcb]; exact hc0
    by_cases hlt : i < K
    · have g0 : wr.cell? ⟨b, whole + i, none⟩ = some (.int .u32 (X (whole + i))) := by
        have := (hL (whole + i) (by omega)).2
        rw [mix_ge _ _ _ _ (by omega), Nat.zero_add] at this
        exact this
      have g1 : wr.cell? ⟨b, i, none⟩ = some (.int .u32 (X i)) := by
        have := (hL i (by omega)).2
        rw [mix_ge _ _ _ _ (by omega), Nat.zero_add] at this
        exact this
      have g3 : wr.frozen? ⟨b, i, none⟩ = false := by rw [hs.frozen]; exact hf i
      have hxi := hXl (whole + i) (by omega)
      have hin : (i : Int) < (n : Int) := by omega
      by_cases hlt2 : i + 1 < K
      · have g4 : wr.cell? ⟨b, whole + (i + 1), none⟩ = some (.int .u32 (X (whole + (i + 1)))) := by
          have := (hL (whole + (i + 1)) (by omega)).2
          rw [mix_ge _ _ _ _ (by omega), Nat.zero_add] at this
          exact this
        have hyi := hXl (whole + (i + 1)) (by omega)
        have hor := or64b (X (whole + i)) (X (whole + (i + 1))) hxi hyi
        have HV : Hid (shrLimb (fun t => X (whole + t)) K p i = (X (whole + i) + X (whole + (i + 1)) * 4294967296) / 2 ^ p % 4294967296) := by simp [Hid, shrLimb, hlt2]
        obtain ⟨x, hx⟩ : ∃ x, x = X (whole + i) := ⟨_, rfl⟩
        obtain ⟨y, hy⟩ : ∃ y, y = X (whole + (i + 1)) := ⟨_, rfl⟩
        rw [← hx] at g0 hxi hor HV
        rw [← hy] at g4 hyi hor HV
        clear hx hy
        go_wp2
        clear hor g4 g0
        obtain ⟨v, hv⟩ : ∃ v, v = x + y * 4294967296 := ⟨_, rfl⟩
        have hvi : (x : Int) + (y : Int) * 4294967296 = (v : Int) := by omega
        have hvl : v < 18446744073709551616 := by omega
        rw [← hv] at HV
        rw [hvi]
        clear hv hvi
        have t1 : ¬ (p : Int) < 0 := by omega
        have t2 : IntKind.u64.wrap (v : Int) = (v : Int) := wrap_u64_id v hvl
        go_region
        go_wp2
        go_roundw
        case rel =>
          go_light
          rw [shr_val v p]
          exact ⟨i + 1, by omega, by go_num, (hs.setCell _ _).drew, (hL.put _).congr (fun j _ => mix_upd _ _ _ _ HV.out.symm j)⟩
        case measure => simp [intOf]; omega
      · have HV : Hid (shrLimb (fun t => X (whole + t)) K p i = X (whole + i) / 2 ^ p % 4294967296) := by simp [Hid, shrLimb, hlt2]
        obtain ⟨v, hv⟩ : ∃ x, x = X (whole + i) := ⟨_, rfl⟩
        rw [← hv] at g0 hxi HV
        have hvl : v < 18446744073709551616 := by omega
        clear hv
        go_wp2
        clear g0
        have t1 : ¬ (p : Int) < 0 := by omega
        have t2 : IntKind.u64.wrap (v : Int) = (v : Int) := wrap_u64_id v hvl
        go_region
        go_wp2
        go_roundw
        case rel =>
          go_light
          rw [shr_val v p]
          exact ⟨i + 1, by omega, by go_num, (hs.setCell _ _).drew, (hL.put _).congr (fun j _ => mix_upd _ _ _ _ HV.out.symm j)⟩
        case measure => simp [intOf]; omega
    · have e : i = K := by omega
      subst e
      have g3 : wr.frozen? ⟨c, o, none⟩ = false := by rw [hs.frozenO (a := ⟨c, o, none⟩) hcb]; exact hf0
      have hL2 : Limbs wr (some ⟨b, 0, none⟩) b 0 i (shrLimb (fun t => X (whole + t)) i p) := (hL.take (by omega)).congr (fun j hj => mix_lt _ _ _ _ hj)
      go_wp2_with fail
      refine (trimAt_any c o _ b 0 i cap _ _ (by omega) (by omega) (World.cell?_setCell_same _ _ _ g2) (by simp [g3]) (hL2.setOther hcb _)).mono ?_
      rintro e w1 ⟨rfl, rfl⟩
      go_wp2
      go_end0
      have HLv : lv (shrLimb (fun t => X (whole + t)) i p) i = lv X n / 2 ^ cnt := by
        rw [lv_shrLimb _ i p hp (fun j hj => hXl (whole + j) (by omega)), HK.out, lv_shr X n whole (by omega) hXl, Nat.div_div_eq_div_mul, ← Nat.pow_add, HC.out]
      exact ⟨rfl, wr, _, i, hs, hL2, by omega, fun j _ => shrLimb_lt _ _ _ _, HLv, setCell_twice _ _ _ _ _⟩

end Go.Proofs.Ytigggjcnnlidgaa
