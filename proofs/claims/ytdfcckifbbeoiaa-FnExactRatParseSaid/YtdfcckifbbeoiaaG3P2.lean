import Derived.Test.YtdfcckifbbeoiaaG2P3
import Derived.Test.YtdfcckifbbeoiaaG1P7
import Derived.Test.YtdfcckifbbeoiaaG1P2
import Derived.Test.YtdfcckifbbeoiaaG1P5
namespace Go.Proofs.Ytdfcckifbbeoiaa
open Go.RowKit

/-- What writing into one cell of a box and into one row leaves. -/
structure At1 (c o : Nat) (r : Option Nat) (w w' : World) : Prop where
  os : w'.os = w.os
  tape : w'.tape = w.tape
  output : w'.output = w.output
  size : w.heap.size ≤ w'.heap.size
  block : ∀ k, k < w.heap.size → k ≠ c → some k ≠ r → w'.heap[k]? = w.heap[k]?
  cell : ∀ x, x ≠ o → w'.cell? ⟨c, x, none⟩ = w.cell? ⟨c, x, none⟩
  frozen : ∀ x, w'.frozen? ⟨c, x, none⟩ = w.frozen? ⟨c, x, none⟩

section
variable {c o : Nat} {r : Option Nat} {w w' w'' : World}
theorem At1.refl (c o : Nat) (r : Option Nat) (w : World) : At1 c o r w w := ⟨rfl, rfl, rfl, Nat.le_refl _, fun _ _ _ _ => rfl, fun _ _ => rfl, fun _ => rfl⟩
theorem At1.alloc (h : At1 c o r w w') (hc : c < w.heap.size) (b : Obj) : At1 c o r w (w'.alloc b) := by
  have s : w'.Since w'.heap.size (w'.alloc b) := (World.Since.refl _ _).alloc (Nat.le_refl _) _
  have hl := h.size
  exact ⟨h.os, h.tape, h.output, Nat.le_trans h.size s.size, fun k h1 h2 h3 => (s.block k (by omega)).trans (h.block k h1 h2 h3), fun x hx => (s.cell (a := ⟨c, x, none⟩) (by show c < _; omega)).trans (h.cell x hx), fun x => (s.frozen (a := ⟨c, x, none⟩) (by show c < _; omega)).trans (h.frozen x)⟩
theorem At1.grown {row : Option Nat} (h : At1 c o r w w') (g : w'.grownBy w'' row) (hc : c < w.heap.size) (hr : row = r ∨ ∀ k, row = some k → w.heap.size ≤ k) (hrc : some c ≠ row) : At1 c o r w w'' := by
  have hl := h.size
  refine ⟨g.os.trans h.os, g.tape.trans h.tape, g.output.trans h.output, Nat.le_trans h.size g.size, fun k h1 h2 h3 => (g.block k (by omega) ?_).trans (h.block k h1 h2 h3), fun x hx => (World.cell?_of_block (w := w') (a := ⟨c, x, none⟩) (g.block c (by omega) hrc)).trans (h.cell x hx), fun x => (World.frozen?_of_block (w := w') (a := ⟨c, x, none⟩) (g.block c (by omega) hrc)).trans (h.frozen x)⟩
  rcases hr with rfl | hr
  · exact h3
  · intro e; have := hr k e.symm; omega
theorem At1.setRow (h : At1 c o r w w') (g i : Nat) (v : Value) (hr : some g = r ∨ w.heap.size ≤ g) (hc : g ≠ c) : At1 c o r w (w'.setCell ⟨g, i, none⟩ v) := by
  have M := (Marked.refl w' g).setCell i v
  refine ⟨M.os.trans h.os, M.tape.trans h.tape, M.output.trans h.output, by rw [M.size]; exact h.size, fun k h1 h2 h3 => (M.other k ?_).trans (h.block k h1 h2 h3), fun x hx => (M.cell (a := ⟨c, x, none⟩) (Ne.symm hc)).trans (h.cell x hx), fun x => (M.frozenO (a := ⟨c, x, none⟩) (Ne.symm hc)).trans (h.frozen x)⟩
  rcases hr with rfl | hr
  · intro e; exact h3 (by rw [e])
  · omega
theorem At1.setC (h : At1 c o r w w') (v : Value) : At1 c o r w (w'.setCell ⟨c, o, none⟩ v) := by
  have M := (Marked.refl w' c).setCell o v
  refine ⟨M.os.trans h.os, M.tape.trans h.tape, M.output.trans h.output, by rw [M.size]; exact h.size, fun k h1 h2 h3 => (M.other k h2).trans (h.block k h1 h2 h3), fun x hx => ?_, fun x => (M.frozen x).trans (h.frozen x)⟩
  rw [← h.cell x hx]
  exact World.cell?_setCell_other _ _ _ _ (by simp)
end

/-- What holds when i limbs have been added. -/
def AddL (X V Y : Nat → Nat) (n m i c : Nat) : Prop := lv V i + c * 2 ^ (32 * i) = lv (extL X n) i + lv (extL Y m) i ∧ c ≤ 1 ∧ (∀ k, i ≤ k → V k = extL X n k) ∧ ∀ k, k < i → V k < 4294967296

theorem addL_step {X V Y : Nat → Nat} {n m i c s c' x y : Nat} (h : AddL X V Y n m i c) (hx : V i = x) (hy : extL Y m i = y) (hs : s < 4294967296) (hc : c' ≤ 1) (e : s + c' * 4294967296 = x + y + c) : AddL X (upd V i s) Y n m (i + 1) c' := by
  obtain ⟨h1, h2, h3, h4⟩ := h
  have hx0 : extL X n i = x := by rw [← hx]; exact (h3 i (Nat.le_refl _)).symm
  refine ⟨?_, hc, fun k hk => by rw [upd_other _ _ _ _ (by omega)]; exact h3 k (by omega), fun k hk => ?_⟩
  · simp only [lv, upd_same, lv_upd V i s i (Nat.le_refl _), hx0, hy]
    rw [pow32]
    generalize 2 ^ (32 * i) = P at *
    have e2 : s * P + c' * (4294967296 * P) = x * P + y * P + c * P := by rw [← Nat.mul_assoc, ← Nat.add_mul, ← Nat.add_mul, ← Nat.add_mul, e]
    omega
  · by_cases e2 : k = i
    · subst e2; rw [upd_same]; exact hs
    · rw [upd_other _ _ _ _ e2]; exact h4 k (by omega)

theorem addL_end {X V Y : Nat → Nat} {n m k c : Nat} (h : AddL X V Y n m k c) (hn : n ≤ k) (hm : m ≤ k) : lv V k + c * 2 ^ (32 * k) = lv X n + lv Y m := by
  have := h.1
  rw [lv_extL X n k hn, lv_extL Y m k hm] at this
  exact this

end Go.Proofs.Ytdfcckifbbeoiaa

namespace Go.Proofs.Ytdfcckifbbeoiaa
open Go.RowKit

theorem Limbs.at1 {c o : Nat} {r : Option Nat} {w w' : World} {a : Option Addr} {b off m : Nat} {Y : Nat → Nat} (h : Limbs w a b off m Y) (s : At1 c o r w w') (h1 : 0 < m → b ≠ c) (h2 : 0 < m → r ≠ some b) : Limbs w' a b off m Y :=
  fun j hj => ⟨(h j hj).1, (World.cell?_of_block (w := w) (a := ⟨b, off + j, none⟩) (s.block b (h.lt (by omega)) (h1 (by omega)) (fun e => h2 (by omega) e.symm))).trans (h j hj).2⟩

set_option maxHeartbeats 3200000 in
set_option maxRecDepth 100000 in
/-- (*nat).add into a row of its own. -/
theorem add_any (c o base n : Nat) (v0 : Value) (a' : Option Addr) (b' off' m cap' : Nat) (X Y : Nat → Nat) (w : World) (hn : n ≤ 4194304) (hm : m ≤ 4194304) (hc0 : w.cell? ⟨c, o, none⟩ = some v0) (hf0 : w.frozen? ⟨c, o, none⟩ = false)
    (hown : w.ownsRow base 35 1 v0 n (ll X n)) (hcb : c < base) (hbase : base ≤ w.heap.size) (hne : 0 < m → v0.ownBlock ≠ some b') (hbc : 0 < m → b' ≠ c) (hY : Limbs w a' b' off' m Y) (hXl : ∀ j, j < n → X j < 4294967296) (hYl : ∀ j, j < m → Y j < 4294967296) :
    Calls Try.prog 141 #[.pointer (some ⟨c, o, none⟩), .slice a' m cap'] w fun e w' => e = .returned (.tuple #[]) ∧ ∃ v k V, w'.cell? ⟨c, o, none⟩ = some v ∧ w'.ownsRow base 35 1 v k (ll V k) ∧ (∀ q, v.ownBlock = some q → v0.ownBlock = some q ∨ w.heap.size ≤ q) ∧
      At1 c o v0.ownBlock w w' ∧ (∀ j, j < k → V j < 4294967296) ∧ lv V k = lv X n + lv Y m ∧ k ≤ max n m + 1 ∧ (k = n ∨ k = m ∨ V (k - 1) ≠ 0) := by
  obtain ⟨i0, hi, hz0, hz1, hz2⟩ := info_parts Try.info35
  have hcl : c < w.heap.size := by omega
  have HXl := hide hXl
  have HYl := hide hYl
  clear hXl hYl
  have HLL : Hid (ll (extL X n) n = ll X n) := by
    simp only [Hid, ll]
    exact List.map_congr_left fun j hj => by simp [extL, List.mem_range.1 hj]
  go_enter Try.func141, Try.ntmps141
  go_wp2
  go_loopg [] (m - n) (fun g wr => ∃ (k : Nat) (v : Value), n ≤ k ∧ (k = n ∨ k ≤ m) ∧ Hid (g = m - k) ∧ wr.cell? ⟨c, o, none⟩ = some v ∧ wr.ownsRow base 35 1 v k (ll (extL X n) k) ∧ Hid (∀ q, v.ownBlock = some q → v0.ownBlock = some q ∨ w.heap.size ≤ q) ∧ At1 c o v0.ownBlock w wr)
  case atStart => exact ⟨n, v0, Nat.le_refl _, Or.inl rfl, hide rfl, hc0, by rw [HLL.out]; exact hown, hide (fun q hq => Or.inl hq), At1.refl _ _ _ _⟩
  case round =>
    obtain ⟨k, v, hnk, hkm, HG, q0, ho, HB, hs⟩ := hrel
    obtain ⟨a, cap, rfl, hkc, hac, hag⟩ := own_slice ho
    have qf : wr.frozen? ⟨c, o, none⟩ = false := by rw [hs.frozen]; exact hf0
    have hsz := hs.size
    by_cases hlt : k < m
    · have HO := hide hown
      clear hown
      have hC : some c ≠ (Value.slice a k cap).ownBlock := fun e => by have := (ho.lt c e.symm).1; omega
      go_wp2_with (at_builtin; refine wpList_append_own_at _ rfl _ _ 68 rfl base 35 i0 (.int .u32 0) 1 4 Try.underlying68 hi hz0 hz1 hz2 rfl (by decide) _ _ _ rfl (ho.alloc _) ⟨wr.heap.size, 0, none⟩ 1 1 [.int .u32 0] rfl rfl (new_cell _ _ _) (one_one _ rfl) (by unfold maxLen; omega) (by omega) (by simp; omega) ?_)
      intro v' w1 hown' hgrow hnn hat
      rw [ll_snoc X n k hnk] at hown'
      have sW := (World.Since.refl wr.heap.size wr).alloc (Nat.le_refl _) (.cells #[.int .u32 0] 35)
      have hR : (Value.slice a k cap).ownBlock = v0.ownBlock ∨ ∀ q, (Value.slice a k cap).ownBlock = some q → w.heap.size ≤ q := by
        cases e : (Value.slice a k cap).ownBlock with
        | none => exact Or.inr (fun q h => by cases h)
        | some q =>
          rcases HB.out q e with h | h
          · exact Or.inl h.symm
          · exact Or.inr (fun q' h' => by cases h'; exact h)
      have hs1 : At1 c o v0.ownBlock w w1 := (hs.alloc hcl _).grown hgrow hcl hR hC
      have q1 : w1.cell? ⟨c, o, none⟩ = some (.slice a k cap) := hgrow.cell ((sW.cell (a := ⟨c, o, none⟩) (show c < wr.heap.size by omega)).trans q0) hC
      have f1 : w1.frozen? ⟨c, o, none⟩ = false := by rw [hs1.frozen]; exact hf0
      have HB1 := hide (fun q (hq : v'.ownBlock = some q) => show v0.ownBlock = some q ∨ w.heap.size ≤ q by
        rcases hat with h | h
        · exact HB.out q (h.symm.trans hq)
        · rw [hq] at h; simp at h; omega)
      obtain ⟨a1, cap1, rfl, hkc1, hac1, hag1⟩ := own_slice hown'
      have hCv : (Value.slice a1 (k + 1) cap1).ownBlock ≠ some c := fun e => by have := (hown'.lt c e).1; omega
      clear hgrow hnn hat sW hR ho hs HB q0 qf hC
      go_wp2
      go_roundg (m - (k + 1))
      case rel => exact ⟨k + 1, _, by omega, Or.inr (by omega), hide rfl, World.cell?_setCell_same _ _ _ q1, ownsRow_setCell_other hown' hCv _, HB1, hs1.setC _⟩
      case measure => have := HG.out; omega
    · have hmk : m ≤ k := by omega
      have hkb : k ≤ 4194304 := by omega
      have HKK : Hid (k = n ∨ k = m) := hide (by omega)
      have HV0 : Hid (AddL X (extL X n) Y n m 0 0) := hide ⟨by simp [lv], by omega, fun _ _ => rfl, fun j hj => absurd hj (by omega)⟩
      have HK : Hid (k ≤ max n m) := hide (by omega)
      clear hown hc0 hlt hkm HG
      go_wp2
      go_loopw [4, 26] (fun q t wr => ∃ (i cb : Nat) (V : Nat → Nat), i ≤ k ∧ t = .int .i64 i ∧ q = .int .u64 cb ∧ cb ≤ 1 ∧ wr.cell? ⟨c, o, none⟩ = some (.slice a k cap) ∧ wr.ownsRow base 35 1 (.slice a k cap) k (ll V k) ∧ At1 c o v0.ownBlock w wr ∧ Hid (AddL X V Y n m i cb)) (fun _ t _ => k - (intOf t).toNat)
      case atStart => exact ⟨0, 0, extL X n, Nat.zero_le _, rfl, rfl, by omega, q0, ho, hs, HV0⟩
      case round =>
        obtain ⟨i, cb, V, hik, rfl, rfl, hcb1, q2, ho2, hs2, HR⟩ := hrel
        clear ho hs q0 qf HV0
        by_cases hlt : i < k
        · obtain ⟨g, rfl⟩ := hag i hlt
          obtain ⟨g', cap', e, -, hbg, hgl, LV, FV⟩ := own_limbs_some ho2 (by simp)
          cases e
          have g1 : wr.cell? ⟨g, i, none⟩ = some (.int .u32 (V i)) := by simpa using (LV i hlt).2
          have g2 : wr.frozen? ⟨g, i, none⟩ = false := FV i
          have hgr : some g = v0.ownBlock ∨ w.heap.size ≤ g := by
            rcases HB.out g rfl with h | h
            · exact Or.inl h.symm
            · exact Or.inr h
          have hxl : V i < 4294967296 := by
            rw [HR.out.2.2.1 i (Nat.le_refl _)]
            unfold extL
            split
            · exact HXl.out i (by assumption)
            · omega
          have STEP := hide (fun (s c' : Nat) (y : Nat) (hy : extL Y m i = y) => addL_step (s := s) (c' := c') HR.out rfl hy)
          obtain ⟨x, ex⟩ : ∃ y, y = V i := ⟨_, rfl⟩
          rw [← ex] at g1 hxl STEP
          clear ex LV FV
          have hin : (i : Int) < (k : Int) := by omega
          have hcg : g ≠ c := by omega
          have q3 : ∀ u, (wr.setCell ⟨g, i, none⟩ u).cell? ⟨c, o, none⟩ = some (.slice (some ⟨g, 0, none⟩) k cap) := fun u => by rw [((Marked.refl wr g).setCell i u).cell (a := ⟨c, o, none⟩) (Ne.symm hcg)]; exact q2
          by_cases him : i < m
          · obtain ⟨rfl, ky⟩ := (hY.at1 hs2 hbc hne) i him
            have hyl := HYl.out i him
            have HEy : Hid (extL Y m i = Y i) := by simp [Hid, extL, him]
            obtain ⟨y, ey⟩ : ∃ y, y = Y i := ⟨_, rfl⟩
            rw [← ey] at ky hyl HEy
            clear ey
            by_cases hb : x + cb + y < 4294967296
            · go_wp2
              go_roundw
              case rel => go_light; exact ⟨i + 1, 0, _, by omega, by go_num, congrArg (Value.int .u64) (by omega), by omega, q3 _, own_setI ho2 i (x + cb + y) hlt _ (by omega), hs2.setRow g i _ hgr hcg, STEP.out _ _ y HEy.out (by omega) (by omega) (by omega)⟩
              case measure => simp [intOf]; omega
            · go_wp2
              go_roundw
              case rel => go_light; exact ⟨i + 1, 1, _, by omega, by go_num, congrArg (Value.int .u64) (by omega), by omega, q3 _, own_setI ho2 i (x + cb + y - 4294967296) hlt _ (by omega), hs2.setRow g i _ hgr hcg, STEP.out _ _ y HEy.out (by omega) (by omega) (by omega)⟩
              case measure => simp [intOf]; omega
          · have HEy : Hid (extL Y m i = 0) := by simp [Hid, extL, him]
            by_cases hb : x + cb < 4294967296
            · go_wp2
              go_roundw
              case rel => go_light; exact ⟨i + 1, 0, _, by omega, by go_num, congrArg (Value.int .u64) (by omega), by omega, q3 _, own_setI ho2 i (x + cb) hlt _ (by omega), hs2.setRow g i _ hgr hcg, STEP.out _ _ 0 HEy.out (by omega) (by omega) (by omega)⟩
              case measure => simp [intOf]; omega
            · go_wp2
              go_roundw
              case rel => go_light; exact ⟨i + 1, 1, _, by omega, by go_num, congrArg (Value.int .u64) (by omega), by omega, q3 _, own_setI ho2 i (x + cb - 4294967296) hlt _ (by omega), hs2.setRow g i _ hgr hcg, STEP.out _ _ 0 HEy.out (by omega) (by omega) (by omega)⟩
              case measure => simp [intOf]; omega
        · have e : i = k := by omega
          subst e
          have HE := hide (addL_end HR.out hnk hmk)
          have hc2 : cb = 0 ∨ cb = 1 := by omega
          rcases hc2 with rfl | rfl
          · go_wp2
            go_end0
            exact ⟨rfl, _, i, V, q2, ho2, HB.out, hs2, HR.out.2.2.2, by have := HE.out; omega, by have := HK.out; omega, by rcases HKK.out with h | h <;> simp [h]⟩
          · have hC : some c ≠ (Value.slice a i cap).ownBlock := fun e => by have := (ho2.lt c e.symm).1; omega
            have hsz2 := hs2.size
            go_wp2_with (at_builtin; refine wpList_append_own_at _ rfl _ _ 68 rfl base 35 i0 (.int .u32 0) 1 4 Try.underlying68 hi hz0 hz1 hz2 rfl (by decide) _ _ _ rfl (ho2.alloc _) ⟨wr.heap.size, 0, none⟩ 1 1 [.int .u32 1] rfl rfl (new_cell _ _ _) (one_one _ rfl) (by unfold maxLen; omega) (by omega) (by simp; omega) ?_)
            intro v' w1 hown' hgrow hnn hat
            rw [show ll V i ++ [.int .u32 1] = ll (upd V i 1) (i + 1) from by rw [ll_succ, upd_same, ll_congr (fun j hj => upd_other _ _ _ _ (show j ≠ i by omega))]; rfl] at hown'
            have sW := (World.Since.refl wr.heap.size wr).alloc (Nat.le_refl _) (.cells #[.int .u32 1] 35)
            have hR : (Value.slice a i cap).ownBlock = v0.ownBlock ∨ ∀ q, (Value.slice a i cap).ownBlock = some q → w.heap.size ≤ q := by
              cases e : (Value.slice a i cap).ownBlock with
              | none => exact Or.inr (fun q h => by cases h)
              | some q =>
                rcases HB.out q e with h | h
                · exact Or.inl h.symm
                · exact Or.inr (fun q' h' => by cases h'; exact h)
            have hs1 : At1 c o v0.ownBlock w w1 := (hs2.alloc hcl _).grown hgrow hcl hR hC
            have q1 : w1.cell? ⟨c, o, none⟩ = some (.slice a i cap) := hgrow.cell ((sW.cell (a := ⟨c, o, none⟩) (show c < wr.heap.size by omega)).trans q2) hC
            have f1 : w1.frozen? ⟨c, o, none⟩ = false := by rw [hs1.frozen]; exact hf0
            have HB1 := hide (fun q (hq : v'.ownBlock = some q) => show v0.ownBlock = some q ∨ w.heap.size ≤ q by
              rcases hat with h | h
              · exact HB.out q (h.symm.trans hq)
              · rw [hq] at h; simp at h; omega)
            obtain ⟨a1, cap1, rfl, hkc1, hac1, hag1⟩ := own_slice hown'
            have hCv : (Value.slice a1 (i + 1) cap1).ownBlock ≠ some c := fun e => by have := (hown'.lt c e).1; omega
            have HV1 := hide HR.out.2.2.2
            clear hgrow hnn hat sW hR ho2 hs2 HB q2 hC HR
            go_wp2
            go_end0
            refine ⟨rfl, _, i + 1, upd V i 1, World.cell?_setCell_same _ _ _ q1, ownsRow_setCell_other hown' hCv _, HB1.out, hs1.setC _, fun j hj => ?_, ?_, by have := HK.out; omega, Or.inr (Or.inr (by rw [show i + 1 - 1 = i by omega, upd_same]; omega))⟩
            · by_cases e2 : j = i
              · subst e2; rw [upd_same]; omega
              · rw [upd_other _ _ _ _ e2]; exact HV1.out j (by omega)
            · have := HE.out
              simp only [lv, upd_same, lv_upd V i 1 i (Nat.le_refl _)]
              exact this

end Go.Proofs.Ytdfcckifbbeoiaa

namespace Go.Proofs.Ytdfcckifbbeoiaa
open Go.RowKit

/-- Old memory but for three blocks stands. -/
structure Oth3 (c g h : Nat) (w w' : World) : Prop where
  os : w'.os = w.os
  tape : w'.tape = w.tape
  output : w'.output = w.output
  size : w.heap.size ≤ w'.heap.size
  block : ∀ k, k < w.heap.size → k ≠ c → k ≠ g → k ≠ h → w'.heap[k]? = w.heap[k]?

theorem Oth3.refl (c g h : Nat) (w : World) : Oth3 c g h w w := ⟨rfl, rfl, rfl, Nat.le_refl _, fun _ _ _ _ _ => rfl⟩
theorem Oth3.trans {c g h : Nat} {w w1 w2 : World} (x : Oth3 c g h w w1) (y : Oth3 c g h w1 w2) : Oth3 c g h w w2 :=
  ⟨y.os.trans x.os, y.tape.trans x.tape, y.output.trans x.output, Nat.le_trans x.size y.size, fun k h1 h2 h3 h4 => (y.block k (Nat.lt_of_lt_of_le h1 x.size) h2 h3 h4).trans (x.block k h1 h2 h3 h4)⟩
theorem Oth3.ofMarked {c g h b : Nat} {w w' : World} (m : Marked w w' b) (hb : b = c ∨ b = g ∨ b = h) : Oth3 c g h w w' :=
  ⟨m.os, m.tape, m.output, by rw [m.size]; exact Nat.le_refl _, fun k _ h2 h3 h4 => m.other k (by omega)⟩
theorem Oth3.ofAt1 {c o g h : Nat} {w w' : World} (m : At1 c o (some g) w w') : Oth3 c g h w w' :=
  ⟨m.os, m.tape, m.output, m.size, fun k h1 h2 h3 _ => m.block k h1 h2 (by simp; exact h3)⟩
theorem Oth3.since {c g h B : Nat} {w w' : World} (s : Oth3 c g h w w') (hB : B ≤ w.heap.size) (hc : B ≤ c) (hg : B ≤ g) (hh : B ≤ h) : w.Since B w' :=
  ⟨s.os, s.tape, s.output, s.size, fun k hk => s.block k (by omega) (by omega) (by omega) (by omega)⟩

/-- The sign and the numerator of a sum. -/
def sumNeg (f f' : Bool) (x y : Nat) : Bool := if f = f' then f else if x < y then f' else f
def sumTop (f f' : Bool) (x y : Nat) : Nat := if f = f' then x + y else if x < y then y - x else x - y

theorem top_of_sum {X Y V : Nat → Nat} {n m k : Nat} (lV : ∀ j, j < k → V j < 4294967296) (e : lv V k = lv X n + lv Y m) (hk : k = n ∨ k = m ∨ V (k - 1) ≠ 0) (pX : 0 < n → X (n - 1) ≠ 0) (pY : 0 < m → Y (m - 1) ≠ 0) (h0 : 0 < k) : V (k - 1) ≠ 0 := by
  intro hz
  have e2 : lv V k = lv V (k - 1) := lv_more V (k - 1) k (by omega) (fun j h1 h2 => by rw [show j = k - 1 by omega]; exact hz)
  rcases hk with rfl | rfl | h
  · have := lv_short (A := V) (B := X) (n := k - 1) (m := k) (fun j hj => lV j (by omega)) (by omega) pX
    omega
  · have := lv_short (A := V) (B := Y) (n := k - 1) (m := k) (fun j hj => lV j (by omega)) (by omega) pY
    omega
  · exact h hz


theorem subAt1 (c : Nat) (x z u : Value) (b n cap : Nat) (a' : Option Addr) (b' off' m cap' : Nat) (X Y : Nat → Nat) (w : World) (hn : n ≤ 16777216) (hnc : n ≤ cap) (B : Box4 w c x (.slice (some ⟨b, 0, none⟩) n cap) z u)
    (hf : ∀ x, w.frozen? ⟨b, x, none⟩ = false) (hcb : c ≠ b) (hbb : b' ≠ b) (hX : Limbs w (some ⟨b, 0, none⟩) b 0 n X) (hY : Limbs w a' b' off' m Y) (hXl : ∀ j, j < n → X j < 4294967296) (hYl : ∀ j, j < m → Y j < 4294967296) (pY : 0 < m → Y (m - 1) ≠ 0) (hle : lv Y m ≤ lv X n) (g h : Nat) (hb : b = g ∨ b = h) :
    Calls Try.prog 142 #[.pointer (some ⟨c, 1, none⟩), .slice a' m cap'] w fun e w' => e = .returned (.tuple #[]) ∧ ∃ v, Box4 w' c x v z u ∧ NatAt w' v b (lv X n - lv Y m) n ∧ Oth3 c g h w w' := by
  have hmn : m ≤ n := by
    rcases Nat.lt_or_ge n m with h1 | h1
    · have := lv_short (A := X) (B := Y) (n := n) (m := m) hXl h1 pY
      omega
    · exact h1
  refine (subtract_any c 1 b n cap a' b' off' m cap' X Y w hn hnc hmn B.c1 (B.f 1) hf hcb hbb hX hY hXl hYl hle).mono ?_
  rintro e w' ⟨rfl, w2, V, M, L, lV, eV, rfl⟩
  have M2 := (Marked.refl w2 c).setCell 1 (.slice (some ⟨b, 0, none⟩) (tlen (nz V) n) cap)
  have N2 : NatAt w2 (.slice (some ⟨b, 0, none⟩) (tlen (nz V) n) cap) b (lv X n - lv Y m) n :=
    ⟨_, _, _, V, rfl, Nat.le_trans (tlen_le _ _) hnc, tlen_le _ _, fun h => (by cases h), L.take (tlen_le _ _), fun _ o => by rw [M.frozen o]; exact hf o, fun j hj => lV j (Nat.lt_of_lt_of_le hj (tlen_le _ _)), top_row, by rw [lv_tlen]; exact eV⟩
  exact ⟨rfl, _, (B.marked M hcb).set1 _, N2.marked M2 (Ne.symm hcb), (Oth3.ofMarked M (by omega)).trans (Oth3.ofMarked M2 (Or.inl rfl))⟩

end Go.Proofs.Ytdfcckifbbeoiaa

namespace Go.Proofs.Ytdfcckifbbeoiaa
open Go.RowKit

set_option maxHeartbeats 1600000 in
set_option maxRecDepth 100000 in
/-- (*fraction).addTop. -/
theorem addTop_any (c : Nat) (f f' : Bool) (v2 v3 : Value) (g h qg qh : Nat) (P Q : Nat → Nat) (w : World) (hqg : qg ≤ 1048575) (hqh : qh ≤ 1048575) (B : Box4 w c (.bool f) (.slice (some ⟨g, 0, none⟩) (tlen (nz P) qg) qg) v2 v3)
    (rg : w.rowIs g 35 qg (fun j => .int .u32 (P j : Nat))) (rh : w.rowIs h 35 qh (fun j => .int .u32 (Q j : Nat))) (hP : ∀ k, P k < 4294967296) (hQ : ∀ k, Q k < 4294967296) (hcg : c < g) (hgh : h ≠ g) (hch : c ≠ h) :
    Calls Try.prog 133 #[.pointer (some ⟨c, 0, none⟩), .bool f', .slice (some ⟨h, 0, none⟩) (tlen (nz Q) qh) qh] w fun e w' => e = .returned (.tuple #[]) ∧ ∃ v gg, Box4 w' c (.bool (sumNeg f f' (lv P qg) (lv Q qh))) v v2 v3 ∧
      NatAt w' v gg (sumTop f f' (lv P qg) (lv Q qh)) 1048576 ∧ (gg = g ∨ gg = h ∨ w.heap.size ≤ gg) ∧ gg < w'.heap.size ∧ Oth3 c g h w w' := by
  have tP := tlen_le (nz P) qg
  have tQ := tlen_le (nz Q) qh
  have LP := (limbs_row rg).take tP
  have LQ := (limbs_row rh).take tQ
  have pP : 0 < tlen (nz P) qg → P (tlen (nz P) qg - 1) ≠ 0 := top_row
  have pQ : 0 < tlen (nz Q) qh → Q (tlen (nz Q) qh - 1) ≠ 0 := top_row
  have eP := lv_tlen P qg
  have eQ := lv_tlen Q qh
  have oP : w.ownsRow g 35 1 (.slice (some ⟨g, 0, none⟩) (tlen (nz P) qg) qg) (tlen (nz P) qg) (ll P (tlen (nz P) qg)) := row_own rg tP (by unfold maxLen; omega) (Nat.le_refl _)
  have fg := rg.frozen
  have fh := rh.frozen
  have gl := rg.lt
  have hl := rh.lt
  clear rg rh
  generalize tlen (nz P) qg = n at *
  generalize tlen (nz Q) qh = m at *
  have hcl := B.lt
  by_cases hff : f = f'
  · have hN : sumNeg f f' (lv P qg) (lv Q qh) = f := by simp [sumNeg, hff]
    have hT : sumTop f f' (lv P qg) (lv Q qh) = lv P n + lv Q m := by simp [sumTop, hff, eP, eQ]
    rw [hN, hT]
    clear hN hT eP eQ
    subst hff
    have k0 := B.c0
    go_enter Try.func133, Try.ntmps133
    go_wp2_with fail
    refine (add_any c 1 g n (.slice (some ⟨g, 0, none⟩) n qg) (some ⟨h, 0, none⟩) h 0 m qh P Q w (by omega) (by omega) B.c1 (B.f 1) oP hcg (by omega) (fun _ e => hgh (by simpa [Value.ownBlock] using e.symm)) (fun _ => Ne.symm hch) LQ (fun j _ => hP j) (fun j _ => hQ j)).mono ?_
    rintro e w1 ⟨rfl, v, k, V, c1, o1, b1, A1, lV, eV, kk, tk⟩
    go_wp2
    refine bodyPost_ret (results_none rfl _ _ _) rfl ?_
    have top := top_of_sum lV eV tk pP pQ
    have Bx : Box4 w1 c (.bool f) v v2 v3 := ⟨by rw [A1.cell 0 (by omega)]; exact B.c0, c1, by rw [A1.cell 2 (by omega)]; exact B.c2, by rw [A1.cell 3 (by omega)]; exact B.c3, fun x => by rw [A1.frozen]; exact B.f x⟩
    have hs := A1.size
    have hk : k ≤ 1048576 := by omega
    have O : Oth3 c g h w w1 := Oth3.ofAt1 A1
    have hc := @World.ownsRow.cells _ _ _ _ _ _ _ o1
    rcases o1.2 with ⟨rfl, rfl⟩ | ⟨g', cap, cur, rfl, hb, hg, hm, _⟩
    · exact ⟨rfl, _, g, Bx, by rw [← eV]; exact natAt_nil _ _ _, Or.inl rfl, by omega, O⟩
    · have hlt := (Array.getElem?_eq_some_iff.1 hg).1
      refine ⟨rfl, _, g', Bx, ⟨_, k, cap, V, rfl, hm, hk, fun h => (by cases h), fun j hj => ⟨rfl, ?_⟩, fun _ o => by simp [World.frozen?, hg], lV, top, eV⟩, ?_, hlt, O⟩
      · have := hc (g := g') rfl j _ (ll_get V k j hj)
        rw [Addr.add_lit] at this; exact this
      · rcases b1 g' rfl with e | e
        · simp [Value.ownBlock] at e; exact Or.inl e.symm
        · exact Or.inr (Or.inr e)
  · have k0 := B.c0
    have HFF := hide hff
    have hfb : (f == f') = false := by simp [hff]
    by_cases hlt : lv P n < lv Q m
    · have hN : sumNeg f f' (lv P qg) (lv Q qh) = f' := by rw [← eP, ← eQ]; simp [sumNeg, hff, hlt]
      have hT : sumTop f f' (lv P qg) (lv Q qh) = lv Q m - lv P n := by rw [← eP, ← eQ]; simp [sumTop, hff, hlt]
      rw [hN, hT]
      clear hN hT eP eQ hff
      have hcp := cmpN_neg2 hlt
      have HL := hide hlt
      clear hlt
      go_enter Try.func133, Try.ntmps133
      go_wp2_with fail
      refine (compare_any c 1 (some ⟨g, 0, none⟩) (some ⟨h, 0, none⟩) g 0 n qg h 0 m qh P Q w (by omega) (by omega) B.c1 LP LQ (fun j _ => hP j) (fun j _ => hQ j) pP pQ).mono ?_
      rintro e w1 ⟨rfl, s1⟩
      have B1 : Box4 w1 c (.bool f) (.slice (some ⟨g, 0, none⟩) n qg) v2 v3 := ⟨by rw [s1.cell]; exact B.c0, by rw [s1.cell]; exact B.c1, by rw [s1.cell]; exact B.c2, by rw [s1.cell]; exact B.c3, fun x => by rw [s1.frozen]; exact B.f x⟩
      have j1 := B1.c1
      have j0 := B1.c0
      have jf0 := B1.f 0
      have jf1 := B1.f 1
      go_wp2_with fail
      have M1 : Marked w1 ((w1.setCell ⟨c, 1, none⟩ (.slice (some ⟨h, 0, none⟩) m qh)).setCell ⟨c, 0, none⟩ (.bool f')) c := ((Marked.refl w1 c).setCell 1 _).setCell 0 _
      have B2 := (B1.set1 (.slice (some ⟨h, 0, none⟩) m qh)).set0 (.bool f')
      have O1 : Oth3 c g h w w1 := ⟨s1.os, s1.tape, s1.output, by rw [s1.size]; exact Nat.le_refl _, fun k _ _ _ _ => by rw [s1.heap]⟩
      have O2 := O1.trans (Oth3.ofMarked (c := c) (g := g) (h := h) M1 (Or.inl rfl))
      refine (subAt1 c _ _ _ h m qh (some ⟨g, 0, none⟩) g 0 n qg Q P _ (by omega) tQ B2 (fun x => by rw [M1.frozenO (a := ⟨h, x, none⟩) (Ne.symm hch), s1.frozen]; exact fh x) hch (Ne.symm hgh) ((LQ.same s1).marked M1 (fun _ => Ne.symm hch)) ((LP.same s1).marked M1 (fun _ => by omega)) (fun j _ => hQ j) (fun j _ => hP j) pP (Nat.le_of_lt HL.out) g h (Or.inr rfl)).mono ?_
      rintro e w2 ⟨rfl, v, B3, N3, O3⟩
      have O := O2.trans O3
      go_wp2
      go_end0
      exact ⟨rfl, v, h, B3, N3.more (by omega), Or.inr (Or.inl rfl), Nat.lt_of_lt_of_le hl O.size, O⟩
    · have hN : sumNeg f f' (lv P qg) (lv Q qh) = f := by rw [← eP, ← eQ]; simp [sumNeg, hff, hlt]
      have hT : sumTop f f' (lv P qg) (lv Q qh) = lv P n - lv Q m := by rw [← eP, ← eQ]; simp [sumTop, hff, hlt]
      rw [hN, hT]
      clear hN hT eP eQ hff
      have hcp := cmpN_nonneg2 (Nat.le_of_not_lt hlt)
      have HL := hide (Nat.le_of_not_lt hlt)
      clear hlt
      go_enter Try.func133, Try.ntmps133
      go_wp2_with fail
      refine (compare_any c 1 (some ⟨g, 0, none⟩) (some ⟨h, 0, none⟩) g 0 n qg h 0 m qh P Q w (by omega) (by omega) B.c1 LP LQ (fun j _ => hP j) (fun j _ => hQ j) pP pQ).mono ?_
      rintro e w1 ⟨rfl, s1⟩
      have B1 : Box4 w1 c (.bool f) (.slice (some ⟨g, 0, none⟩) n qg) v2 v3 := ⟨by rw [s1.cell]; exact B.c0, by rw [s1.cell]; exact B.c1, by rw [s1.cell]; exact B.c2, by rw [s1.cell]; exact B.c3, fun x => by rw [s1.frozen]; exact B.f x⟩
      go_wp2_with fail
      refine (subAt1 c _ _ _ g n qg (some ⟨h, 0, none⟩) h 0 m qh P Q w1 (by omega) tP B1 (fun x => by rw [s1.frozen]; exact fg x) (by omega) hgh (LP.same s1) (LQ.same s1) (fun j _ => hP j) (fun j _ => hQ j) pQ HL.out g h (Or.inl rfl)).mono ?_
      rintro e w2 ⟨rfl, v, B2, N2, O2⟩
      have O1 : Oth3 c g h w w1 := ⟨s1.os, s1.tape, s1.output, by rw [s1.size]; exact Nat.le_refl _, fun k _ _ _ _ => by rw [s1.heap]⟩
      have O := O1.trans O2
      go_wp2
      go_end0
      exact ⟨rfl, v, g, B2, N2.more (by omega), Or.inl rfl, Nat.lt_of_lt_of_le gl O.size, O⟩

end Go.Proofs.Ytdfcckifbbeoiaa
