import Derived.Test.YtklkohdcilnchabDoorG1P5
import Derived.Test.YtklkohdcilnchabDoorG1P2
import Derived.Maps.AppendAt
import Derived.OneCell
import Derived.Test.YtklkohdcilnchabDoorG1P1
import Derived.Test.YtklkohdcilnchabDoorG1P3
import Derived.Test.YtklkohdcilnchabDoorG1P6
import Derived.Test.YtklkohdcilnchabDoorG1P7
namespace Go.Proofs.YtklkohdcilnchabDoor
open Go.RowKit

/-- What writing into one cell of a box and into one row leaves. -/
structure At1 (c o : Nat) (r : Option Nat) (w w' : World) : Prop where
  os : w'.os = w.os
  tape : w'.tape = w.tape
  output : w'.output = w.output
  size : w.heap.size ≤ w'.heap.size
  block : ∀ k, k < w.heap.size → k ≠ c → some k ≠ r → w'.heap[k]? = w.heap[k]?
  cell : ∀ x, x ≠ o → w'.cell? ⟨c, x, none⟩ = w.cell? ⟨c, x, none⟩
  frozen : ∀ x, w'.frozen? ⟨c, x, none⟩ = w.frozen? ⟨c, x, none⟩

section
variable {c o : Nat} {r : Option Nat} {w w' w'' : World}
theorem At1.refl (c o : Nat) (r : Option Nat) (w : World) : At1 c o r w w := ⟨rfl, rfl, rfl, Nat.le_refl _, fun _ _ _ _ => rfl, fun _ _ => rfl, fun _ => rfl⟩
theorem At1.alloc (h : At1 c o r w w') (hc : c < w.heap.size) (b : Obj) : At1 c o r w (w'.alloc b) := by
  have s : w'.Since w'.heap.size (w'.alloc b) := (World.Since.refl _ _).alloc (Nat.le_refl _) _
  have hl := h.size
  exact ⟨h.os, h.tape, h.output, Nat.le_trans h.size s.size, fun k h1 h2 h3 => (s.block k (by omega)).trans (h.block k h1 h2 h3), fun x hx => (s.cell (a := ⟨c, x, none⟩) (by show c < _; omega)).trans (h.cell x hx), fun x => (s.frozen (a := ⟨c, x, none⟩) (by show c < _; omega)).trans (h.frozen x)⟩
theorem At1.grown {row : Option Nat} (h : At1 c o r w w') (g : w'.grownBy w'' row) (hc : c < w.heap.size) (hr : row = r ∨ ∀ k, row = some k → w.heap.size ≤ k) (hrc : some c ≠ row) : At1 c o r w w'' := by
  have hl := h.size
  refine ⟨g.os.trans h.os, g.tape.trans h.tape, g.output.trans h.output, Nat.le_trans h.size g.size, fun k h1 h2 h3 => (g.block k (by omega) ?_).trans (h.block k h1 h2 h3), fun x hx => (World.cell?_of_block (w := w') (a := ⟨c, x, none⟩) (g.block c (by omega) hrc)).trans (h.cell x hx), fun x => (World.frozen?_of_block (w := w') (a := ⟨c, x, none⟩) (g.block c (by omega) hrc)).trans (h.frozen x)⟩
  rcases hr with rfl | hr
  · exact h3
  · intro e; have := hr k e.symm; omega
theorem At1.setRow (h : At1 c o r w w') (g i : Nat) (v : Value) (hr : some g = r ∨ w.heap.size ≤ g) (hc : g ≠ c) : At1 c o r w (w'.setCell ⟨g, i, none⟩ v) := by
  have M := (Marked.refl w' g).setCell i v
  refine ⟨M.os.trans h.os, M.tape.trans h.tape, M.output.trans h.output, by rw [M.size]; exact h.size, fun k h1 h2 h3 => (M.other k ?_).trans (h.block k h1 h2 h3), fun x hx => (M.cell (a := ⟨c, x, none⟩) (Ne.symm hc)).trans (h.cell x hx), fun x => (M.frozenO (a := ⟨c, x, none⟩) (Ne.symm hc)).trans (h.frozen x)⟩
  rcases hr with rfl | hr
  · intro e; exact h3 (by rw [e])
  · omega
theorem At1.setC (h : At1 c o r w w') (v : Value) : At1 c o r w (w'.setCell ⟨c, o, none⟩ v) := by
  have M := (Marked.refl w' c).setCell o v
  refine ⟨M.os.trans h.os, M.tape.trans h.tape, M.output.trans h.output, by rw [M.size]; exact h.size, fun k h1 h2 h3 => (M.other k h2).trans (h.block k h1 h2 h3), fun x hx => ?_, fun x => (M.frozen x).trans (h.frozen x)⟩
  rw [← h.cell x hx]
  exact World.cell?_setCell_other _ _ _ _ (by simp)
end

theorem own_set {w : World} {base g n cap : Nat} {V : Nat → Nat} (h : w.ownsRow base 49 1 (.slice (some ⟨g, 0, none⟩) n cap) n (ll V n)) (i x : Nat) (hi : i < n) :
    (w.setCell ⟨g, i, none⟩ (.int .u32 x)).ownsRow base 49 1 (.slice (some ⟨g, 0, none⟩) n cap) n (ll (upd V i x) n) := by
  obtain ⟨hl, h | ⟨g', cap', cur, e, hb, hh, hn, hm, hs, ht⟩⟩ := h
  · cases h.1
  · cases e
    have r : w.rowIs g 49 cap (fun j => cur[j]?.getD (.bool false)) := ⟨cur, hh, by simpa using hs, fun j hj => by
      show cur[j]? = some (cur[j]?.getD (.bool false)); rw [Array.getElem?_eq_getElem (by omega)]; rfl⟩
    obtain ⟨c2, k1, k2, k3⟩ := r.set i (.int .u32 x)
    refine ⟨by simp [ll], Or.inr ⟨g, cap, c2, rfl, hb, k1, hn, hm, by simpa using k2, ?_⟩⟩
    apply List.ext_getElem?
    intro j
    rw [Nat.mul_one] at ht ⊢
    by_cases hj : j < n
    · rw [List.getElem?_take_of_lt hj, Array.getElem?_toList, k3 j (by omega)]
      have h2 : (ll V n)[j]? = cur[j]? := by rw [← ht, List.getElem?_take_of_lt hj, Array.getElem?_toList]
      simp only [ll, List.getElem?_map, List.getElem?_range hj, Option.map_some] at h2 ⊢
      by_cases e : j = i
      · subst e; simp [upd_same]
      · rw [if_neg e, upd_other _ _ _ _ e, ← h2]; rfl
    · rw [List.getElem?_eq_none (by simp; omega), List.getElem?_eq_none (by simp [ll]; omega)]

theorem own_setI {w : World} {base g n cap : Nat} {V : Nat → Nat} (h : w.ownsRow base 49 1 (.slice (some ⟨g, 0, none⟩) n cap) n (ll V n)) (i x : Nat) (hi : i < n) (E : Int) (hE : E = (x : Int)) :
    (w.setCell ⟨g, i, none⟩ (.int .u32 E)).ownsRow base 49 1 (.slice (some ⟨g, 0, none⟩) n cap) n (ll (upd V i x) n) := by subst hE; exact own_set h i x hi

/-- What holds when i limbs have been added. -/
def AddL (X V Y : Nat → Nat) (n m i c : Nat) : Prop := lv V i + c * 2 ^ (32 * i) = lv (extL X n) i + lv (extL Y m) i ∧ c ≤ 1 ∧ (∀ k, i ≤ k → V k = extL X n k) ∧ ∀ k, k < i → V k < 4294967296

theorem addL_step {X V Y : Nat → Nat} {n m i c s c' x y : Nat} (h : AddL X V Y n m i c) (hx : V i = x) (hy : extL Y m i = y) (hs : s < 4294967296) (hc : c' ≤ 1) (e : s + c' * 4294967296 = x + y + c) : AddL X (upd V i s) Y n m (i + 1) c' := by
  obtain ⟨h1, h2, h3, h4⟩ := h
  have hx0 : extL X n i = x := by rw [← hx]; exact (h3 i (Nat.le_refl _)).symm
  refine ⟨?_, hc, fun k hk => by rw [upd_other _ _ _ _ (by omega)]; exact h3 k (by omega), fun k hk => ?_⟩
  · simp only [lv, upd_same, lv_upd V i s i (Nat.le_refl _), hx0, hy]
    rw [pow32]
    generalize 2 ^ (32 * i) = P at *
    have e2 : s * P + c' * (4294967296 * P) = x * P + y * P + c * P := by rw [← Nat.mul_assoc, ← Nat.add_mul, ← Nat.add_mul, ← Nat.add_mul, e]
    omega
  · by_cases e2 : k = i
    · subst e2; rw [upd_same]; exact hs
    · rw [upd_other _ _ _ _ e2]; exact h4 k (by omega)

theorem addL_end {X V Y : Nat → Nat} {n m k c : Nat} (h : AddL X V Y n m k c) (hn : n ≤ k) (hm : m ≤ k) : lv V k + c * 2 ^ (32 * k) = lv X n + lv Y m := by
  have := h.1
  rw [lv_extL X n k hn, lv_extL Y m k hm] at this
  exact this

theorem ll_snoc (X : Nat → Nat) (n k : Nat) (h : n ≤ k) : ll (extL X n) k ++ [.int .u32 0] = ll (extL X n) (k + 1) := by
  simp only [ll, List.range_succ, List.map_append, List.map_cons, List.map_nil]
  have : extL X n k = 0 := by simp [extL]; omega
  rw [this]; rfl

end Go.Proofs.YtklkohdcilnchabDoor

namespace Go.Proofs.YtklkohdcilnchabDoor
open Go.RowKit

theorem own_slice {w : World} {base : Nat} {v : Value} {k : Nat} {xs : List Value} (h : w.ownsRow base 49 1 v k xs) : ∃ a cap, v = .slice a k cap ∧ k ≤ cap ∧ (a = none → cap = 0) ∧ ∀ j, j < k → ∃ g, a = some ⟨g, 0, none⟩ := by
  obtain ⟨_, ⟨rfl, rfl⟩ | ⟨g, cap, cur, rfl, _, _, hn, _⟩⟩ := h
  · exact ⟨none, 0, rfl, Nat.le_refl _, fun _ => rfl, fun j hj => absurd hj (by omega)⟩
  · exact ⟨_, cap, rfl, hn, fun h => (by cases h), fun _ _ => ⟨g, rfl⟩⟩

theorem Limbs.at1 {c o : Nat} {r : Option Nat} {w w' : World} {a : Option Addr} {b off m : Nat} {Y : Nat → Nat} (h : Limbs w a b off m Y) (s : At1 c o r w w') (h1 : 0 < m → b ≠ c) (h2 : 0 < m → r ≠ some b) : Limbs w' a b off m Y :=
  fun j hj => ⟨(h j hj).1, (World.cell?_of_block (w := w) (a := ⟨b, off + j, none⟩) (s.block b (h.lt (by omega)) (h1 (by omega)) (fun e => h2 (by omega) e.symm))).trans (h j hj).2⟩

set_option maxHeartbeats 3200000 in
set_option maxRecDepth 100000 in
/-- (*nat).add into a row of its own. -/
theorem add_any (c o base n : Nat) (v0 : Value) (a' : Option Addr) (b' off' m cap' : Nat) (X Y : Nat → Nat) (w : World) (hn : n ≤ 4194304) (hm : m ≤ 4194304) (hc0 : w.cell? ⟨c, o, none⟩ = some v0) (hf0 : w.frozen? ⟨c, o, none⟩ = false)
    (hown : w.ownsRow base 49 1 v0 n (ll X n)) (hcb : c < base) (hbase : base ≤ w.heap.size) (hne : 0 < m → v0.ownBlock ≠ some b') (hbc : 0 < m → b' ≠ c) (hY : Limbs w a' b' off' m Y) (hXl : ∀ j, j < n → X j < 4294967296) (hYl : ∀ j, j < m → Y j < 4294967296) :
    Calls Tryd.prog 127 #[.pointer (some ⟨c, o, none⟩), .slice a' m cap'] w fun e w' => e = .returned (.tuple #[]) ∧ ∃ v k V, w'.cell? ⟨c, o, none⟩ = some v ∧ w'.ownsRow base 49 1 v k (ll V k) ∧ (∀ q, v.ownBlock = some q → v0.ownBlock = some q ∨ w.heap.size ≤ q) ∧
      At1 c o v0.ownBlock w w' ∧ (∀ j, j < k → V j < 4294967296) ∧ lv V k = lv X n + lv Y m ∧ k ≤ max n m + 1 ∧ (k = n ∨ k = m ∨ V (k - 1) ≠ 0) := by
  obtain ⟨i0, hi, hz0, hz1, hz2⟩ := info_parts Tryd.info49
  have hcl : c < w.heap.size := by omega
  have HXl := hide hXl
  have HYl := hide hYl
  clear hXl hYl
  have HLL : Hid (ll (extL X n) n = ll X n) := by
    simp only [Hid, ll]
    exact List.map_congr_left fun j hj => by simp [extL, List.mem_range.1 hj]
  go_enter Tryd.func127, Tryd.ntmps127
  go_wp2
  go_loopg [] (m - n) (fun g wr => ∃ (k : Nat) (v : Value), n ≤ k ∧ (k = n ∨ k ≤ m) ∧ Hid (g = m - k) ∧ wr.cell? ⟨c, o, none⟩ = some v ∧ wr.ownsRow base 49 1 v k (ll (extL X n) k) ∧ Hid (∀ q, v.ownBlock = some q → v0.ownBlock = some q ∨ w.heap.size ≤ q) ∧ At1 c o v0.ownBlock w wr)
  case atStart => exact ⟨n, v0, Nat.le_refl _, Or.inl rfl, hide rfl, hc0, by rw [HLL.out]; exact hown, hide (fun q hq => Or.inl hq), At1.refl _ _ _ _⟩
  case round =>
    obtain ⟨k, v, hnk, hkm, HG, q0, ho, HB, hs⟩ := hrel
    obtain ⟨a, cap, rfl, hkc, hac, hag⟩ := own_slice ho
    have qf : wr.frozen? ⟨c, o, none⟩ = false := by rw [hs.frozen]; exact hf0
    have hsz := hs.size
    by_cases hlt : k < m
    · have HO := hide hown
      clear hown
      have hC : some c ≠ (Value.slice a k cap).ownBlock := fun e => by have := (ho.lt c e.symm).1; omega
      go_wp2_with (at_builtin; refine wpList_append_own_at _ rfl _ _ 50 rfl base 49 i0 (.int .u32 0) 1 4 Tryd.underlying50 hi hz0 hz1 hz2 rfl (by decide) _ _ _ rfl (ho.alloc _) ⟨wr.heap.size, 0, none⟩ 1 1 [.int .u32 0] rfl rfl (new_cell _ _ _) (one_one _ rfl) (by unfold maxLen; omega) (by omega) (by simp; omega) ?_)
      intro v' w1 hown' hgrow hnn hat
      rw [ll_snoc X n k hnk] at hown'
      have sW := (World.Since.refl wr.heap.size wr).alloc (Nat.le_refl _) (.cells #[.int .u32 0] 49)
      have hR : (Value.slice a k cap).ownBlock = v0.ownBlock ∨ ∀ q, (Value.slice a k cap).ownBlock = some q → w.heap.size ≤ q := by
        cases e : (Value.slice a k cap).ownBlock with
        | none => exact Or.inr (fun q h => by cases h)
        | some q =>
          rcases HB.out q e with h | h
          · exact Or.inl h.symm
          · exact Or.inr (fun q' h' => by cases h'; exact h)
      have hs1 : At1 c o v0.ownBlock w w1 := (hs.alloc hcl _).grown hgrow hcl hR hC
      have q1 : w1.cell? ⟨c, o, none⟩ = some (.slice a k cap) := hgrow.cell ((sW.cell (a := ⟨c, o, none⟩) (show c < wr.heap.size by omega)).trans q0) hC
      have f1 : w1.frozen? ⟨c, o, none⟩ = false := by rw [hs1.frozen]; exact hf0
      have HB1 := hide (fun q (hq : v'.ownBlock = some q) => show v0.ownBlock = some q ∨ w.heap.size ≤ q by
        rcases hat with h | h
        · exact HB.out q (h.symm.trans hq)
        · rw [hq] at h; simp at h; omega)
      obtain ⟨a1, cap1, rfl, hkc1, hac1, hag1⟩ := own_slice hown'
      have hCv : (Value.slice a1 (k + 1) cap1).ownBlock ≠ some c := fun e => by have := (hown'.lt c e).1; omega
      clear hgrow hnn hat sW hR ho hs HB q0 qf hC
      go_wp2
      go_roundg (m - (k + 1))
      case rel => exact ⟨k + 1, _, by omega, Or.inr (by omega), hide rfl, World.cell?_setCell_same _ _ _ q1, ownsRow_setCell_other hown' hCv _, HB1, hs1.setC _⟩
      case measure => have := HG.out; omega
    · have hmk : m ≤ k := by omega
      have hkb : k ≤ 4194304 := by omega
      have HKK : Hid (k = n ∨ k = m) := hide (by omega)
      have HV0 : Hid (AddL X (extL X n) Y n m 0 0) := hide ⟨by simp [lv], by omega, fun _ _ => rfl, fun j hj => absurd hj (by omega)⟩
      have HK : Hid (k ≤ max n m) := hide (by omega)
      clear hown hc0 hlt hkm HG
      go_wp2
      go_loopw [4, 26] (fun q t wr => ∃ (i cb : Nat) (V : Nat → Nat), i ≤ k ∧ t = .int .i64 i ∧ q = .int .u64 cb ∧ cb ≤ 1 ∧ wr.cell? ⟨c, o, none⟩ = some (.slice a k cap) ∧ wr.ownsRow base 49 1 (.slice a k cap) k (ll V k) ∧ At1 c o v0.ownBlock w wr ∧ Hid (AddL X V Y n m i cb)) (fun _ t _ => k - (intOf t).toNat)
      case atStart => exact ⟨0, 0, extL X n, Nat.zero_le _, rfl, rfl, by omega, q0, ho, hs, HV0⟩
      case round =>
        obtain ⟨i, cb, V, hik, rfl, rfl, hcb1, q2, ho2, hs2, HR⟩ := hrel
        clear ho hs q0 qf HV0
        by_cases hlt : i < k
        · obtain ⟨g, rfl⟩ := hag i hlt
          obtain ⟨g', cap', e, -, hbg, hgl, LV, FV⟩ := own_limbs_some ho2 (by simp)
          cases e
          have g1 : wr.cell? ⟨g, i, none⟩ = some (.int .u32 (V i)) := by simpa using (LV i hlt).2
          have g2 : wr.frozen? ⟨g, i, none⟩ = false := FV i
          have hgr : some g = v0.ownBlock ∨ w.heap.size ≤ g := by
            rcases HB.out g rfl with h | h
            · exact Or.inl h.symm
            · exact Or.inr h
          have hxl : V i < 4294967296 := by
            rw [HR.out.2.2.1 i (Nat.le_refl _)]
            unfold extL
            split
            · exact HXl.out i (by assumption)
            · omega
          have STEP := hide (fun (s c' : Nat) (y : Nat) (hy : extL Y m i = y) => addL_step (s := s) (c' := c') HR.out rfl hy)
          obtain ⟨x, ex⟩ : ∃ y, y = V i := ⟨_, rfl⟩
          rw [← ex] at g1 hxl STEP
          clear ex LV FV
          have hin : (i : Int) < (k : Int) := by omega
          have hcg : g ≠ c := by omega
          have q3 : ∀ u, (wr.setCell ⟨g, i, none⟩ u).cell? ⟨c, o, none⟩ = some (.slice (some ⟨g, 0, none⟩) k cap) := fun u => by rw [((Marked.refl wr g).setCell i u).cell (a := ⟨c, o, none⟩) (Ne.symm hcg)]; exact q2
          by_cases him : i < m
          · obtain ⟨rfl, ky⟩ := (hY.at1 hs2 hbc hne) i him
            have hyl := HYl.out i him
            have HEy : Hid (extL Y m i = Y i) := by simp [Hid, extL, him]
            obtain ⟨y, ey⟩ : ∃ y, y = Y i := ⟨_, rfl⟩
            rw [← ey] at ky hyl HEy
            clear ey
            by_cases hb : x + cb + y < 4294967296
            · go_wp2
              go_roundw
              case rel => go_light; exact ⟨i + 1, 0, _, by omega, by go_num, congrArg (Value.int .u64) (by omega), by omega, q3 _, own_setI ho2 i (x + cb + y) hlt _ (by omega), hs2.setRow g i _ hgr hcg, STEP.out _ _ y HEy.out (by omega) (by omega) (by omega)⟩
              case measure => simp [intOf]; omega
            · go_wp2
              go_roundw
              case rel => go_light; exact ⟨i + 1, 1, _, by omega, by go_num, congrArg (Value.int .u64) (by omega), by omega, q3 _, own_setI ho2 i (x + cb + y - 4294967296) hlt _ (by omega), hs2.setRow g i _ hgr hcg, STEP.out _ _ y HEy.out (by omega) (by omega) (by omega)⟩
              case measure => simp [intOf]; omega
          · have HEy : Hid (extL Y m i = 0) := by simp [Hid, extL, him]
            by_cases hb : x + cb < 4294967296
            · go_wp2
              go_roundw
              case rel => go_light; exact ⟨i + 1, 0, _, by omega, by go_num, congrArg (Value.int .u64) (by omega), by omega, q3 _, own_setI ho2 i (x + cb) hlt _ (by omega), hs2.setRow g i _ hgr hcg, STEP.out _ _ 0 HEy.out (by omega) (by omega) (by omega)⟩
              case measure => simp [intOf]; omega
            · go_wp2
              go_roundw
              case rel => go_light; exact ⟨i + 1, 1, _, by omega, by go_num, congrArg (Value.int .u64) (by omega), by omega, q3 _, own_setI ho2 i (x + cb - 4294967296) hlt _ (by omega), hs2.setRow g i _ hgr hcg, STEP.out _ _ 0 HEy.out (by omega) (by omega) (by omega)⟩
              case measure => simp [intOf]; omega
        · have e : i = k := by omega
          subst e
          have HE := hide (addL_end HR.out hnk hmk)
          have hc2 : cb = 0 ∨ cb = 1 := by omega
          rcases hc2 with rfl | rfl
          · go_wp2
            go_end0
            exact ⟨rfl, _, i, V, q2, ho2, HB.out, hs2, HR.out.2.2.2, by have := HE.out; omega, by have := HK.out; omega, by rcases HKK.out with h | h <;> simp [h]⟩
          · have hC : some c ≠ (Value.slice a i cap).ownBlock := fun e => by have := (ho2.lt c e.symm).1; omega
            have hsz2 := hs2.size
            go_wp2_with (at_builtin; refine wpList_append_own_at _ rfl _ _ 50 rfl base 49 i0 (.int .u32 0) 1 4 Tryd.underlying50 hi hz0 hz1 hz2 rfl (by decide) _ _ _ rfl (ho2.alloc _) ⟨wr.heap.size, 0, none⟩ 1 1 [.int .u32 1] rfl rfl (new_cell _ _ _) (one_one _ rfl) (by unfold maxLen; omega) (by omega) (by simp; omega) ?_)
            intro v' w1 hown' hgrow hnn hat
            rw [show ll V i ++ [.int .u32 1] = ll (upd V i 1) (i + 1) from by rw [ll_succ, upd_same, ll_congr (fun j hj => upd_other _ _ _ _ (show j ≠ i by omega))]; rfl] at hown'
            have sW := (World.Since.refl wr.heap.size wr).alloc (Nat.le_refl _) (.cells #[.int .u32 1] 49)
            have hR : (Value.slice a i cap).ownBlock = v0.ownBlock ∨ ∀ q, (Value.slice a i cap).ownBlock = some q → w.heap.size ≤ q := by
              cases e : (Value.slice a i cap).ownBlock with
              | none => exact Or.inr (fun q h => by cases h)
              | some q =>
                rcases HB.out q e with h | h
                · exact Or.inl h.symm
                · exact Or.inr (fun q' h' => by cases h'; exact h)
            have hs1 : At1 c o v0.ownBlock w w1 := (hs2.alloc hcl _).grown hgrow hcl hR hC
            have q1 : w1.cell? ⟨c, o, none⟩ = some (.slice a i cap) := hgrow.cell ((sW.cell (a := ⟨c, o, none⟩) (show c < wr.heap.size by omega)).trans q2) hC
            have f1 : w1.frozen? ⟨c, o, none⟩ = false := by rw [hs1.frozen]; exact hf0
            have HB1 := hide (fun q (hq : v'.ownBlock = some q) => show v0.ownBlock = some q ∨ w.heap.size ≤ q by
              rcases hat with h | h
              · exact HB.out q (h.symm.trans hq)
              · rw [hq] at h; simp at h; omega)
            obtain ⟨a1, cap1, rfl, hkc1, hac1, hag1⟩ := own_slice hown'
            have hCv : (Value.slice a1 (i + 1) cap1).ownBlock ≠ some c := fun e => by have := (hown'.lt c e).1; omega
            have HV1 := hide HR.out.2.2.2
            clear hgrow hnn hat sW hR ho2 hs2 HB q2 hC HR
            go_wp2
            go_end0
            refine ⟨rfl, _, i + 1, upd V i 1, World.cell?_setCell_same _ _ _ q1, ownsRow_setCell_other hown' hCv _, HB1.out, hs1.setC _, fun j hj => ?_, ?_, by have := HK.out; omega, Or.inr (Or.inr (by rw [show i + 1 - 1 = i by omega, upd_same]; omega))⟩
            · by_cases e2 : j = i
              · subst e2; rw [upd_same]; omega
              · rw [upd_other _ _ _ _ e2]; exact HV1.out j (by omega)
            · have := HE.out
              simp only [lv, upd_same, lv_upd V i 1 i (Nat.le_refl _)]
              exact this

end Go.Proofs.YtklkohdcilnchabDoor

namespace Go.Proofs.YtklkohdcilnchabDoor
open Go.RowKit

/-- Old memory but for three blocks stands. -/
structure Oth3 (c g h : Nat) (w w' : World) : Prop where
  os : w'.os = w.os
  tape : w'.tape = w.tape
  output : w'.output = w.output
  size : w.heap.size ≤ w'.heap.size
  block : ∀ k, k < w.heap.size → k ≠ c → k ≠ g → k ≠ h → w'.heap[k]? = w.heap[k]?

theorem Oth3.refl (c g h : Nat) (w : World) : Oth3 c g h w w := ⟨rfl, rfl, rfl, Nat.le_refl _, fun _ _ _ _ _ => rfl⟩
theorem Oth3.trans {c g h : Nat} {w w1 w2 : World} (x : Oth3 c g h w w1) (y : Oth3 c g h w1 w2) : Oth3 c g h w w2 :=
  ⟨y.os.trans x.os, y.tape.trans x.tape, y.output.trans x.output, Nat.le_trans x.size y.size, fun k h1 h2 h3 h4 => (y.block k (Nat.lt_of_lt_of_le h1 x.size) h2 h3 h4).trans (x.block k h1 h2 h3 h4)⟩
theorem Oth3.ofMarked {c g h b : Nat} {w w' : World} (m : Marked w w' b) (hb : b = c ∨ b = g ∨ b = h) : Oth3 c g h w w' :=
  ⟨m.os, m.tape, m.output, by rw [m.size]; exact Nat.le_refl _, fun k _ h2 h3 h4 => m.other k (by omega)⟩
theorem Oth3.ofAt1 {c o g h : Nat} {w w' : World} (m : At1 c o (some g) w w') : Oth3 c g h w w' :=
  ⟨m.os, m.tape, m.output, m.size, fun k h1 h2 h3 _ => m.block k h1 h2 (by simp; exact h3)⟩
theorem Oth3.since {c g h B : Nat} {w w' : World} (s : Oth3 c g h w w') (hB : B ≤ w.heap.size) (hc : B ≤ c) (hg : B ≤ g) (hh : B ≤ h) : w.Since B w' :=
  ⟨s.os, s.tape, s.output, s.size, fun k hk => s.block k (by omega) (by omega) (by omega) (by omega)⟩

/-- The sign and the numerator of a sum. -/
def sumNeg (f f' : Bool) (x y : Nat) : Bool := if f = f' then f else if x < y then f' else f
def sumTop (f f' : Bool) (x y : Nat) : Nat := if f = f' then x + y else if x < y then y - x else x - y

theorem top_of_sum {X Y V : Nat → Nat} {n m k : Nat} (lV : ∀ j, j < k → V j < 4294967296) (e : lv V k = lv X n + lv Y m) (hk : k = n ∨ k = m ∨ V (k - 1) ≠ 0) (pX : 0 < n → X (n - 1) ≠ 0) (pY : 0 < m → Y (m - 1) ≠ 0) (h0 : 0 < k) : V (k - 1) ≠ 0 := by
  intro hz
  have e2 : lv V k = lv V (k - 1) := lv_more V (k - 1) k (by omega) (fun j h1 h2 => by rw [show j = k - 1 by omega]; exact hz)
  rcases hk with rfl | rfl | h
  · have := lv_short (A := V) (B := X) (n := k - 1) (m := k) (fun j hj => lV j (by omega)) (by omega) pX
    omega
  · have := lv_short (A := V) (B := Y) (n := k - 1) (m := k) (fun j hj => lV j (by omega)) (by omega) pY
    omega
  · exact h hz

theorem top_row {P : Nat → Nat} {q : Nat} : 0 < tlen (nz P) q → P (tlen (nz P) q - 1) ≠ 0 := fun h => by have := tlen_top (nz P) q h; simpa [nz] using this

theorem subAt1 (c : Nat) (x z : Value) (b n cap : Nat) (a' : Option Addr) (b' off' m cap' : Nat) (X Y : Nat → Nat) (w : World) (hn : n ≤ 16777216) (hnc : n ≤ cap) (B : Box3 w c x (.slice (some ⟨b, 0, none⟩) n cap) z)
    (hf : ∀ x, w.frozen? ⟨b, x, none⟩ = false) (hcb : c ≠ b) (hbb : b' ≠ b) (hX : Limbs w (some ⟨b, 0, none⟩) b 0 n X) (hY : Limbs w a' b' off' m Y) (hXl : ∀ j, j < n → X j < 4294967296) (hYl : ∀ j, j < m → Y j < 4294967296) (pY : 0 < m → Y (m - 1) ≠ 0) (hle : lv Y m ≤ lv X n) (g h : Nat) (hb : b = g ∨ b = h) :
    Calls Tryd.prog 126 #[.pointer (some ⟨c, 1, none⟩), .slice a' m cap'] w fun e w' => e = .returned (.tuple #[]) ∧ ∃ v, Box3 w' c x v z ∧ NatAt w' v b (lv X n - lv Y m) n ∧ Oth3 c g h w w' := by
  have hmn : m ≤ n := by
    rcases Nat.lt_or_ge n m with h1 | h1
    · have := lv_short (A := X) (B := Y) (n := n) (m := m) hXl h1 pY
      omega
    · exact h1
  refine (subtract_any c 1 b n cap a' b' off' m cap' X Y w hn hnc hmn B.c1 (B.f 1) hf hcb hbb hX hY hXl hYl hle).mono ?_
  rintro e w' ⟨rfl, w2, V, M, L, lV, eV, rfl⟩
  have M2 := (Marked.refl w2 c).setCell 1 (.slice (some ⟨b, 0, none⟩) (tlen (nz V) n) cap)
  have N2 : NatAt w2 (.slice (some ⟨b, 0, none⟩) (tlen (nz V) n) cap) b (lv X n - lv Y m) n :=
    ⟨_, _, _, V, rfl, Nat.le_trans (tlen_le _ _) hnc, tlen_le _ _, fun h => (by cases h), L.take (tlen_le _ _), fun _ o => by rw [M.frozen o]; exact hf o, fun j hj => lV j (Nat.lt_of_lt_of_le hj (tlen_le _ _)), top_row, by rw [lv_tlen]; exact eV⟩
  exact ⟨rfl, _, (B.marked M hcb).set1 _, N2.marked M2 (Ne.symm hcb), (Oth3.ofMarked M (by omega)).trans (Oth3.ofMarked M2 (Or.inl rfl))⟩

end Go.Proofs.YtklkohdcilnchabDoor

namespace Go.Proofs.YtklkohdcilnchabDoor
open Go.RowKit

set_option maxHeartbeats 1600000 in
set_option maxRecDepth 100000 in
/-- (*fraction).addTop. -/
theorem addTop_any (c : Nat) (f f' : Bool) (v2 : Value) (g h qg qh : Nat) (P Q : Nat → Nat) (w : World) (hqg : qg ≤ 1048575) (hqh : qh ≤ 1048575) (B : Box3 w c (.bool f) (.slice (some ⟨g, 0, none⟩) (tlen (nz P) qg) qg) v2)
    (rg : w.rowIs g 49 qg (fun j => .int .u32 (P j : Nat))) (rh : w.rowIs h 49 qh (fun j => .int .u32 (Q j : Nat))) (hP : ∀ k, P k < 4294967296) (hQ : ∀ k, Q k < 4294967296) (hcg : c < g) (hgh : h ≠ g) (hch : c ≠ h) :
    Calls Tryd.prog 110 #[.pointer (some ⟨c, 0, none⟩), .bool f', .slice (some ⟨h, 0, none⟩) (tlen (nz Q) qh) qh] w fun e w' => e = .returned (.tuple #[]) ∧ ∃ v gg, Box3 w' c (.bool (sumNeg f f' (lv P qg) (lv Q qh))) v v2 ∧
      NatAt w' v gg (sumTop f f' (lv P qg) (lv Q qh)) 1048576 ∧ (gg = g ∨ gg = h ∨ w.heap.size ≤ gg) ∧ gg < w'.heap.size ∧ Oth3 c g h w w' := by
  have tP := tlen_le (nz P) qg
  have tQ := tlen_le (nz Q) qh
  have LP := (limbs_row rg).take tP
  have LQ := (limbs_row rh).take tQ
  have pP : 0 < tlen (nz P) qg → P (tlen (nz P) qg - 1) ≠ 0 := top_row
  have pQ : 0 < tlen (nz Q) qh → Q (tlen (nz Q) qh - 1) ≠ 0 := top_row
  have eP := lv_tlen P qg
  have eQ := lv_tlen Q qh
  have oP : w.ownsRow g 49 1 (.slice (some ⟨g, 0, none⟩) (tlen (nz P) qg) qg) (tlen (nz P) qg) (ll P (tlen (nz P) qg)) := row_own rg tP (by unfold maxLen; omega) (Nat.le_refl _)
  have fg := rg.frozen
  have fh := rh.frozen
  have gl := rg.lt
  have hl := rh.lt
  clear rg rh
  generalize tlen (nz P) qg = n at *
  generalize tlen (nz Q) qh = m at *
  have hcl := B.lt
  by_cases hff : f = f'
  · have hN : sumNeg f f' (lv P qg) (lv Q qh) = f := by simp [sumNeg, hff]
    have hT : sumTop f f' (lv P qg) (lv Q qh) = lv P n + lv Q m := by simp [sumTop, hff, eP, eQ]
    rw [hN, hT]
    clear hN hT eP eQ
    subst hff
    have k0 := B.c0
    go_enter Tryd.func110, Tryd.ntmps110
    go_wp2_with fail
    refine (add_any c 1 g n (.slice (some ⟨g, 0, none⟩) n qg) (some ⟨h, 0, none⟩) h 0 m qh P Q w (by omega) (by omega) B.c1 (B.f 1) oP hcg (by omega) (fun _ e => hgh (by simpa [Value.ownBlock] using e.symm)) (fun _ => Ne.symm hch) LQ (fun j _ => hP j) (fun j _ => hQ j)).mono ?_
    rintro e w1 ⟨rfl, v, k, V, c1, o1, b1, A1, lV, eV, kk, tk⟩
    go_wp2
    refine bodyPost_ret (results_none rfl _ _ _) rfl ?_
    have top := top_of_sum lV eV tk pP pQ
    have Bx : Box3 w1 c (.bool f) v v2 := ⟨by rw [A1.cell 0 (by omega)]; exact B.c0, c1, by rw [A1.cell 2 (by omega)]; exact B.c2, fun x => by rw [A1.frozen]; exact B.f x⟩
    have hs := A1.size
    have hk : k ≤ 1048576 := by omega
    have O : Oth3 c g h w w1 := Oth3.ofAt1 A1
    have hc := @World.ownsRow.cells _ _ _ _ _ _ _ o1
    rcases o1.2 with ⟨rfl, rfl⟩ | ⟨g', cap, cur, rfl, hb, hg, hm, _⟩
    · exact ⟨rfl, _, g, Bx, by rw [← eV]; exact natAt_nil _ _ _, Or.inl rfl, by omega, O⟩
    · have hlt := (Array.getElem?_eq_some_iff.1 hg).1
      refine ⟨rfl, _, g', Bx, ⟨_, k, cap, V, rfl, hm, hk, fun h => (by cases h), fun j hj => ⟨rfl, ?_⟩, fun _ o => by simp [World.frozen?, hg], lV, top, eV⟩, ?_, hlt, O⟩
      · have := hc (g := g') rfl j _ (ll_get V k j hj)
        rw [Addr.add_lit] at this; exact this
      · rcases b1 g' rfl with e | e
        · simp [Value.ownBlock] at e; exact Or.inl e.symm
        · exact Or.inr (Or.inr e)
  · have k0 := B.c0
    have HFF := hide hff
    have hfb : (f == f') = false := by simp [hff]
    by_cases hlt : lv P n < lv Q m
    · have hN : sumNeg f f' (lv P qg) (lv Q qh) = f' := by rw [← eP, ← eQ]; simp [sumNeg, hff, hlt]
      have hT : sumTop f f' (lv P qg) (lv Q qh) = lv Q m - lv P n := by rw [← eP, ← eQ]; simp [sumTop, hff, hlt]
      rw [hN, hT]
      clear hN hT eP eQ hff
      have hcp := cmpN_neg2 hlt
      have HL := hide hlt
      clear hlt
      go_enter Tryd.func110, Tryd.ntmps110
      go_wp2_with fail
      refine (compare_any c 1 (some ⟨g, 0, none⟩) (some ⟨h, 0, none⟩) g 0 n qg h 0 m qh P Q w (by omega) (by omega) B.c1 LP LQ (fun j _ => hP j) (fun j _ => hQ j) pP pQ).mono ?_
      rintro e w1 ⟨rfl, s1⟩
      have B1 : Box3 w1 c (.bool f) (.slice (some ⟨g, 0, none⟩) n qg) v2 := ⟨by rw [s1.cell]; exact B.c0, by rw [s1.cell]; exact B.c1, by rw [s1.cell]; exact B.c2, fun x => by rw [s1.frozen]; exact B.f x⟩
      have j1 := B1.c1
      have j0 := B1.c0
      have jf0 := B1.f 0
      have jf1 := B1.f 1
      go_wp2_with fail
      have M1 : Marked w1 ((w1.setCell ⟨c, 1, none⟩ (.slice (some ⟨h, 0, none⟩) m qh)).setCell ⟨c, 0, none⟩ (.bool f')) c := ((Marked.refl w1 c).setCell 1 _).setCell 0 _
      have B2 := (B1.set1 (.slice (some ⟨h, 0, none⟩) m qh)).set0 (.bool f')
      have O1 : Oth3 c g h w w1 := ⟨s1.os, s1.tape, s1.output, by rw [s1.size]; exact Nat.le_refl _, fun k _ _ _ _ => by rw [s1.heap]⟩
      have O2 := O1.trans (Oth3.ofMarked (c := c) (g := g) (h := h) M1 (Or.inl rfl))
      refine (subAt1 c _ _ h m qh (some ⟨g, 0, none⟩) g 0 n qg Q P _ (by omega) tQ B2 (fun x => by rw [M1.frozenO (a := ⟨h, x, none⟩) (Ne.symm hch), s1.frozen]; exact fh x) hch (Ne.symm hgh) ((LQ.same s1).marked M1 (fun _ => Ne.symm hch)) ((LP.same s1).marked M1 (fun _ => by omega)) (fun j _ => hQ j) (fun j _ => hP j) pP (Nat.le_of_lt HL.out) g h (Or.inr rfl)).mono ?_
      rintro e w2 ⟨rfl, v, B3, N3, O3⟩
      have O := O2.trans O3
      go_wp2
      go_end0
      exact ⟨rfl, v, h, B3, N3.more (by omega), Or.inr (Or.inl rfl), Nat.lt_of_lt_of_le hl O.size, O⟩
    · have hN : sumNeg f f' (lv P qg) (lv Q qh) = f := by rw [← eP, ← eQ]; simp [sumNeg, hff, hlt]
      have hT : sumTop f f' (lv P qg) (lv Q qh) = lv P n - lv Q m := by rw [← eP, ← eQ]; simp [sumTop, hff, hlt]
      rw [hN, hT]
      clear hN hT eP eQ hff
      have hcp := cmpN_nonneg2 (Nat.le_of_not_lt hlt)
      have HL := hide (Nat.le_of_not_lt hlt)
      clear hlt
      go_enter Tryd.func110, Tryd.ntmps110
      go_wp2_with fail
      refine (compare_any c 1 (some ⟨g, 0, none⟩) (some ⟨h, 0, none⟩) g 0 n qg h 0 m qh P Q w (by omega) (by omega) B.c1 LP LQ (fun j _ => hP j) (fun j _ => hQ j) pP pQ).mono ?_
      rintro e w1 ⟨rfl, s1⟩
      have B1 : Box3 w1 c (.bool f) (.slice (some ⟨g, 0, none⟩) n qg) v2 := ⟨by rw [s1.cell]; exact B.c0, by rw [s1.cell]; exact B.c1, by rw [s1.cell]; exact B.c2, fun x => by rw [s1.frozen]; exact B.f x⟩
      go_wp2_with fail
      refine (subAt1 c _ _ g n qg (some ⟨h, 0, none⟩) h 0 m qh P Q w1 (by omega) tP B1 (fun x => by rw [s1.frozen]; exact fg x) (by omega) hgh (LP.same s1) (LQ.same s1) (fun j _ => hP j) (fun j _ => hQ j) pQ HL.out g h (Or.inl rfl)).mono ?_
      rintro e w2 ⟨rfl, v, B2, N2, O2⟩
      have O1 : Oth3 c g h w w1 := ⟨s1.os, s1.tape, s1.output, by rw [s1.size]; exact Nat.le_refl _, fun k _ _ _ _ => by rw [s1.heap]⟩
      have O := O1.trans O2
      go_wp2
      go_end0
      exact ⟨rfl, v, g, B2, N2.more (by omega), Or.inl rfl, Nat.lt_of_lt_of_le gl O.size, O⟩

end Go.Proofs.YtklkohdcilnchabDoor

namespace Go.Proofs.YtklkohdcilnchabDoor
open Go.RowKit

theorem row_keep {w w' : World} {g t n : Nat} {F : Nat → Value} (h : w.rowIs g t n F) (s : w.Since w.heap.size w') : w'.rowIs g t n F := h.of_block (s.block g h.lt)
theorem row_oth {w w' : World} {g t n c : Nat} {F : Nat → Value} (h : w.rowIs g t n F) (s : Oth c w w') (hne : g ≠ c) : w'.rowIs g t n F := h.of_block (s.block g h.lt hne)

theorem Oth.up {c d : Nat} {w w1 w2 : World} (x : Oth c w w1) (y : Oth d w1 w2) (hd : w.heap.size ≤ d) : Oth c w w2 :=
  ⟨y.os.trans x.os, y.tape.trans x.tape, y.output.trans x.output, Nat.le_trans x.size y.size, fun k h1 h2 => (y.block k (Nat.lt_of_lt_of_le h1 x.size) (by omega)).trans (x.block k h1 h2)⟩
theorem Oth.up3 {c g h : Nat} {w w1 w2 : World} (x : Oth c w w1) (y : Oth3 c g h w1 w2) (hg : w.heap.size ≤ g) (hh : w.heap.size ≤ h) : Oth c w w2 :=
  ⟨y.os.trans x.os, y.tape.trans x.tape, y.output.trans x.output, Nat.le_trans x.size y.size, fun k h1 h2 => (y.block k (Nat.lt_of_lt_of_le h1 x.size) h2 (by omega) (by omega)).trans (x.block k h1 h2)⟩

/-- multiply at the second cell of a struct: the row told. -/
theorem mulAt1r (c : Nat) (x z : Value) (a a' : Option Addr) (b off n cap b' off' m cap' : Nat) (X Y : Nat → Nat) (w : World) (hn : n ≤ 4194304) (hm : m ≤ 4194304) (hX : Limbs w a b off n X) (hY : Limbs w a' b' off' m Y)
    (hXl : ∀ j, j < n → X j < 4294967296) (hYl : ∀ j, j < m → Y j < 4294967296) (B : Box3 w c x (.slice a n cap) z) :
    Calls Tryd.prog 109 #[.pointer (some ⟨c, 1, none⟩), .slice a' m cap'] w fun e w' => e = .returned (.tuple #[]) ∧ ∃ P : Nat → Nat, Box3 w' c x (.slice (some ⟨w.heap.size, 0, none⟩) (tlen (nz P) (n + m)) (n + m)) z ∧ w'.rowIs w.heap.size 49 (n + m) (fun j => .int .u32 (P j : Nat)) ∧
      (∀ k, P k < 4294967296) ∧ lv P (n + m) = lv X n * lv Y m ∧ Oth c w w' ∧ w.heap.size < w'.heap.size := by
  refine (multiply_any c 1 a a' b off n cap b' off' m cap' X Y w hn hm hX hY hXl hYl B.c1 (B.f 1)).mono ?_
  rintro e w' ⟨rfl, w2, P, s, r, hP, hv, rfl⟩
  have M := (Marked.refl w2 c).setCell 1 (.slice (some ⟨w.heap.size, 0, none⟩) (tlen (nz P) (n + m)) (n + m))
  exact ⟨rfl, P, (B.keep s).set1 _, r.of_block (M.other _ (Nat.ne_of_gt B.lt)), hP, hv, (Oth.ofSince c s).trans (Oth.ofMarked M), by rw [M.size]; exact r.lt⟩

/-- multiply at a box of one cell: the row told. -/
theorem mulAtR (c : Nat) (a a' : Option Addr) (b off n cap b' off' m cap' : Nat) (X Y : Nat → Nat) (w : World) (hn : n ≤ 4194304) (hm : m ≤ 4194304) (hX : Limbs w a b off n X) (hY : Limbs w a' b' off' m Y)
    (hXl : ∀ j, j < n → X j < 4294967296) (hYl : ∀ j, j < m → Y j < 4294967296) (hc0 : w.cell? ⟨c, 0, none⟩ = some (.slice a n cap)) (hf0 : w.frozen? ⟨c, 0, none⟩ = false) :
    Calls Tryd.prog 109 #[.pointer (some ⟨c, 0, none⟩), .slice a' m cap'] w fun e w' => e = .returned (.tuple #[]) ∧ ∃ P : Nat → Nat, w'.cell? ⟨c, 0, none⟩ = some (.slice (some ⟨w.heap.size, 0, none⟩) (tlen (nz P) (n + m)) (n + m)) ∧ w'.frozen? ⟨c, 0, none⟩ = false ∧ w'.rowIs w.heap.size 49 (n + m) (fun j => .int .u32 (P j : Nat)) ∧
      (∀ k, P k < 4294967296) ∧ lv P (n + m) = lv X n * lv Y m ∧ Oth c w w' ∧ w.heap.size < w'.heap.size := by
  have hcl := World.block_lt_of_cell? _ _ hc0
  refine (multiply_any c 0 a a' b off n cap b' off' m cap' X Y w hn hm hX hY hXl hYl hc0 hf0).mono ?_
  rintro e w' ⟨rfl, w2, P, s, r, hP, hv, rfl⟩
  have M := (Marked.refl w2 c).setCell 0 (.slice (some ⟨w.heap.size, 0, none⟩) (tlen (nz P) (n + m)) (n + m))
  have h2 : w2.cell? ⟨c, 0, none⟩ = some (.slice a n cap) := by rw [s.cell (a := ⟨c, 0, none⟩) hcl]; exact hc0
  exact ⟨rfl, P, World.cell?_setCell_same _ _ _ h2, by rw [M.frozen, s.frozen (a := ⟨c, 0, none⟩) hcl]; exact hf0, r.of_block (M.other _ (Nat.ne_of_gt hcl)), hP, hv, (Oth.ofSince c s).trans (Oth.ofMarked M), by rw [M.size]; exact r.lt⟩

set_option maxHeartbeats 1600000 in
set_option maxRecDepth 100000 in
/-- (*fraction).add. -/
theorem fracAdd_any (c : Nat) (f f' : Bool) (a b a' b' : Option Addr) (ba oa n ca bb ob m cb ba' oa' n' ca' bb' ob' m' cb' : Nat) (X Y X' Y' : Nat → Nat) (w : World) (hn : n + n' + m + m' ≤ 1048576) (hm0 : 0 < m) (hm0' : 0 < m')
    (hX : Limbs w a ba oa n X) (hY : Limbs w b bb ob m Y) (hX' : Limbs w a' ba' oa' n' X') (hY' : Limbs w b' bb' ob' m' Y') (hXl : ∀ j, j < n → X j < 4294967296) (hYl : ∀ j, j < m → Y j < 4294967296) (hXl' : ∀ j, j < n' → X' j < 4294967296) (hYl' : ∀ j, j < m' → Y' j < 4294967296)
    (ea : 0 < n → ba ≠ c) (eb : 0 < m → bb ≠ c) (_ea' : 0 < n' → ba' ≠ c) (eb' : 0 < m' → bb' ≠ c) (B : Box3 w c (.bool f) (.slice a n ca) (.slice b m cb)) :
    Calls Tryd.prog 87 #[.pointer (some ⟨c, 0, none⟩), .agg #[.bool f', .slice a' n' ca', .slice b' m' cb']] w fun e w' => e = .returned (.tuple #[]) ∧ ∃ v1 v2 g h, Box3 w' c (.bool (sumNeg f f' (lv X n * lv Y' m') (lv X' n' * lv Y m))) v1 v2 ∧
      NatAt w' v1 g (sumTop f f' (lv X n * lv Y' m') (lv X' n' * lv Y m)) 1048576 ∧ NatAt w' v2 h (lv Y m * lv Y' m') 1048576 ∧ w.heap.size ≤ g ∧ w.heap.size ≤ h ∧ g ≠ h ∧ g < w'.heap.size ∧ h < w'.heap.size ∧ Oth c w w' := by
  have sA : w.Since w.heap.size ((w.alloc (.cells #[.bool f', .slice a' n' ca', .slice b' m' cb'] 72)).alloc (.cells #[.slice a' n' ca'] 50)) := ((World.Since.refl _ _).alloc (Nat.le_refl _) _).alloc (by simp) _
  have gA : Box3 ((w.alloc (.cells #[.bool f', .slice a' n' ca', .slice b' m' cb'] 72)).alloc (.cells #[.slice a' n' ca'] 50)) w.heap.size (.bool f') (.slice a' n' ca') (.slice b' m' cb') := (Box3.new w _ _ _ _).keep ((World.Since.refl _ _).alloc (Nat.le_refl _) _)
  have BA := B.keep sA
  have hcl := B.lt
  have zA : ((w.alloc (.cells #[.bool f', .slice a' n' ca', .slice b' m' cb'] 72)).alloc (.cells #[.slice a' n' ca'] 50)).heap.size = w.heap.size + 1 + 1 := by simp
  have qA : ((w.alloc (.cells #[.bool f', .slice a' n' ca', .slice b' m' cb'] 72)).alloc (.cells #[.slice a' n' ca'] 50)).cell? ⟨w.heap.size + 1, 0, none⟩ = some (.slice a' n' ca') ∧ ((w.alloc (.cells #[.bool f', .slice a' n' ca', .slice b' m' cb'] 72)).alloc (.cells #[.slice a' n' ca'] 50)).frozen? ⟨w.heap.size + 1, 0, none⟩ = false := by
    simp
  have kB := BA.c2
  have JA := mulAtR (w.heap.size + 1) a' b ba' oa' n' ca' bb ob m cb X' Y ((w.alloc (.cells #[.bool f', .slice a' n' ca', .slice b' m' cb'] 72)).alloc (.cells #[.slice a' n' ca'] 50)) (by omega) (by omega) (hX'.keep sA) (hY.keep sA) hXl' hYl qA.1 qA.2
  go_enter Tryd.func87, Tryd.ntmps87
  go_wp2_with fail
  generalize ((w.alloc (.cells #[.bool f', .slice a' n' ca', .slice b' m' cb'] 72)).alloc (.cells #[.slice a' n' ca'] 50)) = w1 at *
  have zl : w.heap.size + 1 + 1 ≤ w1.heap.size := by omega
  clear kB zA
  refine JA.mono ?_
  rintro e w2 ⟨rfl, P1, q2, qf2, r2, hP1, e1, O2, z2⟩
  have O02 : Oth c w w2 := (Oth.ofSince c sA).up O2 (by omega)
  have B2 := BA.oth O2 (by omega)
  have G2 := gA.oth O2 (by omega)
  have k2 := G2.c2
  clear JA BA gA O2 sA
  have JB := mulAt1r c _ _ a b' ba oa n ca bb' ob' m' cb' X Y' w2.drew (by omega) (by omega) (hX.oth O02.drew ea) (hY'.oth O02.drew eb') hXl hYl' B2.drew
  go_wp2_with fail
  go_region_held3 (fun w' => w'.cell? ⟨w.heap.size, 2, none⟩ = some (.slice b' m' cb')) (go_keep)
    (first
      | (go_at_call 109
         with_reducible refine JB.mono ?_
         rintro e w3 ⟨rfl, P2, B3, r3, hP2, e2, O3, z3⟩
         have i1 := (G2.drew.oth O3 (by omega)).c2))
  have O3 : Oth c w2 w3 := ⟨O3.os, O3.tape, O3.output, O3.size, O3.block⟩
  have O03 := O02.trans O3
  have G3 := G2.oth O3 (by omega)
  have q3 : w3.cell? ⟨w.heap.size + 1, 0, none⟩ = _ := (O3.cell (a := ⟨w.heap.size + 1, 0, none⟩) (World.block_lt_of_cell? _ _ q2) (show w.heap.size + 1 ≠ c by omega)).trans q2
  have r23 := row_oth r2 O3 (by omega)
  have z3 : w2.heap.size < w3.heap.size := z3
  have r3 : w3.rowIs w2.heap.size _ _ _ := r3
  have B3 : Box3 w3 c (.bool f) (.slice (some ⟨w2.heap.size, 0, none⟩) (tlen (nz P2) (n + m')) (n + m')) (.slice b m cb) := B3
  clear k2 i1 JB B2 G2 O02 q2 qf2 r2
  have k2 := G3.c2
  have JC := mulAt2 c _ _ b b' bb ob m cb bb' ob' m' cb' Y Y' w3.drew (by omega) (by omega) (hY.oth O03.drew eb) (hY'.oth O03.drew eb') hYl hYl' B3.drew
  go_wp2_with fail
  go_region_held3 (fun w' => w'.cell? ⟨w.heap.size, 2, none⟩ = some (.slice b' m' cb')) (go_keep)
    (first
      | (go_at_call 109
         with_reducible refine JC.mono ?_
         rintro e w4 ⟨rfl, v2, B4, N4, O4, z4⟩
         have i1 := (G3.drew.oth O4 (by omega)).c2))
  have O4 : Oth c w3 w4 := ⟨O4.os, O4.tape, O4.output, O4.size, O4.block⟩
  have O04 := O03.trans O4
  have G4 := G3.oth O4 (by omega)
  have q4 : w4.cell? ⟨w.heap.size + 1, 0, none⟩ = _ := (O4.cell (a := ⟨w.heap.size + 1, 0, none⟩) (World.block_lt_of_cell? _ _ q3) (show w.heap.size + 1 ≠ c by omega)).trans q3
  have r24 := row_oth r23 O4 (by omega)
  have r34 := row_oth r3 O4 (by omega)
  have z4 : w3.heap.size < w4.heap.size := z4
  have N4 : NatAt w4 v2 w3.heap.size (lv Y m * lv Y' m') (m + m') := N4
  clear k2 i1 JC B3 G3 O03 q3 r23 r3 O3 O4
  have k1 := G4.c0
  have k3 := q4
  go_wp2_with fail
  refine (addTop_any c f f' v2 w2.heap.size w1.heap.size (n + m') (n' + m) P2 P1 w4 (by omega) (by omega) B4 r34 r24 hP2 hP1 (by omega) (by omega) (by omega)).mono ?_
  rintro e w5 ⟨rfl, v, gg, B5, N5, hgg, hgl, O5⟩
  rw [e1, e2] at B5 N5
  have hs := O5.size
  go_wp2
  go_end0
  exact ⟨rfl, v, v2, gg, w3.heap.size, B5, N5, (N4.ofBlock (fun _ => O5.block w3.heap.size (by omega) (by omega) (by omega) (by omega))).more (by omega), by omega, by omega, by omega, hgl, by omega, O04.up3 O5 (by omega) (by omega)⟩

end Go.Proofs.YtklkohdcilnchabDoor

namespace Go.Proofs.YtklkohdcilnchabDoor
open Go.RowKit

set_option maxHeartbeats 1600000 in
set_option maxRecDepth 100000 in
theorem sumOf_any (f f' : Bool) (a b a' b' : Option Addr) (ba oa n ca bb ob m cb ba' oa' n' ca' bb' ob' m' cb' : Nat) (X Y X' Y' : Nat → Nat) (w : World) (hw : 1 < w.heap.size) (hT : Tab w) (hn : n + n' + m + m' ≤ 1048576)
    (R : RIn w a b ba oa n ca bb ob m cb X Y) (R' : RIn w a' b' ba' oa' n' ca' bb' ob' m' cb' X' Y') :
    Calls Tryd.prog 53 #[.agg #[.bool f, .slice a n ca, .slice b m cb], .agg #[.bool f', .slice a' n' ca', .slice b' m' cb']] w fun e w' => ∃ v, e = .returned v ∧
      RatV w' v (sumNeg f f' (lv X n * lv Y' m') (lv X' n' * lv Y m) && sumTop f f' (lv X n * lv Y' m') (lv X' n' * lv Y m) != 0) (sumTop f f' (lv X n * lv Y' m') (lv X' n' * lv Y m) / Nat.gcd (sumTop f f' (lv X n * lv Y' m') (lv X' n' * lv Y m)) (lv Y m * lv Y' m')) (lv Y m * lv Y' m' / Nat.gcd (sumTop f f' (lv X n * lv Y' m') (lv X' n' * lv Y m)) (lv Y m * lv Y' m')) w.heap.size 1048578 ∧ w.Since w.heap.size w' := by
  have sA : w.Since w.heap.size (((w.alloc (.cells #[.bool f, .slice a n ca, .slice b m cb] 31)).alloc (.cells #[.bool f', .slice a' n' ca', .slice b' m' cb'] 31)).alloc (.cells #[.bool false, .slice none 0 0, .slice none 0 0] 31)) := (((World.Since.refl _ _).alloc (Nat.le_refl _) _).alloc (by simp) _).alloc (by simp; omega) _
  have zA : (((w.alloc (.cells #[.bool f, .slice a n ca, .slice b m cb] 31)).alloc (.cells #[.bool f', .slice a' n' ca', .slice b' m' cb'] 31)).alloc (.cells #[.bool false, .slice none 0 0, .slice none 0 0] 31)).heap.size = w.heap.size + 1 + 1 + 1 := by simp
  have pA : Box3 (((w.alloc (.cells #[.bool f, .slice a n ca, .slice b m cb] 31)).alloc (.cells #[.bool f', .slice a' n' ca', .slice b' m' cb'] 31)).alloc (.cells #[.bool false, .slice none 0 0, .slice none 0 0] 31)) (w.heap.size + 1) (.bool f') (.slice a' n' ca') (.slice b' m' cb') := by
    have := (Box3.new (w.alloc (.cells #[.bool f, .slice a n ca, .slice b m cb] 31)) (.bool f') (.slice a' n' ca') (.slice b' m' cb') 31).keep ((World.Since.refl _ _).alloc (Nat.le_refl _) (.cells #[.bool false, .slice none 0 0, .slice none 0 0] 31))
    simpa using this
  have rA : Box3 (((w.alloc (.cells #[.bool f, .slice a n ca, .slice b m cb] 31)).alloc (.cells #[.bool f', .slice a' n' ca', .slice b' m' cb'] 31)).alloc (.cells #[.bool false, .slice none 0 0, .slice none 0 0] 31)) (w.heap.size + 1 + 1) (.bool false) (.slice none 0 0) (.slice none 0 0) := by
    have := Box3.new ((w.alloc (.cells #[.bool f, .slice a n ca, .slice b m cb] 31)).alloc (.cells #[.bool f', .slice a' n' ca', .slice b' m' cb'] 31)) (.bool false) (.slice none 0 0) (.slice none 0 0) 31
    simpa using this
  have m1 := R.m0
  have m1' := R'.m0
  go_enter Tryd.func53, Tryd.ntmps53
  go_wp2_with fail
  generalize (((w.alloc (.cells #[.bool f, .slice a n ca, .slice b m cb] 31)).alloc (.cells #[.bool f', .slice a' n' ca', .slice b' m' cb'] 31)).alloc (.cells #[.bool false, .slice none 0 0, .slice none 0 0] 31)) = w1 at *
  refine (fractionOf_any f a b ba oa n ca bb ob m cb X Y w1 (by omega) (by omega) R.nc R.mc (R.keep sA).LX (R.keep sA).LY R.pX R.pY).mono ?_
  rintro e w2 ⟨rfl, s2⟩
  have S2 : w.Since w.heap.size w2 := sA.trans (sinceMono s2 sA.size)
  have z2 := s2.size
  have p2 := pA.keep s2
  have r2 := rA.keep s2
  clear pA rA s2
  have t3 : w2.Since w2.heap.size (w2.alloc (.cells #[.bool f, .slice a n ca, .slice b m cb] 72)) := (World.Since.refl _ _).alloc (Nat.le_refl _) _
  have c3 := Box3.new w2 (.bool f) (.slice a n ca) (.slice b m cb) 72
  have p3 := p2.keep t3
  have r3 := r2.keep t3
  have S3 : w.Since w.heap.size (w2.alloc (.cells #[.bool f, .slice a n ca, .slice b m cb] 72)) := S2.trans (sinceMono t3 S2.size)
  have k0 := p3.c0
  have k1 := p3.c1
  have k2 := p3.c2
  go_wp2_with fail
  generalize w2.alloc (.cells #[.bool f, .slice a n ca, .slice b m cb] 72) = w3 at *
  refine (fractionOf_any f' a' b' ba' oa' n' ca' bb' ob' m' cb' X' Y' w3 (by omega) (by omega) R'.nc R'.mc (R'.keep S3).LX (R'.keep S3).LY R'.pX R'.pY).mono ?_
  rintro e w4 ⟨rfl, s4⟩
  have S4 : w.Since w.heap.size w4 := S3.trans (sinceMono s4 S3.size)
  have c4 := c3.keep s4
  have r4 := r3.keep s4
  have R4 := R.keep S4
  have R4' := R'.keep S4
  have zc : w.heap.size ≤ w2.heap.size := by omega
  have lX : 0 < n → ba < w.heap.size := R.LX.lt
  have lY : 0 < m → bb < w.heap.size := R.LY.lt
  have lX' : 0 < n' → ba' < w.heap.size := R'.LX.lt
  have lY' : 0 < m' → bb' < w.heap.size := R'.LY.lt
  have hDD : 0 < lv Y m * lv Y' m' := Nat.mul_pos R.den R'.den
  clear k0 k1 k2 p3 p2 r2 c3 r3 s4
  go_wp2_with fail
  refine (fracAdd_any w2.heap.size f f' a b a' b' ba oa n ca bb ob m cb ba' oa' n' ca' bb' ob' m' cb' X Y X' Y' w4 hn m1 m1' R4.LX R4.LY R4'.LX R4'.LY R.lX R.lY R'.lX R'.lY
    (fun h => by have := lX h; omega) (fun h => by have := lY h; omega) (fun h => by have := lX' h; omega) (fun h => by have := lY' h; omega) c4).mono ?_
  rintro e w5 ⟨rfl, v1, v2, g, h, c5, N5, D5, b5, b6, b7, b8, b9, O5⟩
  have hcl := c4.lt
  have r5 := r4.oth O5 (by omega)
  have S5 : w.Since w.heap.size w5 := S4.trans (sinceMono (O5.since (by omega)) zc)
  have T5 := hT.stay hw S5
  clear R4 R4' R R' lX lY lX' lY'
  go_wp2_with fail
  refine (normalise_any w2.heap.size (sumNeg f f' (lv X n * lv Y' m') (lv X' n' * lv Y m)) v1 v2 g h (sumTop f f' (lv X n * lv Y' m') (lv X' n' * lv Y m)) (lv Y m * lv Y' m') (w.heap.size + 1 + 1 + 1) w5 (Nat.lt_of_lt_of_le hw S5.size) T5 c5 N5 D5 b7 b8 b9 (by omega) (by omega) (by omega) (by omega) (by omega) (by omega) hDD).mono ?_
  rintro e w6 ⟨v, rfl, ⟨x1, x2, g6, h6, rfl, N6, D6, y1, y2, y3⟩, s6⟩
  have rB := r5.since s6 (by omega)
  have N6' := N6
  have D6' := D6
  obtain ⟨a1, q1, c1, Y1, rfl, -⟩ := N6
  obtain ⟨a2, q2, c2, Y2, rfl, -⟩ := D6
  have S6 : w.Since w.heap.size w6 := S5.trans (sinceMono s6 (by omega))
  have u0 := rB.c0
  have u1 := rB.c1
  have u2 := rB.c2
  have uf0 := rB.f 0
  have uf1 := rB.f 1
  have uf2 := rB.f 2
  obtain ⟨neg, hneg⟩ : ∃ neg, (sumNeg f f' (lv X n * lv Y' m') (lv X' n' * lv Y m) && sumTop f f' (lv X n * lv Y' m') (lv X' n' * lv Y m) != 0) = neg := ⟨_, rfl⟩
  rw [hneg]
  have hneg := hide hneg
  go_wp2
  have rC := ((rB.set0 (.bool neg)).set1 (.slice a1 q1 c1)).set2 (.slice a2 q2 c2)
  refine bodyPost_ret (results_box3 rfl _ _ _ _ _ _ rfl rC) rfl ?_
  have M : Marked w6 _ (w.heap.size + 1 + 1) := (((Marked.refl w6 _).setCell 0 (.bool neg)).setCell 1 (.slice a1 q1 c1)).setCell 2 (.slice a2 q2 c2)
  exact ⟨_, rfl, ⟨_, _, g6, h6, by rw [hneg.out], N6'.marked M (by omega), D6'.marked M (by omega), by omega, by omega, y3⟩, S6.trans (M.since (by omega))⟩

set_option maxHeartbeats 1600000 in
set_option maxRecDepth 100000 in
/-- impl.RatAdd where both are valid. -/
theorem implRatAdd_ok (f f' : Bool) (a b a' b' : Option Addr) (ba oa n ca bb ob m cb ba' oa' n' ca' bb' ob' m' cb' : Nat) (X Y X' Y' : Nat → Nat) (w : World) (hw : 1 < w.heap.size) (hT : Tab w) (hn : n + n' + m + m' ≤ 1048576)
    (R : RIn w a b ba oa n ca bb ob m cb X Y) (R' : RIn w a' b' ba' oa' n' ca' bb' ob' m' cb' X' Y') (ok : ratOkB f X n Y m = true) (ok' : ratOkB f' X' n' Y' m' = true) :
    Calls Tryd.prog 23 #[.agg #[.bool f, .slice a n ca, .slice b m cb], .agg #[.bool f', .slice a' n' ca', .slice b' m' cb']] w fun e w' => ∃ v, e = .returned v ∧
      RatV w' v (sumNeg f f' (lv X n * lv Y' m') (lv X' n' * lv Y m) && sumTop f f' (lv X n * lv Y' m') (lv X' n' * lv Y m) != 0) (sumTop f f' (lv X n * lv Y' m') (lv X' n' * lv Y m) / Nat.gcd (sumTop f f' (lv X n * lv Y' m') (lv X' n' * lv Y m)) (lv Y m * lv Y' m')) (lv Y m * lv Y' m' / Nat.gcd (sumTop f f' (lv X n * lv Y' m') (lv X' n' * lv Y m)) (lv Y m * lv Y' m')) w.heap.size 1048578 ∧ w.Since w.heap.size w' := by
  have sA : w.Since w.heap.size (((w.alloc (.cells #[.bool f, .slice a n ca, .slice b m cb] 31)).alloc (.cells #[.bool f', .slice a' n' ca', .slice b' m' cb'] 31)).alloc (.cells #[.bool false, .slice none 0 0, .slice none 0 0] 31)) := (((World.Since.refl _ _).alloc (Nat.le_refl _) _).alloc (by simp) _).alloc (by simp; omega) _
  have zA : (((w.alloc (.cells #[.bool f, .slice a n ca, .slice b m cb] 31)).alloc (.cells #[.bool f', .slice a' n' ca', .slice b' m' cb'] 31)).alloc (.cells #[.bool false, .slice none 0 0, .slice none 0 0] 31)).heap.size = w.heap.size + 1 + 1 + 1 := by simp
  have oA : Box3 (((w.alloc (.cells #[.bool f, .slice a n ca, .slice b m cb] 31)).alloc (.cells #[.bool f', .slice a' n' ca', .slice b' m' cb'] 31)).alloc (.cells #[.bool false, .slice none 0 0, .slice none 0 0] 31)) w.heap.size (.bool f) (.slice a n ca) (.slice b m cb) := ((Box3.new w _ _ _ _).keep ((World.Since.refl _ _).alloc (Nat.le_refl _) _)).keep ((World.Since.refl _ _).alloc (Nat.le_refl _) _)
  have pA : Box3 (((w.alloc (.cells #[.bool f, .slice a n ca, .slice b m cb] 31)).alloc (.cells #[.bool f', .slice a' n' ca', .slice b' m' cb'] 31)).alloc (.cells #[.bool false, .slice none 0 0, .slice none 0 0] 31)) (w.heap.size + 1) (.bool f') (.slice a' n' ca') (.slice b' m' cb') := by
    have := (Box3.new (w.alloc (.cells #[.bool f, .slice a n ca, .slice b m cb] 31)) (.bool f') (.slice a' n' ca') (.slice b' m' cb') 31).keep ((World.Since.refl _ _).alloc (Nat.le_refl _) (.cells #[.bool false, .slice none 0 0, .slice none 0 0] 31))
    simpa using this
  have rA : Box3 (((w.alloc (.cells #[.bool f, .slice a n ca, .slice b m cb] 31)).alloc (.cells #[.bool f', .slice a' n' ca', .slice b' m' cb'] 31)).alloc (.cells #[.bool false, .slice none 0 0, .slice none 0 0] 31)) (w.heap.size + 1 + 1) (.bool false) (.slice none 0 0) (.slice none 0 0) := by
    have := Box3.new ((w.alloc (.cells #[.bool f, .slice a n ca, .slice b m cb] 31)).alloc (.cells #[.bool f', .slice a' n' ca', .slice b' m' cb'] 31)) (.bool false) (.slice none 0 0) (.slice none 0 0) 31
    simpa using this
  have m1 := R.m0
  have m1' := R'.m0
  have TA := hT.stay hw sA
  go_enter Tryd.func23, Tryd.ntmps23
  go_wp2_with fail
  generalize (((w.alloc (.cells #[.bool f, .slice a n ca, .slice b m cb] 31)).alloc (.cells #[.bool f', .slice a' n' ca', .slice b' m' cb'] 31)).alloc (.cells #[.bool false, .slice none 0 0, .slice none 0 0] 31)) = w1 at *
  have RA := R.keep sA
  have RA' := R'.keep sA
  have wA := Nat.lt_of_lt_of_le hw sA.size
  have I1 := implRatOk_any f a b ba oa n ca bb ob m cb X Y w1 wA (by omega) (by omega) R.nc R.mc R.ac R.bc RA.LX RA.LY R.lX R.lY TA
  rw [ok] at I1
  refine I1.mono ?_
  rintro e w2 ⟨rfl, s2⟩
  have o2 := oA.keep s2
  have p2 := pA.keep s2
  have r2 := rA.keep s2
  have S2 : w.Since w.heap.size w2 := sA.trans (sinceMono s2 sA.size)
  have z2 := s2.size
  have RB' := RA'.keep s2
  have I2 := implRatOk_any f' a' b' ba' oa' n' ca' bb' ob' m' cb' X' Y' w2 (Nat.lt_of_lt_of_le hw S2.size) (by omega) (by omega) R'.nc R'.mc R'.ac R'.bc RB'.LX RB'.LY R'.lX R'.lY (hT.stay hw S2)
  rw [ok'] at I2
  clear I1 oA pA rA
  have k0 := p2.c0
  have k1 := p2.c1
  have k2 := p2.c2
  go_wp2_with fail
  refine I2.mono ?_
  rintro e w3 ⟨rfl, s3⟩
  have S3 : w.Since w.heap.size w3 := S2.trans (sinceMono s3 S2.size)
  have z3 := s3.size
  have o3 := o2.keep s3
  have p3 := p2.keep s3
  have r3 := r2.keep s3
  clear I2 k0 k1 k2 o2 p2 r2
  have k0 := p3.c0
  have k1 := p3.c1
  have k2 := p3.c2
  have j0 := o3.c0
  have j1 := o3.c1
  have j2 := o3.c2
  have JP := sumOf_any f f' a b a' b' ba oa n ca bb ob m cb ba' oa' n' ca' bb' ob' m' cb' X Y X' Y' w3 (Nat.lt_of_lt_of_le hw S3.size) (hT.stay hw S3) hn (R.keep S3) (R'.keep S3)
  go_wp2_with fail
  refine JP.mono ?_
  rintro e w6 ⟨v, rfl, ⟨x1, x2, g6, h6, rfl, N6, D6, y1, y2, y3⟩, s6⟩
  have rB := r3.keep s6
  have N6' := N6
  have D6' := D6
  obtain ⟨a1, q1, c1, Y1, rfl, -⟩ := N6
  obtain ⟨a2, q2, c2, Y2, rfl, -⟩ := D6
  have S6 : w.Since w.heap.size w6 := S3.trans (sinceMono s6 S3.size)
  have u0 := rB.c0
  have u1 := rB.c1
  have u2 := rB.c2
  have uf0 := rB.f 0
  have uf1 := rB.f 1
  have uf2 := rB.f 2
  obtain ⟨neg, hneg⟩ : ∃ neg, (sumNeg f f' (lv X n * lv Y' m') (lv X' n' * lv Y m) && sumTop f f' (lv X n * lv Y' m') (lv X' n' * lv Y m) != 0) = neg := ⟨_, rfl⟩
  rw [hneg]
  have hneg := hide hneg
  clear JP
  go_wp2
  have rC := ((rB.set0 (.bool neg)).set1 (.slice a1 q1 c1)).set2 (.slice a2 q2 c2)
  refine bodyPost_ret (results_box3 rfl _ _ _ _ _ _ rfl rC) rfl ?_
  have M : Marked w6 _ (w.heap.size + 1 + 1) := (((Marked.refl w6 _).setCell 0 (.bool neg)).setCell 1 (.slice a1 q1 c1)).setCell 2 (.slice a2 q2 c2)
  exact ⟨_, rfl, ⟨_, _, g6, h6, by rw [hneg.out], N6'.marked M (by omega), D6'.marked M (by omega), by omega, by omega, y3⟩, S6.trans (M.since (by omega))⟩

end Go.Proofs.YtklkohdcilnchabDoor

namespace Go.Proofs.YtklkohdcilnchabDoor
open Go.RowKit

set_option maxHeartbeats 1600000 in
set_option maxRecDepth 100000 in
/-- impl.RatAdd where one is not valid. -/
theorem implRatAdd_no (f f' : Bool) (a b a' b' : Option Addr) (ba oa n ca bb ob m cb ba' oa' n' ca' bb' ob' m' cb' : Nat) (X Y X' Y' : Nat → Nat) (w : World) (hw : 1 < w.heap.size) (hT : Tab w) (hn : n + n' ≤ 1048576) (hm : m + m' ≤ 1048576)
    (R : RRaw w a b ba oa n ca bb ob m cb X Y) (R' : RRaw w a' b' ba' oa' n' ca' bb' ob' m' cb' X' Y') (ok : ¬ (ratOkB f X n Y m = true ∧ ratOkB f' X' n' Y' m' = true)) :
    Calls Tryd.prog 23 #[.agg #[.bool f, .slice a n ca, .slice b m cb], .agg #[.bool f', .slice a' n' ca', .slice b' m' cb']] w fun e w' => ∃ v, e = .returned v ∧ RatV w' v false 0 1 w.heap.size 4194304 ∧ w.Since w.heap.size w' := by
  have sA : w.Since w.heap.size (((w.alloc (.cells #[.bool f, .slice a n ca, .slice b m cb] 31)).alloc (.cells #[.bool f', .slice a' n' ca', .slice b' m' cb'] 31)).alloc (.cells #[.bool false, .slice none 0 0, .slice none 0 0] 31)) := (((World.Since.refl _ _).alloc (Nat.le_refl _) _).alloc (by simp) _).alloc (by simp; omega) _
  have zA : (((w.alloc (.cells #[.bool f, .slice a n ca, .slice b m cb] 31)).alloc (.cells #[.bool f', .slice a' n' ca', .slice b' m' cb'] 31)).alloc (.cells #[.bool false, .slice none 0 0, .slice none 0 0] 31)).heap.size = w.heap.size + 1 + 1 + 1 := by simp
  have pA : Box3 (((w.alloc (.cells #[.bool f, .slice a n ca, .slice b m cb] 31)).alloc (.cells #[.bool f', .slice a' n' ca', .slice b' m' cb'] 31)).alloc (.cells #[.bool false, .slice none 0 0, .slice none 0 0] 31)) (w.heap.size + 1) (.bool f') (.slice a' n' ca') (.slice b' m' cb') := by
    have := (Box3.new (w.alloc (.cells #[.bool f, .slice a n ca, .slice b m cb] 31)) (.bool f') (.slice a' n' ca') (.slice b' m' cb') 31).keep ((World.Since.refl _ _).alloc (Nat.le_refl _) (.cells #[.bool false, .slice none 0 0, .slice none 0 0] 31))
    simpa using this
  have rA : Box3 (((w.alloc (.cells #[.bool f, .slice a n ca, .slice b m cb] 31)).alloc (.cells #[.bool f', .slice a' n' ca', .slice b' m' cb'] 31)).alloc (.cells #[.bool false, .slice none 0 0, .slice none 0 0] 31)) (w.heap.size + 1 + 1) (.bool false) (.slice none 0 0) (.slice none 0 0) := by
    have := Box3.new ((w.alloc (.cells #[.bool f, .slice a n ca, .slice b m cb] 31)).alloc (.cells #[.bool f', .slice a' n' ca', .slice b' m' cb'] 31)) (.bool false) (.slice none 0 0) (.slice none 0 0) 31
    simpa using this
  have TA := hT.stay hw sA
  go_enter Tryd.func23, Tryd.ntmps23
  go_wp2_with fail
  generalize (((w.alloc (.cells #[.bool f, .slice a n ca, .slice b m cb] 31)).alloc (.cells #[.bool f', .slice a' n' ca', .slice b' m' cb'] 31)).alloc (.cells #[.bool false, .slice none 0 0, .slice none 0 0] 31)) = w1 at *
  have RA := R.keep sA
  have RA' := R'.keep sA
  have wA := Nat.lt_of_lt_of_le hw sA.size
  have I1 := implRatOk_any f a b ba oa n ca bb ob m cb X Y w1 wA (by omega) (by omega) R.nc R.mc R.ac R.bc RA.LX RA.LY R.lX R.lY TA
  by_cases h1 : ratOkB f X n Y m = true
  · have h2 : ratOkB f' X' n' Y' m' = false := by
      cases e : ratOkB f' X' n' Y' m'
      · rfl
      · exact absurd ⟨h1, e⟩ ok
    rw [h1] at I1
    clear h1 ok
    refine I1.mono ?_
    rintro e w2 ⟨rfl, s2⟩
    have p2 := pA.keep s2
    have r2 := rA.keep s2
    have S2 : w.Since w.heap.size w2 := sA.trans (sinceMono s2 sA.size)
    have z2 := s2.size
    have RB' := RA'.keep s2
    have I2 := implRatOk_any f' a' b' ba' oa' n' ca' bb' ob' m' cb' X' Y' w2 (Nat.lt_of_lt_of_le hw S2.size) (by omega) (by omega) R'.nc R'.mc R'.ac R'.bc RB'.LX RB'.LY R'.lX R'.lY (hT.stay hw S2)
    rw [h2] at I2
    clear I1 pA rA h2
    have k0 := p2.c0
    have k1 := p2.c1
    have k2 := p2.c2
    go_wp2_with fail
    refine I2.mono ?_
    rintro e w3 ⟨rfl, s3⟩
    have S3 : w.Since w.heap.size w3 := S2.trans (sinceMono s3 S2.size)
    have z3 := s3.size
    have r3 := r2.keep s3
    clear I2 k0 k1 k2 p2 r2
    go_wp2_with fail
    refine (zeroRat_any w3).mono ?_
    rintro e w6 ⟨v, rfl, ⟨x1, x2, g6, h6, rfl, N6, D6, y1, y2, y3⟩, s6⟩
    have rB := r3.keep s6
    have N6' := N6
    have D6' := D6
    obtain ⟨a1, q1, c1, Y1, rfl, -⟩ := N6
    obtain ⟨a2, q2, c2, Y2, rfl, -⟩ := D6
    have S6 : w.Since w.heap.size w6 := S3.trans (sinceMono s6 S3.size)
    have u0 := rB.c0
    have u1 := rB.c1
    have u2 := rB.c2
    have uf0 := rB.f 0
    have uf1 := rB.f 1
    have uf2 := rB.f 2
    go_wp2
    have rC := ((rB.set0 (.bool false)).set1 (.slice a1 q1 c1)).set2 (.slice a2 q2 c2)
    refine bodyPost_ret (results_box3 rfl _ _ _ _ _ _ rfl rC) rfl ?_
    have M : Marked w6 _ (w.heap.size + 1 + 1) := (((Marked.refl w6 _).setCell 0 (.bool false)).setCell 1 (.slice a1 q1 c1)).setCell 2 (.slice a2 q2 c2)
    exact ⟨_, rfl, ⟨_, _, g6, h6, rfl, N6'.marked M (by omega), D6'.marked M (by omega), by omega, by omega, y3⟩, S6.trans (M.since (by omega))⟩
  · have h1' : ratOkB f X n Y m = false := by simpa using h1
    rw [h1'] at I1
    clear h1 h1' ok
    refine I1.mono ?_
    rintro e w3 ⟨rfl, s3⟩
    have S3 : w.Since w.heap.size w3 := sA.trans (sinceMono s3 sA.size)
    have z3 := s3.size
    have z2 : w1.heap.size ≤ w1.heap.size := Nat.le_refl _
    have r3 := rA.keep s3
    clear I1 pA rA
    go_wp2_with fail
    refine (zeroRat_any w3).mono ?_
    rintro e w6 ⟨v, rfl, ⟨x1, x2, g6, h6, rfl, N6, D6, y1, y2, y3⟩, s6⟩
    have rB := r3.keep s6
    have N6' := N6
    have D6' := D6
    obtain ⟨a1, q1, c1, Y1, rfl, -⟩ := N6
    obtain ⟨a2, q2, c2, Y2, rfl, -⟩ := D6
    have S6 : w.Since w.heap.size w6 := S3.trans (sinceMono s6 S3.size)
    have u0 := rB.c0
    have u1 := rB.c1
    have u2 := rB.c2
    have uf0 := rB.f 0
    have uf1 := rB.f 1
    have uf2 := rB.f 2
    go_wp2
    have rC := ((rB.set0 (.bool false)).set1 (.slice a1 q1 c1)).set2 (.slice a2 q2 c2)
    refine bodyPost_ret (results_box3 rfl _ _ _ _ _ _ rfl rC) rfl ?_
    have M : Marked w6 _ (w.heap.size + 1 + 1) := (((Marked.refl w6 _).setCell 0 (.bool false)).setCell 1 (.slice a1 q1 c1)).setCell 2 (.slice a2 q2 c2)
    exact ⟨_, rfl, ⟨_, _, g6, h6, rfl, N6'.marked M (by omega), D6'.marked M (by omega), by omega, by omega, y3⟩, S6.trans (M.since (by omega))⟩

end Go.Proofs.YtklkohdcilnchabDoor

namespace Go.Proofs.YtklkohdcilnchabDoor
open Go.RowKit

/-- What holds when i bits have been added. -/
def SumRel (O A B : Nat → Bool) (n m i : Nat) (c : Bool) : Prop := bv O i + c.toNat * 2 ^ i = bv (ext A n) i + bv (ext B m) i

theorem sumRel_step {O A B : Nat → Bool} {n m i : Nat} {c x y : Bool} (h : SumRel O A B n m i c) (hx : ext A n i = x) (hy : ext B m i = y) :
    SumRel (upd O i ((x != y) != c)) A B n m (i + 1) ((x && y) || (x && c) || (y && c)) := by
  unfold SumRel at *
  have hf := full_add x y c
  simp only [bv, bv_upd O i _ i (Nat.le_refl _), upd_same, hx, hy]
  generalize ((x != y) != c).toNat = s at hf ⊢
  generalize ((x && y) || (x && c) || (y && c)).toNat = d at hf ⊢
  have e : s * 2 ^ i + d * 2 ^ (i + 1) = x.toNat * 2 ^ i + y.toNat * 2 ^ i + c.toNat * 2 ^ i := by
    rw [← Nat.add_mul, ← Nat.add_mul, ← hf, Nat.add_mul, Nat.pow_succ, Nat.mul_comm (2 ^ i) 2, ← Nat.mul_assoc, Nat.mul_comm d 2]
  omega

theorem sumRel_end {O A B : Nat → Bool} {n m i : Nat} {c : Bool} (h : SumRel O A B n m i c) (hn : n ≤ i) (hm : m ≤ i) : bv O i + c.toNat * 2 ^ i = bv A n + bv B m := by
  unfold SumRel at h
  rw [bv_ext A n i hn, bv_ext B m i hm] at h
  exact h

theorem not_eq2b (y c : Bool) : (!(y == c)) = ((false != y) != c) := by cases y <;> cases c <;> rfl

set_option maxHeartbeats 6400000 in
set_option maxRecDepth 100000 in
theorem l1AddBits_any (a a' : Option Addr) (b off n cap b' off' m cap' : Nat) (A B : Nat → Bool) (w : World) (hn : n ≤ 134217728) (hm : m ≤ 134217728) (hA : Bits w a b off n A) (hB : Bits w a' b' off' m B) :
    Calls Tryd.prog 85 #[.slice a n cap, .slice a' m cap'] w fun e w' => ∃ g t cap'' D, e = .returned (.slice (some ⟨g, 0, none⟩) t cap'') ∧ t ≤ cap'' ∧ t ≤ max n m + 1 ∧ Bits w' (some ⟨g, 0, none⟩) g 0 t D ∧ w.heap.size ≤ g ∧
      (0 < t → D (t - 1) = true) ∧ bv D t = bv A n + bv B m ∧ w.Since w.heap.size w' := by
  obtain ⟨i0, hi, hz0, hz1, hz2⟩ := info_parts Tryd.info4
  obtain ⟨k, hk1, hk2, hk3, hk4, hk5⟩ : ∃ k, n ≤ k ∧ m ≤ k ∧ k ≤ 134217728 ∧ k ≤ max n m ∧ (k = n ∨ k = m) := by
    rcases Nat.le_total n m with h | h
    · exact ⟨m, h, Nat.le_refl _, hm, Nat.le_max_right _ _, Or.inr rfl⟩
    · exact ⟨n, Nat.le_refl _, h, hn, Nat.le_max_left _ _, Or.inl rfl⟩
  have HK := hide hk4
  clear hk4
  go_enter Tryd.func85, Tryd.ntmps85
  go_wp2
  go_loopw [5, 6, 7] (fun v c t wr => ∃ (i : Nat) (cb : Bool) (D : Nat → Bool), i ≤ k ∧ t = .int .i64 i ∧ c = .bool cb ∧ Hid (v ≠ .slice none 0 0) ∧ wr.ownsRow w.heap.size 4 1 v i (bl D i) ∧ w.Since w.heap.size wr ∧ Hid (SumRel D A B n m i cb)) (fun _ _ t _ => k - (intOf t).toNat)
  case atStart => exact ⟨0, false, fun _ => false, Nat.zero_le _, rfl, rfl, hide (by simp), World.ownsRow_made w #[] 0 (Nat.le_refl _) (by decide) rfl, (World.Since.refl _ _).alloc (Nat.le_refl _) _, hide (by simp [SumRel, bv])⟩
  case round =>
    obtain ⟨i, cb, D, hin, rfl, rfl, HN, hown, hs, HR⟩ := hrel
    by_cases hlt : i < n
    · by_cases him : i < m
      · obtain ⟨rfl, hc⟩ := hA i hlt
        have g0 : wr.cell? ⟨b, off + i, none⟩ = some (.bool (A i)) := by rw [hs.cell (a := ⟨b, off + i, none⟩) (hA.lt (by omega))]; exact hc
        clear hc
        obtain ⟨x, hx⟩ : ∃ x, x = A i := ⟨_, rfl⟩
        rw [← hx] at g0
        have HX : Hid (ext A n i = x) := by simp [Hid, ext, hlt, hx]
        clear hx
        obtain ⟨rfl, hc⟩ := hB i him
        have g1 : wr.cell? ⟨b', off' + i, none⟩ = some (.bool (B i)) := by rw [hs.cell (a := ⟨b', off' + i, none⟩) (hB.lt (by omega))]; exact hc
        obtain ⟨y, hy⟩ : ∃ y, y = B i := ⟨_, rfl⟩
        rw [← hy] at g1
        have HY : Hid (ext B m i = y) := by simp [Hid, ext, him, hy]
        clear hc hy
        have HS := hide (sumRel_step HR.out HX.out HY.out)
        go_wp2_with (at_builtin; refine wpList_append_own _ rfl _ _ 46 rfl w.heap.size 4 i0 (.bool false) 1 1 Tryd.underlying46 hi hz0 hz1 hz2 rfl (by decide) _ _ _ rfl (hown.alloc _) ⟨wr.heap.size, 0, none⟩ 1 1 [.bool _] rfl rfl (new_cell _ _ _) (one_one _ rfl) (by unfold maxLen; omega) (by omega) (by have := hs.size; simp; omega) ?_)
        intro v' w1 hown' hgrow hnn
        have hs1 : w.Since w.heap.size w1 := (hs.alloc hs.size _).grown hgrow (by have := hs.size; simp; omega) (fun k hk => (hown.lt k hk).1)
        have HN' := hide hnn
        rw [not_eq3 x y cb, ← bl_upd] at hown'
        clear hgrow hown hs hnn HN
        cases x <;> cases y <;> cases cb
        all_goals
          go_wp2
          go_roundw
          case rel => exact ⟨i + 1, _, _, by omega, by go_num, rfl, HN', hown', hs1, HS⟩
          case measure => simp [intOf]; omega
      · obtain ⟨rfl, hc⟩ := hA i hlt
        have g0 : wr.cell? ⟨b, off + i, none⟩ = some (.bool (A i)) := by rw [hs.cell (a := ⟨b, off + i, none⟩) (hA.lt (by omega))]; exact hc
        clear hc
        obtain ⟨x, hx⟩ : ∃ x, x = A i := ⟨_, rfl⟩
        rw [← hx] at g0
        have HX : Hid (ext A n i = x) := by simp [Hid, ext, hlt, hx]
        clear hx
        have HY : Hid (ext B m i = false) := by simp [Hid, ext, him]
        have HS := hide (sumRel_step HR.out HX.out HY.out)
        go_wp2_with (at_builtin; refine wpList_append_own _ rfl _ _ 46 rfl w.heap.size 4 i0 (.bool false) 1 1 Tryd.underlying46 hi hz0 hz1 hz2 rfl (by decide) _ _ _ rfl (hown.alloc _) ⟨wr.heap.size, 0, none⟩ 1 1 [.bool _] rfl rfl (new_cell _ _ _) (one_one _ rfl) (by unfold maxLen; omega) (by omega) (by have := hs.size; simp; omega) ?_)
        intro v' w1 hown' hgrow hnn
        have hs1 : w.Since w.heap.size w1 := (hs.alloc hs.size _).grown hgrow (by have := hs.size; simp; omega) (fun k hk => (hown.lt k hk).1)
        have HN' := hide hnn
        rw [not_eq2 x cb, ← bl_upd] at hown'
        clear hgrow hown hs hnn HN
        cases x <;> cases cb
        all_goals
          go_wp2
          go_roundw
          case rel => exact ⟨i + 1, _, _, by omega, by go_num, rfl, HN', hown', hs1, HS⟩
          case measure => simp [intOf]; omega
    · by_cases him : i < m
      · have HX : Hid (ext A n i = false) := by simp [Hid, ext, hlt]
        obtain ⟨rfl, hc⟩ := hB i him
        have g1 : wr.cell? ⟨b', off' + i, none⟩ = some (.bool (B i)) := by rw [hs.cell (a := ⟨b', off' + i, none⟩) (hB.lt (by omega))]; exact hc
        obtain ⟨y, hy⟩ : ∃ y, y = B i := ⟨_, rfl⟩
        rw [← hy] at g1
        have HY : Hid (ext B m i = y) := by simp [Hid, ext, him, hy]
        clear hc hy
        have HS := hide (sumRel_step HR.out HX.out HY.out)
        go_wp2_with (at_builtin; refine wpList_append_own _ rfl _ _ 46 rfl w.heap.size 4 i0 (.bool false) 1 1 Tryd.underlying46 hi hz0 hz1 hz2 rfl (by decide) _ _ _ rfl (hown.alloc _) ⟨wr.heap.size, 0, none⟩ 1 1 [.bool _] rfl rfl (new_cell _ _ _) (one_one _ rfl) (by unfold maxLen; omega) (by omega) (by have := hs.size; simp; omega) ?_)
        intro v' w1 hown' hgrow hnn
        have hs1 : w.Since w.heap.size w1 := (hs.alloc hs.size _).grown hgrow (by have := hs.size; simp; omega) (fun k hk => (hown.lt k hk).1)
        have HN' := hide hnn
        rw [not_eq2b y cb, ← bl_upd] at hown'
        clear hgrow hown hs hnn HN
        cases y <;> cases cb
        all_goals
          go_wp2
          go_roundw
          case rel => exact ⟨i + 1, _, _, by omega, by go_num, rfl, HN', hown', hs1, HS⟩
          case measure => simp [intOf]; omega
      · have e : i = k := by omega
        subst e
        have HE := hide (sumRel_end HR.out hk1 hk2)
        cases cb
        · obtain ⟨g, cap3, rfl, hmc, hg, hD⟩ := own_bits_some hown HN.out
          go_wp2_with fail
          refine (l1Trim_any _ g 0 i cap3 D _ (by omega) hmc hD).mono ?_
          rintro e w1 ⟨rfl, rfl⟩
          go_wp2
          go_ret
          have htl := tlen_le D i
          have := HK.out
          exact ⟨g, _, cap3, D, rfl, by omega, by omega, hD.take htl, hg, fun h => tlen_top _ _ h, (bv_tlen _ _).trans (by have := HE.out; simpa using this), hs⟩
        · go_wp2_with (at_builtin; refine wpList_append_own _ rfl _ _ 46 rfl w.heap.size 4 i0 (.bool false) 1 1 Tryd.underlying46 hi hz0 hz1 hz2 rfl (by decide) _ _ _ rfl (hown.alloc _) ⟨wr.heap.size, 0, none⟩ 1 1 [.bool true] rfl rfl (new_cell _ _ _) (one_one _ rfl) (by unfold maxLen; omega) (by omega) (by have := hs.size; simp; omega) ?_)
          intro v' w1 hown' hgrow hnn
          have hs1 : w.Since w.heap.size w1 := (hs.alloc hs.size _).grown hgrow (by have := hs.size; simp; omega) (fun k hk => (hown.lt k hk).1)
          rw [← bl_upd] at hown'
          obtain ⟨g, cap3, rfl, hmc, hg, hD⟩ := own_bits_some hown' hnn
          clear hgrow hown hs
          go_wp2_with fail
          refine (l1Trim_any _ g 0 (i + 1) cap3 (upd D i true) _ (by omega) hmc hD).mono ?_
          rintro e w2 ⟨rfl, rfl⟩
          go_wp2
          go_ret
          have htl := tlen_le (upd D i true) (i + 1)
          have := HK.out
          refine ⟨g, _, cap3, upd D i true, rfl, by omega, by omega, hD.take htl, hg, fun h => tlen_top _ _ h, (bv_tlen _ _).trans ?_, hs1⟩
          have h9 := HE.out
          simp only [bv, upd_same, bv_upd D i true i (Nat.le_refl _)]
          exact h9

end Go.Proofs.YtklkohdcilnchabDoor

namespace Go.Proofs.YtklkohdcilnchabDoor
open Go.RowKit

theorem sum_zeroA {f f' : Bool} {X X' Y Y' : Nat → Nat} {n n' m m' : Nat} (ok : ratOkB f X n Y m = true) (ok' : ratOkB f' X' n' Y' m' = true) (h0 : n = 0) :
    (sumNeg f f' (lv X n * lv Y' m') (lv X' n' * lv Y m) && sumTop f f' (lv X n * lv Y' m') (lv X' n' * lv Y m) != 0) = f' ∧ sumTop f f' (lv X n * lv Y' m') (lv X' n' * lv Y m) / Nat.gcd (sumTop f f' (lv X n * lv Y' m') (lv X' n' * lv Y m)) (lv Y m * lv Y' m') = lv X' n' ∧ (lv Y m * lv Y' m') / Nat.gcd (sumTop f f' (lv X n * lv Y' m') (lv X' n' * lv Y m)) (lv Y m * lv Y' m') = lv Y' m' := by
  subst h0
  unfold ratOkB at ok ok'
  simp only [Bool.and_eq_true, bne_iff_ne, beq_iff_eq, Bool.not_eq_true', Bool.and_eq_false_imp] at ok ok'
  have hf : f = false := by cases f; rfl; have := ok.1.2; simp at this
  have hY : lv Y m = 1 := by have := ok.2; simpa [lv] using this
  have hg := ok'.2
  have hx : f' = true → lv X' n' ≠ 0 := fun e h => by
    have h1 : n' = 0 := (lv_zero (plainB_iff.1 ok'.1.1.1.1)).2 h
    have := ok'.1.2 e
    simp [h1] at this
  subst hf
  have hST : sumTop false f' (lv X 0 * lv Y' m') (lv X' n' * lv Y m) = lv X' n' := by
    simp only [lv, Nat.zero_mul, hY, Nat.mul_one, sumTop]
    cases f'
    · simp
    · have := hx rfl
      simp; omega
  rw [hST, hY, Nat.one_mul, hg, Nat.div_one, Nat.div_one]
  refine ⟨?_, rfl, rfl⟩
  simp only [lv, Nat.zero_mul, Nat.mul_one, sumNeg]
  cases f'
  · simp
  · have := hx rfl
    have h2 : 0 < lv X' n' := by omega
    simp [h2]; omega

theorem sum_zeroB {f f' : Bool} {X X' Y Y' : Nat → Nat} {n n' m m' : Nat} (ok : ratOkB f X n Y m = true) (ok' : ratOkB f' X' n' Y' m' = true) (h0 : n' = 0) :
    (sumNeg f f' (lv X n * lv Y' m') (lv X' n' * lv Y m) && sumTop f f' (lv X n * lv Y' m') (lv X' n' * lv Y m) != 0) = f ∧ sumTop f f' (lv X n * lv Y' m') (lv X' n' * lv Y m) / Nat.gcd (sumTop f f' (lv X n * lv Y' m') (lv X' n' * lv Y m)) (lv Y m * lv Y' m') = lv X n ∧ (lv Y m * lv Y' m') / Nat.gcd (sumTop f f' (lv X n * lv Y' m') (lv X' n' * lv Y m)) (lv Y m * lv Y' m') = lv Y m := by
  subst h0
  unfold ratOkB at ok ok'
  simp only [Bool.and_eq_true, bne_iff_ne, beq_iff_eq, Bool.not_eq_true', Bool.and_eq_false_imp] at ok ok'
  have hf : f' = false := by cases f'; rfl; have := ok'.1.2; simp at this
  have hY : lv Y' m' = 1 := by have := ok'.2; simpa [lv] using this
  have hg := ok.2
  have hx : f = true → lv X n ≠ 0 := fun e h => by
    have h1 : n = 0 := (lv_zero (plainB_iff.1 ok.1.1.1.1)).2 h
    have := ok.1.2 e
    simp [h1] at this
  subst hf
  have hST : sumTop f false (lv X n * lv Y' m') (lv X' 0 * lv Y m) = lv X n := by
    simp only [lv, Nat.zero_mul, hY, Nat.mul_one, sumTop]
    cases f
    · simp
    · simp
  rw [hST, hY, Nat.mul_one, Nat.mul_one, hg, Nat.div_one, Nat.div_one]
  refine ⟨?_, rfl, rfl⟩
  simp only [lv, Nat.zero_mul, sumNeg]
  cases f
  · simp
  · have := hx rfl
    simp; omega

set_option maxHeartbeats 3200000 in
set_option maxRecDepth 100000 in
theorem l1Add_zero (f f' : Bool) (a b a' b' : Addr) (ba oa n ca bb ob m cb ba' oa' n' ca' bb' ob' m' cb' : Nat) (X Y X' Y' : Nat → Nat) (w : World) (hn : n + n' + m + m' ≤ 1048576)
    (R : RIn w (some a) (some b) ba oa n ca bb ob m cb X Y) (R' : RIn w (some a') (some b') ba' oa' n' ca' bb' ob' m' cb' X' Y') (ok : ratOkB f X n Y m = true) (ok' : ratOkB f' X' n' Y' m' = true) (h0 : n = 0 ∨ n' = 0) :
    Calls Tryd.prog 51 #[.agg #[.bool f, .slice (some a) n ca, .slice (some b) m cb], .agg #[.bool f', .slice (some a') n' ca', .slice (some b') m' cb']] w fun e w' => ∃ v, e = .returned v ∧
      RatV w' v (sumNeg f f' (lv X n * lv Y' m') (lv X' n' * lv Y m) && sumTop f f' (lv X n * lv Y' m') (lv X' n' * lv Y m) != 0) (sumTop f f' (lv X n * lv Y' m') (lv X' n' * lv Y m) / Nat.gcd (sumTop f f' (lv X n * lv Y' m') (lv X' n' * lv Y m)) (lv Y m * lv Y' m')) ((lv Y m * lv Y' m') / Nat.gcd (sumTop f f' (lv X n * lv Y' m') (lv X' n' * lv Y m)) (lv Y m * lv Y' m')) w.heap.size 4194304 ∧ w.Since w.heap.size w' := by
  have hne2 : w.heap.size + 1 + 1 ≠ w.heap.size := by omega
  have sA : w.Since w.heap.size (((w.alloc (.cells #[.bool f, .slice (some a) n ca, .slice (some b) m cb] 31)).alloc (.cells #[.bool f', .slice (some a') n' ca', .slice (some b') m' cb'] 31)).alloc (.cells #[.bool false, .slice none 0 0, .slice none 0 0] 31)) := (((World.Since.refl _ _).alloc (Nat.le_refl _) _).alloc (by simp) _).alloc (by simp; omega) _
  have zA : (((w.alloc (.cells #[.bool f, .slice (some a) n ca, .slice (some b) m cb] 31)).alloc (.cells #[.bool f', .slice (some a') n' ca', .slice (some b') m' cb'] 31)).alloc (.cells #[.bool false, .slice none 0 0, .slice none 0 0] 31)).heap.size = w.heap.size + 1 + 1 + 1 := by simp
  have oA : Box3 (((w.alloc (.cells #[.bool f, .slice (some a) n ca, .slice (some b) m cb] 31)).alloc (.cells #[.bool f', .slice (some a') n' ca', .slice (some b') m' cb'] 31)).alloc (.cells #[.bool false, .slice none 0 0, .slice none 0 0] 31)) w.heap.size (.bool f) (.slice (some a) n ca) (.slice (some b) m cb) := ((Box3.new w _ _ _ _).keep ((World.Since.refl _ _).alloc (Nat.le_refl _) _)).keep ((World.Since.refl _ _).alloc (Nat.le_refl _) _)
  have pA : Box3 (((w.alloc (.cells #[.bool f, .slice (some a) n ca, .slice (some b) m cb] 31)).alloc (.cells #[.bool f', .slice (some a') n' ca', .slice (some b') m' cb'] 31)).alloc (.cells #[.bool false, .slice none 0 0, .slice none 0 0] 31)) (w.heap.size + 1) (.bool f') (.slice (some a') n' ca') (.slice (some b') m' cb') := by
    have := (Box3.new (w.alloc (.cells #[.bool f, .slice (some a) n ca, .slice (some b) m cb] 31)) (.bool f') (.slice (some a') n' ca') (.slice (some b') m' cb') 31).keep ((World.Since.refl _ _).alloc (Nat.le_refl _) (.cells #[.bool false, .slice none 0 0, .slice none 0 0] 31))
    simpa using this
  have rA : Box3 (((w.alloc (.cells #[.bool f, .slice (some a) n ca, .slice (some b) m cb] 31)).alloc (.cells #[.bool f', .slice (some a') n' ca', .slice (some b') m' cb'] 31)).alloc (.cells #[.bool false, .slice none 0 0, .slice none 0 0] 31)) (w.heap.size + 1 + 1) (.bool false) (.slice none 0 0) (.slice none 0 0) := by
    have := Box3.new ((w.alloc (.cells #[.bool f, .slice (some a) n ca, .slice (some b) m cb] 31)).alloc (.cells #[.bool f', .slice (some a') n' ca', .slice (some b') m' cb'] 31)) (.bool false) (.slice none 0 0) (.slice none 0 0) 31
    simpa using this
  by_cases h1 : n = 0
  · have hZ := sum_zeroA ok ok' h1
    rw [hZ.1, hZ.2.1, hZ.2.2]
    clear hZ ok ok' h0
    subst h1
    have k0 := pA.c0
    have k1 := pA.c1
    have k2 := pA.c2
    go_enter Tryd.func51, Tryd.ntmps51
    go_wp2_with fail
    generalize (((w.alloc (.cells #[.bool f, .slice (some a) 0 ca, .slice (some b) m cb] 31)).alloc (.cells #[.bool f', .slice (some a') n' ca', .slice (some b') m' cb'] 31)).alloc (.cells #[.bool false, .slice none 0 0, .slice none 0 0] 31)) = w1 at *
    refine (l1Copy_any f' a' b' ba' oa' n' ca' bb' ob' m' cb' X' Y' w1 (by omega) (by omega) R'.nc R'.mc (R'.keep sA).LX (R'.keep sA).LY).mono ?_
    rintro e w6 ⟨a1, a2, g6, h6, c1, c2, rfl, v1, v2, v3, v4, N6, D6, FN, FD, y1, y2, y3, s6⟩
    have rB := rA.keep s6
    have S6 : w.Since w.heap.size w6 := sA.trans (sinceMono s6 sA.size)
    have u0 := rB.c0
    have u1 := rB.c1
    have u2 := rB.c2
    have uf0 := rB.f 0
    have uf1 := rB.f 1
    have uf2 := rB.f 2
    go_wp2
    have rC := ((rB.set0 (.bool f')).set1 (.slice a1 n' c1)).set2 (.slice a2 m' c2)
    refine bodyPost_ret (results_box3 rfl _ _ _ _ _ _ rfl rC) rfl ?_
    have M : Marked w6 _ (w.heap.size + 1 + 1) := (((Marked.refl w6 _).setCell 0 (.bool f')).setCell 1 (.slice a1 n' c1)).setCell 2 (.slice a2 m' c2)
    have N7 : NatAt w6 (.slice a1 n' c1) g6 (lv X' n') 4194304 := ⟨_, _, _, X', rfl, v1, by omega, v3, N6, FN, R'.lX, R'.pX, rfl⟩
    have D7 : NatAt w6 (.slice a2 m' c2) h6 (lv Y' m') 4194304 := ⟨_, _, _, Y', rfl, v2, by omega, v4, D6, FD, R'.lY, R'.pY, rfl⟩
    exact ⟨_, rfl, ⟨_, _, g6, h6, rfl, N7.marked M (by omega), D7.marked M (by omega), by omega, by omega, by omega⟩, S6.trans (M.since (by omega))⟩
  · have h2 : n' = 0 := by omega
    have hZ := sum_zeroB ok ok' h2
    rw [hZ.1, hZ.2.1, hZ.2.2]
    clear hZ ok ok' h0
    subst h2
    have q1 : ((n : Int) == 0) = false := by simp; omega
    have k0 := oA.c0
    have k1 := oA.c1
    have k2 := oA.c2
    go_enter Tryd.func51, Tryd.ntmps51
    go_wp2_with fail
    generalize (((w.alloc (.cells #[.bool f, .slice (some a) n ca, .slice (some b) m cb] 31)).alloc (.cells #[.bool f', .slice (some a') 0 ca', .slice (some b') m' cb'] 31)).alloc (.cells #[.bool false, .slice none 0 0, .slice none 0 0] 31)) = w1 at *
    refine (l1Copy_any f a b ba oa n ca bb ob m cb X Y w1 (by omega) (by omega) R.nc R.mc (R.keep sA).LX (R.keep sA).LY).mono ?_
    rintro e w6 ⟨a1, a2, g6, h6, c1, c2, rfl, v1, v2, v3, v4, N6, D6, FN, FD, y1, y2, y3, s6⟩
    have rB := rA.keep s6
    have S6 : w.Since w.heap.size w6 := sA.trans (sinceMono s6 sA.size)
    have u0 := rB.c0
    have u1 := rB.c1
    have u2 := rB.c2
    have uf0 := rB.f 0
    have uf1 := rB.f 1
    have uf2 := rB.f 2
    go_wp2
    have rC := ((rB.set0 (.bool f)).set1 (.slice a1 n c1)).set2 (.slice a2 m c2)
    refine bodyPost_ret (results_box3 rfl _ _ _ _ _ _ rfl rC) rfl ?_
    have M : Marked w6 _ (w.heap.size + 1 + 1) := (((Marked.refl w6 _).setCell 0 (.bool f)).setCell 1 (.slice a1 n c1)).setCell 2 (.slice a2 m c2)
    have N7 : NatAt w6 (.slice a1 n c1) g6 (lv X n) 4194304 := ⟨_, _, _, X, rfl, v1, by omega, v3, N6, FN, R.lX, R.pX, rfl⟩
    have D7 : NatAt w6 (.slice a2 m c2) h6 (lv Y m) 4194304 := ⟨_, _, _, Y, rfl, v2, by omega, v4, D6, FD, R.lY, R.pY, rfl⟩
    exact ⟨_, rfl, ⟨_, _, g6, h6, rfl, N7.marked M (by omega), D7.marked M (by omega), by omega, by omega, by omega⟩, S6.trans (M.since (by omega))⟩

end Go.Proofs.YtklkohdcilnchabDoor

namespace Go.Proofs.YtklkohdcilnchabDoor
open Go.RowKit

set_option maxHeartbeats 3200000 in
set_option maxRecDepth 100000 in
theorem l1Add_small (f f' : Bool) (a b a' b' : Addr) (ba oa n ca bb ob m cb ba' oa' n' ca' bb' ob' m' cb' : Nat) (X Y X' Y' : Nat → Nat) (w : World) (_hn : n + n' + m + m' ≤ 1048576)
    (R : RIn w (some a) (some b) ba oa n ca bb ob m cb X Y) (R' : RIn w (some a') (some b') ba' oa' n' ca' bb' ob' m' cb' X' Y') (h1 : 0 < n) (h2 : 0 < n') (hs : smallB X n Y m = true) (hs' : smallB X' n' Y' m' = true) :
    Calls Tryd.prog 51 #[.agg #[.bool f, .slice (some a) n ca, .slice (some b) m cb], .agg #[.bool f', .slice (some a') n' ca', .slice (some b') m' cb']] w fun e w' => ∃ v, e = .returned v ∧
      RatV w' v (sumNeg f f' (lv X n * lv Y' m') (lv X' n' * lv Y m) && sumTop f f' (lv X n * lv Y' m') (lv X' n' * lv Y m) != 0) (sumTop f f' (lv X n * lv Y' m') (lv X' n' * lv Y m) / Nat.gcd (sumTop f f' (lv X n * lv Y' m') (lv X' n' * lv Y m)) (lv Y m * lv Y' m')) ((lv Y m * lv Y' m') / Nat.gcd (sumTop f f' (lv X n * lv Y' m') (lv X' n' * lv Y m)) (lv Y m * lv Y' m')) w.heap.size 4194304 ∧ w.Since w.heap.size w' := by
  have hne2 : w.heap.size + 1 + 1 ≠ w.heap.size := by omega
  have sA : w.Since w.heap.size (((w.alloc (.cells #[.bool f, .slice (some a) n ca, .slice (some b) m cb] 31)).alloc (.cells #[.bool f', .slice (some a') n' ca', .slice (some b') m' cb'] 31)).alloc (.cells #[.bool false, .slice none 0 0, .slice none 0 0] 31)) := (((World.Since.refl _ _).alloc (Nat.le_refl _) _).alloc (by simp) _).alloc (by simp; omega) _
  have zA : (((w.alloc (.cells #[.bool f, .slice (some a) n ca, .slice (some b) m cb] 31)).alloc (.cells #[.bool f', .slice (some a') n' ca', .slice (some b') m' cb'] 31)).alloc (.cells #[.bool false, .slice none 0 0, .slice none 0 0] 31)).heap.size = w.heap.size + 1 + 1 + 1 := by simp
  have oA : Box3 (((w.alloc (.cells #[.bool f, .slice (some a) n ca, .slice (some b) m cb] 31)).alloc (.cells #[.bool f', .slice (some a') n' ca', .slice (some b') m' cb'] 31)).alloc (.cells #[.bool false, .slice none 0 0, .slice none 0 0] 31)) w.heap.size (.bool f) (.slice (some a) n ca) (.slice (some b) m cb) := ((Box3.new w _ _ _ _).keep ((World.Since.refl _ _).alloc (Nat.le_refl _) _)).keep ((World.Since.refl _ _).alloc (Nat.le_refl _) _)
  have pA : Box3 (((w.alloc (.cells #[.bool f, .slice (some a) n ca, .slice (some b) m cb] 31)).alloc (.cells #[.bool f', .slice (some a') n' ca', .slice (some b') m' cb'] 31)).alloc (.cells #[.bool false, .slice none 0 0, .slice none 0 0] 31)) (w.heap.size + 1) (.bool f') (.slice (some a') n' ca') (.slice (some b') m' cb') := by
    have := (Box3.new (w.alloc (.cells #[.bool f, .slice (some a) n ca, .slice (some b) m cb] 31)) (.bool f') (.slice (some a') n' ca') (.slice (some b') m' cb') 31).keep ((World.Since.refl _ _).alloc (Nat.le_refl _) (.cells #[.bool false, .slice none 0 0, .slice none 0 0] 31))
    simpa using this
  have rA : Box3 (((w.alloc (.cells #[.bool f, .slice (some a) n ca, .slice (some b) m cb] 31)).alloc (.cells #[.bool f', .slice (some a') n' ca', .slice (some b') m' cb'] 31)).alloc (.cells #[.bool false, .slice none 0 0, .slice none 0 0] 31)) (w.heap.size + 1 + 1) (.bool false) (.slice none 0 0) (.slice none 0 0) := by
    have := Box3.new ((w.alloc (.cells #[.bool f, .slice (some a) n ca, .slice (some b) m cb] 31)).alloc (.cells #[.bool f', .slice (some a') n' ca', .slice (some b') m' cb'] 31)) (.bool false) (.slice none 0 0) (.slice none 0 0) 31
    simpa using this
  obtain ⟨s1, s2', s3', s4'⟩ := smallB_iff.1 hs
  obtain ⟨t1, t2', t3', t4'⟩ := smallB_iff.1 hs'
  obtain ⟨x, hx⟩ : ∃ x, x = lv X n := ⟨_, rfl⟩
  obtain ⟨y, hy⟩ : ∃ y, y = lv Y m := ⟨_, rfl⟩
  obtain ⟨x', hx'⟩ : ∃ x', x' = lv X' n' := ⟨_, rfl⟩
  obtain ⟨y', hy'⟩ : ∃ y', y' = lv Y' m' := ⟨_, rfl⟩
  have hyp : 0 < y * y' := by rw [hy, hy']; exact Nat.mul_pos R.den R'.den
  rw [← hx] at s3'
  rw [← hy] at s4'
  rw [← hx'] at t3'
  rw [← hy'] at t4'
  obtain ⟨p, hp⟩ : ∃ p, p = x * y' := ⟨_, rfl⟩
  obtain ⟨r, hr⟩ : ∃ r, r = x' * y := ⟨_, rfl⟩
  obtain ⟨q, hq⟩ : ∃ q, q = y * y' := ⟨_, rfl⟩
  have hpl : p < 9223372036854775808 := by rw [hp]; exact Nat.lt_of_le_of_lt (Nat.mul_le_mul (Nat.le_of_lt s3') (Nat.le_of_lt t4')) (by omega)
  have hrl : r < 9223372036854775808 := by rw [hr]; exact Nat.lt_of_le_of_lt (Nat.mul_le_mul (Nat.le_of_lt t3') (Nat.le_of_lt s4')) (by omega)
  have hql : q < 9223372036854775808 := by rw [hq]; exact Nat.lt_of_le_of_lt (Nat.mul_le_mul (Nat.le_of_lt s4') (Nat.le_of_lt t4')) (by omega)
  have hpw : IntKind.u64.wrap ((x : Int) * (y' : Int)) = (p : Int) := by rw [← Int.natCast_mul, ← hp]; exact wrap_u64_id p (by omega)
  have hrw : IntKind.u64.wrap ((x' : Int) * (y : Int)) = (r : Int) := by rw [← Int.natCast_mul, ← hr]; exact wrap_u64_id r (by omega)
  have hqw : IntKind.u64.wrap ((y : Int) * (y' : Int)) = (q : Int) := by rw [← Int.natCast_mul, ← hq]; exact wrap_u64_id q (by omega)
  rw [← hq] at hyp
  rw [← hx, ← hx', ← hy, ← hy', ← hp, ← hq, ← hr]
  obtain ⟨sn, hSN⟩ : ∃ s, s = sumNeg f f' p r := ⟨_, rfl⟩
  obtain ⟨st, hST⟩ : ∃ s, s = sumTop f f' p r := ⟨_, rfl⟩
  rw [← hSN, ← hST]
  have HSN := hide hSN
  have HST := hide hST
  clear hSN hST
  have HX := hide hx
  have HY := hide hy
  have HX' := hide hx'
  have HY' := hide hy'
  clear s3' s4' t3' t4' hx hy hx' hy' hp hr hq
  have q1 : ((n : Int) == 0) = false := by simp; omega
  have q2 : ((n' : Int) == 0) = false := by simp; omega
  have j0 := oA.c0
  have j1 := oA.c1
  have j2 := oA.c2
  go_enter Tryd.func51, Tryd.ntmps51
  go_wp2_with fail
  generalize (((w.alloc (.cells #[.bool f, .slice (some a) n ca, .slice (some b) m cb] 31)).alloc (.cells #[.bool f', .slice (some a') n' ca', .slice (some b') m' cb'] 31)).alloc (.cells #[.bool false, .slice none 0 0, .slice none 0 0] 31)) = w1 at *
  have I1 := l1IsSmall_any f (some a) (some b) ba oa n ca bb ob m cb X Y w1 (by omega) (by omega) (R.keep sA).LX (R.keep sA).LY R.lX R.lY
  rw [hs] at I1
  refine I1.mono ?_
  rintro e w2 ⟨rfl, s2⟩
  have S2 : w.Since w.heap.size w2 := sA.trans (sinceMono s2 sA.size)
  have o2 := oA.keep s2
  have p2 := pA.keep s2
  have r2 := rA.keep s2
  have z2 := s2.size
  clear I1 j0 j1 j2 oA pA rA
  have k0 := p2.c0
  have k1 := p2.c1
  have k2 := p2.c2
  have I2 := l1IsSmall_any f' (some a') (some b') ba' oa' n' ca' bb' ob' m' cb' X' Y' w2 (by omega) (by omega) (R'.keep S2).LX (R'.keep S2).LY R'.lX R'.lY
  rw [hs'] at I2
  go_wp2_with fail
  refine I2.mono ?_
  rintro e w3 ⟨rfl, s3⟩
  have S3 : w.Since w.heap.size w3 := S2.trans (sinceMono s3 S2.size)
  have o3 := o2.keep s3
  have p3 := p2.keep s3
  have r3 := r2.keep s3
  have z3 := s3.size
  clear I2 k0 k1 k2 o2 p2 r2
  have k := And.intro o3.cells p3.cells
  have J1 := l1Small_any (some a) ba oa n ca X w3.drew s1 (R.keep S3).LX R.lX
  have J2 := l1Small_any (some b) bb ob m cb Y w3.drew s2' (R.keep S3).LY R.lY
  have J3 := l1Small_any (some a') ba' oa' n' ca' X' w3.drew t1 (R'.keep S3).LX R'.lX
  have J4 := l1Small_any (some b') bb' ob' m' cb' Y' w3.drew t2' (R'.keep S3).LY R'.lY
  rw [← HX.out] at J1
  rw [← HY.out] at J2
  rw [← HX'.out] at J3
  rw [← HY'.out] at J4
  go_wp2
  go_region_held3 (fun w' => w'.cell? ⟨w.heap.size, 0, none⟩ = some (.bool f) ∧ w'.cell? ⟨w.heap.size, 1, none⟩ = some (.slice (some a) n ca) ∧ w'.cell? ⟨w.heap.size, 2, none⟩ = some (.slice (some b) m cb) ∧ w'.cell? ⟨w.heap.size + 1, 0, none⟩ = some (.bool f') ∧ w'.cell? ⟨w.heap.size + 1, 1, none⟩ = some (.slice (some a') n' ca') ∧ w'.cell? ⟨w.heap.size + 1, 2, none⟩ = some (.slice (some b') m' cb')) (go_keep)
    (first
      | (go_at_call 45
         first
          | (with_reducible refine J1.mono ?_; rintro e v4 ⟨rfl, rfl⟩)
          | (with_reducible refine J4.mono ?_; rintro e v4 ⟨rfl, rfl⟩)))
  have S4 := since_drew S3
  have o4 := o3.drew
  have p4 := p3.drew
  have r4 := r3.drew
  clear k J1 J2 J3 J4 o3 p3 r3
  generalize w3.drew = w4 at *
  have k := And.intro o4.cells p4.cells
  have J1 := l1Small_any (some a) ba oa n ca X w4.drew s1 (R.keep S4).LX R.lX
  have J2 := l1Small_any (some b) bb ob m cb Y w4.drew s2' (R.keep S4).LY R.lY
  have J3 := l1Small_any (some a') ba' oa' n' ca' X' w4.drew t1 (R'.keep S4).LX R'.lX
  have J4 := l1Small_any (some b') bb' ob' m' cb' Y' w4.drew t2' (R'.keep S4).LY R'.lY
  rw [← HX.out] at J1
  rw [← HY.out] at J2
  rw [← HX'.out] at J3
  rw [← HY'.out] at J4
  go_wp2
  go_region_held3 (fun w' => w'.cell? ⟨w.heap.size, 0, none⟩ = some (.bool f) ∧ w'.cell? ⟨w.heap.size, 1, none⟩ = some (.slice (some a) n ca) ∧ w'.cell? ⟨w.heap.size, 2, none⟩ = some (.slice (some b) m cb) ∧ w'.cell? ⟨w.heap.size + 1, 0, none⟩ = some (.bool f') ∧ w'.cell? ⟨w.heap.size + 1, 1, none⟩ = some (.slice (some a') n' ca') ∧ w'.cell? ⟨w.heap.size + 1, 2, none⟩ = some (.slice (some b') m' cb')) (go_keep)
    (first
      | (go_at_call 45
         first
          | (with_reducible refine J3.mono ?_; rintro e v4 ⟨rfl, rfl⟩)
          | (with_reducible refine J2.mono ?_; rintro e v4 ⟨rfl, rfl⟩)))
  have S5 := since_drew S4
  have o5 := o4.drew
  have p5 := p4.drew
  have r5 := r4.drew
  clear k J1 J2 J3 J4 o4 p4 r4
  generalize w4.drew = w5 at *
  have k := And.intro o5.cells p5.cells
  have J1 := l1Small_any (some a) ba oa n ca X w5.drew s1 (R.keep S5).LX R.lX
  have J2 := l1Small_any (some b) bb ob m cb Y w5.drew s2' (R.keep S5).LY R.lY
  have J3 := l1Small_any (some a') ba' oa' n' ca' X' w5.drew t1 (R'.keep S5).LX R'.lX
  have J4 := l1Small_any (some b') bb' ob' m' cb' Y' w5.drew t2' (R'.keep S5).LY R'.lY
  rw [← HX.out] at J1
  rw [← HY.out] at J2
  rw [← HX'.out] at J3
  rw [← HY'.out] at J4
  go_wp2
  go_region_held3 (fun w' => w'.cell? ⟨w.heap.size, 0, none⟩ = some (.bool f) ∧ w'.cell? ⟨w.heap.size, 1, none⟩ = some (.slice (some a) n ca) ∧ w'.cell? ⟨w.heap.size, 2, none⟩ = some (.slice (some b) m cb) ∧ w'.cell? ⟨w.heap.size + 1, 0, none⟩ = some (.bool f') ∧ w'.cell? ⟨w.heap.size + 1, 1, none⟩ = some (.slice (some a') n' ca') ∧ w'.cell? ⟨w.heap.size + 1, 2, none⟩ = some (.slice (some b') m' cb')) (go_keep)
    (first
      | (go_at_call 45
         first
          | (with_reducible refine J2.mono ?_; rintro e v4 ⟨rfl, rfl⟩)
          | (with_reducible refine J4.mono ?_; rintro e v4 ⟨rfl, rfl⟩)))
  have S6 := since_drew S5
  have o6 := o5.drew
  have p6 := p5.drew
  have r6 := r5.drew
  clear k J1 J2 J3 J4 o5 p5 r5
  generalize w5.drew = w6 at *
  by_cases hff : f = f'
  · subst hff
    have e1 : sn = f := by rw [HSN.out]; simp [sumNeg]
    have e2 : st = p + r := by rw [HST.out]; simp [sumTop]
    clear HSN HST
    have HE1 := hide e1
    clear e1
    subst e2
    have HS := hide S6
    have k := And.intro o6.cells p6.cells
    have hsw : IntKind.u64.wrap ((p : Int) + (r : Int)) = ((p + r : Nat) : Int) := by rw [← Int.natCast_add]; exact wrap_u64_id (p + r) (by omega)
    have J5 := l1MakeSmall_any f (p + r) q w6 (by omega) (by omega) hyp
    go_wp2_with fail
    refine J5.mono ?_
    rintro e w7 ⟨v, rfl, ⟨x1, x2, g6, h6, rfl, N6, D6, y1, y2, y3⟩, s6⟩
    have N6' := N6
    have D6' := D6
    obtain ⟨a1, q1, c1, Y1, rfl, -⟩ := N6
    obtain ⟨a2, q2, c2, Y2, rfl, -⟩ := D6
    have rB := r6.keep s6
    have u0 := rB.c0
    have u1 := rB.c1
    have u2 := rB.c2
    have uf0 := rB.f 0
    have uf1 := rB.f 1
    have uf2 := rB.f 2
    go_wp2
    have S7 : w.Since w.heap.size w7 := HS.out.trans (sinceMono s6 HS.out.size)
    have rl := r6.lt
    have rC := ((rB.set0 (.bool (f && (p + r) != 0))).set1 (.slice a1 q1 c1)).set2 (.slice a2 q2 c2)
    refine bodyPost_ret (results_box3 rfl _ _ _ _ _ _ rfl rC) rfl ?_
    have M : Marked w7 _ (w.heap.size + 1 + 1) := (((Marked.refl w7 _).setCell 0 (.bool (f && (p + r) != 0))).setCell 1 (.slice a1 q1 c1)).setCell 2 (.slice a2 q2 c2)
    exact ⟨_, rfl, ⟨_, _, g6, h6, by rw [HE1.out], N6'.marked M (by omega), D6'.marked M (by omega), by omega, by omega, y3⟩, S7.trans (M.since (by omega))⟩

  · have hfb : (f == f') = false := by simp [hff]
    by_cases hlt : p < r
    · have hge : ¬ ((r : Int) ≤ (p : Int)) := by omega
      have e1 : sn = f' := by rw [HSN.out]; simp [sumNeg, hff, hlt]
      have e2 : st = r - p := by rw [HST.out]; simp [sumTop, hff, hlt]
      clear HSN HST
      have HE1 := hide e1
      clear e1
      subst e2
      have HS := hide S6
      have k := And.intro o6.cells p6.cells
      have hsw : IntKind.u64.wrap ((r : Int) - (p : Int)) = ((r - p : Nat) : Int) := by rw [← Int.ofNat_sub (by omega)]; exact wrap_u64_id (r - p) (by omega)
      clear hff
      have J5 := l1MakeSmall_any f' (r - p) q w6 (by omega) (by omega) hyp
      go_wp2_with fail
      refine J5.mono ?_
      rintro e w7 ⟨v, rfl, ⟨x1, x2, g6, h6, rfl, N6, D6, y1, y2, y3⟩, s6⟩
      have N6' := N6
      have D6' := D6
      obtain ⟨a1, q1, c1, Y1, rfl, -⟩ := N6
      obtain ⟨a2, q2, c2, Y2, rfl, -⟩ := D6
      have rB := r6.keep s6
      have u0 := rB.c0
      have u1 := rB.c1
      have u2 := rB.c2
      have uf0 := rB.f 0
      have uf1 := rB.f 1
      have uf2 := rB.f 2
      go_wp2
      have S7 : w.Since w.heap.size w7 := HS.out.trans (sinceMono s6 HS.out.size)
      have rl := r6.lt
      have rC := ((rB.set0 (.bool (f' && (r - p) != 0))).set1 (.slice a1 q1 c1)).set2 (.slice a2 q2 c2)
      refine bodyPost_ret (results_box3 rfl _ _ _ _ _ _ rfl rC) rfl ?_
      have M : Marked w7 _ (w.heap.size + 1 + 1) := (((Marked.refl w7 _).setCell 0 (.bool (f' && (r - p) != 0))).setCell 1 (.slice a1 q1 c1)).setCell 2 (.slice a2 q2 c2)
      exact ⟨_, rfl, ⟨_, _, g6, h6, by rw [HE1.out], N6'.marked M (by omega), D6'.marked M (by omega), by omega, by omega, y3⟩, S7.trans (M.since (by omega))⟩

    · have hge : (r : Int) ≤ (p : Int) := by omega
      have e1 : sn = f := by rw [HSN.out]; simp [sumNeg, hff, hlt]
      have e2 : st = p - r := by rw [HST.out]; simp [sumTop, hff, hlt]
      clear HSN HST
      have HE1 := hide e1
      clear e1
      subst e2
      have HS := hide S6
      have k := And.intro o6.cells p6.cells
      have hsw : IntKind.u64.wrap ((p : Int) - (r : Int)) = ((p - r : Nat) : Int) := by rw [← Int.ofNat_sub (by omega)]; exact wrap_u64_id (p - r) (by omega)
      clear hff
      have J5 := l1MakeSmall_any f (p - r) q w6 (by omega) (by omega) hyp
      go_wp2_with fail
      refine J5.mono ?_
      rintro e w7 ⟨v, rfl, ⟨x1, x2, g6, h6, rfl, N6, D6, y1, y2, y3⟩, s6⟩
      have N6' := N6
      have D6' := D6
      obtain ⟨a1, q1, c1, Y1, rfl, -⟩ := N6
      obtain ⟨a2, q2, c2, Y2, rfl, -⟩ := D6
      have rB := r6.keep s6
      have u0 := rB.c0
      have u1 := rB.c1
      have u2 := rB.c2
      have uf0 := rB.f 0
      have uf1 := rB.f 1
      have uf2 := rB.f 2
      go_wp2
      have S7 : w.Since w.heap.size w7 := HS.out.trans (sinceMono s6 HS.out.size)
      have rl := r6.lt
      have rC := ((rB.set0 (.bool (f && (p - r) != 0))).set1 (.slice a1 q1 c1)).set2 (.slice a2 q2 c2)
      refine bodyPost_ret (results_box3 rfl _ _ _ _ _ _ rfl rC) rfl ?_
      have M : Marked w7 _ (w.heap.size + 1 + 1) := (((Marked.refl w7 _).setCell 0 (.bool (f && (p - r) != 0))).setCell 1 (.slice a1 q1 c1)).setCell 2 (.slice a2 q2 c2)
      exact ⟨_, rfl, ⟨_, _, g6, h6, by rw [HE1.out], N6'.marked M (by omega), D6'.marked M (by omega), by omega, by omega, y3⟩, S7.trans (M.since (by omega))⟩


end Go.Proofs.YtklkohdcilnchabDoor
