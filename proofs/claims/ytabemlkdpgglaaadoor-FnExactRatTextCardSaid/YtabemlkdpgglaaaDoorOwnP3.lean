import Derived.Test.YtabemlkdpgglaaaDoorOwnP2
import Derived.Test.YtabemlkdpgglaaaDoorOwnP1
namespace Go.Proofs.YtabemlkdpgglaaaDoor
open Go.RowKit

def extL (Y : Nat → Nat) (m : Nat) : Nat → Nat := fun j => if j < m then Y j else 0

theorem lv_extL (Y : Nat → Nat) (m n : Nat) (h : m ≤ n) : lv (extL Y m) n = lv Y m := by
  rw [lv_more (extL Y m) m n h (fun j h1 _ => by simp [extL]; omega)]
  exact lv_congr (fun j hj => by simp [extL, hj])

def SubL (X V Y : Nat → Nat) (m i c : Nat) : Prop := lv V i + lv (extL Y m) i = lv X i + c * 2 ^ (32 * i) ∧ c ≤ 1 ∧ (∀ k, i ≤ k → V k = X k) ∧ ∀ k, k < i → V k < 4294967296

theorem subL_step {X V Y : Nat → Nat} {m i c s c' x y : Nat} (h : SubL X V Y m i c) (hx : V i = x) (hy : extL Y m i = y) (hs : s < 4294967296) (hc : c' ≤ 1) (e : s + y + c = x + c' * 4294967296) : SubL X (upd V i s) Y m (i + 1) c' := by
  obtain ⟨h1, h2, h3, h4⟩ := h
  have hx0 : X i = x := by rw [← hx]; exact (h3 i (Nat.le_refl _)).symm
  refine ⟨?_, hc, fun k hk => by rw [upd_other _ _ _ _ (by omega)]; exact h3 k (by omega), fun k hk => ?_⟩
  · simp only [lv, upd_same, lv_upd V i s i (Nat.le_refl _), hx0, hy]
    rw [pow32]
    generalize 2 ^ (32 * i) = P at *
    have e2 : s * P + y * P + c * P = x * P + c' * (4294967296 * P) := by rw [← Nat.mul_assoc, ← Nat.add_mul, ← Nat.add_mul, ← Nat.add_mul, e]
    omega
  · by_cases e2 : k = i
    · subst e2; rw [upd_same]; exact hs
    · rw [upd_other _ _ _ _ e2]; exact h4 k (by omega)

theorem subL_end {X V Y : Nat → Nat} {n m c : Nat} (h : SubL X V Y m n c) (hm : m ≤ n) (hle : lv Y m ≤ lv X n) : lv V n = lv X n - lv Y m := by
  obtain ⟨h1, h2, h3, h4⟩ := h
  rw [lv_extL Y m n hm] at h1
  have hc : c = 0 ∨ c = 1 := by omega
  rcases hc with rfl | rfl
  · omega
  · have := lv_lt V n (fun j hj => h4 j hj)
    omega

theorem Limbs.putI {w : World} {a : Option Addr} {b n i : Nat} {Q : Nat → Nat} (h : Limbs w a b 0 n Q) (v : Nat) (E : Int) (hE : E = (v : Int)) : Limbs (w.setCell ⟨b, i, none⟩ (.int .u32 E)) a b 0 n (upd Q i v) := by subst hE; exact h.put v

theorem wrap_neg1 : IntKind.u64.wrap (-1) = 18446744073709551615 := by rw [IntKind.wrap_u64]; rfl

set_option maxHeartbeats 3200000 in
set_option maxRecDepth 100000 in
theorem subtract_any (c o b n cap : Nat) (a' : Option Addr) (b' off' m cap' : Nat) (X Y : Nat → Nat) (w : World) (hn : n ≤ 16777216) (hnc : n ≤ cap) (hmn : m ≤ n) (hc0 : w.cell? ⟨c, o, none⟩ = some (.slice (some ⟨b, 0, none⟩) n cap)) (hf0 : w.frozen? ⟨c, o, none⟩ = false)
    (hf : ∀ x, w.frozen? ⟨b, x, none⟩ = false) (hcb : c ≠ b) (hbb : b' ≠ b) (hX : Limbs w (some ⟨b, 0, none⟩) b 0 n X) (hY : Limbs w a' b' off' m Y) (hXl : ∀ j, j < n → X j < 4294967296) (hYl : ∀ j, j < m → Y j < 4294967296) (hle : lv Y m ≤ lv X n) :
    Calls Tryd.prog 109 #[.pointer (some ⟨c, o, none⟩), .slice a' m cap'] w fun e w' => e = .returned (.tuple #[]) ∧ ∃ w2 V, Marked w w2 b ∧ Limbs w2 (some ⟨b, 0, none⟩) b 0 n V ∧ (∀ j, j < n → V j < 4294967296) ∧ lv V n = lv X n - lv Y m ∧
      w' = w2.setCell ⟨c, o, none⟩ (.slice (some ⟨b, 0, none⟩) (tlen (nz V) n) cap) := by
  have HXl := hide hXl
  have HYl := hide hYl
  have HL := hide hle
  clear hXl hYl hle
  go_enter Tryd.func109, Tryd.ntmps109
  go_wp2
  go_loopw [4, 12] (fun q t wr => ∃ (i cb : Nat) (V : Nat → Nat), i ≤ n ∧ t = .int .i64 i ∧ q = .int .u64 cb ∧ cb ≤ 1 ∧ Marked w wr b ∧ Limbs wr (some ⟨b, 0, none⟩) b 0 n V ∧ Hid (SubL X V Y m i cb)) (fun _ t _ => n - (intOf t).toNat)
  case atStart => exact ⟨0, 0, X, Nat.zero_le _, rfl, rfl, by omega, Marked.refl _ _, hX, ⟨by simp [lv], by omega, fun _ _ => rfl, fun k hk => absurd hk (by omega)⟩⟩
  case round =>
    obtain ⟨i, cb, V, hi, rfl, rfl, hcb1, hs, hV, HR⟩ := hrel
    have q0 : wr.cell? ⟨c, o, none⟩ = some (.slice (some ⟨b, 0, none⟩) n cap) := by rw [hs.cell (a := ⟨c, o, none⟩) hcb]; exact hc0
    by_cases hlt : i < n
    · have g1 : wr.cell? ⟨b, i, none⟩ = some (.int .u32 (V i)) := by simpa using (hV i hlt).2
      have g2 : wr.frozen? ⟨b, i, none⟩ = false := by rw [hs.frozen]; exact hf _
      have hxl : V i < 4294967296 := by rw [HR.out.2.2.1 i (Nat.le_refl _)]; exact HXl.out i hlt
      have STEP := hide (fun (s c' : Nat) (y : Nat) (hy : extL Y m i = y) => subL_step (s := s) (c' := c') HR.out rfl hy)
      obtain ⟨x, ex⟩ : ∃ y, y = V i := ⟨_, rfl⟩
      rw [← ex] at g1 hxl STEP
      clear ex
      have hin : (i : Int) < (n : Int) := by omega
      by_cases him : i < m
      · obtain ⟨rfl, ky⟩ := hY i him
        have g3 : wr.cell? ⟨b', off' + i, none⟩ = some (.int .u32 (Y i)) := by rw [hs.cell (a := ⟨b', off' + i, none⟩) hbb]; exact ky
        have hyl := HYl.out i him
        have HEy : Hid (extL Y m i = Y i) := by simp [Hid, extL, him]
        obtain ⟨y, ey⟩ : ∃ y, y = Y i := ⟨_, rfl⟩
        rw [← ey] at g3 hyl HEy
        clear ey ky
        have hc2 : cb = 0 ∨ cb = 1 := by omega
        rcases hc2 with rfl | rfl
        · by_cases hb : x < y
          · have hsw := sub_wrap x y hxl hyl hb
            obtain ⟨dd, edd⟩ : ∃ dd, dd = 18446744073709551616 + x - y := ⟨_, rfl⟩
            rw [← edd] at hsw
            have hdd : dd ≤ 18446744073709551615 := by omega
            have HE := hide edd
            clear edd
            go_wp2
            go_roundw
            case rel => go_light; exact ⟨i + 1, 1, _, by omega, by go_num, congrArg (Value.int .u64) (by have := HE.out; omega), by omega, hs.setCell _ _, hV.putI (x + 4294967296 - y) _ (by have := HE.out; omega), STEP.out _ _ y HEy.out (by omega) (by omega) (by omega)⟩
            case measure => simp [intOf]; omega
          · go_wp2
            go_roundw
            case rel => go_light; exact ⟨i + 1, 0, _, by omega, by go_num, congrArg (Value.int .u64) (by omega), by omega, hs.setCell _ _, hV.putI (x - y) _ (by omega), STEP.out _ _ y HEy.out (by omega) (by omega) (by omega)⟩
            case measure => simp [intOf]; omega
        · by_cases hx0 : x = 0
          · subst hx0
            have hw1 := wrap_neg1
            go_wp2
            go_roundw
            case rel => go_light; exact ⟨i + 1, 1, _, by omega, by go_num, congrArg (Value.int .u64) (by omega), by omega, hs.setCell _ _, hV.putI (4294967295 - y) _ (by omega), STEP.out _ _ y HEy.out (by omega) (by omega) (by omega)⟩
            case measure => simp [intOf]; omega
          · obtain ⟨x', rfl⟩ : ∃ x', x = x' + 1 := ⟨x - 1, by omega⟩
            have hpr : ((x' + 1 : Nat) : Int) - 1 = (x' : Int) := by omega
            by_cases hb : x' < y
            · have hsw := sub_wrap x' y (by omega) hyl hb
              obtain ⟨dd, edd⟩ : ∃ dd, dd = 18446744073709551616 + x' - y := ⟨_, rfl⟩
              rw [← edd] at hsw
              have hdd : dd ≤ 18446744073709551615 := by omega
              have HE := hide edd
              clear edd
              go_wp2
              go_roundw
              case rel => go_light; exact ⟨i + 1, 1, _, by omega, by go_num, congrArg (Value.int .u64) (by have := HE.out; omega), by omega, hs.setCell _ _, hV.putI (x' + 4294967296 - y) _ (by have := HE.out; omega), STEP.out _ _ y HEy.out (by omega) (by omega) (by omega)⟩
              case measure => simp [intOf]; omega
            · go_wp2
              go_roundw
              case rel => go_light; exact ⟨i + 1, 0, _, by omega, by go_num, congrArg (Value.int .u64) (by omega), by omega, hs.setCell _ _, hV.putI (x' - y) _ (by omega), STEP.out _ _ y HEy.out (by omega) (by omega) (by omega)⟩
              case measure => simp [intOf]; omega
      · have HEy : Hid (extL Y m i = 0) := by simp [Hid, extL, him]
        have hc2 : cb = 0 ∨ cb = 1 := by omega
        rcases hc2 with rfl | rfl
        · go_wp2
          go_roundw
          case rel => go_light; exact ⟨i + 1, 0, _, by omega, by go_num, congrArg (Value.int .u64) (by omega), by omega, hs.setCell _ _, hV.putI x _ (by omega), STEP.out _ _ 0 HEy.out (by omega) (by omega) (by omega)⟩
          case measure => simp [intOf]; omega
        · by_cases hx0 : x = 0
          · subst hx0
            have hw1 := wrap_neg1
            go_wp2
            go_roundw
            case rel => go_light; exact ⟨i + 1, 1, _, by omega, by go_num, congrArg (Value.int .u64) (by omega), by omega, hs.setCell _ _, hV.putI 4294967295 _ (by omega), STEP.out _ _ 0 HEy.out (by omega) (by omega) (by omega)⟩
            case measure => simp [intOf]; omega
          · go_wp2
            go_roundw
            case rel => go_light; exact ⟨i + 1, 0, _, by omega, by go_num, congrArg (Value.int .u64) (by omega), by omega, hs.setCell _ _, hV.putI (x - 1) _ (by omega), STEP.out _ _ 0 HEy.out (by omega) (by omega) (by omega)⟩
            case measure => simp [intOf]; omega
    · have e : i = n := by omega
      subst e
      have g3 : wr.frozen? ⟨c, o, none⟩ = false := by rw [hs.frozenO (a := ⟨c, o, none⟩) hcb]; exact hf0
      have HV := hide (subL_end HR.out hmn HL.out)
      go_wp2_with fail
      refine (trimAt_any c o _ b 0 i cap V _ (by omega) hnc q0 g3 hV).mono ?_
      rintro e w1 ⟨rfl, rfl⟩
      go_wp2
      go_end0
      exact ⟨rfl, wr, V, hs, hV, HR.out.2.2.2, HV.out, rfl⟩

end Go.Proofs.YtabemlkdpgglaaaDoor

namespace Go.Proofs.YtabemlkdpgglaaaDoor
open Go.RowKit

theorem cmpN_neg2 {x y : Nat} (h : x < y) : cmpN x y < 0 := by rw [cmpN_lt h]; decide
theorem cmpN_nonneg2 {x y : Nat} (h : y ≤ x) : 0 ≤ cmpN x y := by unfold cmpN; split <;> (try split) <;> omega

theorem lv_len_le {X Y : Nat → Nat} {n m : Nat} (hY : ∀ j, j < m → Y j < 4294967296) (pX : 0 < n → X (n - 1) ≠ 0) (h : lv X n ≤ lv Y m) : n ≤ m := by
  by_cases e : n ≤ m
  · exact e
  · have := lv_short (A := Y) (B := X) hY (show m < n by omega) pX
    omega

set_option maxHeartbeats 3200000 in
set_option maxRecDepth 100000 in
theorem divideBy_any (c o : Nat) (a a' : Option Addr) (b n cap b' dl cap' : Nat) (X Y : Nat → Nat) (w : World) (hn : n ≤ 2097152) (hnc : n ≤ cap) (hac : a = none → cap = 0) (hdl : 0 < dl) (hdm : dl ≤ 2097152)
    (hc0 : w.cell? ⟨c, o, none⟩ = some (.slice a n cap)) (hf0 : w.frozen? ⟨c, o, none⟩ = false) (hX : Limbs w a b 0 n X) (hY : Limbs w a' b' 0 dl Y) (hXl : ∀ j, j < n → X j < 4294967296) (hYl : ∀ j, j < dl → Y j < 4294967296)
    (hf : 0 < n → ∀ x, w.frozen? ⟨b, x, none⟩ = false) (hcb : c ≠ b) (hbl : 0 < n → b < w.heap.size) (tX : 0 < n → X (n - 1) ≠ 0) (tY : Y (dl - 1) ≠ 0) :
    Calls Tryd.prog 90 #[.pointer (some ⟨c, o, none⟩), .slice a' dl cap'] w fun e w' => ∃ vq vr gq gr, e = .returned vq ∧ w'.cell? ⟨c, o, none⟩ = some vr ∧ NatAt w' vq gq (lv X n / lv Y dl) (n + 2) ∧ NatAt w' vr gr (lv X n % lv Y dl) (n + 2) ∧
      (gq = b ∨ w.heap.size ≤ gq) ∧ (gr = b ∨ w.heap.size ≤ gr) ∧ gq ≠ gr ∧ gq ≠ c ∧ gr ≠ c ∧ Fr c o b w w' := by
  have hcl : c < w.heap.size := World.block_lt_of_cell? _ _ hc0
  by_cases hlt : lv X n < lv Y dl
  · have hcmp := cmpN_neg2 hlt
    have HLt := hide hlt
    have HtX := hide tX
    have HXl := hide hXl
    clear hlt tX
    go_enter Tryd.func90, Tryd.ntmps90
    go_wp2_with fail
    refine (compare_any c o a a' b 0 n cap b' 0 dl cap' X Y _ (by omega) (by omega) hc0 hX hY hXl hYl HtX.out (fun _ => tY)).mono ?_
    rintro e w1 ⟨rfl, s1⟩
    clear hXl hYl tY
    generalize cmpN (lv X n) (lv Y dl) = z at *
    go_wp2
    go_ret
    refine ⟨_, _, w1.heap.size + b + 1, b, rfl, by rw [s1.cell]; exact hc0, ⟨none, 0, 0, fun _ => 0, rfl, Nat.le_refl _, by omega, fun _ => rfl, fun j hj => absurd hj (by omega), fun h => absurd h (by omega), fun j hj => absurd hj (by omega), fun h => absurd h (by omega), ?_⟩,
      ⟨a, n, cap, X, rfl, hnc, by omega, hac, hX.same s1, fun h x => by rw [s1.frozen]; exact hf h x, HXl.out, HtX.out, ?_⟩, Or.inr (by rw [s1.size]; omega), Or.inl rfl, by omega, by rw [s1.size]; omega, by omega, (Fr.refl o b hcl).same s1⟩
    · rw [Nat.div_eq_of_lt HLt.out]; rfl
    · rw [Nat.mod_eq_of_lt HLt.out]
  · have hcmp := cmpN_nonneg2 (Nat.le_of_not_lt hlt)
    have hdn := lv_len_le hXl (fun _ => tY) (Nat.le_of_not_lt hlt)
    have HtX := hide tX
    have HXl := hide hXl
    clear hlt tX
    by_cases h1 : dl = 1
    · subst h1
      obtain ⟨rfl, kd⟩ := hY 0 (by omega)
      have hyl := hYl 0 (by omega)
      have hy0 : 0 < Y 0 := by simp at tY; omega
      have HYv : Hid (lv Y 1 = Y 0) := by simp [Hid, lv]
      go_enter Tryd.func90, Tryd.ntmps90
      go_wp2_with fail
      refine (compare_any c o a _ b 0 n cap b' 0 1 cap' X Y _ (by omega) (by omega) hc0 hX hY hXl hYl HtX.out (fun _ => tY)).mono ?_
      rintro e w1 ⟨rfl, s1⟩
      clear hXl hYl tY
      generalize cmpN (lv X n) (lv Y 1) = z at *
      have fr1 : Fr c o b w w1 := (Fr.refl o b hcl).same s1
      have c1 : w1.cell? ⟨c, o, none⟩ = some (.slice a n cap) := by rw [s1.cell]; exact hc0
      have d1 : w1.cell? ⟨b', 0, none⟩ = some (.int .u32 (Y 0)) := by rw [s1.cell]; simpa using kd
      have X1 := hX.same s1
      have F1 : 0 < n → ∀ x, w1.frozen? ⟨b, x, none⟩ = false := fun h x => by rw [s1.frozen]; exact hf h x
      have Z1 := hide s1.size
      have zb : b < w1.heap.size := by rw [s1.size]; exact hbl (by omega)
      have zc : c < w1.heap.size := by rw [s1.size]; exact hcl
      have bl' : b' < w1.heap.size := World.block_lt_of_cell? _ _ d1
      clear hX hY kd s1 hc0
      have a1 : ∀ x, (w1.alloc x).cell? ⟨b', 0, none⟩ = some (.int .u32 (Y 0)) := fun x => by rw [World.cell?_alloc_old _ _ _ (by show b' ≠ _; omega)]; exact d1
      go_wp2_with fail
      have sA : w1.Since w1.heap.size (w1.alloc (.cells #[.slice a n cap] 55)) := (World.Since.refl _ _).alloc (Nat.le_refl _) _
      refine (divideByLimb_any w1.heap.size 0 a b n cap (Y 0) X _ (by omega) hnc (by simp [go_sem]) (by simp [go_sem]) (X1.keep sA) HXl.out (fun h x => by rw [sA.frozen (a := ⟨b, x, none⟩) zb]; exact F1 h x) (by omega) hy0 hyl).mono ?_
      rintro e w3 ⟨rfl, w2, Q, m2, L2, l2, v2, hw3⟩
      have z2 : w2.heap.size = w1.heap.size + 1 := by rw [m2.size]; simp
      have q0 : w2.cell? ⟨w1.heap.size, 0, none⟩ = some (.slice a n cap) := by rw [m2.cell (a := ⟨w1.heap.size, 0, none⟩) (by show w1.heap.size ≠ b; omega)]; simp [go_sem]
      have fr3 : Fr c o b w w3 := by rw [hw3]; exact ((fr1.alloc _).marked m2 (Or.inl rfl) (Ne.symm hcb)).setNew (Or.inr (by have := fr1.size; omega)) (by omega) _
      have c3 : w3.cell? ⟨c, o, none⟩ = some (.slice a n cap) := by
        rw [hw3, World.cell?_setCell_other _ _ _ _ (fun e => by have := congrArg Addr.block e; simp at this; omega), m2.cell (a := ⟨c, o, none⟩) hcb, World.cell?_alloc_old _ _ _ (by show c ≠ _; omega)]; exact c1
      have f3 : w3.frozen? ⟨c, o, none⟩ = false := by rw [fr3.frozen]; exact hf0
      have L3 : Limbs w3 a b 0 n Q := by rw [hw3]; exact L2.setOther (by omega) _
      have b3 : w3.cell? ⟨w1.heap.size, 0, none⟩ = some (.slice a (tlen (nz Q) n) cap) := by rw [hw3]; exact World.cell?_setCell_same _ _ _ q0
      have F3 : 0 < n → ∀ x, w3.frozen? ⟨b, x, none⟩ = false := fun h x => by rw [hw3]; simp [m2.frozen, sA.frozen (a := ⟨b, x, none⟩) zb, F1 h x]
      have z3 : w1.heap.size + 1 ≤ w3.heap.size := by rw [hw3]; simp [World.setCell, z2]
      have HV2 := hide v2
      have HL2 := hide l2
      clear hw3 q0 z2 m2 L2 l2 v2 sA a1 d1 c1 X1 F1 fr1
      obtain ⟨r, hr⟩ : ∃ r, r = lv X n % Y 0 := ⟨_, rfl⟩
      have HRr := hide hr
      have hrl : r < 4294967296 := by rw [hr]; have := Nat.mod_lt (lv X n) hy0; omega
      rw [← hr]
      clear hr
      have nc : c ≠ w3.heap.size := by omega
      have a3 : ∀ x, (w3.alloc x).cell? ⟨c, o, none⟩ = some (.slice a n cap) := fun x => by rw [World.cell?_alloc_old _ _ _ nc]; exact c3
      have a4 : ∀ x, (w3.alloc x).frozen? ⟨c, o, none⟩ = false := fun x => by
        rw [((World.Since.refl _ w3).alloc (Nat.le_refl _) x).frozen (a := ⟨c, o, none⟩) (by show c < w3.heap.size; omega)]; exact f3
      have rr : (w3.alloc (.cells #[.int .u32 (r : Int)] 58)).rowIs w3.heap.size 58 1 (fun j => .int .u32 (((fun _ => r) : Nat → Nat) j)) := World.rowIs_alloc w3 #[.int .u32 (r : Int)] 58 _ (fun i hi => by simp at hi; subst hi; rfl)
      go_wp2_with fail
      have fr4 := (fr3.alloc (.cells #[.int .u32 (r : Int)] 58)).set (.slice (some ⟨w3.heap.size, 0, none⟩) 1 1)
      have c4 := World.cell?_setCell_same _ _ (.slice (some ⟨w3.heap.size, 0, none⟩) 1 1) (a3 (.cells #[.int .u32 (r : Int)] 58))
      have R4 := (limbs_row rr).setOther (c := c) (o := o) nc (.slice (some ⟨w3.heap.size, 0, none⟩) 1 1)
      refine (trimAt_any c o _ w3.heap.size 0 1 1 (fun _ => r) _ (by omega) (Nat.le_refl _) c4 (by rw [fr4.frozen]; exact hf0) R4).mono ?_
      rintro e w5 ⟨rfl, hw5⟩
      rw [setCell_twice] at hw5
      have fr5 : Fr c o b w w5 := by rw [hw5]; exact (fr3.alloc _).set _
      have c5 : w5.cell? ⟨c, o, none⟩ = some (.slice (some ⟨w3.heap.size, 0, none⟩) (tlen (nz (fun _ => r)) 1) 1) := by rw [hw5]; exact World.cell?_setCell_same _ _ _ (a3 _)
      have R5 : Limbs w5 (some ⟨w3.heap.size, 0, none⟩) w3.heap.size 0 1 (fun _ => r) := by rw [hw5]; exact (limbs_row rr).setOther nc _
      have FR5 : ∀ x, w5.frozen? ⟨w3.heap.size, x, none⟩ = false := fun x => by rw [hw5]; simp [rr.frozen x]
      have L5 : Limbs w5 a b 0 n Q := by rw [hw5]; exact (L3.keep ((World.Since.refl _ _).alloc (Nat.le_refl _) _)).setOther hcb _
      have F5 : 0 < n → ∀ x, w5.frozen? ⟨b, x, none⟩ = false := fun h x => by
        rw [hw5]; simp [((World.Since.refl w3.heap.size w3).alloc (Nat.le_refl _) (.cells #[.int .u32 (r : Int)] 58)).frozen (a := ⟨b, x, none⟩) (by show b < w3.heap.size; omega), F3 h x]
      have b5 : w5.cell? ⟨w1.heap.size, 0, none⟩ = some (.slice a (tlen (nz Q) n) cap) := by
        rw [hw5, World.cell?_setCell_other _ _ _ _ (fun e => by have := congrArg Addr.block e; simp at this; omega), World.cell?_alloc_old _ _ _ (by show w1.heap.size ≠ _; omega)]; exact b3
      clear hw5 c4 R4 fr4 rr a3 a4 L3 F3 b3 c3 f3 fr3
      go_wp2
      go_ret
      have t1 := tlen_le (nz Q) n
      have t2 := tlen_le (nz (fun _ => r)) 1
      have hz := Z1.out
      refine ⟨_, _, b, w3.heap.size, rfl, c5, ⟨_, _, _, Q, rfl, by omega, by omega, hac, L5.take t1, fun h x => F5 (by omega) x, fun j hj => HL2.out j (by omega), fun h => ?_, ?_⟩,
        ⟨_, _, _, fun _ => r, rfl, by omega, by omega, fun h => (by cases h), R5.take t2, fun _ x => FR5 x, fun j _ => hrl, fun h => ?_, ?_⟩, Or.inl rfl, Or.inr (by omega), by omega, by omega, by omega, fr5⟩
      · have := tlen_top _ _ h; simpa [nz] using this
      · rw [lv_tlen, HV2.out, HYv.out]
      · have := tlen_top _ _ h; simpa [nz] using this
      · rw [lv_tlen, HYv.out, ← HRr.out]; simp [lv]
    · have h2 : 2 ≤ dl := by omega
      have hne : ((dl : Int) == 1) = false := by simp; omega
      have hn0 : 0 < n := by omega
      go_enter Tryd.func90, Tryd.ntmps90
      go_wp2_with fail
      refine (compare_any c o a a' b 0 n cap b' 0 dl cap' X Y _ (by omega) (by omega) hc0 hX hY hXl hYl HtX.out (fun _ => tY)).mono ?_
      rintro e w1 ⟨rfl, s1⟩
      generalize cmpN (lv X n) (lv Y dl) = z at *
      go_wp2_with fail
      refine (divideByLong_any c o a a' b n cap b' dl cap' X Y _ hn hdn h2 (by rw [s1.cell]; exact hc0) (by rw [s1.frozen]; exact hf0) (hX.same s1) (hY.same s1) hXl hYl (HtX.out hn0) tY).mono ?_
      rintro e w2 ⟨vq, vr, gq, gr, rfl, k1, k2, k3, k4, k5, k6, k7, k8, k9⟩
      have hz := s1.size
      rw [hz] at k4 k5
      have hfr : Fr c o b w w2 := ⟨k9.os.trans s1.os, k9.tape.trans s1.tape, k9.output.trans s1.output, by rw [← hz]; exact k9.size, fun k a1 a2 a3 => (k9.block k (by rw [hz]; exact a1) a2 a3).trans (by rw [s1.heap]), fun x hx => (k9.cell x hx).trans (s1.cell _), fun x => (k9.frozen x).trans (s1.frozen _), hcl⟩
      clear k9 s1 hX hY hXl hYl
      go_wp2
      go_ret
      exact ⟨vq, vr, gq, gr, rfl, k1, k2, k3, Or.inr k4, Or.inr k5, k6, by omega, by omega, hfr⟩

end Go.Proofs.YtabemlkdpgglaaaDoor

namespace Go.Proofs.YtabemlkdpgglaaaDoor
open Go.RowKit

theorem Fr.to_since {c o b : Nat} {w w1 w2 : World} (h : Fr c o b w1 w2) (s : w.Since w.heap.size w1) (hc : w.heap.size ≤ c) (hb : w.heap.size ≤ b) : w.Since w.heap.size w2 :=
  ⟨h.os.trans s.os, h.tape.trans s.tape, h.output.trans s.output, Nat.le_trans s.size h.size, fun k hk => (h.block k (Nat.lt_of_lt_of_le hk s.size) (by omega) (by omega)).trans (s.block k hk)⟩

/-- A list that was made by append: a new natural. -/
theorem own_nat {w : World} {base : Nat} {v : Value} {m : Nat} {X : Nat → Nat} (h : w.ownsRow base 58 1 v m (ll X m)) (far : Nat) (hfar : base ≤ far) :
    ∃ a g cap, v = .slice a m cap ∧ m ≤ cap ∧ (a = none → cap = 0) ∧ base ≤ g ∧ (g = far ∨ g < w.heap.size) ∧ (0 < m → g < w.heap.size) ∧ Limbs w a g 0 m X ∧ (0 < m → ∀ o, w.frozen? ⟨g, o, none⟩ = false) := by
  have hc := @World.ownsRow.cells _ _ _ _ _ _ _ h
  rcases h.2 with ⟨rfl, rfl⟩ | ⟨g, cap, cur, rfl, hb, hg, hm, _⟩
  · exact ⟨none, far, 0, rfl, Nat.le_refl _, fun _ => rfl, hfar, Or.inl rfl, fun h => absurd h (by omega), fun j hj => absurd hj (by omega), fun h => absurd h (by omega)⟩
  · have hlt := (Array.getElem?_eq_some_iff.1 hg).1
    refine ⟨_, g, cap, rfl, hm, fun h => (by cases h), hb, Or.inr hlt, fun _ => hlt, fun j hj => ⟨rfl, ?_⟩, fun _ o => by simp [World.frozen?, hg]⟩
    have := hc (g := g) rfl j _ (ll_get X m j hj)
    rw [Addr.add_lit] at this; exact this

theorem lv_nought {X : Nat → Nat} {n : Nat} (h : lv X n = 0) : tlen (nz X) n = 0 := by
  by_cases e : tlen (nz X) n = 0
  · exact e
  · have h1 := tlen_top (nz X) n (by omega)
    have h2 := lv_ge X (tlen (nz X) n) (by omega) (by simpa [nz] using h1)
    rw [lv_tlen, h] at h2
    have := Nat.pow_pos (n := 32 * (tlen (nz X) n - 1)) (show 0 < 2 by omega)
    omega

theorem lv_some {X : Nat → Nat} {n : Nat} (h : 0 < lv X n) : 0 < tlen (nz X) n := by
  by_cases e : tlen (nz X) n = 0
  · have := lv_tlen X n
    rw [e] at this
    simp [lv] at this
    omega
  · omega

theorem NatAt.since {w w' : World} {v : Value} {g N M B : Nat} (h : NatAt w v g N M) (s : w.Since B w') (hg : g < B) : NatAt w' v g N M := by
  obtain ⟨a, m, cap, Y, h1, h2, h3, h4, h5, h6, h7⟩ := h
  exact ⟨a, m, cap, Y, h1, h2, h3, h4, h5.since s (fun _ => hg), fun h x => by rw [s.frozen (a := ⟨g, x, none⟩) hg]; exact h6 h x, h7⟩

theorem NatAt.same {w w' : World} {v : Value} {g N M : Nat} (h : NatAt w v g N M) (s : Same w w') : NatAt w' v g N M := by
  obtain ⟨a, m, cap, Y, h1, h2, h3, h4, h5, h6, h7⟩ := h
  exact ⟨a, m, cap, Y, h1, h2, h3, h4, h5.same s, fun h x => by rw [s.frozen]; exact h6 h x, h7⟩

theorem natAt_mono {w : World} {v : Value} {g N M M' : Nat} (h : NatAt w v g N M) (hM : M ≤ M') : NatAt w v g N M' := by
  obtain ⟨a, m, cap, Y, h1, h2, h3, h4⟩ := h
  exact ⟨a, m, cap, Y, h1, h2, by omega, h4⟩

end Go.Proofs.YtabemlkdpgglaaaDoor

namespace Go.Proofs.YtabemlkdpgglaaaDoor
open Go.RowKit

/-- What becomeGcd and becomeOddGcd hold in hand: two boxes c, d, in each a natural on memory of its own; all of it lies from 'base' on, and below 'base' all is as it was. -/
structure Gd (base : Nat) (w wr : World) (c d gn gm : Nat) (an am : Option Addr) (n m cn cm : Nat) (X Y : Nat → Nat) : Prop where
  S : w.Since base wr
  bC : wr.cell? ⟨c, 0, none⟩ = some (.slice an n cn)
  bD : wr.cell? ⟨d, 0, none⟩ = some (.slice am m cm)
  fC : wr.frozen? ⟨c, 0, none⟩ = false
  fD : wr.frozen? ⟨d, 0, none⟩ = false
  LX : Limbs wr an gn 0 n X
  LY : Limbs wr am gm 0 m Y
  FX : 0 < n → ∀ x, wr.frozen? ⟨gn, x, none⟩ = false
  FY : 0 < m → ∀ x, wr.frozen? ⟨gm, x, none⟩ = false
  nX : n ≤ cn
  nY : m ≤ cm
  oX : an = none → cn = 0
  oY : am = none → cm = 0
  lX : ∀ j, j < n → X j < 4294967296
  lY : ∀ j, j < m → Y j < 4294967296
  pX : 0 < n → X (n - 1) ≠ 0
  pY : 0 < m → Y (m - 1) ≠ 0
  hc : base ≤ c
  hd : base ≤ d
  hn : base ≤ gn
  hm : base ≤ gm
  d1 : c ≠ d
  d2 : gn ≠ gm
  d3 : gn ≠ c
  d4 : gn ≠ d
  d5 : gm ≠ c
  d6 : gm ≠ d

section
variable {base : Nat} {w wr wr' : World} {c d gn gm : Nat} {an am : Option Addr} {n m cn cm : Nat} {X Y : Nat → Nat}

theorem Gd.same (h : Gd base w wr c d gn gm an am n m cn cm X Y) (s : Same wr wr') : Gd base w wr' c d gn gm an am n m cn cm X Y :=
  ⟨h.S.trans (s.since _), by rw [s.cell]; exact h.bC, by rw [s.cell]; exact h.bD, by rw [s.frozen]; exact h.fC, by rw [s.frozen]; exact h.fD, h.LX.same s, h.LY.same s, fun a x => by rw [s.frozen]; exact h.FX a x, fun a x => by rw [s.frozen]; exact h.FY a x,
    h.nX, h.nY, h.oX, h.oY, h.lX, h.lY, h.pX, h.pY, h.hc, h.hd, h.hn, h.hm, h.d1, h.d2, h.d3, h.d4, h.d5, h.d6⟩

theorem cellO {w : World} {a b : Addr} {v : Value} (h : a.block ≠ b.block) : (w.setCell a v).cell? b = w.cell? b := World.cell?_setCell_other _ _ _ _ (fun e => h (congrArg Addr.block e))

/-- The two boxes are exchanged. -/
theorem Gd.swap (h : Gd base w wr c d gn gm an am n m cn cm X Y) : Gd base w ((wr.setCell ⟨c, 0, none⟩ (.slice am m cm)).setCell ⟨d, 0, none⟩ (.slice an n cn)) c d gm gn am an m n cm cn Y X := by
  have k1 := h.d1; have k2 := h.d3; have k3 := h.d4; have k4 := h.d5; have k5 := h.d6
  refine ⟨(h.S.setCell h.hc _).setCell h.hd _, ?_, ?_, by simp [h.fC], by simp [h.fD], (h.LY.setOther (Ne.symm k4) _).setOther (Ne.symm k5) _, (h.LX.setOther (Ne.symm k2) _).setOther (Ne.symm k3) _, fun a x => by simp [h.FY a x], fun a x => by simp [h.FX a x],
    h.nY, h.nX, h.oY, h.oX, h.lY, h.lX, h.pY, h.pX, h.hc, h.hd, h.hm, h.hn, h.d1, Ne.symm h.d2, h.d5, h.d6, h.d3, h.d4⟩
  · rw [cellO (by show d ≠ c; exact Ne.symm k1)]; exact World.cell?_setCell_same _ _ _ h.bC
  · refine World.cell?_setCell_same _ _ _ (u := .slice am m cm) ?_
    rw [cellO (by show c ≠ d; exact k1)]; exact h.bD

/-- The second number is worked on in place. -/
theorem Gd.setD (h : Gd base w wr c d gn gm an am n m cn cm X Y) {w2 : World} {k : Nat} {V : Nat → Nat} (mk : Marked wr w2 gm) (L : Limbs w2 am gm 0 k V) (hk : k ≤ m) (l : ∀ j, j < k → V j < 4294967296) :
    Gd base w (w2.setCell ⟨d, 0, none⟩ (.slice am (tlen (nz V) k) cm)) c d gn gm an am n (tlen (nz V) k) cn cm X V := by
  have k1 := h.d1; have k2 := h.d3; have k3 := h.d4; have k4 := h.d5; have k5 := h.d6; have k6 := h.d2
  have t := tlen_le (nz V) k
  have hD : w2.cell? ⟨d, 0, none⟩ = some (.slice am m cm) := by rw [mk.cell (a := ⟨d, 0, none⟩) (Ne.symm k5)]; exact h.bD
  refine ⟨(h.S.trans (mk.since h.hm)).setCell h.hd _, ?_, World.cell?_setCell_same _ _ _ hD, ?_, ?_, (h.LX.marked mk (fun _ => k6)).setOther (Ne.symm k3) _, (L.take t).setOther (Ne.symm k5) _, fun a x => ?_, fun a x => ?_, h.nX, by have := h.nY; omega, h.oX, h.oY, h.lX, fun j hj => l j (by omega), h.pX, fun a => ?_,
    h.hc, h.hd, h.hn, h.hm, h.d1, h.d2, h.d3, h.d4, h.d5, h.d6⟩
  · rw [cellO (by show d ≠ c; exact Ne.symm k1), mk.cell (a := ⟨c, 0, none⟩) (Ne.symm k4)]; exact h.bC
  · simp [mk.frozenO (a := ⟨c, 0, none⟩) (Ne.symm k4), h.fC]
  · simp [mk.frozenO (a := ⟨d, 0, none⟩) (Ne.symm k5), h.fD]
  · simp [mk.frozenO (a := ⟨gn, x, none⟩) k6, h.FX a x]
  · simp [mk.frozen, h.FY (by omega) x]
  · have := tlen_top _ _ a; simpa [nz] using this

/-- The first number is worked on in place. -/
theorem Gd.setC (h : Gd base w wr c d gn gm an am n m cn cm X Y) {w2 : World} {k : Nat} {V : Nat → Nat} (mk : Marked wr w2 gn) (L : Limbs w2 an gn 0 k V) (hk : k ≤ n) (l : ∀ j, j < k → V j < 4294967296) :
    Gd base w (w2.setCell ⟨c, 0, none⟩ (.slice an (tlen (nz V) k) cn)) c d gn gm an am (tlen (nz V) k) m cn cm V Y := by
  have k1 := h.d1; have k2 := h.d3; have k3 := h.d4; have k4 := h.d5; have k5 := h.d6; have k6 := h.d2
  have t := tlen_le (nz V) k
  have hC : w2.cell? ⟨c, 0, none⟩ = some (.slice an n cn) := by rw [mk.cell (a := ⟨c, 0, none⟩) (Ne.symm k2)]; exact h.bC
  refine ⟨(h.S.trans (mk.since h.hn)).setCell h.hc _, World.cell?_setCell_same _ _ _ hC, ?_, ?_, ?_, (L.take t).setOther (Ne.symm k2) _, (h.LY.marked mk (fun _ => Ne.symm k6)).setOther (Ne.symm k4) _, fun a x => ?_, fun a x => ?_, by have := h.nX; omega, h.nY, h.oX, h.oY, fun j hj => l j (by omega), h.lY, fun a => ?_, h.pY,
    h.hc, h.hd, h.hn, h.hm, h.d1, h.d2, h.d3, h.d4, h.d5, h.d6⟩
  · rw [cellO (by show c ≠ d; exact k1), mk.cell (a := ⟨d, 0, none⟩) (Ne.symm k3)]; exact h.bD
  · simp [mk.frozenO (a := ⟨c, 0, none⟩) (Ne.symm k2), h.fC]
  · simp [mk.frozenO (a := ⟨d, 0, none⟩) (Ne.symm k3), h.fD]
  · simp [mk.frozen, h.FX (by omega) x]
  · simp [mk.frozenO (a := ⟨gm, x, none⟩) (Ne.symm k6), h.FY a x]
  · have := tlen_top _ _ a; simpa [nz] using this
end

theorem Same.drew {w w' : World} (h : Same w w') : Same w w'.drew := ⟨h.os, h.tape, h.output, h.heap⟩

theorem isShort_yes (c o : Nat) (a : Option Addr) (n cap : Nat) (w : World) (hn : n ≤ 2) (hc0 : w.cell? ⟨c, o, none⟩ = some (.slice a n cap)) :
    Calls Tryd.prog 65 #[.pointer (some ⟨c, o, none⟩)] w fun e w' => e = .returned (.bool true) ∧ w' = w := by
  have h := isShort_any c o a n cap w hc0
  rw [show decide ((n : Int) ≤ 2) = true by simp; omega] at h
  exact h

theorem isShort_no (c o : Nat) (a : Option Addr) (n cap : Nat) (w : World) (hn : 2 < n) (hc0 : w.cell? ⟨c, o, none⟩ = some (.slice a n cap)) :
    Calls Tryd.prog 65 #[.pointer (some ⟨c, o, none⟩)] w fun e w' => e = .returned (.bool false) ∧ w' = w := by
  have h := isShort_any c o a n cap w hc0
  rw [show decide ((n : Int) ≤ 2) = false by simp; omega] at h
  exact h

theorem Tab.since {w w' : World} {B : Nat} (h : Tab w) (s : w.Since B w') (hB : 0 < B) : Tab w' := fun j hj => by rw [s.cell (a := ⟨0, j, none⟩) hB]; exact h j hj

theorem lv_pos_len {X : Nat → Nat} {n : Nat} (h : 0 < lv X n) : 0 < n := by
  by_cases e : n = 0
  · subst e; simp [lv] at h
  · omega

theorem limbs_some {w : World} {a : Option Addr} {b off n : Nat} {X : Nat → Nat} (h : Limbs w a b off n X) (hn : 0 < n) : a = some ⟨b, off, none⟩ := (h 0 hn).1

theorem short_lt {X : Nat → Nat} {n : Nat} (hn : n ≤ 2) (h : ∀ j, j < n → X j < 4294967296) : lv X n < 18446744073709551616 := by
  have h1 := lv_lt X n h
  have h2 : 2 ^ (32 * n) ≤ 2 ^ 64 := Nat.pow_le_pow_right (by omega) (by omega)
  omega

set_option maxHeartbeats 6400000 in
set_option maxRecDepth 100000 in
theorem becomeOddGcd_any (base c d gn gm : Nat) (an am : Option Addr) (n m cn cm : Nat) (X Y : Nat → Nat) (w0 w : World) (hb : 0 < base) (hn : n ≤ 2097152) (hm : m ≤ 2097152) (hG : Gd base w0 w c d gn gm an am n m cn cm X Y) (oX : lv X n % 2 = 1) (oY : lv Y m % 2 = 1) (hT : Tab w0) :
    Calls Tryd.prog 95 #[.pointer (some ⟨c, 0, none⟩), .pointer (some ⟨d, 0, none⟩)] w fun e w' => e = .returned (.tuple #[]) ∧ ∃ a g k cp Z, w'.cell? ⟨c, 0, none⟩ = some (.slice a k cp) ∧ k ≤ cp ∧ k ≤ 2097152 ∧ (a = none → cp = 0) ∧ Limbs w' a g 0 k Z ∧ (0 < k → ∀ x, w'.frozen? ⟨g, x, none⟩ = false) ∧
      (∀ j, j < k → Z j < 4294967296) ∧ (0 < k → Z (k - 1) ≠ 0) ∧ lv Z k = Nat.gcd (lv X n) (lv Y m) ∧ base ≤ g ∧ g ≠ c ∧ w'.frozen? ⟨c, 0, none⟩ = false ∧ w0.Since base w' := by
  obtain ⟨G, hGe⟩ : ∃ G, G = Nat.gcd (lv X n) (lv Y m) := ⟨_, rfl⟩
  have HG := hide hGe
  rw [← hGe]
  clear hGe
  have OX := hide oX
  have OY := hide oY
  clear oX oY
  go_enter Tryd.func95, Tryd.ntmps95
  go_wp2
  go_loopg [] (lv X n + lv Y m) (fun g wr => ∃ (gn gm : Nat) (an am : Option Addr) (n m cn cm : Nat) (X Y : Nat → Nat), Hid (g = lv X n + lv Y m) ∧ Gd base w0 wr c d gn gm an am n m cn cm X Y ∧ n ≤ 2097152 ∧ m ≤ 2097152 ∧ Hid (lv X n % 2 = 1) ∧ Hid (lv Y m % 2 = 1) ∧ Hid (G = Nat.gcd (lv X n) (lv Y m)))
  case atStart => exact ⟨gn, gm, an, am, n, m, cn, cm, X, Y, rfl, hG, hn, hm, OX, OY, HG⟩
  case round =>
    clear hG hn hm OX OY HG
    obtain ⟨gn, gm, an, am, n, m, cn, cm, X, Y, Hg, hG, hn, hm, OX, OY, HG⟩ := hrel
    have b1 := hG.bC
    have b2 := hG.bD
    by_cases hsh : n ≤ 2 ∧ m ≤ 2
    · obtain ⟨h1, h2⟩ := hsh
      have n1 := short_lt h1 hG.lX
      have n2 := short_lt h2 hG.lY
      go_wp2_with fail
      refine (isShort_yes c 0 an n cn _ h1 b1).mono ?_
      rintro e w2 ⟨rfl, rfl⟩
      go_wp2_with fail
      refine (isShort_yes d 0 am m cm _ h2 b2).mono ?_
      rintro e w3 ⟨rfl, rfl⟩
      go_wp2_with fail
      refine (short_any c 0 an gn 0 n cn X _ h1 b1 hG.LX hG.lX).mono ?_
      rintro e w4 ⟨rfl, rfl⟩
      go_wp2_with fail
      refine (short_any d 0 am gm 0 m cm Y _ h2 b2 hG.LY hG.lY).mono ?_
      rintro e w5 ⟨rfl, rfl⟩
      go_wp2_with fail
      refine (shortGcd_any (lv X n) (lv Y m) _ n1 n2).mono ?_
      rintro e w6 ⟨rfl, s6⟩
      have hG := hG.same s6
      have hgl : Nat.gcd (lv X n) (lv Y m) < 18446744073709551616 := by
        have := OX.out
        have := Nat.gcd_le_left (lv Y m) (show 0 < lv X n by omega)
        omega
      clear s6 b1 b2
      rw [← HG.out] at hgl ⊢
      go_wp2_with fail
      refine (natOfShort_any G _ hgl).mono ?_
      rintro e w7 ⟨S, rfl, r7, hS7, v7, s7⟩
      have HV7 := hide v7
      have q1 : w7.cell? ⟨c, 0, none⟩ = some (.slice an n cn) := by rw [s7.cell (a := ⟨c, 0, none⟩) (World.block_lt_of_cell? _ _ hG.bC)]; exact hG.bC
      have q2 : w7.frozen? ⟨c, 0, none⟩ = false := by rw [s7.frozen (a := ⟨c, 0, none⟩) (World.block_lt_of_cell? _ _ hG.bC)]; exact hG.fC
      have zc := World.block_lt_of_cell? _ _ hG.bC
      have z6 := hG.S.size
      have hbs : base ≤ w6.heap.size := by have h1 := hG.hc; have h2 : c < w6.heap.size := zc; omega
      have S7 : w0.Since base w7 := hG.S.trans (sinceMono s7 hbs)
      have hcb := hG.hc
      clear v7 hG s7 HG
      have zc' : c < w6.heap.size := zc
      go_wp2
      go_end0
      have t1 := tlen_le (nz S) 2
      refine ⟨rfl, _, w6.heap.size, _, _, S, World.cell?_setCell_same _ _ _ q1, t1, by omega, fun h => (by cases h), ((limbs_row r7).take t1).setOther (by omega) _, fun _ x => by simp [r7.frozen x], fun j _ => hS7 j, fun h => ?_, (lv_tlen _ _).trans HV7.out, hbs, by omega, by simp [q2], S7.setCell hcb _⟩
      have := tlen_top _ _ h; simpa [nz] using this
    · by_cases h2 : 2 < n
      · go_wp2_with fail
        refine (isShort_no c 0 an n cn _ h2 b1).mono ?_
        rintro e w2 ⟨rfl, rfl⟩
        go_wp2_with fail
        refine (compare_any c 0 an am gn 0 n cn gm 0 m cm X Y _ (by omega) (by omega) b1 hG.LX hG.LY hG.lX hG.lY hG.pX hG.pY).mono ?_
        rintro e w2 ⟨rfl, s2⟩
        have hG := hG.same s2
        clear s2 b1 b2
        have b1 := hG.bC
        have b2 := hG.bD
        by_cases hgt : lv Y m < lv X n
        · have hc := cmpN_gt hgt
          have hci : 0 < cmpN (lv X n) (lv Y m) := by rw [hc]; decide
          have HLE : Hid (lv Y m ≤ lv X n) := Nat.le_of_lt hgt
          have HG' : Hid (G = Nat.gcd (lv Y m) (lv X n)) := by rw [Nat.gcd_comm]; exact HG
          have Hg : Hid (gk = lv Y m + lv X n) := by have := Hg.out; show gk = _; omega
          clear hc hgt HG
          generalize cmpN (lv X n) (lv Y m) = z at *
          have f1 := hG.fC
          have f2 := hG.fD
          have d1 := hG.d1
          have hG := hG.swap.same (Same.refl _).drew
          have OX' := OY
          have OY' := OX
          have hn' := hm
          go_wp2
          go_region
          clear b1 b2 f1 f2 d1
          generalize ((w2.setCell ⟨c, 0, none⟩ (.slice am m cm)).setCell ⟨d, 0, none⟩ (.slice an n cn)).drew = w4 at *
          obtain ⟨X', e0⟩ : ∃ x, x = Y := ⟨_, rfl⟩
          obtain ⟨Y', e1⟩ : ∃ x, x = X := ⟨_, rfl⟩
          obtain ⟨n', e2⟩ : ∃ x, x = m := ⟨_, rfl⟩
          obtain ⟨m', e3⟩ : ∃ x, x = n := ⟨_, rfl⟩
          obtain ⟨an', e4⟩ : ∃ x, x = am := ⟨_, rfl⟩
          obtain ⟨am', e5⟩ : ∃ x, x = an := ⟨_, rfl⟩
          obtain ⟨gn', e6⟩ : ∃ x, x = gm := ⟨_, rfl⟩
          obtain ⟨gm', e7⟩ : ∃ x, x = gn := ⟨_, rfl⟩
          obtain ⟨cn', e8⟩ : ∃ x, x = cm := ⟨_, rfl⟩
          obtain ⟨cm', e9⟩ : ∃ x, x = cn := ⟨_, rfl⟩
          subst e0 e1 e2 e3 e4 e5 e6 e7 e8 e9
          -- the second is the greater: it loses the first
          have g1 := hG.bC
          have g2 := hG.bD
          have hpos : 0 < lv X' n' := by have := OX'.out; omega
          have hposY : 0 < lv Y' m' := by have := OY'.out; omega
          have hn1 := lv_pos_len hpos
          have hm1 := lv_pos_len hposY
          have em := limbs_some hG.LY hm1
          subst em
          have HP := hide (And.intro hpos hposY)
          clear hpos hposY
          go_wp2_with fail
          refine (subtract_any d 0 gm' m' cm' an' gn' 0 n' cn' Y' X' _ (by omega) hG.nY (lv_len_le hG.lY hG.pX HLE.out) g2 hG.fD (hG.FY hm1) (Ne.symm hG.d6) hG.d2 hG.LY hG.LX hG.lY hG.lX HLE.out).mono ?_
          rintro e w5 ⟨rfl, w6, V, mk6, L6, l6, v6, hw5⟩
          have G5 := hG.setD mk6 L6 (Nat.le_refl _) l6
          rw [← hw5] at G5
          have HV6 : Hid (lv V (tlen (nz V) m') = lv Y' m' - lv X' n') := (lv_tlen _ _).trans v6
          have t6 := tlen_le (nz V) m'
          clear hw5 mk6 L6 l6 v6 hG g1 g2
          obtain ⟨t, ht⟩ : ∃ t, t = tlen (nz V) m' := ⟨_, rfl⟩
          rw [← ht] at G5 HV6 t6
          clear ht
          have g1 := G5.bC
          have g2 := G5.bD
          go_wp2_with fail
          refine (isZero_any d 0 _ t cm' _ g2).mono ?_
          rintro e w7 ⟨rfl, rfl⟩
          by_cases hz : t = 0
          · subst hz
            have hEq : lv Y' m' = lv X' n' := by have h1 := HV6.out; have h2 := HLE.out; have h3 : lv V 0 = 0 := rfl; omega
            have HGv : Hid (lv X' n' = G) := by have h := HG'.out; rw [hEq, Nat.gcd_self] at h; exact h.symm
            clear hEq
            go_wp2
            refine bodyPost_ret (results_none rfl _ _ _) rfl ?_
            exact ⟨rfl, an', gn', n', cn', X', G5.bC, G5.nX, hn', G5.oX, G5.LX, G5.FX, G5.lX, G5.pX, HGv.out, G5.hn, G5.d3, G5.fC, G5.S⟩
          · have hne : ((t : Int) == 0) = false := by simp; omega
            have hVp : 0 < lv V t := by
              have := lv_ge V t (by omega) (G5.pY (by omega))
              have := Nat.pow_pos (n := 32 * (t - 1)) (show 0 < 2 by omega)
              omega
            have HVp := hide hVp
            clear hVp
            go_wp2_with fail
            refine (twos_any d 0 _ gm' 0 t cm' V _ (by omega) g2 G5.LY G5.lY HVp.out (hT.since G5.S hb)).mono ?_
            rintro e w8 ⟨i, s, q, rfl, rfl, hi, hs, hvq⟩
            have HQ := hide hvq
            clear hvq
            go_wp2_with fail
            refine (shiftRight_any d 0 gm' t cm' i s V _ (by omega) G5.nY hi hs G5.LY G5.lY g2 G5.fD (G5.FY (by omega)) (Ne.symm G5.d6)).mono ?_
            rintro e w9 ⟨rfl, w10, S, k, mk10, L10, hk, l10, v10, hw9⟩
            have G9 := G5.setD mk10 L10 hk l10
            rw [← hw9] at G9
            have hSq : lv S (tlen (nz S) k) = 2 * q + 1 := by
              rw [lv_tlen, v10, HQ.out, Nat.mul_div_cancel_left _ (Nat.pow_pos (by omega))]
            have HSq := hide hSq
            have t10 := tlen_le (nz S) k
            clear hw9 mk10 L10 l10 v10 hSq
            go_wp2
            go_roundg (lv X' n' + lv S (tlen (nz S) k))
            case measure =>
              have a1 := Hg.out; have a2 := HSq.out; have a3 := HV6.out; have a4 := HP.out; have a5 := HQ.out; have a6 := HLE.out
              have a7 : 1 * (2 * q + 1) ≤ 2 ^ (32 * i + s) * (2 * q + 1) := Nat.mul_le_mul_right _ (Nat.pow_pos (by omega))
              omega
            case rel =>
              refine ⟨gn', gm', an', _, n', _, cn', cm', X', S, rfl, G9, hn', by omega, OX', by rw [HSq.out]; show _ = _; omega, ?_⟩
              have h := HG'.out
              rw [← gcd_sub_right HLE.out, ← HV6.out, HQ.out, gcd_pow2_right OX'.out] at h
              rw [HSq.out]; exact h
        · have hci : cmpN (lv X n) (lv Y m) ≤ 0 := by unfold cmpN; split <;> (try split) <;> omega
          have HLE : Hid (lv X n ≤ lv Y m) := Nat.le_of_not_lt hgt
          have HG' := HG
          clear hgt HG
          generalize cmpN (lv X n) (lv Y m) = z at *
          have OX' := OX
          have OY' := OY
          have hn' := hn
          clear b1 b2
          obtain ⟨X', e0⟩ : ∃ x, x = X := ⟨_, rfl⟩
          obtain ⟨Y', e1⟩ : ∃ x, x = Y := ⟨_, rfl⟩
          obtain ⟨n', e2⟩ : ∃ x, x = n := ⟨_, rfl⟩
          obtain ⟨m', e3⟩ : ∃ x, x = m := ⟨_, rfl⟩
          obtain ⟨an', e4⟩ : ∃ x, x = an := ⟨_, rfl⟩
          obtain ⟨am', e5⟩ : ∃ x, x = am := ⟨_, rfl⟩
          obtain ⟨gn', e6⟩ : ∃ x, x = gn := ⟨_, rfl⟩
          obtain ⟨gm', e7⟩ : ∃ x, x = gm := ⟨_, rfl⟩
          obtain ⟨cn', e8⟩ : ∃ x, x = cn := ⟨_, rfl⟩
          obtain ⟨cm', e9⟩ : ∃ x, x = cm := ⟨_, rfl⟩
          subst e0 e1 e2 e3 e4 e5 e6 e7 e8 e9
          -- the second is the greater: it loses the first
          have g1 := hG.bC
          have g2 := hG.bD
          have hpos : 0 < lv X' n' := by have := OX'.out; omega
          have hposY : 0 < lv Y' m' := by have := OY'.out; omega
          have hn1 := lv_pos_len hpos
          have hm1 := lv_pos_len hposY
          have em := limbs_some hG.LY hm1
          subst em
          have HP := hide (And.intro hpos hposY)
          clear hpos hposY
          go_wp2_with fail
          refine (subtract_any d 0 gm' m' cm' an' gn' 0 n' cn' Y' X' _ (by omega) hG.nY (lv_len_le hG.lY hG.pX HLE.out) g2 hG.fD (hG.FY hm1) (Ne.symm hG.d6) hG.d2 hG.LY hG.LX hG.lY hG.lX HLE.out).mono ?_
          rintro e w5 ⟨rfl, w6, V, mk6, L6, l6, v6, hw5⟩
          have G5 := hG.setD mk6 L6 (Nat.le_refl _) l6
          rw [← hw5] at G5
          have HV6 : Hid (lv V (tlen (nz V) m') = lv Y' m' - lv X' n') := (lv_tlen _ _).trans v6
          have t6 := tlen_le (nz V) m'
          clear hw5 mk6 L6 l6 v6 hG g1 g2
          obtain ⟨t, ht⟩ : ∃ t, t = tlen (nz V) m' := ⟨_, rfl⟩
          rw [← ht] at G5 HV6 t6
          clear ht
          have g1 := G5.bC
          have g2 := G5.bD
          go_wp2_with fail
          refine (isZero_any d 0 _ t cm' _ g2).mono ?_
          rintro e w7 ⟨rfl, rfl⟩
          by_cases hz : t = 0
          · subst hz
            have hEq : lv Y' m' = lv X' n' := by have h1 := HV6.out; have h2 := HLE.out; have h3 : lv V 0 = 0 := rfl; omega
            have HGv : Hid (lv X' n' = G) := by have h := HG'.out; rw [hEq, Nat.gcd_self] at h; exact h.symm
            clear hEq
            go_wp2
            refine bodyPost_ret (results_none rfl _ _ _) rfl ?_
            exact ⟨rfl, an', gn', n', cn', X', G5.bC, G5.nX, hn', G5.oX, G5.LX, G5.FX, G5.lX, G5.pX, HGv.out, G5.hn, G5.d3, G5.fC, G5.S⟩
          · have hne : ((t : Int) == 0) = false := by simp; omega
            have hVp : 0 < lv V t := by
              have := lv_ge V t (by omega) (G5.pY (by omega))
              have := Nat.pow_pos (n := 32 * (t - 1)) (show 0 < 2 by omega)
              omega
            have HVp := hide hVp
            clear hVp
            go_wp2_with fail
            refine (twos_any d 0 _ gm' 0 t cm' V _ (by omega) g2 G5.LY G5.lY HVp.out (hT.since G5.S hb)).mono ?_
            rintro e w8 ⟨i, s, q, rfl, rfl, hi, hs, hvq⟩
            have HQ := hide hvq
            clear hvq
            go_wp2_with fail
            refine (shiftRight_any d 0 gm' t cm' i s V _ (by omega) G5.nY hi hs G5.LY G5.lY g2 G5.fD (G5.FY (by omega)) (Ne.symm G5.d6)).mono ?_
            rintro e w9 ⟨rfl, w10, S, k, mk10, L10, hk, l10, v10, hw9⟩
            have G9 := G5.setD mk10 L10 hk l10
            rw [← hw9] at G9
            have hSq : lv S (tlen (nz S) k) = 2 * q + 1 := by
              rw [lv_tlen, v10, HQ.out, Nat.mul_div_cancel_left _ (Nat.pow_pos (by omega))]
            have HSq := hide hSq
            have t10 := tlen_le (nz S) k
            clear hw9 mk10 L10 l10 v10 hSq
            go_wp2
            go_roundg (lv X' n' + lv S (tlen (nz S) k))
            case measure =>
              have a1 := Hg.out; have a2 := HSq.out; have a3 := HV6.out; have a4 := HP.out; have a5 := HQ.out; have a6 := HLE.out
              have a7 : 1 * (2 * q + 1) ≤ 2 ^ (32 * i + s) * (2 * q + 1) := Nat.mul_le_mul_right _ (Nat.pow_pos (by omega))
              omega
            case rel =>
              refine ⟨gn', gm', an', _, n', _, cn', cm', X', S, rfl, G9, hn', by omega, OX', by rw [HSq.out]; show _ = _; omega, ?_⟩
              have h := HG'.out
              rw [← gcd_sub_right HLE.out, ← HV6.out, HQ.out, gcd_pow2_right OX'.out] at h
              rw [HSq.out]; exact h
      · have h3 : 2 < m := by omega
        go_wp2_with fail
        refine (isShort_yes c 0 an n cn _ (by omega) b1).mono ?_
        rintro e w2 ⟨rfl, rfl⟩
        go_wp2_with fail
        refine (isShort_no d 0 am m cm _ h3 b2).mono ?_
        rintro e w3 ⟨rfl, rfl⟩
        go_wp2_with fail
        refine (compare_any c 0 an am gn 0 n cn gm 0 m cm X Y _ (by omega) (by omega) b1 hG.LX hG.LY hG.lX hG.lY hG.pX hG.pY).mono ?_
        rintro e w2 ⟨rfl, s2⟩
        have hG := hG.same s2
        clear s2 b1 b2
        have b1 := hG.bC
        have b2 := hG.bD
        by_cases hgt : lv Y m < lv X n
        · have hc := cmpN_gt hgt
          have hci : 0 < cmpN (lv X n) (lv Y m) := by rw [hc]; decide
          have HLE : Hid (lv Y m ≤ lv X n) := Nat.le_of_lt hgt
          have HG' : Hid (G = Nat.gcd (lv Y m) (lv X n)) := by rw [Nat.gcd_comm]; exact HG
          have Hg : Hid (gk = lv Y m + lv X n) := by have := Hg.out; show gk = _; omega
          clear hc hgt HG
          generalize cmpN (lv X n) (lv Y m) = z at *
          have f1 := hG.fC
          have f2 := hG.fD
          have d1 := hG.d1
          have hG := hG.swap.same (Same.refl _).drew
          have OX' := OY
          have OY' := OX
          have hn' := hm
          go_wp2
          go_region
          clear b1 b2 f1 f2 d1
          generalize ((w2.setCell ⟨c, 0, none⟩ (.slice am m cm)).setCell ⟨d, 0, none⟩ (.slice an n cn)).drew = w4 at *
          obtain ⟨X', e0⟩ : ∃ x, x = Y := ⟨_, rfl⟩
          obtain ⟨Y', e1⟩ : ∃ x, x = X := ⟨_, rfl⟩
          obtain ⟨n', e2⟩ : ∃ x, x = m := ⟨_, rfl⟩
          obtain ⟨m', e3⟩ : ∃ x, x = n := ⟨_, rfl⟩
          obtain ⟨an', e4⟩ : ∃ x, x = am := ⟨_, rfl⟩
          obtain ⟨am', e5⟩ : ∃ x, x = an := ⟨_, rfl⟩
          obtain ⟨gn', e6⟩ : ∃ x, x = gm := ⟨_, rfl⟩
          obtain ⟨gm', e7⟩ : ∃ x, x = gn := ⟨_, rfl⟩
          obtain ⟨cn', e8⟩ : ∃ x, x = cm := ⟨_, rfl⟩
          obtain ⟨cm', e9⟩ : ∃ x, x = cn := ⟨_, rfl⟩
          subst e0 e1 e2 e3 e4 e5 e6 e7 e8 e9
          -- the second is the greater: it loses the first
          have g1 := hG.bC
          have g2 := hG.bD
          have hpos : 0 < lv X' n' := by have := OX'.out; omega
          have hposY : 0 < lv Y' m' := by have := OY'.out; omega
          have hn1 := lv_pos_len hpos
          have hm1 := lv_pos_len hposY
          have em := limbs_some hG.LY hm1
          subst em
          have HP := hide (And.intro hpos hposY)
          clear hpos hposY
          go_wp2_with fail
          refine (subtract_any d 0 gm' m' cm' an' gn' 0 n' cn' Y' X' _ (by omega) hG.nY (lv_len_le hG.lY hG.pX HLE.out) g2 hG.fD (hG.FY hm1) (Ne.symm hG.d6) hG.d2 hG.LY hG.LX hG.lY hG.lX HLE.out).mono ?_
          rintro e w5 ⟨rfl, w6, V, mk6, L6, l6, v6, hw5⟩
          have G5 := hG.setD mk6 L6 (Nat.le_refl _) l6
          rw [← hw5] at G5
          have HV6 : Hid (lv V (tlen (nz V) m') = lv Y' m' - lv X' n') := (lv_tlen _ _).trans v6
          have t6 := tlen_le (nz V) m'
          clear hw5 mk6 L6 l6 v6 hG g1 g2
          obtain ⟨t, ht⟩ : ∃ t, t = tlen (nz V) m' := ⟨_, rfl⟩
          rw [← ht] at G5 HV6 t6
          clear ht
          have g1 := G5.bC
          have g2 := G5.bD
          go_wp2_with fail
          refine (isZero_any d 0 _ t cm' _ g2).mono ?_
          rintro e w7 ⟨rfl, rfl⟩
          by_cases hz : t = 0
          · subst hz
            have hEq : lv Y' m' = lv X' n' := by have h1 := HV6.out; have h2 := HLE.out; have h3 : lv V 0 = 0 := rfl; omega
            have HGv : Hid (lv X' n' = G) := by have h := HG'.out; rw [hEq, Nat.gcd_self] at h; exact h.symm
            clear hEq
            go_wp2
            refine bodyPost_ret (results_none rfl _ _ _) rfl ?_
            exact ⟨rfl, an', gn', n', cn', X', G5.bC, G5.nX, hn', G5.oX, G5.LX, G5.FX, G5.lX, G5.pX, HGv.out, G5.hn, G5.d3, G5.fC, G5.S⟩
          · have hne : ((t : Int) == 0) = false := by simp; omega
            have hVp : 0 < lv V t := by
              have := lv_ge V t (by omega) (G5.pY (by omega))
              have := Nat.pow_pos (n := 32 * (t - 1)) (show 0 < 2 by omega)
              omega
            have HVp := hide hVp
            clear hVp
            go_wp2_with fail
            refine (twos_any d 0 _ gm' 0 t cm' V _ (by omega) g2 G5.LY G5.lY HVp.out (hT.since G5.S hb)).mono ?_
            rintro e w8 ⟨i, s, q, rfl, rfl, hi, hs, hvq⟩
            have HQ := hide hvq
            clear hvq
            go_wp2_with fail
            refine (shiftRight_any d 0 gm' t cm' i s V _ (by omega) G5.nY hi hs G5.LY G5.lY g2 G5.fD (G5.FY (by omega)) (Ne.symm G5.d6)).mono ?_
            rintro e w9 ⟨rfl, w10, S, k, mk10, L10, hk, l10, v10, hw9⟩
            have G9 := G5.setD mk10 L10 hk l10
            rw [← hw9] at G9
            have hSq : lv S (tlen (nz S) k) = 2 * q + 1 := by
              rw [lv_tlen, v10, HQ.out, Nat.mul_div_cancel_left _ (Nat.pow_pos (by omega))]
            have HSq := hide hSq
            have t10 := tlen_le (nz S) k
            clear hw9 mk10 L10 l10 v10 hSq
            go_wp2
            go_roundg (lv X' n' + lv S (tlen (nz S) k))
            case measure =>
              have a1 := Hg.out; have a2 := HSq.out; have a3 := HV6.out; have a4 := HP.out; have a5 := HQ.out; have a6 := HLE.out
              have a7 : 1 * (2 * q + 1) ≤ 2 ^ (32 * i + s) * (2 * q + 1) := Nat.mul_le_mul_right _ (Nat.pow_pos (by omega))
              omega
            case rel =>
              refine ⟨gn', gm', an', _, n', _, cn', cm', X', S, rfl, G9, hn', by omega, OX', by rw [HSq.out]; show _ = _; omega, ?_⟩
              have h := HG'.out
              rw [← gcd_sub_right HLE.out, ← HV6.out, HQ.out, gcd_pow2_right OX'.out] at h
              rw [HSq.out]; exact h
        · have hci : cmpN (lv X n) (lv Y m) ≤ 0 := by unfold cmpN; split <;> (try split) <;> omega
          have HLE : Hid (lv X n ≤ lv Y m) := Nat.le_of_not_lt hgt
          have HG' := HG
          clear hgt HG
          generalize cmpN (lv X n) (lv Y m) = z at *
          have OX' := OX
          have OY' := OY
          have hn' := hn
          clear b1 b2
          obtain ⟨X', e0⟩ : ∃ x, x = X := ⟨_, rfl⟩
          obtain ⟨Y', e1⟩ : ∃ x, x = Y := ⟨_, rfl⟩
          obtain ⟨n', e2⟩ : ∃ x, x = n := ⟨_, rfl⟩
          obtain ⟨m', e3⟩ : ∃ x, x = m := ⟨_, rfl⟩
          obtain ⟨an', e4⟩ : ∃ x, x = an := ⟨_, rfl⟩
          obtain ⟨am', e5⟩ : ∃ x, x = am := ⟨_, rfl⟩
          obtain ⟨gn', e6⟩ : ∃ x, x = gn := ⟨_, rfl⟩
          obtain ⟨gm', e7⟩ : ∃ x, x = gm := ⟨_, rfl⟩
          obtain ⟨cn', e8⟩ : ∃ x, x = cn := ⟨_, rfl⟩
          obtain ⟨cm', e9⟩ : ∃ x, x = cm := ⟨_, rfl⟩
          subst e0 e1 e2 e3 e4 e5 e6 e7 e8 e9
          -- the second is the greater: it loses the first
          have g1 := hG.bC
          have g2 := hG.bD
          have hpos : 0 < lv X' n' := by have := OX'.out; omega
          have hposY : 0 < lv Y' m' := by have := OY'.out; omega
          have hn1 := lv_pos_len hpos
          have hm1 := lv_pos_len hposY
          have em := limbs_some hG.LY hm1
          subst em
          have HP := hide (And.intro hpos hposY)
          clear hpos hposY
          go_wp2_with fail
          refine (subtract_any d 0 gm' m' cm' an' gn' 0 n' cn' Y' X' _ (by omega) hG.nY (lv_len_le hG.lY hG.pX HLE.out) g2 hG.fD (hG.FY hm1) (Ne.symm hG.d6) hG.d2 hG.LY hG.LX hG.lY hG.lX HLE.out).mono ?_
          rintro e w5 ⟨rfl, w6, V, mk6, L6, l6, v6, hw5⟩
          have G5 := hG.setD mk6 L6 (Nat.le_refl _) l6
          rw [← hw5] at G5
          have HV6 : Hid (lv V (tlen (nz V) m') = lv Y' m' - lv X' n') := (lv_tlen _ _).trans v6
          have t6 := tlen_le (nz V) m'
          clear hw5 mk6 L6 l6 v6 hG g1 g2
          obtain ⟨t, ht⟩ : ∃ t, t = tlen (nz V) m' := ⟨_, rfl⟩
          rw [← ht] at G5 HV6 t6
          clear ht
          have g1 := G5.bC
          have g2 := G5.bD
          go_wp2_with fail
          refine (isZero_any d 0 _ t cm' _ g2).mono ?_
          rintro e w7 ⟨rfl, rfl⟩
          by_cases hz : t = 0
          · subst hz
            have hEq : lv Y' m' = lv X' n' := by have h1 := HV6.out; have h2 := HLE.out; have h3 : lv V 0 = 0 := rfl; omega
            have HGv : Hid (lv X' n' = G) := by have h := HG'.out; rw [hEq, Nat.gcd_self] at h; exact h.symm
            clear hEq
            go_wp2
            refine bodyPost_ret (results_none rfl _ _ _) rfl ?_
            exact ⟨rfl, an', gn', n', cn', X', G5.bC, G5.nX, hn', G5.oX, G5.LX, G5.FX, G5.lX, G5.pX, HGv.out, G5.hn, G5.d3, G5.fC, G5.S⟩
          · have hne : ((t : Int) == 0) = false := by simp; omega
            have hVp : 0 < lv V t := by
              have := lv_ge V t (by omega) (G5.pY (by omega))
              have := Nat.pow_pos (n := 32 * (t - 1)) (show 0 < 2 by omega)
              omega
            have HVp := hide hVp
            clear hVp
            go_wp2_with fail
            refine (twos_any d 0 _ gm' 0 t cm' V _ (by omega) g2 G5.LY G5.lY HVp.out (hT.since G5.S hb)).mono ?_
            rintro e w8 ⟨i, s, q, rfl, rfl, hi, hs, hvq⟩
            have HQ := hide hvq
            clear hvq
            go_wp2_with fail
            refine (shiftRight_any d 0 gm' t cm' i s V _ (by omega) G5.nY hi hs G5.LY G5.lY g2 G5.fD (G5.FY (by omega)) (Ne.symm G5.d6)).mono ?_
            rintro e w9 ⟨rfl, w10, S, k, mk10, L10, hk, l10, v10, hw9⟩
            have G9 := G5.setD mk10 L10 hk l10
            rw [← hw9] at G9
            have hSq : lv S (tlen (nz S) k) = 2 * q + 1 := by
              rw [lv_tlen, v10, HQ.out, Nat.mul_div_cancel_left _ (Nat.pow_pos (by omega))]
            have HSq := hide hSq
            have t10 := tlen_le (nz S) k
            clear hw9 mk10 L10 l10 v10 hSq
            go_wp2
            go_roundg (lv X' n' + lv S (tlen (nz S) k))
            case measure =>
              have a1 := Hg.out; have a2 := HSq.out; have a3 := HV6.out; have a4 := HP.out; have a5 := HQ.out; have a6 := HLE.out
              have a7 : 1 * (2 * q + 1) ≤ 2 ^ (32 * i + s) * (2 * q + 1) := Nat.mul_le_mul_right _ (Nat.pow_pos (by omega))
              omega
            case rel =>
              refine ⟨gn', gm', an', _, n', _, cn', cm', X', S, rfl, G9, hn', by omega, OX', by rw [HSq.out]; show _ = _; omega, ?_⟩
              have h := HG'.out
              rw [← gcd_sub_right HLE.out, ← HV6.out, HQ.out, gcd_pow2_right OX'.out] at h
              rw [HSq.out]; exact h

end Go.Proofs.YtabemlkdpgglaaaDoor

namespace Go.Proofs.YtabemlkdpgglaaaDoor
open Go.RowKit

/-- The limb under way: the bits from place k on, of the 32 that begin at s. -/
def part (E : Nat → Bool) (s k : Nat) : Nat := bv (fun t => E (s + k + t)) (32 - k)

theorem part_step (E : Nat → Bool) (s k : Nat) (hk : k < 32) : part E s k = 2 * part E s (k + 1) + (E (s + k)).toNat := by
  unfold part
  rw [show 32 - k = (32 - (k + 1)) + 1 by omega, bv_front]
  congr 2
  exact bv_congr (fun j _ => by rw [show s + k + (j + 1) = s + (k + 1) + j by omega])

theorem part_lt (E : Nat → Bool) (s k : Nat) (hk : 0 < k) : part E s k < 2147483648 := by
  have h := bv_lt (fun t => E (s + k + t)) (32 - k)
  have h2 : 2 ^ (32 - k) ≤ 2 ^ 31 := Nat.pow_le_pow_right (by omega) (by omega)
  unfold part; omega

theorem part_all (E : Nat → Bool) (q : Nat) : part E (32 * q) 0 = limbsOf E q := rfl

theorem part_top (E : Nat → Bool) (s : Nat) : part E s 32 = 0 := rfl

set_option maxHeartbeats 3200000 in
set_option maxRecDepth 100000 in
theorem l1Limbs_any (a : Option Addr) (b off n cap : Nat) (B : Nat → Bool) (w : World) (hn : n ≤ 268435456) (hnc : n ≤ cap) (hB : Bits w a b off n B) :
    Calls Tryd.prog 85 #[.slice a n cap] w fun e w' => ∃ a' g m cap' Y, e = .returned (.slice a' m cap') ∧ m ≤ cap' ∧ 32 * m < n + 32 ∧ Limbs w' a' g 0 m Y ∧ (0 < m → w.heap.size ≤ g) ∧ (0 < m → ∀ o, w'.frozen? ⟨g, o, none⟩ = false) ∧
      (∀ j, Y j < 4294967296) ∧ (0 < m → Y (m - 1) ≠ 0) ∧ lv Y m = bv B n ∧ w.Since w.heap.size w' := by
  obtain ⟨i0, hi, hz0, hz1, hz2⟩ := info_parts Tryd.info58
  obtain ⟨m, hm⟩ : ∃ m, m = tlen B n := ⟨_, rfl⟩
  have hmn : m ≤ n := by rw [hm]; exact tlen_le _ _
  have HM : Hid (m = tlen B n) := hm
  clear hm
  obtain ⟨E, hE⟩ : ∃ E, E = ext B m := ⟨_, rfl⟩
  have HE : Hid (E = ext B m) := hE
  clear hE
  have hB' := hB.take hmn
  go_enter Tryd.func85, Tryd.ntmps85
  go_wp2_with fail
  refine (l1Trim_any a b off n cap B _ (by omega) hnc hB).mono ?_
  rintro e w1 ⟨rfl, rfl⟩
  rw [← HM.out]
  clear hB
  go_wp2
  go_loopw [4, 5] (fun v t wr => ∃ q : Nat, 32 * q < m + 32 ∧ t = .int .i64 ((32 * q : Nat) : Int) ∧ wr.ownsRow w1.heap.size 58 1 v q (ll (limbsOf E) q) ∧ w1.Since w1.heap.size wr) (fun _ t _ => m + 32 - (intOf t).toNat)
  case atStart => exact ⟨0, by omega, rfl, World.ownsRow_made w1 #[] 0 (Nat.le_refl _) (by decide) rfl, (World.Since.refl _ _).alloc (Nat.le_refl _) _⟩
  case round =>
    obtain ⟨q, hq, rfl, hown, hs⟩ := hrel
    by_cases hlt : 32 * q < m
    · go_wp2
      go_loop [6, 7] (fun v t => ∃ (k p : Nat) (z : Int), k ≤ 32 ∧ t = .int .i64 z ∧ v = .int .u32 p ∧ Hid (z = k - 1) ∧ Hid (p = part E (32 * q) k)) (fun _ t => (intOf t + 1).toNat)
      case atStart => exact ⟨32, 0, 31, by omega, rfl, rfl, (by decide : (31 : Int) = ((32 : Nat) : Int) - 1), (part_top E (32 * q)).symm⟩
      case round =>
        obtain ⟨k, p, z, hk, rfl, rfl, HZ, HP⟩ := hrel
        by_cases hz : 0 ≤ z
        · obtain ⟨k', rfl⟩ := Int.eq_ofNat_of_zero_le hz
          have hkk : k = k' + 1 := by have := HZ.out; omega
          subst hkk
          clear HZ
          have hp := part_lt E (32 * q) (k' + 1) (by omega)
          rw [← HP.out] at hp
          have HS : Hid (part E (32 * q) k' = 2 * p + (E (32 * q + k')).toNat) := by have := part_step E (32 * q) k' (by omega); rw [← HP.out] at this; exact this
          by_cases hin : 32 * q + k' < m
          · obtain ⟨rfl, hc⟩ := hB' (32 * q + k') hin
            have g0 : wr.cell? ⟨b, off + (32 * q + k'), none⟩ = some (.bool (B (32 * q + k'))) := by rw [hs.cell (a := ⟨b, off + (32 * q + k'), none⟩) (hB'.lt (by omega))]; exact hc
            have HEk : Hid (E (32 * q + k') = B (32 * q + k')) := by rw [HE.out]; simp [Hid, ext, hin]
            clear hc
            cases hb : B (32 * q + k')
            · rw [hb] at g0
              have HF : Hid (E (32 * q + k') = false) := HEk.out.trans hb
              clear hb HEk
              go_wp2
              go_light
              exact ⟨⟨k', by omega, 2 * p, by omega, show (k' : Int) = k' from rfl, show 2 * p = _ by rw [HS.out, HF.out]; rfl⟩, by simp [intOf]; omega⟩
            · rw [hb] at g0
              have HF : Hid (E (32 * q + k') = true) := HEk.out.trans hb
              clear hb HEk
              go_wp2
              go_light
              exact ⟨⟨k', by omega, 2 * p + 1, by omega, show (k' : Int) = k' from rfl, show 2 * p + 1 = _ by rw [HS.out, HF.out]; rfl⟩, by simp [intOf]; omega⟩
          · have HF : Hid (E (32 * q + k') = false) := by rw [HE.out]; simp [Hid, ext, hin]
            go_wp2
            go_light
            exact ⟨⟨k', by omega, 2 * p, by omega, show (k' : Int) = k' from rfl, show 2 * p = _ by rw [HS.out, HF.out]; rfl⟩, by simp [intOf]; omega⟩
        · have hk0 : k = 0 := by have := HZ.out; omega
          subst hk0
          go_wp2_with (at_builtin; refine wpList_append_own _ rfl _ _ 23 rfl w1.heap.size 58 i0 (.int .u32 0) 1 4 Tryd.underlying23 hi hz0 hz1 hz2 rfl (by decide) _ _ _ rfl (hown.alloc _) ⟨wr.heap.size, 0, none⟩ 1 1 [.int .u32 p] rfl rfl ?c1 ?c2 ?c3 ?c4 ?c5 ?_)
          case c2 => first | rfl | (intro u hu; simp at hu; subst hu; rfl)
          case c3 => unfold maxLen; omega
          case c4 => omega
          case c5 => have := hs.size; simp; omega
          intro v' w2 hown' hgrow _
          have hs1 : w1.Since w1.heap.size w2 := (hs.alloc hs.size _).grown hgrow (by have := hs.size; simp; omega) (fun k hk => (hown.lt k hk).1)
          rw [HP.out, part_all, ← ll_succ] at hown'
          clear hgrow hown hs
          go_wp2
          go_roundw
          case rel => exact ⟨q + 1, by omega, by go_num, hown', hs1⟩
          case measure => simp [intOf]; omega
    · obtain ⟨a', g, cap', rfl, hmc, hg, hL, hf⟩ := own_limbs hown
      go_wp2
      go_ret
      refine ⟨a', g, q, cap', limbsOf E, rfl, hmc, by omega, hL, hg, hf, fun j => limbsOf_lt E j, ?_, ?_, hs⟩
      · intro h0
        have hm0 : 0 < m := by omega
        refine limbs_top E m (q - 1) (by omega) (by omega) ?_
        rw [HE.out]
        have := tlen_top B n (by rw [← HM.out]; exact hm0)
        rw [← HM.out] at this
        simp [ext, this]; omega
      · rw [lv_limbs, HE.out, bv_ext B m (32 * q) (by omega), HM.out, bv_tlen]

end Go.Proofs.YtabemlkdpgglaaaDoor

namespace Go.Proofs.YtabemlkdpgglaaaDoor
open Go.RowKit

set_option maxHeartbeats 1600000 in
set_option maxRecDepth 100000 in
/-- l1CmpBits on two trimmed lists. -/
theorem l1CmpBits_any (a a' : Option Addr) (b off n cap b' off' m cap' : Nat) (A B : Nat → Bool) (w : World) (hn : n ≤ 281474976710656) (hm : m ≤ 281474976710656) (hA : Bits w a b off n A) (hB : Bits w a' b' off' m B)
    (tA : 0 < n → A (n - 1) = true) (tB : 0 < m → B (m - 1) = true) :
    Calls Tryd.prog 28 #[.slice a n cap, .slice a' m cap'] w fun e w' => e = .returned (.int .i64 (cmpN (bv A n) (bv B m))) ∧ Same w w' := by
  by_cases h1 : n < m
  · rw [cmpN_lt (bv_short h1 tB)]
    clear tA tB
    go_enter Tryd.func28, Tryd.ntmps28
    go_wp2
    go_ret
    exact ⟨rfl, Same.refl _⟩
  by_cases h2 : m < n
  · rw [cmpN_gt (bv_short h2 tA)]
    clear tA tB
    go_enter Tryd.func28, Tryd.ntmps28
    go_wp2
    go_ret
    exact ⟨rfl, Same.refl _⟩
  have e : m = n := by omega
  subst e
  clear tA tB h1 h2
  go_enter Tryd.func28, Tryd.ntmps28
  go_wp2
  go_loopw [5] (fun t wr => ∃ (k : Nat) (z : Int), k ≤ m ∧ t = .int .i64 z ∧ Hid (z = k - 1) ∧ Same w wr ∧ Hid (∀ j, k ≤ j → j < m → A j = B j)) (fun t _ => (intOf t + 1).toNat)
  case atStart => exact ⟨m, (m : Int) - 1, Nat.le_refl _, rfl, rfl, Same.refl _, fun j h1 h2 => absurd h2 (by omega)⟩
  case round =>
    obtain ⟨k, z, hk, rfl, HZ, hs, HE⟩ := hrel
    by_cases hz : 0 ≤ z
    · obtain ⟨i, rfl⟩ := Int.eq_ofNat_of_zero_le hz
      have hki : k = i + 1 := by have := HZ.out; omega
      subst hki
      clear HZ
      obtain ⟨rfl, hc⟩ := hA i (by omega)
      obtain ⟨rfl, hc'⟩ := hB i (by omega)
      have g0 : wr.cell? ⟨b, off + i, none⟩ = some (.bool (A i)) := by rw [hs.cell]; exact hc
      have g1 : wr.cell? ⟨b', off' + i, none⟩ = some (.bool (B i)) := by rw [hs.cell]; exact hc'
      have hzi : (i : Int) < (m : Int) := by omega
      clear hc hc'
      by_cases hab : A i = B i
      · have HAB : Hid (A i = B i) := hab
        rw [hab] at g0
        clear hab
        go_wp2
        go_quiet (fail)
        go_wp2
        go_roundw
        case rel =>
          refine ⟨i, (i : Int) - 1, by omega, rfl, rfl, hs.drewN _, fun j h1 h2 => ?_⟩
          by_cases e : j = i
          · subst e; exact HAB.out
          · exact HE.out j (by omega) h2
        case measure => simp [intOf]
      · cases hb : B i
        · have ha : A i = true := by cases h : A i <;> simp_all
          have HC : Hid (cmpN (bv A m) (bv B m) = 1) := cmpN_gt (bv_top (i := i) (by omega) (fun j h1 h2 => (HE.out j (by omega) h2).symm) hb ha)
          rw [ha] at g0
          rw [hb] at g1
          clear hb ha hab
          go_wp2
          go_quiet (fail)
          go_wp2
          go_ret
          exact ⟨ret_int HC.out.symm, hs.drewN _⟩
        · have ha : A i = false := by cases h : A i <;> simp_all
          have HC : Hid (cmpN (bv A m) (bv B m) = -1) := cmpN_lt (bv_top (i := i) (by omega) (fun j h1 h2 => (HE.out j (by omega) h2)) ha hb)
          rw [ha] at g0
          rw [hb] at g1
          clear hb ha hab
          go_wp2
          go_quiet (fail)
          go_wp2
          go_ret
          exact ⟨ret_int HC.out.symm, hs.drewN _⟩
    · have hk0 : k = 0 := by have := HZ.out; omega
      subst hk0
      have HC : Hid (cmpN (bv A m) (bv B m) = 0) := cmpN_eq (bv_congr (fun j hj => HE.out j (by omega) hj))
      go_wp2
      go_ret
      exact ⟨ret_int HC.out.symm, hs⟩

end Go.Proofs.YtabemlkdpgglaaaDoor

namespace Go.Proofs.YtabemlkdpgglaaaDoor
open Go.RowKit

theorem bl_push (b : Bool) (R : Nat → Bool) (n : Nat) : bl (push b R) (n + 1) = [.bool b] ++ bl R n := by
  unfold bl
  rw [List.range_succ_eq_map]
  simp [push, Function.comp_def]

theorem own_one (w : World) (base : Nat) (x : Value) (t : TypeId) (hb : base ≤ w.heap.size) : (w.alloc (.cells #[x] t)).ownsRow base t 1 (.slice (some ⟨w.heap.size, 0, none⟩) 1 1) 1 [x] :=
  ⟨rfl, .inr ⟨w.heap.size, 1, #[x], rfl, hb, heap_alloc_new w _, Nat.le_refl _, by decide, rfl, rfl⟩⟩

theorem bits_news {w : World} {g t : Nat} {R : Nat → Bool} (h : Bits w (some ⟨g, 0, none⟩) g 0 t R) : ∀ j u, (bl R t)[j]? = some u → w.cell? ((⟨g, 0, none⟩ : Addr).add j) = some u := by
  intro j u hu
  have hj : j < t := by have := (List.getElem?_eq_some_iff.1 hu).1; rwa [bl_len] at this
  rw [bl_get R t j hj] at hu
  rw [Addr.add_lit, (h j hj).2]; exact hu

theorem bl_one (R : Nat → Bool) (t : Nat) : ∀ u ∈ bl R t, u.oneCell' = true := by
  intro u hu
  obtain ⟨_, _, rfl⟩ := List.mem_map.1 hu
  rfl

theorem cmpN_nonneg {x y : Nat} (h : y ≤ x) : 0 ≤ cmpN x y := by unfold cmpN; split <;> (try split) <;> omega
theorem cmpN_neg {x y : Nat} (h : x < y) : cmpN x y < 0 := by rw [cmpN_lt h]; decide

set_option maxHeartbeats 6400000 in
set_option maxRecDepth 100000 in
theorem l1DivBits_any (a a' : Option Addr) (b off n cap b' off' m cap' : Nat) (A B : Nat → Bool) (w : World) (hn : n ≤ 134217728) (hm : m ≤ 134217728) (hA : Bits w a b off n A) (hB : Bits w a' b' off' m B)
    (tB : 0 < m → B (m - 1) = true) (hD : 0 < bv B m) :
    Calls Tryd.prog 84 #[.slice a n cap, .slice a' m cap'] w fun e w' => ∃ gq tq cq Q gr tr cr R, e = .returned (.tuple #[.slice (some ⟨gq, 0, none⟩) tq cq, .slice (some ⟨gr, 0, none⟩) tr cr]) ∧
      tq ≤ cq ∧ tq ≤ n ∧ tr ≤ cr ∧ tr ≤ n ∧ Bits w' (some ⟨gq, 0, none⟩) gq 0 tq Q ∧ Bits w' (some ⟨gr, 0, none⟩) gr 0 tr R ∧ w.heap.size ≤ gq ∧ w.heap.size ≤ gr ∧
      (0 < tq → Q (tq - 1) = true) ∧ (0 < tr → R (tr - 1) = true) ∧ bv Q tq = bv A n / bv B m ∧ bv R tr = bv A n % bv B m ∧ w.Since w.heap.size w' := by
  obtain ⟨i0, hi, hz0, hz1, hz2⟩ := info_parts Tryd.info4
  have hmk := run_make_row' (P := Tryd.prog) 51 4 (.bool false) 1 Tryd.underlying51 Tryd.info4 rfl .i64 .i64 n (by omega) (by omega)
  have HT := hide tB
  have HD := hide hD
  clear tB hD
  go_enter Tryd.func84, Tryd.ntmps84
  go_wp2
  clear hmk
  go_loopw [7, 8] (fun v q wr => ∃ (k : Nat) (z : Int) (Q R : Nat → Bool) (g t c : Nat), k ≤ n ∧ q = .int .i64 z ∧ v = .slice (some ⟨g, 0, none⟩) t c ∧ Hid (z = k - 1) ∧ t ≤ c ∧ t ≤ n - k ∧ w.heap.size < g ∧
      Bits wr (some ⟨g, 0, none⟩) g 0 t R ∧ Hid (0 < t → R (t - 1) = true) ∧ Hid (DivRel A Q n k (bv B m) (bv R t)) ∧ w.Since w.heap.size wr ∧ wr.rowIs w.heap.size 4 n (fun j => .bool (Q j))) (fun _ q _ => (intOf q + 1).toNat)
  case atStart =>
    refine ⟨n, (n : Int) - 1, fun _ => false, fun _ => false, w.heap.size + 1, 0, 0, Nat.le_refl _, rfl, rfl, rfl, Nat.le_refl _, Nat.zero_le _, by omega, fun j hj => absurd hj (by omega), fun h => absurd h (by omega), divRel_start A n _ HD.out,
      ((World.Since.refl _ _).alloc (Nat.le_refl _) _).alloc (by simp) _, (World.rowIs_made w _ n 4).alloc _⟩
  case round =>
    obtain ⟨k, z, Q, R, g, t, c, hk, rfl, rfl, HZ, htc, htn, hg, hR, HRt, HR, hs, hq⟩ := hrel
    by_cases hz : 0 ≤ z
    · obtain ⟨i, rfl⟩ := Int.eq_ofNat_of_zero_le hz
      have hki : k = i + 1 := by have := HZ.out; omega
      subst hki
      clear HZ
      obtain ⟨rfl, hc⟩ := hA i (by omega)
      have g0 : wr.cell? ⟨b, off + i, none⟩ = some (.bool (A i)) := by rw [hs.cell (a := ⟨b, off + i, none⟩) (hA.lt (by omega))]; exact hc
      clear hc
      obtain ⟨x, hx⟩ : ∃ x, x = A i := ⟨_, rfl⟩
      rw [← hx] at g0
      have HX : Hid (A i = x) := hx.symm
      clear hx
      have hsz := hs.size
      have hqlt := hq.lt
      have hR1 : Bits (wr.alloc (.cells #[.bool x] 4)) (some ⟨g, 0, none⟩) g 0 t R := hR.keep ((World.Since.refl _ _).alloc (Nat.le_refl _) _)
      go_wp2_with (at_builtin; refine wpList_append_own _ rfl _ _ 51 rfl (w.heap.size + 1) 4 i0 (.bool false) 1 1 Tryd.underlying51 hi hz0 hz1 hz2 rfl (by decide) _ _ _ rfl (own_one _ _ _ _ (by omega)) ⟨g, 0, none⟩ t c (bl R t) rfl (by rw [bl_len]; omega) (bits_news hR1) (bl_one R t) (by unfold maxLen; omega) (by omega) (by simp; omega) ?_)
      intro v' w1 hown' hgrow hnn
      have hsw : wr.Since wr.heap.size w1 := ((World.Since.refl _ _).alloc (Nat.le_refl _) _).grown hgrow (by simp) (fun k hk => by simp [Value.ownBlock] at hk; omega)
      have e1 : Value.bool x :: bl R t = bl (push x R) (t + 1) := (bl_push x R t).symm
      rw [e1, Nat.add_comm 1 t] at hown'
      obtain ⟨g1, cap1, rfl, hmc1, hg1, hP⟩ := own_bits_some hown' hnn
      have hs1 : w.Since w.heap.size w1 := hs.trans (sinceMono hsw hs.size)
      have hq1 : w1.rowIs w.heap.size 4 n (fun j => .bool (Q j)) := hq.of_block (hsw.block _ hqlt)
      have HV := hide (bv_push x R t)
      clear hown' hgrow hnn hsw e1 hs hq g0 hR hR1
      obtain ⟨P, hPd⟩ : ∃ P, P = push x R := ⟨_, rfl⟩
      rw [← hPd] at hP HV
      clear hPd
      go_wp2_with fail
      refine (l1Trim_any _ g1 0 (t + 1) cap1 P _ (by omega) hmc1 hP).mono ?_
      rintro e w2 ⟨rfl, rfl⟩
      have htl := tlen_le P (t + 1)
      have HTop := hide (tlen_top P (t + 1))
      have HV2 : Hid (bv P (tlen P (t + 1)) = x.toNat + 2 * bv R t) := (bv_tlen P (t + 1)).trans HV.out
      have hP := hP.take htl
      generalize tlen P (t + 1) = t1 at *
      have hB1 := hB.keep hs1
      go_wp2_with fail
      refine (l1CmpBits_any _ a' g1 0 t1 cap1 b' off' m cap' P B _ (by omega) (by omega) hP hB1 HTop.out HT.out).mono ?_
      rintro e w3 ⟨rfl, s3⟩
      have hP := hP.same s3
      have hB1 := hB1.same s3
      have hs3 : w.Since w.heap.size w3 := hs1.trans (s3.since _)
      have hq3 : w3.rowIs w.heap.size 4 n (fun j => .bool (Q j)) := hq1.of_block (by rw [s3.heap])
      clear s3 hs1 hq1
      by_cases hge : bv B m ≤ bv P t1
      · have hc := cmpN_nonneg hge
        have HG := hide hge
        have hlen := bv_len HT.out hge
        clear hge
        generalize cmpN (bv P t1) (bv B m) = z at *
        go_wp2_with fail
        refine (l1SubBits_any _ a' g1 0 t1 cap1 b' off' m cap' P B _ (by omega) hlen hP hB1 HG.out).mono ?_
        rintro e w4 ⟨g4, t4, c4, D, rfl, k1, k2, hD4, k3, k4, k5, hs4⟩
        have HDt := hide k4
        have HDv : Hid (DivRel A (upd Q i true) n i (bv B m) (bv D t4)) := by
          have := divRel_one HR.out (by omega) (by have := HG.out; rw [HV2.out] at this; rw [HX.out]; exact this)
          rw [HX.out, ← HV2.out, ← k5] at this
          exact this
        clear k4 k5 HR HV HV2 HRt
        have hsz3 := hs3.size
        have hs5 : w.Since w.heap.size w4 := hs3.trans (sinceMono hs4 hsz3)
        have hq4 : w4.rowIs w.heap.size 4 n (fun j => .bool (Q j)) := hq3.of_block (hs4.block _ hq3.lt)
        have q1 := hq4.cell (i := i) (by omega)
        have q2 := hq4.frozen i
        have hq3l := hq3.lt
        have hni : (i : Int) < (n : Int) := by omega
        clear hs4 hs3 hq3
        go_wp2
        go_roundw
        case rel =>
          go_light
          refine ⟨i, (i : Int) - 1, upd Q i true, D, g4, t4, c4, by omega, by go_num, rfl, rfl, k1, by omega, by omega, ?_, HDt, HDv, hs5.setCell (Nat.le_refl _) _, (hq4.set i _).congr (fun j _ => ?_)⟩
          · intro j hj
            refine ⟨rfl, ?_⟩
            rw [World.cell?_setCell_other _ _ _ _ (fun h => by have := congrArg Addr.block h; simp at this; omega)]
            exact (hD4 j hj).2
          · by_cases e : j = i <;> simp [upd, e]
        case measure => simp [intOf]
      · have hc := cmpN_neg (Nat.lt_of_not_le hge)
        have HDv : Hid (DivRel A Q n i (bv B m) (bv P t1)) := by
          have := divRel_nought HR.out (by omega) (by rw [HV2.out] at hge; rw [HX.out]; omega)
          rw [HX.out, ← HV2.out] at this
          exact this
        clear hge HR HV HV2 HRt
        generalize cmpN (bv P t1) (bv B m) = z at *
        go_wp2
        go_roundw
        case rel => exact ⟨i, (i : Int) - 1, Q, P, g1, t1, cap1, by omega, by go_num, rfl, rfl, by omega, by omega, by omega, hP, HTop, HDv, hs3, hq3⟩
        case measure => simp [intOf]
    · have hk0 : k = 0 := by have := HZ.out; omega
      subst hk0
      go_wp2_with fail
      refine (l1Trim_any _ w.heap.size 0 n n Q _ (by omega) (Nat.le_refl _) (bits_row hq)).mono ?_
      rintro e w1 ⟨rfl, rfl⟩
      go_wp2
      go_ret2
      have htl := tlen_le Q n
      obtain ⟨v1, v2⟩ := divRel_end HR.out
      exact ⟨w.heap.size, _, _, Q, g, t, c, R, rfl, htl, htl, htc, by omega, (bits_row hq).take htl, hR, Nat.le_refl _, by omega, fun h => tlen_top _ _ h, HRt.out, (bv_tlen _ _).trans v1, v2, hs⟩

end Go.Proofs.YtabemlkdpgglaaaDoor

namespace Go.Proofs.YtabemlkdpgglaaaDoor
open Go.RowKit

theorem pow2_unique {a b p q : Nat} (h : 2 ^ a * (2 * p + 1) = 2 ^ b * (2 * q + 1)) : a = b := by
  rcases Nat.lt_trichotomy a b with hl | he | hl
  · exfalso
    rw [show b = a + (b - a - 1 + 1) by omega, Nat.pow_add, Nat.mul_assoc] at h
    have h2 := Nat.eq_of_mul_eq_mul_left (Nat.pow_pos (by omega)) h
    rw [Nat.pow_succ, Nat.mul_comm (2 ^ (b - a - 1)) 2, Nat.mul_assoc] at h2
    omega
  · exact he
  · exfalso
    rw [show a = b + (a - b - 1 + 1) by omega, Nat.pow_add, Nat.mul_assoc] at h
    have h2 := Nat.eq_of_mul_eq_mul_left (Nat.pow_pos (by omega)) h
    rw [Nat.pow_succ, Nat.mul_comm (2 ^ (a - b - 1)) 2, Nat.mul_assoc] at h2
    omega

set_option maxHeartbeats 6400000 in
set_option maxRecDepth 100000 in
theorem becomeGcd_any (base c d gn gm : Nat) (an am : Option Addr) (n m cn cm : Nat) (X Y : Nat → Nat) (w0 w : World) (hb : 0 < base) (hn : n ≤ 1048576) (hm : m ≤ 1048576) (hG : Gd base w0 w c d gn gm an am n m cn cm X Y) (hT : Tab w0) :
    Calls Tryd.prog 69 #[.pointer (some ⟨c, 0, none⟩), .pointer (some ⟨d, 0, none⟩)] w fun e w' => e = .returned (.tuple #[]) ∧ ∃ a g k cp Z, w'.cell? ⟨c, 0, none⟩ = some (.slice a k cp) ∧ k ≤ cp ∧ k ≤ 4194304 ∧ (a = none → cp = 0) ∧ Limbs w' a g 0 k Z ∧ (0 < k → ∀ x, w'.frozen? ⟨g, x, none⟩ = false) ∧
      (∀ j, j < k → Z j < 4294967296) ∧ (0 < k → Z (k - 1) ≠ 0) ∧ lv Z k = Nat.gcd (lv X n) (lv Y m) ∧ base ≤ g ∧ w0.Since base w' := by
  obtain ⟨G, hGe⟩ : ∃ G, G = Nat.gcd (lv X n) (lv Y m) := ⟨_, rfl⟩
  have HG := hide hGe
  rw [← hGe]
  clear hGe
  have b1 := hG.bC
  have b2 := hG.bD
  go_enter Tryd.func69, Tryd.ntmps69
  go_wp2_with fail
  refine (compare_any c 0 an am gn 0 n cn gm 0 m cm X Y _ (by omega) (by omega) b1 hG.LX hG.LY hG.lX hG.lY hG.pX hG.pY).mono ?_
  rintro e w2 ⟨rfl, s2⟩
  have hG := hG.same s2
  clear s2 b1 b2
  have b1 := hG.bC
  have b2 := hG.bD
  by_cases hlt : lv X n < lv Y m
  · have hci := cmpN_neg hlt
    have HG' : Hid (G = Nat.gcd (lv Y m) (lv X n)) := by rw [Nat.gcd_comm]; exact HG
    clear hlt HG
    generalize cmpN (lv X n) (lv Y m) = z at *
    have f1 := hG.fC
    have f2 := hG.fD
    have d1 := hG.d1
    have hG := hG.swap.same (Same.refl _).drew
    go_wp2
    go_region
    clear b1 b2 f1 f2 d1
    generalize ((w2.setCell ⟨c, 0, none⟩ (.slice am m cm)).setCell ⟨d, 0, none⟩ (.slice an n cn)).drew = w4 at *
    obtain ⟨X', e0⟩ : ∃ x, x = Y := ⟨_, rfl⟩
    obtain ⟨Y', e1⟩ : ∃ x, x = X := ⟨_, rfl⟩
    obtain ⟨n', e2⟩ : ∃ x, x = m := ⟨_, rfl⟩
    obtain ⟨m', e3⟩ : ∃ x, x = n := ⟨_, rfl⟩
    obtain ⟨an', e4⟩ : ∃ x, x = am := ⟨_, rfl⟩
    obtain ⟨am', e5⟩ : ∃ x, x = an := ⟨_, rfl⟩
    obtain ⟨gn', e6⟩ : ∃ x, x = gm := ⟨_, rfl⟩
    obtain ⟨gm', e7⟩ : ∃ x, x = gn := ⟨_, rfl⟩
    obtain ⟨cn', e8⟩ : ∃ x, x = cm := ⟨_, rfl⟩
    obtain ⟨cm', e9⟩ : ∃ x, x = cn := ⟨_, rfl⟩
    subst e0 e1 e2 e3 e4 e5 e6 e7 e8 e9
    -- the first is the greater
    have g1 := hG.bC
    have g2 := hG.bD
    go_wp2_with fail
    refine (isZero_any d 0 _ m' cm' _ g2).mono ?_
    rintro e w5 ⟨rfl, hw5⟩
    rw [hw5]
    clear hw5
    by_cases hz : m' = 0
    · subst hz
      have HGv : Hid (lv X' n' = G) := by have h := HG'.out; rw [show lv Y' 0 = 0 from rfl, Nat.gcd_zero_right] at h; exact h.symm
      go_wp2
      refine bodyPost_ret (results_none rfl _ _ _) rfl ?_
      exact ⟨rfl, an', gn', n', cn', X', hG.bC, hG.nX, by omega, hG.oX, hG.LX, hG.FX, hG.lX, hG.pX, HGv.out, hG.hn, hG.S⟩
    · have hne : ((m' : Int) == 0) = false := by simp; omega
      have hm1 : 0 < m' := by omega
      have hYp : 0 < lv Y' m' := by
        have := lv_ge Y' m' hm1 (hG.pY hm1)
        have := Nat.pow_pos (n := 32 * (m' - 1)) (show 0 < 2 by omega)
        omega
      have HYp := hide hYp
      clear hYp hz
      have zC : c < w4.heap.size := World.block_lt_of_cell? _ _ hG.bC
      have zD : d < w4.heap.size := World.block_lt_of_cell? _ _ hG.bD
      have zM : gm' < w4.heap.size := hG.LY.lt hm1
      go_wp2_with fail
      refine (divideBy_any c 0 an' am' gn' n' cn' gm' m' cm' X' Y' _ (by omega) hG.nX hG.oX hm1 (by omega) g1 hG.fC hG.LX hG.LY hG.lX hG.lY hG.FX (Ne.symm hG.d3) hG.LX.lt hG.pX (hG.pY hm1)).mono ?_
      rintro e w5 ⟨vq, vr, gq, gr, rfl, k1, -, ⟨ar, nr, cr, R, rfl, r1, r2, r3, r4, r5, r6, r7, r8⟩, -, k5, -, -, k8, fr⟩
      have hbw : base ≤ w4.heap.size := by have := hG.hc; omega
      have hgr : base ≤ gr := by rcases k5 with h | h; (rw [h]; exact hG.hn); omega
      have hgm : gr ≠ gm' := by rcases k5 with h | h; (rw [h]; exact hG.d2); omega
      have hgd : gr ≠ d := by rcases k5 with h | h; (rw [h]; exact hG.d4); omega
      have S5 : w0.Since base w5 := ⟨fr.os.trans hG.S.os, fr.tape.trans hG.S.tape, fr.output.trans hG.S.output, Nat.le_trans hG.S.size fr.size, fun k hk => (fr.block k (by omega) (by have := hG.hc; omega) (by have := hG.hn; omega)).trans (hG.S.block k hk)⟩
      have eD := fr.block d zD (Ne.symm hG.d1) (Ne.symm hG.d4)
      have eM := fr.block gm' zM hG.d5 (Ne.symm hG.d2)
      have G5 : Gd base w0 w5 c d gr gm' ar am' nr m' cr cm' R Y' := ⟨S5, k1, (World.cell?_of_block (w := w4) (a := ⟨d, 0, none⟩) eD).trans hG.bD, by rw [fr.frozen]; exact hG.fC, (World.frozen?_of_block (w := w4) (a := ⟨d, 0, none⟩) eD).trans hG.fD,
        r4, fun j hj => ⟨(hG.LY j hj).1, (World.cell?_of_block (w := w4) (a := ⟨gm', 0 + j, none⟩) eM).trans (hG.LY j hj).2⟩, r5, fun h x => (World.frozen?_of_block (w := w4) (a := ⟨gm', x, none⟩) eM).trans (hG.FY h x), r1, hG.nY, r3, hG.oY, r6, hG.lY, r7, hG.pY,
        hG.hc, hG.hd, hgr, hG.hm, hG.d1, hgm, k8, hgd, hG.d5, hG.d6⟩
      have HR := hide r8
      have HG5 : Hid (G = Nat.gcd (lv R nr) (lv Y' m')) := by have h := HG'.out; rw [Nat.gcd_comm, Nat.gcd_rec, ← r8] at h; exact h
      clear k1 r1 r3 r4 r5 r6 r7 r8 k5 k8 fr S5 eD eM hG HG' g1 g2
      have g1 := G5.bC
      have g2 := G5.bD
      go_wp2_with fail
      refine (isZero_any c 0 _ nr cr _ g1).mono ?_
      rintro e w6 ⟨rfl, hw6⟩
      rw [hw6]
      clear hw6
      by_cases hz : nr = 0
      · subst hz
        have HGv : Hid (lv Y' m' = G) := by have h := HG5.out; rw [show lv R 0 = 0 from rfl, Nat.gcd_zero_left] at h; exact h.symm
        have f1 := G5.fC
        go_wp2
        refine bodyPost_ret (results_none rfl _ _ _) rfl ?_
        exact ⟨rfl, am', gm', m', cm', Y', World.cell?_setCell_same _ _ _ G5.bC, G5.nY, by omega, G5.oY, G5.LY.setOther (Ne.symm G5.d5) _, fun h x => by simp [G5.FY h x], G5.lY, G5.pY, HGv.out, G5.hm, G5.S.setCell G5.hc _⟩
      · have hne2 : ((nr : Int) == 0) = false := by simp; omega
        have hn1 : 0 < nr := by omega
        have hRp : 0 < lv R nr := by
          have := lv_ge R nr hn1 (G5.pX hn1)
          have := Nat.pow_pos (n := 32 * (nr - 1)) (show 0 < 2 by omega)
          omega
        have HRp := hide hRp
        clear hRp hz
        go_wp2_with fail
        refine (twos_any c 0 ar gr 0 nr cr R _ (by omega) g1 G5.LX G5.lX HRp.out (hT.since G5.S hb)).mono ?_
        rintro e w7 ⟨i1, s1, q1, rfl, hw7, hi1, hs1, hv1⟩
        rw [hw7]
        clear hw7
        have HV1 := hide hv1
        clear hv1
        go_wp2_with fail
        refine (twos_any d 0 am' gm' 0 m' cm' Y' _ (by omega) g2 G5.LY G5.lY HYp.out (hT.since G5.S hb)).mono ?_
        rintro e w7 ⟨i2, s2, q2, rfl, hw7, hi2, hs2, hv2⟩
        rw [hw7]
        clear hw7
        have HV2 := hide hv2
        clear hv2
        have ear := limbs_some G5.LX hn1
        subst ear
        have eam := limbs_some G5.LY hm1
        subst eam
        by_cases hmin : 32 * i1 + s1 ≤ 32 * i2 + s2
        · have hmi : (32 : Int) * (i1 : Int) + (s1 : Int) ≤ 32 * (i2 : Int) + (s2 : Int) := by omega
          go_wp2_with fail
          refine (twos_any c 0 _ gr 0 nr cr R _ (by omega) g1 G5.LX G5.lX HRp.out (hT.since G5.S hb)).mono ?_
          rintro e w7 ⟨i3, s3, q3, rfl, hw7, hi3, hs3, hv3⟩
          rw [hw7]
          clear hw7
          have HV3 := hide hv3
          clear hv3
          go_wp2_with fail
          try rw [show (32 : Int) * (i3 : Int) + (s3 : Int) = ((32 * i3 + s3 : Nat) : Int) by omega]
          refine (shiftRight_any c 0 gr nr cr i3 s3 R _ (by omega) G5.nX hi3 hs3 G5.LX G5.lX g1 G5.fC (G5.FX hn1) (Ne.symm G5.d3)).mono ?_
          rintro e w8 ⟨rfl, w9, S1, k1, mk9, L9, hk1, l9, v9, hw8⟩
          have G6 := G5.setC mk9 L9 hk1 l9
          rw [← hw8] at G6
          have HO1 : Hid (lv S1 (tlen (nz S1) k1) = 2 * q3 + 1) := by show _ = _; rw [lv_tlen, v9, HV3.out, Nat.mul_div_cancel_left _ (Nat.pow_pos (by omega))]
          have t1 := tlen_le (nz S1) k1
          clear hw8 mk9 L9 l9 v9 G5 g1 g2
          have g1 := G6.bC
          have g2 := G6.bD
          go_wp2_with fail
          refine (twos_any d 0 _ gm' 0 m' cm' Y' _ (by omega) g2 G6.LY G6.lY HYp.out (hT.since G6.S hb)).mono ?_
          rintro e w9 ⟨i4, s4, q4, rfl, hw9, hi4, hs4, hv4⟩
          rw [hw9]
          clear hw9
          have HV4 := hide hv4
          clear hv4
          go_wp2_with fail
          try rw [show (32 : Int) * (i4 : Int) + (s4 : Int) = ((32 * i4 + s4 : Nat) : Int) by omega]
          refine (shiftRight_any d 0 gm' m' cm' i4 s4 Y' _ (by omega) G6.nY hi4 hs4 G6.LY G6.lY g2 G6.fD (G6.FY hm1) (Ne.symm G6.d6)).mono ?_
          rintro e w10 ⟨rfl, w11, S2, k2, mk11, L11, hk2, l11, v11, hw10⟩
          have G7 := G6.setD mk11 L11 hk2 l11
          rw [← hw10] at G7
          have HO2 : Hid (lv S2 (tlen (nz S2) k2) = 2 * q4 + 1) := by show _ = _; rw [lv_tlen, v11, HV4.out, Nat.mul_div_cancel_left _ (Nat.pow_pos (by omega))]
          have t2 := tlen_le (nz S2) k2
          clear hw10 mk11 L11 l11 v11 G6 g1 g2
          go_wp2_with fail
          refine (becomeOddGcd_any base c d gr gm' _ _ _ _ _ _ S1 S2 w0 _ hb (by omega) (by omega) G7 (by rw [HO1.out]; omega) (by rw [HO2.out]; omega) hT).mono ?_
          rintro e w12 ⟨rfl, a5, g5, k5, c5, Z5, p1, p2, p3, p4, p5, p6, p7, p8, p9, p10, p11, p12, p13⟩
          have zc := World.block_lt_of_cell? _ _ p1
          have hfin : lv Z5 k5 * 2 ^ (32 * i1 + s1) = G := by
            have e1 : 32 * i3 + s3 = 32 * i1 + s1 := pow2_unique (HV3.out.symm.trans HV1.out)
            have e2 : 32 * i4 + s4 = 32 * i2 + s2 := pow2_unique (HV4.out.symm.trans HV2.out)
            have h := HG5.out
            rw [HV3.out, HV4.out, gcd_twos (by omega) (by omega), ← HO1.out, ← HO2.out, ← p9, e1, e2, show min (32 * i1 + s1) (32 * i2 + s2) = 32 * i1 + s1 by omega, Nat.mul_comm] at h
            exact h.symm
          have HF := hide hfin
          have hbc := G7.hc
          clear p9 hfin G7
          go_wp2_with fail
          try rw [show (32 : Int) * (i1 : Int) + (s1 : Int) = ((32 * i1 + s1 : Nat) : Int) by omega]
          refine (shiftLeft_any c 0 a5 g5 0 k5 c5 i1 s1 Z5 _ (by omega) (by omega) (by omega) p5 p7 p1 p12).mono ?_
          rintro e w13 ⟨rfl, w14, S4, s14, r14, l14, v14, hw13⟩
          have zc2 : c < w12.heap.size := zc
          have q1 : w14.cell? ⟨c, 0, none⟩ = some (.slice a5 k5 c5) := by rw [s14.cell (a := ⟨c, 0, none⟩) zc]; exact p1
          have S13 : w0.Since base w13 := by rw [hw13]; exact (p13.trans (sinceMono s14 (by omega))).setCell hbc _
          have C13 : w13.cell? ⟨c, 0, none⟩ = some (.slice (some ⟨w12.heap.size, 0, none⟩) (tlen (nz S4) (k5 + i1 + 1)) (k5 + i1 + 1)) := by rw [hw13]; exact World.cell?_setCell_same _ _ _ q1
          have R13 : w13.rowIs w12.heap.size 58 (k5 + i1 + 1) (fun j => .int .u32 (S4 j : Nat)) := by rw [hw13]; exact r14.setOther (by show w12.heap.size ≠ c; omega) _
          have HV := hide (v14.trans HF.out)
          clear hw13 v14 q1 r14 s14 p1 p5 p13
          go_wp2
          go_end0
          have t3 := tlen_le (nz S4) (k5 + i1 + 1)
          refine ⟨rfl, _, w12.heap.size, _, _, S4, C13, t3, by omega, fun h => (by cases h), (limbs_row R13).take t3, fun _ x => R13.frozen x, fun j _ => l14 j, fun h => ?_, (lv_tlen _ _).trans HV.out, by omega, S13⟩
          have := tlen_top _ _ h; simpa [nz] using this
        · have hmi : (32 : Int) * (i2 : Int) + (s2 : Int) < 32 * (i1 : Int) + (s1 : Int) := by omega
          go_wp2_with fail
          refine (twos_any c 0 _ gr 0 nr cr R _ (by omega) g1 G5.LX G5.lX HRp.out (hT.since G5.S hb)).mono ?_
          rintro e w7 ⟨i3, s3, q3, rfl, hw7, hi3, hs3, hv3⟩
          rw [hw7]
          clear hw7
          have HV3 := hide hv3
          clear hv3
          go_wp2_with fail
          try rw [show (32 : Int) * (i3 : Int) + (s3 : Int) = ((32 * i3 + s3 : Nat) : Int) by omega]
          refine (shiftRight_any c 0 gr nr cr i3 s3 R _ (by omega) G5.nX hi3 hs3 G5.LX G5.lX g1 G5.fC (G5.FX hn1) (Ne.symm G5.d3)).mono ?_
          rintro e w8 ⟨rfl, w9, S1, k1, mk9, L9, hk1, l9, v9, hw8⟩
          have G6 := G5.setC mk9 L9 hk1 l9
          rw [← hw8] at G6
          have HO1 : Hid (lv S1 (tlen (nz S1) k1) = 2 * q3 + 1) := by show _ = _; rw [lv_tlen, v9, HV3.out, Nat.mul_div_cancel_left _ (Nat.pow_pos (by omega))]
          have t1 := tlen_le (nz S1) k1
          clear hw8 mk9 L9 l9 v9 G5 g1 g2
          have g1 := G6.bC
          have g2 := G6.bD
          go_wp2_with fail
          refine (twos_any d 0 _ gm' 0 m' cm' Y' _ (by omega) g2 G6.LY G6.lY HYp.out (hT.since G6.S hb)).mono ?_
          rintro e w9 ⟨i4, s4, q4, rfl, hw9, hi4, hs4, hv4⟩
          rw [hw9]
          clear hw9
          have HV4 := hide hv4
          clear hv4
          go_wp2_with fail
          try rw [show (32 : Int) * (i4 : Int) + (s4 : Int) = ((32 * i4 + s4 : Nat) : Int) by omega]
          refine (shiftRight_any d 0 gm' m' cm' i4 s4 Y' _ (by omega) G6.nY hi4 hs4 G6.LY G6.lY g2 G6.fD (G6.FY hm1) (Ne.symm G6.d6)).mono ?_
          rintro e w10 ⟨rfl, w11, S2, k2, mk11, L11, hk2, l11, v11, hw10⟩
          have G7 := G6.setD mk11 L11 hk2 l11
          rw [← hw10] at G7
          have HO2 : Hid (lv S2 (tlen (nz S2) k2) = 2 * q4 + 1) := by show _ = _; rw [lv_tlen, v11, HV4.out, Nat.mul_div_cancel_left _ (Nat.pow_pos (by omega))]
          have t2 := tlen_le (nz S2) k2
          clear hw10 mk11 L11 l11 v11 G6 g1 g2
          go_wp2_with fail
          refine (becomeOddGcd_any base c d gr gm' _ _ _ _ _ _ S1 S2 w0 _ hb (by omega) (by omega) G7 (by rw [HO1.out]; omega) (by rw [HO2.out]; omega) hT).mono ?_
          rintro e w12 ⟨rfl, a5, g5, k5, c5, Z5, p1, p2, p3, p4, p5, p6, p7, p8, p9, p10, p11, p12, p13⟩
          have zc := World.block_lt_of_cell? _ _ p1
          have hfin : lv Z5 k5 * 2 ^ (32 * i2 + s2) = G := by
            have e1 : 32 * i3 + s3 = 32 * i1 + s1 := pow2_unique (HV3.out.symm.trans HV1.out)
            have e2 : 32 * i4 + s4 = 32 * i2 + s2 := pow2_unique (HV4.out.symm.trans HV2.out)
            have h := HG5.out
            rw [HV3.out, HV4.out, gcd_twos (by omega) (by omega), ← HO1.out, ← HO2.out, ← p9, e1, e2, show min (32 * i1 + s1) (32 * i2 + s2) = 32 * i2 + s2 by omega, Nat.mul_comm] at h
            exact h.symm
          have HF := hide hfin
          have hbc := G7.hc
          clear p9 hfin G7
          go_wp2_with fail
          try rw [show (32 : Int) * (i2 : Int) + (s2 : Int) = ((32 * i2 + s2 : Nat) : Int) by omega]
          refine (shiftLeft_any c 0 a5 g5 0 k5 c5 i2 s2 Z5 _ (by omega) (by omega) (by omega) p5 p7 p1 p12).mono ?_
          rintro e w13 ⟨rfl, w14, S4, s14, r14, l14, v14, hw13⟩
          have zc2 : c < w12.heap.size := zc
          have q1 : w14.cell? ⟨c, 0, none⟩ = some (.slice a5 k5 c5) := by rw [s14.cell (a := ⟨c, 0, none⟩) zc]; exact p1
          have S13 : w0.Since base w13 := by rw [hw13]; exact (p13.trans (sinceMono s14 (by omega))).setCell hbc _
          have C13 : w13.cell? ⟨c, 0, none⟩ = some (.slice (some ⟨w12.heap.size, 0, none⟩) (tlen (nz S4) (k5 + i2 + 1)) (k5 + i2 + 1)) := by rw [hw13]; exact World.cell?_setCell_same _ _ _ q1
          have R13 : w13.rowIs w12.heap.size 58 (k5 + i2 + 1) (fun j => .int .u32 (S4 j : Nat)) := by rw [hw13]; exact r14.setOther (by show w12.heap.size ≠ c; omega) _
          have HV := hide (v14.trans HF.out)
          clear hw13 v14 q1 r14 s14 p1 p5 p13
          go_wp2
          go_end0
          have t3 := tlen_le (nz S4) (k5 + i2 + 1)
          refine ⟨rfl, _, w12.heap.size, _, _, S4, C13, t3, by omega, fun h => (by cases h), (limbs_row R13).take t3, fun _ x => R13.frozen x, fun j _ => l14 j, fun h => ?_, (lv_tlen _ _).trans HV.out, by omega, S13⟩
          have := tlen_top _ _ h; simpa [nz] using this
  · have hci := cmpN_nonneg (Nat.le_of_not_lt hlt)
    have HG' := HG
    clear hlt HG
    generalize cmpN (lv X n) (lv Y m) = z at *
    clear b1 b2
    obtain ⟨w4, ew⟩ : ∃ x, x = w2 := ⟨_, rfl⟩
    subst ew
    obtain ⟨X', e0⟩ : ∃ x, x = X := ⟨_, rfl⟩
    obtain ⟨Y', e1⟩ : ∃ x, x = Y := ⟨_, rfl⟩
    obtain ⟨n', e2⟩ : ∃ x, x = n := ⟨_, rfl⟩
    obtain ⟨m', e3⟩ : ∃ x, x = m := ⟨_, rfl⟩
    obtain ⟨an', e4⟩ : ∃ x, x = an := ⟨_, rfl⟩
    obtain ⟨am', e5⟩ : ∃ x, x = am := ⟨_, rfl⟩
    obtain ⟨gn', e6⟩ : ∃ x, x = gn := ⟨_, rfl⟩
    obtain ⟨gm', e7⟩ : ∃ x, x = gm := ⟨_, rfl⟩
    obtain ⟨cn', e8⟩ : ∃ x, x = cn := ⟨_, rfl⟩
    obtain ⟨cm', e9⟩ : ∃ x, x = cm := ⟨_, rfl⟩
    subst e0 e1 e2 e3 e4 e5 e6 e7 e8 e9
    -- the first is the greater
    have g1 := hG.bC
    have g2 := hG.bD
    go_wp2_with fail
    refine (isZero_any d 0 _ m' cm' _ g2).mono ?_
    rintro e w5 ⟨rfl, hw5⟩
    rw [hw5]
    clear hw5
    by_cases hz : m' = 0
    · subst hz
      have HGv : Hid (lv X' n' = G) := by have h := HG'.out; rw [show lv Y' 0 = 0 from rfl, Nat.gcd_zero_right] at h; exact h.symm
      go_wp2
      refine bodyPost_ret (results_none rfl _ _ _) rfl ?_
      exact ⟨rfl, an', gn', n', cn', X', hG.bC, hG.nX, by omega, hG.oX, hG.LX, hG.FX, hG.lX, hG.pX, HGv.out, hG.hn, hG.S⟩
    · have hne : ((m' : Int) == 0) = false := by simp; omega
      have hm1 : 0 < m' := by omega
      have hYp : 0 < lv Y' m' := by
        have := lv_ge Y' m' hm1 (hG.pY hm1)
        have := Nat.pow_pos (n := 32 * (m' - 1)) (show 0 < 2 by omega)
        omega
      have HYp := hide hYp
      clear hYp hz
      have zC : c < w4.heap.size := World.block_lt_of_cell? _ _ hG.bC
      have zD : d < w4.heap.size := World.block_lt_of_cell? _ _ hG.bD
      have zM : gm' < w4.heap.size := hG.LY.lt hm1
      go_wp2_with fail
      refine (divideBy_any c 0 an' am' gn' n' cn' gm' m' cm' X' Y' _ (by omega) hG.nX hG.oX hm1 (by omega) g1 hG.fC hG.LX hG.LY hG.lX hG.lY hG.FX (Ne.symm hG.d3) hG.LX.lt hG.pX (hG.pY hm1)).mono ?_
      rintro e w5 ⟨vq, vr, gq, gr, rfl, k1, -, ⟨ar, nr, cr, R, rfl, r1, r2, r3, r4, r5, r6, r7, r8⟩, -, k5, -, -, k8, fr⟩
      have hbw : base ≤ w4.heap.size := by have := hG.hc; omega
      have hgr : base ≤ gr := by rcases k5 with h | h; (rw [h]; exact hG.hn); omega
      have hgm : gr ≠ gm' := by rcases k5 with h | h; (rw [h]; exact hG.d2); omega
      have hgd : gr ≠ d := by rcases k5 with h | h; (rw [h]; exact hG.d4); omega
      have S5 : w0.Since base w5 := ⟨fr.os.trans hG.S.os, fr.tape.trans hG.S.tape, fr.output.trans hG.S.output, Nat.le_trans hG.S.size fr.size, fun k hk => (fr.block k (by omega) (by have := hG.hc; omega) (by have := hG.hn; omega)).trans (hG.S.block k hk)⟩
      have eD := fr.block d zD (Ne.symm hG.d1) (Ne.symm hG.d4)
      have eM := fr.block gm' zM hG.d5 (Ne.symm hG.d2)
      have G5 : Gd base w0 w5 c d gr gm' ar am' nr m' cr cm' R Y' := ⟨S5, k1, (World.cell?_of_block (w := w4) (a := ⟨d, 0, none⟩) eD).trans hG.bD, by rw [fr.frozen]; exact hG.fC, (World.frozen?_of_block (w := w4) (a := ⟨d, 0, none⟩) eD).trans hG.fD,
        r4, fun j hj => ⟨(hG.LY j hj).1, (World.cell?_of_block (w := w4) (a := ⟨gm', 0 + j, none⟩) eM).trans (hG.LY j hj).2⟩, r5, fun h x => (World.frozen?_of_block (w := w4) (a := ⟨gm', x, none⟩) eM).trans (hG.FY h x), r1, hG.nY, r3, hG.oY, r6, hG.lY, r7, hG.pY,
        hG.hc, hG.hd, hgr, hG.hm, hG.d1, hgm, k8, hgd, hG.d5, hG.d6⟩
      have HR := hide r8
      have HG5 : Hid (G = Nat.gcd (lv R nr) (lv Y' m')) := by have h := HG'.out; rw [Nat.gcd_comm, Nat.gcd_rec, ← r8] at h; exact h
      clear k1 r1 r3 r4 r5 r6 r7 r8 k5 k8 fr S5 eD eM hG HG' g1 g2
      have g1 := G5.bC
      have g2 := G5.bD
      go_wp2_with fail
      refine (isZero_any c 0 _ nr cr _ g1).mono ?_
      rintro e w6 ⟨rfl, hw6⟩
      rw [hw6]
      clear hw6
      by_cases hz : nr = 0
      · subst hz
        have HGv : Hid (lv Y' m' = G) := by have h := HG5.out; rw [show lv R 0 = 0 from rfl, Nat.gcd_zero_left] at h; exact h.symm
        have f1 := G5.fC
        go_wp2
        refine bodyPost_ret (results_none rfl _ _ _) rfl ?_
        exact ⟨rfl, am', gm', m', cm', Y', World.cell?_setCell_same _ _ _ G5.bC, G5.nY, by omega, G5.oY, G5.LY.setOther (Ne.symm G5.d5) _, fun h x => by simp [G5.FY h x], G5.lY, G5.pY, HGv.out, G5.hm, G5.S.setCell G5.hc _⟩
      · have hne2 : ((nr : Int) == 0) = false := by simp; omega
        have hn1 : 0 < nr := by omega
        have hRp : 0 < lv R nr := by
          have := lv_ge R nr hn1 (G5.pX hn1)
          have := Nat.pow_pos (n := 32 * (nr - 1)) (show 0 < 2 by omega)
          omega
        have HRp := hide hRp
        clear hRp hz
        go_wp2_with fail
        refine (twos_any c 0 ar gr 0 nr cr R _ (by omega) g1 G5.LX G5.lX HRp.out (hT.since G5.S hb)).mono ?_
        rintro e w7 ⟨i1, s1, q1, rfl, hw7, hi1, hs1, hv1⟩
        rw [hw7]
        clear hw7
        have HV1 := hide hv1
        clear hv1
        go_wp2_with fail
        refine (twos_any d 0 am' gm' 0 m' cm' Y' _ (by omega) g2 G5.LY G5.lY HYp.out (hT.since G5.S hb)).mono ?_
        rintro e w7 ⟨i2, s2, q2, rfl, hw7, hi2, hs2, hv2⟩
        rw [hw7]
        clear hw7
        have HV2 := hide hv2
        clear hv2
        have ear := limbs_some G5.LX hn1
        subst ear
        have eam := limbs_some G5.LY hm1
        subst eam
        by_cases hmin : 32 * i1 + s1 ≤ 32 * i2 + s2
        · have hmi : (32 : Int) * (i1 : Int) + (s1 : Int) ≤ 32 * (i2 : Int) + (s2 : Int) := by omega
          go_wp2_with fail
          refine (twos_any c 0 _ gr 0 nr cr R _ (by omega) g1 G5.LX G5.lX HRp.out (hT.since G5.S hb)).mono ?_
          rintro e w7 ⟨i3, s3, q3, rfl, hw7, hi3, hs3, hv3⟩
          rw [hw7]
          clear hw7
          have HV3 := hide hv3
          clear hv3
          go_wp2_with fail
          try rw [show (32 : Int) * (i3 : Int) + (s3 : Int) = ((32 * i3 + s3 : Nat) : Int) by omega]
          refine (shiftRight_any c 0 gr nr cr i3 s3 R _ (by omega) G5.nX hi3 hs3 G5.LX G5.lX g1 G5.fC (G5.FX hn1) (Ne.symm G5.d3)).mono ?_
          rintro e w8 ⟨rfl, w9, S1, k1, mk9, L9, hk1, l9, v9, hw8⟩
          have G6 := G5.setC mk9 L9 hk1 l9
          rw [← hw8] at G6
          have HO1 : Hid (lv S1 (tlen (nz S1) k1) = 2 * q3 + 1) := by show _ = _; rw [lv_tlen, v9, HV3.out, Nat.mul_div_cancel_left _ (Nat.pow_pos (by omega))]
          have t1 := tlen_le (nz S1) k1
          clear hw8 mk9 L9 l9 v9 G5 g1 g2
          have g1 := G6.bC
          have g2 := G6.bD
          go_wp2_with fail
          refine (twos_any d 0 _ gm' 0 m' cm' Y' _ (by omega) g2 G6.LY G6.lY HYp.out (hT.since G6.S hb)).mono ?_
          rintro e w9 ⟨i4, s4, q4, rfl, hw9, hi4, hs4, hv4⟩
          rw [hw9]
          clear hw9
          have HV4 := hide hv4
          clear hv4
          go_wp2_with fail
          try rw [show (32 : Int) * (i4 : Int) + (s4 : Int) = ((32 * i4 + s4 : Nat) : Int) by omega]
          refine (shiftRight_any d 0 gm' m' cm' i4 s4 Y' _ (by omega) G6.nY hi4 hs4 G6.LY G6.lY g2 G6.fD (G6.FY hm1) (Ne.symm G6.d6)).mono ?_
          rintro e w10 ⟨rfl, w11, S2, k2, mk11, L11, hk2, l11, v11, hw10⟩
          have G7 := G6.setD mk11 L11 hk2 l11
          rw [← hw10] at G7
          have HO2 : Hid (lv S2 (tlen (nz S2) k2) = 2 * q4 + 1) := by show _ = _; rw [lv_tlen, v11, HV4.out, Nat.mul_div_cancel_left _ (Nat.pow_pos (by omega))]
          have t2 := tlen_le (nz S2) k2
          clear hw10 mk11 L11 l11 v11 G6 g1 g2
          go_wp2_with fail
          refine (becomeOddGcd_any base c d gr gm' _ _ _ _ _ _ S1 S2 w0 _ hb (by omega) (by omega) G7 (by rw [HO1.out]; omega) (by rw [HO2.out]; omega) hT).mono ?_
          rintro e w12 ⟨rfl, a5, g5, k5, c5, Z5, p1, p2, p3, p4, p5, p6, p7, p8, p9, p10, p11, p12, p13⟩
          have zc := World.block_lt_of_cell? _ _ p1
          have hfin : lv Z5 k5 * 2 ^ (32 * i1 + s1) = G := by
            have e1 : 32 * i3 + s3 = 32 * i1 + s1 := pow2_unique (HV3.out.symm.trans HV1.out)
            have e2 : 32 * i4 + s4 = 32 * i2 + s2 := pow2_unique (HV4.out.symm.trans HV2.out)
            have h := HG5.out
            rw [HV3.out, HV4.out, gcd_twos (by omega) (by omega), ← HO1.out, ← HO2.out, ← p9, e1, e2, show min (32 * i1 + s1) (32 * i2 + s2) = 32 * i1 + s1 by omega, Nat.mul_comm] at h
            exact h.symm
          have HF := hide hfin
          have hbc := G7.hc
          clear p9 hfin G7
          go_wp2_with fail
          try rw [show (32 : Int) * (i1 : Int) + (s1 : Int) = ((32 * i1 + s1 : Nat) : Int) by omega]
          refine (shiftLeft_any c 0 a5 g5 0 k5 c5 i1 s1 Z5 _ (by omega) (by omega) (by omega) p5 p7 p1 p12).mono ?_
          rintro e w13 ⟨rfl, w14, S4, s14, r14, l14, v14, hw13⟩
          have zc2 : c < w12.heap.size := zc
          have q1 : w14.cell? ⟨c, 0, none⟩ = some (.slice a5 k5 c5) := by rw [s14.cell (a := ⟨c, 0, none⟩) zc]; exact p1
          have S13 : w0.Since base w13 := by rw [hw13]; exact (p13.trans (sinceMono s14 (by omega))).setCell hbc _
          have C13 : w13.cell? ⟨c, 0, none⟩ = some (.slice (some ⟨w12.heap.size, 0, none⟩) (tlen (nz S4) (k5 + i1 + 1)) (k5 + i1 + 1)) := by rw [hw13]; exact World.cell?_setCell_same _ _ _ q1
          have R13 : w13.rowIs w12.heap.size 58 (k5 + i1 + 1) (fun j => .int .u32 (S4 j : Nat)) := by rw [hw13]; exact r14.setOther (by show w12.heap.size ≠ c; omega) _
          have HV := hide (v14.trans HF.out)
          clear hw13 v14 q1 r14 s14 p1 p5 p13
          go_wp2
          go_end0
          have t3 := tlen_le (nz S4) (k5 + i1 + 1)
          refine ⟨rfl, _, w12.heap.size, _, _, S4, C13, t3, by omega, fun h => (by cases h), (limbs_row R13).take t3, fun _ x => R13.frozen x, fun j _ => l14 j, fun h => ?_, (lv_tlen _ _).trans HV.out, by omega, S13⟩
          have := tlen_top _ _ h; simpa [nz] using this
        · have hmi : (32 : Int) * (i2 : Int) + (s2 : Int) < 32 * (i1 : Int) + (s1 : Int) := by omega
          go_wp2_with fail
          refine (twos_any c 0 _ gr 0 nr cr R _ (by omega) g1 G5.LX G5.lX HRp.out (hT.since G5.S hb)).mono ?_
          rintro e w7 ⟨i3, s3, q3, rfl, hw7, hi3, hs3, hv3⟩
          rw [hw7]
          clear hw7
          have HV3 := hide hv3
          clear hv3
          go_wp2_with fail
          try rw [show (32 : Int) * (i3 : Int) + (s3 : Int) = ((32 * i3 + s3 : Nat) : Int) by omega]
          refine (shiftRight_any c 0 gr nr cr i3 s3 R _ (by omega) G5.nX hi3 hs3 G5.LX G5.lX g1 G5.fC (G5.FX hn1) (Ne.symm G5.d3)).mono ?_
          rintro e w8 ⟨rfl, w9, S1, k1, mk9, L9, hk1, l9, v9, hw8⟩
          have G6 := G5.setC mk9 L9 hk1 l9
          rw [← hw8] at G6
          have HO1 : Hid (lv S1 (tlen (nz S1) k1) = 2 * q3 + 1) := by show _ = _; rw [lv_tlen, v9, HV3.out, Nat.mul_div_cancel_left _ (Nat.pow_pos (by omega))]
          have t1 := tlen_le (nz S1) k1
          clear hw8 mk9 L9 l9 v9 G5 g1 g2
          have g1 := G6.bC
          have g2 := G6.bD
          go_wp2_with fail
          refine (twos_any d 0 _ gm' 0 m' cm' Y' _ (by omega) g2 G6.LY G6.lY HYp.out (hT.since G6.S hb)).mono ?_
          rintro e w9 ⟨i4, s4, q4, rfl, hw9, hi4, hs4, hv4⟩
          rw [hw9]
          clear hw9
          have HV4 := hide hv4
          clear hv4
          go_wp2_with fail
          try rw [show (32 : Int) * (i4 : Int) + (s4 : Int) = ((32 * i4 + s4 : Nat) : Int) by omega]
          refine (shiftRight_any d 0 gm' m' cm' i4 s4 Y' _ (by omega) G6.nY hi4 hs4 G6.LY G6.lY g2 G6.fD (G6.FY hm1) (Ne.symm G6.d6)).mono ?_
          rintro e w10 ⟨rfl, w11, S2, k2, mk11, L11, hk2, l11, v11, hw10⟩
          have G7 := G6.setD mk11 L11 hk2 l11
          rw [← hw10] at G7
          have HO2 : Hid (lv S2 (tlen (nz S2) k2) = 2 * q4 + 1) := by show _ = _; rw [lv_tlen, v11, HV4.out, Nat.mul_div_cancel_left _ (Nat.pow_pos (by omega))]
          have t2 := tlen_le (nz S2) k2
          clear hw10 mk11 L11 l11 v11 G6 g1 g2
          go_wp2_with fail
          refine (becomeOddGcd_any base c d gr gm' _ _ _ _ _ _ S1 S2 w0 _ hb (by omega) (by omega) G7 (by rw [HO1.out]; omega) (by rw [HO2.out]; omega) hT).mono ?_
          rintro e w12 ⟨rfl, a5, g5, k5, c5, Z5, p1, p2, p3, p4, p5, p6, p7, p8, p9, p10, p11, p12, p13⟩
          have zc := World.block_lt_of_cell? _ _ p1
          have hfin : lv Z5 k5 * 2 ^ (32 * i2 + s2) = G := by
            have e1 : 32 * i3 + s3 = 32 * i1 + s1 := pow2_unique (HV3.out.symm.trans HV1.out)
            have e2 : 32 * i4 + s4 = 32 * i2 + s2 := pow2_unique (HV4.out.symm.trans HV2.out)
            have h := HG5.out
            rw [HV3.out, HV4.out, gcd_twos (by omega) (by omega), ← HO1.out, ← HO2.out, ← p9, e1, e2, show min (32 * i1 + s1) (32 * i2 + s2) = 32 * i2 + s2 by omega, Nat.mul_comm] at h
            exact h.symm
          have HF := hide hfin
          have hbc := G7.hc
          clear p9 hfin G7
          go_wp2_with fail
          try rw [show (32 : Int) * (i2 : Int) + (s2 : Int) = ((32 * i2 + s2 : Nat) : Int) by omega]
          refine (shiftLeft_any c 0 a5 g5 0 k5 c5 i2 s2 Z5 _ (by omega) (by omega) (by omega) p5 p7 p1 p12).mono ?_
          rintro e w13 ⟨rfl, w14, S4, s14, r14, l14, v14, hw13⟩
          have zc2 : c < w12.heap.size := zc
          have q1 : w14.cell? ⟨c, 0, none⟩ = some (.slice a5 k5 c5) := by rw [s14.cell (a := ⟨c, 0, none⟩) zc]; exact p1
          have S13 : w0.Since base w13 := by rw [hw13]; exact (p13.trans (sinceMono s14 (by omega))).setCell hbc _
          have C13 : w13.cell? ⟨c, 0, none⟩ = some (.slice (some ⟨w12.heap.size, 0, none⟩) (tlen (nz S4) (k5 + i2 + 1)) (k5 + i2 + 1)) := by rw [hw13]; exact World.cell?_setCell_same _ _ _ q1
          have R13 : w13.rowIs w12.heap.size 58 (k5 + i2 + 1) (fun j => .int .u32 (S4 j : Nat)) := by rw [hw13]; exact r14.setOther (by show w12.heap.size ≠ c; omega) _
          have HV := hide (v14.trans HF.out)
          clear hw13 v14 q1 r14 s14 p1 p5 p13
          go_wp2
          go_end0
          have t3 := tlen_le (nz S4) (k5 + i2 + 1)
          refine ⟨rfl, _, w12.heap.size, _, _, S4, C13, t3, by omega, fun h => (by cases h), (limbs_row R13).take t3, fun _ x => R13.frozen x, fun j _ => l14 j, fun h => ?_, (lv_tlen _ _).trans HV.out, by omega, S13⟩
          have := tlen_top _ _ h; simpa [nz] using this

end Go.Proofs.YtabemlkdpgglaaaDoor
