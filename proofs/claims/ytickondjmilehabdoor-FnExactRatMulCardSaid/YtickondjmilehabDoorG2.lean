import Derived.Test.YtickondjmilehabDoorU7
import Derived.Test.YtickondjmilehabDoorU4
import Derived.Test.YtickondjmilehabDoorMath
namespace Go.Proofs.YtickondjmilehabDoor
open Go.RowKit

set_option maxHeartbeats 800000 in
set_option maxRecDepth 100000 in
theorem isOne_any (c o : Nat) (a : Option Addr) (b off n cap : Nat) (X : Nat → Nat) (w : World) (hc0 : w.cell? ⟨c, o, none⟩ = some (.slice a n cap)) (hX : Limbs w a b off n X) (hXl : ∀ j, j < n → X j < 4294967296) (tX : 0 < n → X (n - 1) ≠ 0) :
    Calls Tryd.prog 49 #[.pointer (some ⟨c, o, none⟩)] w fun e w' => e = .returned (.bool (decide (lv X n = 1))) ∧ w' = w := by
  by_cases h1 : n = 1
  · subst h1
    obtain ⟨rfl, k⟩ := hX 0 (by omega)
    rw [Nat.add_zero] at k
    have e : lv X 1 = X 0 := by simp [lv]
    rw [e]
    by_cases h2 : X 0 = 1
    · rw [h2] at k ⊢
      clear tX hXl
      go_enter Tryd.func49, Tryd.ntmps49
      go_wp2
      go_ret
      exact ⟨rfl, rfl⟩
    · have hne : ((X 0 : Int) == 1) = false := by simp; omega
      have e2 : decide (X 0 = 1) = false := by simp [h2]
      rw [e2]
      clear tX hXl h2
      go_enter Tryd.func49, Tryd.ntmps49
      go_wp2
      go_ret
      exact ⟨rfl, rfl⟩
  · have e2 : decide (lv X n = 1) = false := by
      simp only [decide_eq_false_iff_not]
      intro h
      by_cases h0 : n = 0
      · subst h0; simp [lv] at h
      · have := lv_ge X n (by omega) (tX (by omega))
        have h3 : 2 ^ (32 * 1) ≤ 2 ^ (32 * (n - 1)) := Nat.pow_le_pow_right (by omega) (by omega)
        omega
    have hne : ((n : Int) == 1) = false := by simp; omega
    rw [e2]
    clear tX hXl h1 e2
    go_enter Tryd.func49, Tryd.ntmps49
    go_wp2
    go_ret
    exact ⟨rfl, rfl⟩

set_option maxHeartbeats 800000 in
set_option maxRecDepth 100000 in
theorem isShort_any (c o : Nat) (a : Option Addr) (n cap : Nat) (w : World) (hc0 : w.cell? ⟨c, o, none⟩ = some (.slice a n cap)) :
    Calls Tryd.prog 76 #[.pointer (some ⟨c, o, none⟩)] w fun e w' => e = .returned (.bool (decide ((n : Int) ≤ 2))) ∧ w' = w := by
  go_enter Tryd.func76, Tryd.ntmps76
  go_wp2
  go_ret
  exact ⟨rfl, rfl⟩

set_option maxHeartbeats 800000 in
set_option maxRecDepth 100000 in
theorem short_any (c o : Nat) (a : Option Addr) (b off n cap : Nat) (X : Nat → Nat) (w : World) (hn : n ≤ 2) (hc0 : w.cell? ⟨c, o, none⟩ = some (.slice a n cap)) (hX : Limbs w a b off n X) (hXl : ∀ j, j < n → X j < 4294967296) :
    Calls Tryd.prog 79 #[.pointer (some ⟨c, o, none⟩)] w fun e w' => e = .returned (.int .u64 (lv X n)) ∧ w' = w := by
  go_enter Tryd.func79, Tryd.ntmps79
  go_wp2
  go_loop [3, 10] (fun x t => ∃ i v : Nat, i ≤ n ∧ t = .int .i64 i ∧ x = .int .u64 v ∧ Hid (v = lv X i)) (fun _ t => n - (intOf t).toNat)
  case atStart => exact ⟨0, 0, Nat.zero_le _, rfl, rfl, rfl⟩
  case round =>
    obtain ⟨i, v, hi, rfl, rfl, HV⟩ := hrel
    by_cases hlt : i < n
    · obtain ⟨rfl, k⟩ := hX i hlt
      have hx := hXl i hlt
      have hi2 : i = 0 ∨ i = 1 := by omega
      rcases hi2 with rfl | rfl
      · rw [Nat.add_zero] at k
        have v0 : v = 0 := HV.out
        subst v0
        have hor := u64_or_nat 0 (X 0) (by omega) (by omega)
        rw [Nat.zero_or] at hor
        go_wp2
        go_round
        case rel =>
          go_light
          refine ⟨1, X 0, by omega, rfl, ?_, by simp [Hid, lv]⟩
          exact congrArg (Value.int .u64) (by simpa using hor)
        case measure => simp [intOf]; omega
      · have v0 : v = X 0 := by have := HV.out; simpa [lv] using this
        have hv := hXl 0 (by omega)
        rw [← v0] at hv
        have hor := or64b v (X 1) hv hx
        go_wp2
        go_round
        case rel =>
          go_light
          refine ⟨2, v + X 1 * 4294967296, by omega, rfl, ?_, by rw [v0]; simp [Hid, lv]⟩
          exact congrArg (Value.int .u64) (by rw [← v0, hor]; omega)
        case measure => simp [intOf]; omega
    · have e : i = n := by omega
      subst e
      go_wp2
      go_ret
      exact ⟨ret_int (congrArg (fun x : Nat => (x : Int)) HV.out), rfl⟩

set_option maxHeartbeats 800000 in
set_option maxRecDepth 100000 in
theorem shortGcd_any (x y : Nat) (w : World) (hx : x < 18446744073709551616) (hy : y < 18446744073709551616) :
    Calls Tryd.prog 78 #[.int .u64 x, .int .u64 y] w fun e w' => e = .returned (.int .u64 (Nat.gcd x y)) ∧ Same w w' := by
  go_enter Tryd.func78, Tryd.ntmps78
  go_wp2
  go_loopw [0, 1] (fun p q wr => ∃ s t : Nat, p = .int .u64 s ∧ q = .int .u64 t ∧ s < 18446744073709551616 ∧ t < 18446744073709551616 ∧ Hid (Nat.gcd s t = Nat.gcd x y) ∧ Same w wr) (fun _ q _ => (intOf q).toNat)
  case atStart => exact ⟨x, y, rfl, rfl, hx, hy, rfl, Same.refl _⟩
  case round =>
    obtain ⟨s, t, rfl, rfl, hs, ht, HG, sm⟩ := hrel
    by_cases h0 : t = 0
    · subst h0
      go_wp2
      go_ret
      exact ⟨ret_int (congrArg (fun x : Nat => (x : Int)) (by have := HG.out; rwa [Nat.gcd_zero_right] at this)), sm⟩
    · have hne : ((t : Int) == 0) = false := by simp; omega
      have hne2 : ¬ (t : Int) = 0 := by omega
      obtain ⟨r, hr⟩ : ∃ r, r = s % t := ⟨_, rfl⟩
      have hrl : r < t := by rw [hr]; exact Nat.mod_lt _ (by omega)
      have w1 : IntKind.u64.wrap ((s : Int) % (t : Int)) = (r : Int) := by rw [← Int.natCast_emod, ← hr]; exact wrap_u64_id r (by omega)
      have HR := hide hr
      clear hr h0
      go_wp2
      go_quiet (fail)
      go_wp2
      go_roundw
      case rel =>
        refine ⟨t, r, rfl, ?_, ht, by omega, ?_, sm.drewN _⟩
        · first | rfl | exact congrArg (Value.int .u64) (by rw [HR.out, Int.natCast_emod])
        · have h := HG.out
          rw [Nat.gcd_comm, Nat.gcd_rec, ← HR.out, Nat.gcd_comm] at h
          exact h
      case measure => simp [intOf]; have := Int.emod_lt_of_pos (s : Int) (show (0 : Int) < (t : Int) by omega); omega

set_option maxHeartbeats 800000 in
set_option maxRecDepth 100000 in
theorem natOfShort_any (v : Nat) (w : World) (hv : v < 18446744073709551616) :
    Calls Tryd.prog 77 #[.int .u64 v] w fun e w' => ∃ S, e = .returned (.slice (some ⟨w.heap.size, 0, none⟩) (tlen (nz S) 2) 2) ∧ w'.rowIs w.heap.size 49 2 (fun j => .int .u32 (S j : Nat)) ∧ (∀ k, S k < 4294967296) ∧ lv S 2 = v ∧ w.Since w.heap.size w' := by
  go_enter Tryd.func77, Tryd.ntmps77
  go_wp2_with fail
  obtain ⟨S, hS⟩ : ∃ S : Nat → Nat, S = fun j => if j = 0 then v % 4294967296 else if j = 1 then v / 4294967296 else 0 := ⟨_, rfl⟩
  have s0 : S 0 = v % 4294967296 := by rw [hS]; rfl
  have s1 : S 1 = v / 4294967296 := by rw [hS]; rfl
  have hSl : ∀ k, S k < 4294967296 := fun k => by rw [hS]; show (if k = 0 then _ else if k = 1 then _ else 0) < _; split; omega; split <;> omega
  have r0 := World.rowIs_alloc w #[.int .u32 ((v : Int) % 4294967296), .int .u32 ((v : Int) / 4294967296)] 49 (fun j => .int .u32 (S j : Nat)) (fun i hi => by
    have h2 : i = 0 ∨ i = 1 := by simp at hi; omega
    rcases h2 with rfl | rfl
    · simp [s0]
    · simp [s1])
  have r1 : (w.alloc (.cells #[.int .u32 ((v : Int) % 4294967296), .int .u32 ((v : Int) / 4294967296)] 49)).rowIs w.heap.size 49 2 (fun j => .int .u32 (S j : Nat)) := r0
  have r2 := r1.alloc (.cells #[.slice (some ⟨w.heap.size, 0, none⟩) 2 2] 50)
  have S2 : w.Since w.heap.size ((w.alloc (.cells #[.int .u32 ((v : Int) % 4294967296), .int .u32 ((v : Int) / 4294967296)] 49)).alloc (.cells #[.slice (some ⟨w.heap.size, 0, none⟩) 2 2] 50)) := ((World.Since.refl _ _).alloc (Nat.le_refl _) _).alloc (by simp) _
  have bx : ((w.alloc (.cells #[.int .u32 ((v : Int) % 4294967296), .int .u32 ((v : Int) / 4294967296)] 49)).alloc (.cells #[.slice (some ⟨w.heap.size, 0, none⟩) 2 2] 50)).rowIs (w.heap.size + 1) 50 1 (fun _ => .slice (some ⟨w.heap.size, 0, none⟩) 2 2) := by
    have := World.rowIs_alloc (w.alloc (.cells #[.int .u32 ((v : Int) % 4294967296), .int .u32 ((v : Int) / 4294967296)] 49)) #[.slice (some ⟨w.heap.size, 0, none⟩) 2 2] 50 (fun _ => .slice (some ⟨w.heap.size, 0, none⟩) 2 2) (fun i hi => by simp at hi; subst hi; rfl)
    simpa using this
  generalize (w.alloc (.cells #[.int .u32 ((v : Int) % 4294967296), .int .u32 ((v : Int) / 4294967296)] 49)).alloc (.cells #[.slice (some ⟨w.heap.size, 0, none⟩) 2 2] 50) = w1 at *
  clear r0 r1 hS
  have q0 := bx.cell (i := 0) (by omega)
  have q1 := bx.frozen 0
  refine (trimAt_any (w.heap.size + 1) 0 _ w.heap.size 0 2 2 S _ (by omega) (Nat.le_refl _) q0 q1 (limbs_row r2)).mono ?_
  rintro e w2 ⟨rfl, hw2⟩
  have c2 : w2.cell? ⟨w.heap.size + 1, 0, none⟩ = some (.slice (some ⟨w.heap.size, 0, none⟩) (tlen (nz S) 2) 2) := by rw [hw2]; exact World.cell?_setCell_same _ _ _ q0
  have r3 : w2.rowIs w.heap.size 49 2 (fun j => .int .u32 (S j : Nat)) := by rw [hw2]; exact r2.setOther (by simp) _
  have S3 : w.Since w.heap.size w2 := by rw [hw2]; exact S2.setCell (Nat.le_succ _) _
  have HV : Hid (lv S 2 = v) := by show lv S 2 = v; simp only [lv, s0, s1]; simp; omega
  clear hw2 q0 q1 r2 bx S2 s0 s1
  go_wp2
  go_ret
  exact ⟨S, rfl, r3, hSl, HV.out, S3⟩

def Tab (w : World) : Prop := ∀ j, j < 32 → w.cell? ⟨1, j, none⟩ = some (.int .u8 (deB.getD j 0))

set_option maxHeartbeats 800000 in
set_option maxRecDepth 100000 in
theorem tz32_any (x : Nat) (w : World) (h0 : 0 < x) (hx : x < 4294967296) (hT : Tab w) :
    Calls Tryd.prog 125 #[.int .u32 x] w fun e w' => ∃ s k : Nat, e = .returned (.int .i64 s) ∧ w' = w ∧ s < 32 ∧ x = 2 ^ s * (2 * k + 1) := by
  have hne : ((x : Int) == 0) = false := by simp; omega
  obtain ⟨s, k, hk⟩ := two_part x h0
  obtain ⟨hs, hb⟩ := low_bit hx hk
  have hand : bits .and .u32 (x : Int) (-(x : Int) % 4294967296) = ((2 ^ s : Nat) : Int) := by
    rw [show -(x : Int) % 4294967296 = ((4294967296 - x : Nat) : Int) by omega, u32_and_nat x _ hx (by omega), hb]
  obtain ⟨q, hq⟩ : ∃ q, q = 2 ^ s := ⟨_, rfl⟩
  rw [← hq] at hand
  have hd := deB_at ⟨s, hs⟩
  simp only at hd
  rw [← hq] at hd
  have hql : q < 4294967296 := by rw [hq]; have : 2 ^ s < 2 ^ 32 := Nat.pow_lt_pow_right (by omega) hs; omega
  have hcell := hT (q * 125613361 % 4294967296 / 134217728) hd.1
  rw [hd.2] at hcell
  have hix : ((q : Int) * 125613361 % 4294967296 / 134217728).toNat = q * 125613361 % 4294967296 / 134217728 := by
    have h : ((q * 125613361 % 4294967296 / 134217728 : Nat) : Int) = (q : Int) * 125613361 % 4294967296 / 134217728 := by rw [Int.natCast_ediv, Int.natCast_emod, Int.natCast_mul]; rfl
    rw [← h]; exact Int.toNat_natCast _
  have hxe := hide hk
  clear hk hb hq hd
  go_enter Tryd.func125, Tryd.ntmps125
  go_wp2
  go_ret
  go_light
  exact ⟨s, k, rfl, rfl, hs, hxe.out⟩

set_option maxHeartbeats 800000 in
set_option maxRecDepth 100000 in
/-- (*nat).twos of a number that is not nought: whole limbs and a part. -/
theorem twos_any (c o : Nat) (a : Option Addr) (b off n cap : Nat) (X : Nat → Nat) (w : World) (hn : n ≤ 16777216) (hc0 : w.cell? ⟨c, o, none⟩ = some (.slice a n cap)) (hX : Limbs w a b off n X) (hXl : ∀ j, j < n → X j < 4294967296) (h0 : 0 < lv X n) (hT : Tab w) :
    Calls Tryd.prog 104 #[.pointer (some ⟨c, o, none⟩)] w fun e w' => ∃ i s q : Nat, e = .returned (.int .i64 ((32 * i + s : Nat) : Int)) ∧ w' = w ∧ i < n ∧ s < 32 ∧ lv X n = 2 ^ (32 * i + s) * (2 * q + 1) := by
  have H0 := hide h0
  clear h0
  go_enter Tryd.func104, Tryd.ntmps104
  go_wp2
  go_loop [9] (fun t => ∃ i : Nat, i ≤ n ∧ t = .int .i64 i ∧ Hid (∀ j, j < i → X j = 0)) (fun t => n - (intOf t).toNat)
  case atStart => exact ⟨0, Nat.zero_le _, rfl, fun j hj => absurd hj (by omega)⟩
  case round =>
    obtain ⟨i, hi, rfl, HZ⟩ := hrel
    by_cases hlt : i < n
    · obtain ⟨rfl, k⟩ := hX i hlt
      have hx := hXl i hlt
      by_cases h1 : X i = 0
      · have HX0 := hide h1
        rw [h1] at k
        clear h1
        go_wp2
        go_round
        case rel =>
          refine ⟨i + 1, by omega, by go_num, fun j hj => ?_⟩
          by_cases e : j = i
          · subst e; exact HX0.out
          · exact HZ.out j (by omega)
        case measure => simp [intOf]; omega
      · have hne : ((X i : Int) == 0) = false := by simp; omega
        go_wp2_with fail
        refine (tz32_any (X i) _ (by omega) hx hT).mono ?_
        rintro e w1 ⟨s, kk, rfl, rfl, hs, hxk⟩
        obtain ⟨q, hq⟩ := lv_twos hlt HZ.out hxk hs
        have HQ := hide hq
        clear hq hxk
        go_wp2
        go_ret
        exact ⟨i, s, q, ret_int (by omega), rfl, hlt, hs, HQ.out⟩
    · exfalso
      have e : lv X n = 0 := by rw [lv_more X 0 n (by omega) (fun j _ hj => HZ.out j (by omega))]; rfl
      have := H0.out
      omega

end Go.Proofs.YtickondjmilehabDoor
