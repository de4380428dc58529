import Derived.Test.YtigggjcnnlidgaaW3
namespace Go.Proofs.Ytigggjcnnlidgaa
open Go.RowKit

/-- The first m bits of the limbs X, as cells. -/
def bl (B : Nat → Bool) (m : Nat) : List Value := (List.range m).map fun j => .bool (B j)
theorem bl_len (B : Nat → Bool) (m : Nat) : (bl B m).length = m := by simp [bl]
theorem bl_succ (B : Nat → Bool) (m : Nat) : bl B (m + 1) = bl B m ++ [.bool (B m)] := by simp [bl, List.range_succ]
theorem bl_get (B : Nat → Bool) (m j : Nat) (h : j < m) : (bl B m)[j]? = some (.bool (B j)) := by simp [bl, h]

/-- Limbs as cells. -/
def ll (X : Nat → Nat) (m : Nat) : List Value := (List.range m).map fun j => .int .u32 (X j)
theorem ll_len (X : Nat → Nat) (m : Nat) : (ll X m).length = m := by simp [ll]
theorem ll_succ (X : Nat → Nat) (m : Nat) : ll X (m + 1) = ll X m ++ [.int .u32 (X m)] := by simp [ll, List.range_succ]
theorem ll_get (X : Nat → Nat) (m j : Nat) (h : j < m) : (ll X m)[j]? = some (.int .u32 (X j)) := by simp [ll, h]

theorem own_bits {w : World} {base : Nat} {v : Value} {m : Nat} {B : Nat → Bool} (h : w.ownsRow base 4 1 v m (bl B m)) :
    ∃ a g cap, v = .slice a m cap ∧ m ≤ cap ∧ (0 < m → base ≤ g) ∧ Bits w a g 0 m B := by
  have hc := @World.ownsRow.cells _ _ _ _ _ _ _ h
  rcases h.2 with ⟨rfl, rfl⟩ | ⟨g, cap, cur, rfl, hb, hg, hm, _⟩
  · exact ⟨none, 0, 0, rfl, Nat.le_refl _, fun h => absurd h (by omega), fun j hj => absurd hj (by omega)⟩
  · refine ⟨_, g, cap, rfl, hm, fun _ => hb, fun j hj => ⟨rfl, ?_⟩⟩
    have := hc (g := g) rfl j _ (bl_get B m j hj)
    rw [Addr.add_lit] at this; exact this

theorem own_limbs {w : World} {base : Nat} {v : Value} {m : Nat} {X : Nat → Nat} (h : w.ownsRow base 33 1 v m (ll X m)) :
    ∃ a g cap, v = .slice a m cap ∧ m ≤ cap ∧ (0 < m → base ≤ g) ∧ Limbs w a g 0 m X ∧ (0 < m → ∀ o, w.frozen? ⟨g, o, none⟩ = false) := by
  have hc := @World.ownsRow.cells _ _ _ _ _ _ _ h
  rcases h.2 with ⟨rfl, rfl⟩ | ⟨g, cap, cur, rfl, hb, hg, hm, _⟩
  · exact ⟨none, 0, 0, rfl, Nat.le_refl _, fun h => absurd h (by omega), fun j hj => absurd hj (by omega), fun h => absurd h (by omega)⟩
  · refine ⟨_, g, cap, rfl, hm, fun _ => hb, fun j hj => ⟨rfl, ?_⟩, fun _ o => by simp [World.frozen?, hg]⟩
    have := hc (g := g) rfl j _ (ll_get X m j hj)
    rw [Addr.add_lit] at this; exact this

theorem bit_of (X : Nat → Nat) (i k q : Nat) (hk : k < 32) (hq : q = X i / 2 ^ k) : ((q : Int) % 2 == 1) = bitsOf X (32 * i + k) := by
  have d1 : (32 * i + k) / 32 = i := by omega
  have d2 : (32 * i + k) % 32 = k := by omega
  unfold bitsOf
  rw [d1, d2, ← hq, Bool.eq_iff_iff]
  simp only [beq_iff_eq]
  omega

theorem half_of (X : Nat → Nat) (i k q : Nat) (hq : q = X i / 2 ^ k) : q / 2 = X i / 2 ^ (k + 1) := by
  rw [hq, Nat.div_div_eq_div_mul, Nat.pow_succ]

set_option maxHeartbeats 1600000 in
set_option maxRecDepth 100000 in
theorem l1Bits_any (a : Option Addr) (b off n cap : Nat) (X : Nat → Nat) (w : World) (hn : n ≤ 4194304) (hX : Limbs w a b off n X) (hXl : ∀ j, j < n → X j < 4294967296) :
    Calls Try.prog 15 #[.slice a n cap] w fun e w' => ∃ a' g m cap' B, e = .returned (.slice a' m cap') ∧ m ≤ cap' ∧ m ≤ 32 * n ∧ Bits w' a' g 0 m B ∧ (0 < m → w.heap.size ≤ g) ∧
      (0 < m → B (m - 1) = true) ∧ bv B m = lv X n ∧ w.Since w.heap.size w' := by
  obtain ⟨i0, hi, hz0, hz1, hz2⟩ := info_parts Try.info4
  go_enter Try.func15, Try.ntmps15
  go_wp2
  go_loopw [3, 4] (fun v q wr => ∃ i : Nat, i ≤ n ∧ q = .int .i64 i ∧ wr.ownsRow w.heap.size 4 1 v (32 * i) (bl (bitsOf X) (32 * i)) ∧ w.Since w.heap.size wr) (fun _ i _ => n - (intOf i).toNat)
  case atStart =>
    exact ⟨0, Nat.zero_le _, rfl, World.ownsRow_made w #[] 0 (Nat.le_refl _) (by decide) rfl, (World.Since.refl _ _).alloc (Nat.le_refl _) _⟩
  case round =>
    obtain ⟨i, hin, rfl, hown, hs⟩ := hrel
    by_cases hlt : i < n
    · obtain ⟨rfl, hc⟩ := hX i hlt
      have g0 : wr.cell? ⟨b, off + i, none⟩ = some (.int .u32 (X i)) := by rw [hs.cell (a := ⟨b, off + i, none⟩) (hX.lt (by omega))]; exact hc
      clear hc
      have hxi := hXl i hlt
      go_wp2
      go_loopw [3, 5, 6] (fun v x t wr' => ∃ k q : Nat, k ≤ 32 ∧ t = .int .i64 k ∧ x = .int .u32 q ∧ q = X i / 2 ^ k ∧ q < 4294967296 ∧ wr'.ownsRow w.heap.size 4 1 v (32 * i + k) (bl (bitsOf X) (32 * i + k)) ∧ w.Since w.heap.size wr') (fun _ _ t _ => 32 - (intOf t).toNat)
      case atStart => exact ⟨0, X i, by omega, rfl, rfl, by simp, hxi, hown, hs⟩
      case round =>
        clear g0 hown hs
        obtain ⟨k, q, hk, rfl, rfl, hq, hql, hown, hs⟩ := hrel
        have HQ : Hid (q = X i / 2 ^ k) := hq
        clear hq
        by_cases hk2 : k < 32
        · go_wp2_with (at_builtin; refine wpList_append_own _ rfl _ _ 30 rfl w.heap.size 4 i0 (.bool false) 1 1 Try.underlying30 hi hz0 hz1 hz2 rfl (by decide) _ _ _ rfl (hown.alloc _) ⟨wr.heap.size, 0, none⟩ 1 1 [.bool ((q : Int) % 2 == 1)] rfl rfl ?c1 ?c2 ?c3 ?c4 ?c5 ?_)
          case c1 =>
            intro j u hj
            match j, hj with
            | 0, hj => simp at hj; subst hj; simp [Addr.add]
          case c2 => intro u hu; simp at hu; subst hu; rfl
          case c3 => unfold maxLen; omega
          case c4 => omega
          case c5 => have := hs.size; simp; omega
          intro v' w1 hown' hgrow _
          have hs1 : w.Since w.heap.size w1 := (hs.alloc hs.size _).grown hgrow (by have := hs.size; simp; omega) (fun k hk => (hown.lt k hk).1)
          rw [bit_of X i k q hk2 HQ.out, ← bl_succ] at hown'
          clear hgrow hown hs
          go_wp2
          go_roundw
          case rel => exact ⟨k + 1, q / 2, by omega, by go_num, by go_num, half_of X i k q HQ.out, by omega, hown', hs1⟩
          case measure => simp [intOf]; omega
        · have e : k = 32 := by omega
          subst e
          go_wp2
          go_roundw
          case rel => exact ⟨i + 1, by omega, by go_num, hown, hs⟩
          case measure => simp [intOf]; omega
    · have e : i = n := by omega
      subst e
      obtain ⟨a', g, cap', rfl, hmc, hg, hB⟩ := own_bits hown
      go_wp2_with fail
      refine (l1Trim_any a' g 0 (32 * i) cap' (bitsOf X) _ (by omega) hmc hB).mono ?_
      rintro e w1 ⟨rfl, rfl⟩
      go_wp2
      go_ret
      have htl := tlen_le (bitsOf X) (32 * i)
      exact ⟨a', g, _, cap', bitsOf X, rfl, by omega, htl, hB.take htl, fun h => hg (by omega), fun h => tlen_top _ _ h, (bv_tlen _ _).trans (bv_bits_all X i hXl), hs⟩

end Go.Proofs.Ytigggjcnnlidgaa
