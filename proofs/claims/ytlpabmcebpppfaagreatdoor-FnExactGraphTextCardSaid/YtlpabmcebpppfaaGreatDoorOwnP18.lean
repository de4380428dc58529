import Derived.Test.YtlpabmcebpppfaaGreatDoorOwnP16
import Derived.Deep.RegionHeld
import Derived.Deep.RegionWith
import Derived.Test.YtlpabmcebpppfaaGreatDoorOwnP17
namespace Go.Proofs.YtlpabmcebpppfaaGreatDoor
open Go.RowKit

end Go.Proofs.YtlpabmcebpppfaaGreatDoor

namespace Go.Proofs.YtlpabmcebpppfaaGreatDoor
open Go.RowKit

theorem Tab.oth {w w' : World} {c : Nat} (_h : Tab w) (_hw : 0 ≤ w.heap.size) (_hc : 0 ≤ c) (_s : Oth c w w') : Tab w' := trivial
theorem Tab.stay {w w' : World} (h : Tab w) (hw : 0 ≤ w.heap.size) (s : w.Since w.heap.size w') : Tab w' := h.oth (c := w.heap.size) hw (by omega) (Oth.ofSince _ s)

end Go.Proofs.YtlpabmcebpppfaaGreatDoor

namespace Go.Proofs.YtlpabmcebpppfaaGreatDoor
open Go.RowKit

section
variable {w w' : World} {a : Option Addr} {d g off n N M : Nat} {X : Nat → Nat} {v x y z : Value}
end

theorem lv_zero {X : Nat → Nat} {n : Nat} (p : 0 < n → X (n - 1) ≠ 0) : n = 0 ↔ lv X n = 0 := by
  constructor
  · intro h; rw [h]; rfl
  · intro h
    rcases Nat.eq_zero_or_pos n with e | e
    · exact e
    · have := lv_ge X n e (p e); have := Nat.pow_pos (n := 32 * (n - 1)) (show 0 < 2 by omega); omega

theorem div_gcd_zero {N D : Nat} (hD : 0 < D) : N / Nat.gcd N D = 0 ↔ N = 0 := by
  have hG : 0 < Nat.gcd N D := Nat.gcd_pos_of_pos_right N hD
  constructor
  · intro h
    rcases Nat.eq_zero_or_pos N with e | e
    · exact e
    · have := Nat.div_pos (Nat.gcd_le_left D e) hG; omega
  · intro h; rw [h]; exact Nat.zero_div _

end Go.Proofs.YtlpabmcebpppfaaGreatDoor

namespace Go.Proofs.YtlpabmcebpppfaaGreatDoor
open Go.RowKit

end Go.Proofs.YtlpabmcebpppfaaGreatDoor

namespace Go.Proofs.YtlpabmcebpppfaaGreatDoor
open Go.RowKit

end Go.Proofs.YtlpabmcebpppfaaGreatDoor

namespace Go.Proofs.YtlpabmcebpppfaaGreatDoor
open Go.RowKit

end Go.Proofs.YtlpabmcebpppfaaGreatDoor

namespace Go.Proofs.YtlpabmcebpppfaaGreatDoor
open Go.RowKit

/-- A valid Rat, as an argument: plain lists, a divisor that is not zero. -/
structure RIn (w : World) (a b : Option Addr) (ba oa n ca bb ob m cb : Nat) (X Y : Nat → Nat) : Prop where
  nc : n ≤ ca
  mc : m ≤ cb
  ac : a = none → ca = 0
  bc : b = none → cb = 0
  LX : Limbs w a ba oa n X
  LY : Limbs w b bb ob m Y
  lX : ∀ j, j < n → X j < 4294967296
  lY : ∀ j, j < m → Y j < 4294967296
  pX : 0 < n → X (n - 1) ≠ 0
  pY : 0 < m → Y (m - 1) ≠ 0
  m0 : 0 < m

theorem RIn.keep {w w' : World} {a b : Option Addr} {ba oa n ca bb ob m cb : Nat} {X Y : Nat → Nat} (h : RIn w a b ba oa n ca bb ob m cb X Y) (s : w.Since w.heap.size w') : RIn w' a b ba oa n ca bb ob m cb X Y :=
  ⟨h.nc, h.mc, h.ac, h.bc, h.LX.keep s, h.LY.keep s, h.lX, h.lY, h.pX, h.pY, h.m0⟩

theorem RIn.den {w : World} {a b : Option Addr} {ba oa n ca bb ob m cb : Nat} {X Y : Nat → Nat} (h : RIn w a b ba oa n ca bb ob m cb X Y) : 0 < lv Y m := by
  rcases Nat.eq_zero_or_pos (lv Y m) with e | e
  · have := (lv_zero h.pY).2 e; have := h.m0; omega
  · exact e

end Go.Proofs.YtlpabmcebpppfaaGreatDoor

namespace Go.Proofs.YtlpabmcebpppfaaGreatDoor
open Go.RowKit

end Go.Proofs.YtlpabmcebpppfaaGreatDoor

namespace Go.Proofs.YtlpabmcebpppfaaGreatDoor
open Go.RowKit

/-- The limbs of a machine number. -/
def nl (v j : Nat) : Nat := v / 4294967296 ^ j % 4294967296

theorem lv_nl (v k : Nat) : lv (nl v) k = v % 4294967296 ^ k := by
  induction k with
  | zero => simp [lv, Nat.mod_one]
  | succ k ih =>
    have h : lv (nl v) (k + 1) = lv (nl v) k + nl v k * 2 ^ (32 * k) := rfl
    rw [h, ih, Nat.pow_succ, Nat.mod_mul, show (2 : Nat) ^ (32 * k) = 4294967296 ^ k by rw [Nat.pow_mul], Nat.mul_comm (4294967296 ^ k)]
    rfl

theorem own_limbs2 {w : World} {base : Nat} {v : Value} {m : Nat} {X : Nat → Nat} (h : w.ownsRow base 108 1 v m (ll X m)) (hs : v ≠ .slice none 0 0) :
    ∃ a g cap, v = .slice a m cap ∧ m ≤ cap ∧ (a = none → cap = 0) ∧ base ≤ g ∧ g < w.heap.size ∧ Limbs w a g 0 m X ∧ (0 < m → ∀ o, w.frozen? ⟨g, o, none⟩ = false) := by
  have hc := @World.ownsRow.cells _ _ _ _ _ _ _ h
  rcases h.2 with ⟨rfl, rfl⟩ | ⟨g, cap, cur, rfl, hb, hg, hm, _⟩
  · exact absurd rfl hs
  · refine ⟨_, g, cap, rfl, hm, fun h => (by cases h), hb, (Array.getElem?_eq_some_iff.1 hg).1, fun j hj => ⟨rfl, ?_⟩, fun _ o => by simp [World.frozen?, hg]⟩
    have := hc (g := g) rfl j _ (ll_get X m j hj)
    rw [Addr.add_lit] at this; exact this

set_option maxHeartbeats 1600000 in
set_option maxRecDepth 100000 in
theorem l1LimbsOf_any (v : Nat) (w : World) (hv : v < 18446744073709551616) :
    Calls Tryz.prog 164 #[.int .u64 v] w fun e w' => ∃ x g, e = .returned x ∧ NatAt w' x g v 67108864 ∧ w.heap.size ≤ g ∧ w.Since w.heap.size w' ∧ g < w'.heap.size := by
  obtain ⟨i0, hi, hz0, hz1, hz2⟩ := info_parts Tryz.info108
  go_enter Tryz.func164, Tryz.ntmps164
  go_wp2
  go_loopw [0, 3] (fun p o wr => ∃ k q : Nat, k ≤ 2 ∧ p = .int .u64 q ∧ q < 18446744073709551616 ∧ Hid (q = v / 4294967296 ^ k) ∧ Hid (0 < k → 0 < v / 4294967296 ^ (k - 1)) ∧ wr.ownsRow w.heap.size 108 1 o k (ll (nl v) k) ∧ w.Since w.heap.size wr ∧ Hid (o ≠ .slice none 0 0)) (fun p _ _ => (intOf p).toNat)
  case atStart => exact ⟨0, v, by omega, rfl, hv, hide (by simp), hide (fun h => absurd h (by omega)), World.ownsRow_made w #[] 0 (Nat.le_refl _) (by decide) rfl, (World.Since.refl _ _).alloc (Nat.le_refl _) _, hide (by simp)⟩
  case round =>
    obtain ⟨k, q, hk, rfl, hq, HQ, HP, hown, hs, hsz⟩ := hrel
    by_cases h0 : q = 0
    · subst h0
      obtain ⟨a', g, cap', rfl, hmc, hac, hg, hgl, hL, hf⟩ := own_limbs2 hown hsz.out
      go_wp2
      go_ret
      have hlt : v < 4294967296 ^ k := by
        have := HQ.out
        have h2 : 0 < 4294967296 ^ k := Nat.pow_pos (by omega)
        rcases Nat.lt_or_ge v (4294967296 ^ k) with h | h
        · exact h
        · have := Nat.div_pos h h2; omega
      refine ⟨_, g, rfl, ⟨a', k, cap', nl v, rfl, hmc, by omega, hac, hL, hf, fun j _ => Nat.mod_lt _ (by omega), fun h => ?_, (lv_nl v k).trans (Nat.mod_eq_of_lt hlt)⟩, hg, hs, hgl⟩
      have h1 := HP.out h
      obtain ⟨j, rfl⟩ : ∃ j, k = j + 1 := ⟨k - 1, by omega⟩
      have h2 : v / 4294967296 ^ j < 4294967296 := by rw [Nat.div_lt_iff_lt_mul (Nat.pow_pos (by omega))]; rw [Nat.pow_succ] at hlt; omega
      simp only [Nat.add_sub_cancel] at h1 ⊢
      unfold nl
      rw [Nat.mod_eq_of_lt h2]
      omega
    · have hk2 : k < 2 := by
        rcases Nat.lt_or_ge k 2 with h | h
        · exact h
        · have e : k = 2 := by omega
          subst e
          have := HQ.out
          rw [Nat.div_eq_of_lt (show v < 4294967296 ^ 2 by omega)] at this
          omega
      have hne : 0 < q := by omega
      have hne2 : ((q : Int) == 0) = false := by simp; omega
      obtain ⟨y, hy⟩ : ∃ y, y = nl v k := ⟨_, rfl⟩
      have hyq : (q : Int) % 4294967296 = (y : Int) := by rw [hy]; unfold nl; rw [← HQ.out]; omega
      have hyl : y < 4294967296 := by rw [hy]; exact Nat.mod_lt _ (by omega)
      have HY := hide hy
      clear hy h0
      go_wp2_with (at_builtin; refine wpList_append_own _ rfl _ _ 51 rfl w.heap.size 108 i0 (.int .u32 0) 1 4 Tryz.underlying51 hi hz0 hz1 hz2 rfl (by decide) _ _ _ rfl (hown.alloc _) ⟨wr.heap.size, 0, none⟩ 1 1 [.int .u32 _] rfl rfl (new_cell _ _ _) (one_one _ rfl) (by unfold maxLen; omega) (by omega) (by have := hs.size; simp; omega) ?_)
      intro v' w1 hown' hgrow hnn
      have hs1 : w.Since w.heap.size w1 := (hs.alloc hs.size _).grown hgrow (by have := hs.size; simp; omega) (fun k hk => (hown.lt k hk).1)
      have HN := hide hnn
      rw [HY.out, ← ll_succ] at hown'
      clear hgrow hown hs hnn hsz
      go_wp2
      go_roundw
      case rel => exact ⟨k + 1, q / 4294967296, by omega, by go_num, by omega, hide (by rw [HQ.out, Nat.div_div_eq_div_mul, Nat.pow_succ]), hide (fun _ => by rw [Nat.add_sub_cancel, ← HQ.out]; exact hne), hown', hs1, HN⟩
      case measure => simp [intOf]; omega

set_option maxHeartbeats 1600000 in
set_option maxRecDepth 100000 in
theorem l1MakeSmall_any (neg : Bool) (n d : Nat) (w : World) (hn : n < 18446744073709551616) (hd : d < 18446744073709551616) (hd0 : 0 < d) :
    Calls Tryz.prog 153 #[.bool neg, .int .u64 n, .int .u64 d] w fun e w' => ∃ v, e = .returned v ∧ RatV w' v (neg && n != 0) (n / Nat.gcd n d) (d / Nat.gcd n d) w.heap.size 67108864 ∧ w.Since w.heap.size w' := by
  by_cases h0 : n = 0
  · subst h0
    have e1 : d / Nat.gcd 0 d = 1 := by rw [Nat.gcd_zero_left]; exact Nat.div_self hd0
    rw [show (neg && (0 : Nat) != 0) = false by simp, Nat.zero_div, e1]
    clear e1
    have sA : w.Since w.heap.size (w.alloc (.cells #[.bool false, .slice none 0 0, .slice none 0 0] 53)) := (World.Since.refl _ _).alloc (Nat.le_refl _) _
    have rA := Box3.new w (.bool false) (.slice none 0 0) (.slice none 0 0) 53
    go_enter Tryz.func153, Tryz.ntmps153
    go_wp2_with fail
    generalize (w.alloc (.cells #[.bool false, .slice none 0 0, .slice none 0 0] 53)) = w1 at *
    refine (l1Zero_any w1).mono ?_
    rintro e w2 ⟨v, rfl, ⟨v1, v2, g, h, rfl, N1, N2, b1, b2, ne⟩, s2⟩
    have rB := rA.keep s2
    have hz := rA.lt
    have N1' := N1
    have N2' := N2
    obtain ⟨a1, m1, c1, Y1, rfl, -⟩ := N1
    obtain ⟨a2, m2, c2, Y2, rfl, -⟩ := N2
    have u0 := rB.c0
    have u1 := rB.c1
    have u2 := rB.c2
    have uf0 := rB.f 0
    have uf1 := rB.f 1
    have uf2 := rB.f 2
    go_wp2
    have r4 := ((rB.set0 (.bool false)).set1 (.slice a1 m1 c1)).set2 (.slice a2 m2 c2)
    refine bodyPost_ret (results_box3 rfl _ _ _ _ _ _ rfl r4) rfl ?_
    have M : Marked w2 _ w.heap.size := (((Marked.refl w2 _).setCell 0 (.bool false)).setCell 1 (.slice a1 m1 c1)).setCell 2 (.slice a2 m2 c2)
    exact ⟨_, rfl, ⟨_, _, g, h, rfl, N1'.marked M (by omega), N2'.marked M (by omega), by omega, by omega, ne⟩, (sA.trans (sinceMono s2 sA.size)).trans (M.since (Nat.le_refl _))⟩
  · have hne : ((n : Int) == 0) = false := by simp; omega
    obtain ⟨G, hG⟩ : ∃ G, G = Nat.gcd n d := ⟨_, rfl⟩
    have hG0 : 0 < G := by rw [hG]; exact Nat.gcd_pos_of_pos_right n hd0
    have hGl : G < 18446744073709551616 := by rw [hG]; exact Nat.lt_of_le_of_lt (Nat.gcd_le_right n hd0) hd
    have hb : (neg && n != 0) = neg := by simp [h0]
    rw [← hG, hb]
    have sA : w.Since w.heap.size (w.alloc (.cells #[.bool false, .slice none 0 0, .slice none 0 0] 53)) := (World.Since.refl _ _).alloc (Nat.le_refl _) _
    have rA := Box3.new w (.bool false) (.slice none 0 0) (.slice none 0 0) 53
    have JG := l1GcdSmall_any n d (w.alloc (.cells #[.bool false, .slice none 0 0, .slice none 0 0] 53)) hn hd
    rw [← hG] at JG
    obtain ⟨x, hx⟩ : ∃ x, x = n / G := ⟨_, rfl⟩
    obtain ⟨y, hy⟩ : ∃ y, y = d / G := ⟨_, rfl⟩
    have hxl : x < 18446744073709551616 := by rw [hx]; exact Nat.lt_of_le_of_lt (Nat.div_le_self _ _) hn
    have hyl : y < 18446744073709551616 := by rw [hy]; exact Nat.lt_of_le_of_lt (Nat.div_le_self _ _) hd
    have hxd : IntKind.u64.wrap ((n : Int) / (G : Int)) = (x : Int) := by rw [← Int.natCast_ediv, ← hx]; exact wrap_u64_id x hxl
    have hyd : IntKind.u64.wrap ((d : Int) / (G : Int)) = (y : Int) := by rw [← Int.natCast_ediv, ← hy]; exact wrap_u64_id y hyl
    have hGz : ((G : Int) == 0) = false := by simp; omega
    have hGz2 : ¬ (G : Int) = 0 := by omega
    rw [← hx, ← hy]
    clear hx hy hG hn hd
    go_enter Tryz.func153, Tryz.ntmps153
    go_wp2_with fail
    refine JG.mono ?_
    rintro e w1 ⟨rfl, rfl⟩
    clear JG
    generalize (w.alloc (.cells #[.bool false, .slice none 0 0, .slice none 0 0] 53)) = w1 at *
    have J1 := l1LimbsOf_any x w1.drew hxl
    go_wp2
    go_region_held (fun _ => True) (trivial)
      (first
        | (go_at_call 164
           first
            | (with_reducible refine J1.mono ?_
               rintro e w2 ⟨v1, g, rfl, N1, b1, s2, z2⟩
               have J2 := l1LimbsOf_any y w2 hyl
               have rC := rA.drew.keep s2
               have N1' := N1
               obtain ⟨a1, m1, c1, Y1, rfl, -⟩ := N1)
            | (with_reducible refine J2.mono ?_
               rintro e w3 ⟨v2, h, rfl, N2, b2, s3, z3⟩
               have N2' := N2
               obtain ⟨a2, m2, c2, Y2, rfl, -⟩ := N2
               have rB := rC.keep s3
               have u0 := rB.c0
               have u1 := rB.c1
               have u2 := rB.c2
               have uf0 := rB.f 0
               have uf1 := rB.f 1
               have uf2 := rB.f 2)))
    all_goals go_wp2
    all_goals
      have hz : w.heap.size < w1.heap.size := rA.lt
      have zd : w1.drew.heap.size = w1.heap.size := rfl
      have r4 := ((rB.set0 (.bool neg)).set1 (.slice a1 m1 c1)).set2 (.slice a2 m2 c2)
      refine bodyPost_ret (results_box3 rfl _ _ _ _ _ _ rfl r4) rfl ?_
      have M : Marked w3 _ w.heap.size := (((Marked.refl w3 _).setCell 0 (.bool neg)).setCell 1 (.slice a1 m1 c1)).setCell 2 (.slice a2 m2 c2)
      have S1 : w.Since w.heap.size w1.drew := since_drew sA
      exact ⟨_, rfl, ⟨_, _, g, h, rfl, (N1'.keep s3).marked M (by omega), N2'.marked M (by omega), by omega, by omega, by omega⟩, ((S1.trans (sinceMono s2 S1.size)).trans (sinceMono s3 (Nat.le_trans S1.size s2.size))).trans (M.since (Nat.le_refl _))⟩

set_option maxHeartbeats 1600000 in
set_option maxRecDepth 100000 in
/-- l1Make of two trimmed lists of bits, the second not zero. -/
theorem l1Make_any (neg : Bool) (v1 v2 : Value) (n m : Nat) (A B : Nat → Bool) (w : World) (hn : n ≤ 1073741824) (hm : m ≤ 1073741824) (hA : Tr w v1 n A) (hB : Tr w v2 m B) (hD : 0 < bv B m) :
    Calls Tryz.prog 155 #[.bool neg, v1, v2] w fun e w' => ∃ v, e = .returned v ∧ RatV w' v (neg && bv A n != 0) (bv A n / Nat.gcd (bv A n) (bv B m)) (bv B m / Nat.gcd (bv A n) (bv B m)) w.heap.size 67108864 ∧ w.Since w.heap.size w' := by
  have hA' := hA
  have hB' := hB
  obtain ⟨a, ba, oa, ca, rfl, hca, LA, tA⟩ := hA
  obtain ⟨b, bb, ob, cb, rfl, hcb, LB, tB⟩ := hB
  have sA : w.Since w.heap.size (w.alloc (.cells #[.bool false, .slice none 0 0, .slice none 0 0] 53)) := (World.Since.refl _ _).alloc (Nat.le_refl _) _
  have rA := Box3.new w (.bool false) (.slice none 0 0) (.slice none 0 0) 53
  by_cases h0 : n = 0
  · subst h0
    have e0 : bv A 0 = 0 := rfl
    rw [e0]
    have e1 : bv B m / Nat.gcd 0 (bv B m) = 1 := by rw [Nat.gcd_zero_left]; exact Nat.div_self hD
    rw [show (neg && (0 : Nat) != 0) = false by simp, Nat.zero_div, e1]
    clear e1 e0 tA tB hD hA' hB'
    go_enter Tryz.func155, Tryz.ntmps155
    go_wp2_with fail
    generalize (w.alloc (.cells #[.bool false, .slice none 0 0, .slice none 0 0] 53)) = w1 at *
    refine (l1Zero_any w1).mono ?_
    rintro e w2 ⟨v, rfl, ⟨v1, v2, g, h, rfl, N1, N2, b1, b2, ne⟩, s2⟩
    have rB := rA.keep s2
    have hz := rA.lt
    have N1' := N1
    have N2' := N2
    obtain ⟨a1, m1, c1, Y1, rfl, -⟩ := N1
    obtain ⟨a2, m2, c2, Y2, rfl, -⟩ := N2
    have u0 := rB.c0
    have u1 := rB.c1
    have u2 := rB.c2
    have uf0 := rB.f 0
    have uf1 := rB.f 1
    have uf2 := rB.f 2
    go_wp2
    have r4 := ((rB.set0 (.bool false)).set1 (.slice a1 m1 c1)).set2 (.slice a2 m2 c2)
    refine bodyPost_ret (results_box3 rfl _ _ _ _ _ _ rfl r4) rfl ?_
    have M : Marked w2 _ w.heap.size := (((Marked.refl w2 _).setCell 0 (.bool false)).setCell 1 (.slice a1 m1 c1)).setCell 2 (.slice a2 m2 c2)
    exact ⟨_, rfl, ⟨_, _, g, h, rfl, N1'.marked M (by omega), N2'.marked M (by omega), by omega, by omega, ne⟩, (sA.trans (sinceMono s2 sA.size)).trans (M.since (Nat.le_refl _))⟩
  · have hne : ((n : Int) == 0) = false := by simp; omega
    have hpos : 0 < bv A n := bv_pos (by omega) (tA (by omega))
    have hb : (neg && bv A n != 0) = neg := by
      have h9 : bv A n ≠ 0 := by omega
      simp [h9]
    rw [hb]
    obtain ⟨G, hG⟩ : ∃ G, G = Nat.gcd (bv A n) (bv B m) := ⟨_, rfl⟩
    have hG0 : 0 < G := by rw [hG]; exact Nat.gcd_pos_of_pos_right _ hD
    have hGl : G ≤ bv B m := by rw [hG]; exact Nat.gcd_le_right _ hD
    have hGA : G ≤ bv A n := by rw [hG]; exact Nat.gcd_le_left _ hpos
    rw [← hG]
    clear hb
    go_enter Tryz.func155, Tryz.ntmps155
    go_wp2_with fail
    generalize (w.alloc (.cells #[.bool false, .slice none 0 0, .slice none 0 0] 53)) = w1 at *
    refine (l1GcdBits_any _ _ n m A B w1 hn hm (hA'.keep sA) (hB'.keep sA)).mono ?_
    rintro e w2 ⟨v3, t, O, rfl, ht, T3, e3, s2⟩
    rw [← hG] at e3
    obtain ⟨a3, b3, o3, c3, rfl, hc3, L3, p3⟩ := T3
    have S2 : w.Since w.heap.size w2 := sA.trans (sinceMono s2 sA.size)
    have htm : t ≤ m := bv_len p3 (by rw [e3]; exact hGl)
    clear hG hA' hB'
    go_wp2_with fail
    refine (l1DivBits_any a a3 ba oa n ca b3 o3 t c3 A O w2 (by omega) (by omega) (LA.keep S2) L3 p3 (by rw [e3]; exact hG0)).mono ?_
    rintro e w3 ⟨gq, tq, cq, Q, gr, tr, cr, R, rfl, q1, q2, q3, q4, LQ, -, q5, q6, q7, q8, eQ, -, s3⟩
    have S3 : w.Since w.heap.size w3 := S2.trans (sinceMono s3 S2.size)
    go_wp2_with fail
    refine (l1DivBits_any b a3 bb ob m cb b3 o3 t c3 B O w3 (by omega) (by omega) (LB.keep S3) (L3.keep s3) p3 (by rw [e3]; exact hG0)).mono ?_
    rintro e w4 ⟨gp, tp, cp, Q', gs, ts, cs, R', rfl, p1, p2, p3', p4, LP, -, p5, p6, p7, p8, eP, -, s4⟩
    have S4 : w.Since w.heap.size w4 := S3.trans (sinceMono s4 S3.size)
    have rB := ((rA.keep s2).keep s3).keep s4
    rw [e3] at eQ eP
    have EE := hide (And.intro (eQ.trans rfl) (And.intro eP (And.intro (Nat.div_pos hGA hG0) (Nat.div_pos hGl hG0))))
    clear eQ eP e3 q7 q8 p7 p8 p3 hpos tA tB hD hG0 hGl hGA
    go_wp2_with fail
    refine (l1Limbs_any _ gq 0 tq cq Q w4 (by omega) q1 (LQ.keep s4)).mono ?_
    rintro e w5 ⟨a5, g5, m5, c5, Y5, rfl, x1, x2, L5, x3, F5, l5, y5, e5, s5⟩
    go_wp2_with fail
    refine (l1Limbs_any _ gp 0 tp cp Q' w5 (by omega) p1 (LP.keep s5)).mono ?_
    rintro e w6 ⟨a6, g6, m6, c6, Y6, rfl, z1, z2, L6, z3, F6, l6, y6, e6, s6⟩
    have rC := (rB.keep s5).keep s6
    have u0 := rC.c0
    have u1 := rC.c1
    have u2 := rC.c2
    have uf0 := rC.f 0
    have uf1 := rC.f 1
    have uf2 := rC.f 2
    have hz := rB.lt
    have b5 := s5.size
    have b6 := s6.size
    have EF := hide (And.intro l5 (And.intro y5 (And.intro e5 (And.intro l6 (And.intro y6 e6)))))
    clear l5 y5 e5 l6 y6 e6
    go_wp2
    obtain ⟨l5, y5, e5, l6, y6, e6⟩ := EF.out
    obtain ⟨f1, f2, f3, f4⟩ := EE.out
    have k5 : 0 < m5 := by
      rcases Nat.eq_zero_or_pos m5 with h | h
      · subst h; rw [show lv Y5 0 = 0 from rfl] at e5; omega
      · exact h
    have k6 : 0 < m6 := by
      rcases Nat.eq_zero_or_pos m6 with h | h
      · subst h; rw [show lv Y6 0 = 0 from rfl] at e6; omega
      · exact h
    have N5 : NatAt w5 (.slice a5 m5 c5) g5 (bv A n / G) 67108864 := ⟨a5, m5, c5, Y5, rfl, x1, by omega, fun h => (by rw [(L5 0 k5).1] at h; cases h), L5, F5, fun j _ => l5 j, y5, e5.trans f1⟩
    have N6 : NatAt w6 (.slice a6 m6 c6) g6 (bv B m / G) 67108864 := ⟨a6, m6, c6, Y6, rfl, z1, by omega, fun h => (by rw [(L6 0 k6).1] at h; cases h), L6, F6, fun j _ => l6 j, y6, e6.trans f2⟩
    have g5l := L5.lt k5
    have x3' := x3 k5
    have z3' := z3 k6
    have r4 := ((rC.set0 (.bool neg)).set1 (.slice a5 m5 c5)).set2 (.slice a6 m6 c6)
    refine bodyPost_ret (results_box3 rfl _ _ _ _ _ _ rfl r4) rfl ?_
    have M : Marked w6 _ w.heap.size := (((Marked.refl w6 _).setCell 0 (.bool neg)).setCell 1 (.slice a5 m5 c5)).setCell 2 (.slice a6 m6 c6)
    exact ⟨_, rfl, ⟨_, _, g5, g6, rfl, (N5.keep s6).marked M (by omega), N6.marked M (by omega), by have := S4.size; omega, by have := S4.size; omega, by omega⟩, ((S4.trans (sinceMono s5 S4.size)).trans (sinceMono s6 (Nat.le_trans S4.size b5))).trans (M.since (Nat.le_refl _))⟩

end Go.Proofs.YtlpabmcebpppfaaGreatDoor

namespace Go.Proofs.YtlpabmcebpppfaaGreatDoor
open Go.RowKit

end Go.Proofs.YtlpabmcebpppfaaGreatDoor

namespace Go.Proofs.YtlpabmcebpppfaaGreatDoor
open Go.RowKit

end Go.Proofs.YtlpabmcebpppfaaGreatDoor

namespace Go.Proofs.YtlpabmcebpppfaaGreatDoor
open Go.RowKit

set_option maxHeartbeats 800000 in
set_option maxRecDepth 100000 in
theorem isZeroRat_any (f : Bool) (a b : Option Addr) (n ca m cb : Nat) (w : World) :
    Calls Tryz.prog 218 #[.agg #[.bool f, .slice a n ca, .slice b m cb]] w fun e w' => e = .returned (.bool ((n : Int) == 0)) ∧ w.Since w.heap.size w' := by
  have sA : w.Since w.heap.size (w.alloc (.cells #[.bool f, .slice a n ca, .slice b m cb] 53)) := (World.Since.refl _ _).alloc (Nat.le_refl _) _
  go_enter Tryz.func218, Tryz.ntmps218
  go_wp2
  go_ret
  exact ⟨rfl, sA⟩

end Go.Proofs.YtlpabmcebpppfaaGreatDoor

namespace Go.Proofs.YtlpabmcebpppfaaGreatDoor
open Go.RowKit

/-- The order of two fractions. -/
def cmpR (f f' : Bool) (x y : Nat) : Int := if f = f' then (if f then cmpN y x else cmpN x y) else if f then -1 else 1

theorem fracCmp_any (c : Nat) (f f' : Bool) (a b a' b' : Option Addr) (ba oa n ca bb ob m cb ba' oa' n' ca' bb' ob' m' cb' : Nat) (X Y X' Y' : Nat → Nat) (w : World) (hn : n + n' + m + m' ≤ 16777216)
    (hX : Limbs w a ba oa n X) (hY : Limbs w b bb ob m Y) (hX' : Limbs w a' ba' oa' n' X') (hY' : Limbs w b' bb' ob' m' Y') (hXl : ∀ j, j < n → X j < 4294967296) (hYl : ∀ j, j < m → Y j < 4294967296) (hXl' : ∀ j, j < n' → X' j < 4294967296) (hYl' : ∀ j, j < m' → Y' j < 4294967296)
    (B : Box4 w c (.bool f) (.slice a n ca) (.slice b m cb) (.slice none 0 0)) :
    Calls Tryz.prog 106 #[.pointer (some ⟨c, 0, none⟩), .agg #[.bool f', .slice a' n' ca', .slice b' m' cb', .slice none 0 0]] w fun e w' => e = .returned (.int .i64 (cmpR f f' (lv X n * lv Y' m') (lv X' n' * lv Y m))) ∧ w.Since w.heap.size w' := by
  by_cases hff : f = f'
  · subst hff
    rw [show cmpR f f (lv X n * lv Y' m') (lv X' n' * lv Y m) = if f then cmpN (lv X' n' * lv Y m) (lv X n * lv Y' m') else cmpN (lv X n * lv Y' m') (lv X' n' * lv Y m) by simp [cmpR]]
    exact fracCmp_same c f a b a' b' ba oa n ca bb ob m cb ba' oa' n' ca' bb' ob' m' cb' X Y X' Y' w hn hX hY hX' hY' hXl hYl hXl' hYl' B
  · rw [show cmpR f f' (lv X n * lv Y' m') (lv X' n' * lv Y m) = if f then -1 else 1 by simp [cmpR, hff]]
    exact fracCmp_sign c f f' a b a' b' n ca m cb n' ca' m' cb' w B hff

set_option maxHeartbeats 1600000 in
set_option maxRecDepth 100000 in
theorem orderOf_any (f f' : Bool) (a b a' b' : Option Addr) (ba oa n ca bb ob m cb ba' oa' n' ca' bb' ob' m' cb' : Nat) (X Y X' Y' : Nat → Nat) (w : World) (hn : n + n' + m + m' ≤ 16777216)
    (R : RIn w a b ba oa n ca bb ob m cb X Y) (R' : RIn w a' b' ba' oa' n' ca' bb' ob' m' cb' X' Y') :
    Calls Tryz.prog 85 #[.agg #[.bool f, .slice a n ca, .slice b m cb], .agg #[.bool f', .slice a' n' ca', .slice b' m' cb']] w fun e w' => e = .returned (.int .i64 (cmpR f f' (lv X n * lv Y' m') (lv X' n' * lv Y m))) ∧ w.Since w.heap.size w' := by
  have sA : w.Since w.heap.size ((w.alloc (.cells #[.bool f, .slice a n ca, .slice b m cb] 53)).alloc (.cells #[.bool f', .slice a' n' ca', .slice b' m' cb'] 53)) := ((World.Since.refl _ _).alloc (Nat.le_refl _) _).alloc (by simp) _
  have zA : ((w.alloc (.cells #[.bool f, .slice a n ca, .slice b m cb] 53)).alloc (.cells #[.bool f', .slice a' n' ca', .slice b' m' cb'] 53)).heap.size = w.heap.size + 1 + 1 := by simp
  have oA : Box3 ((w.alloc (.cells #[.bool f, .slice a n ca, .slice b m cb] 53)).alloc (.cells #[.bool f', .slice a' n' ca', .slice b' m' cb'] 53)) w.heap.size (.bool f) (.slice a n ca) (.slice b m cb) := (Box3.new w _ _ _ _).keep ((World.Since.refl _ _).alloc (Nat.le_refl _) _)
  have pA : Box3 ((w.alloc (.cells #[.bool f, .slice a n ca, .slice b m cb] 53)).alloc (.cells #[.bool f', .slice a' n' ca', .slice b' m' cb'] 53)) (w.heap.size + 1) (.bool f') (.slice a' n' ca') (.slice b' m' cb') := by
    have := Box3.new (w.alloc (.cells #[.bool f, .slice a n ca, .slice b m cb] 53)) (.bool f') (.slice a' n' ca') (.slice b' m' cb') 53
    simpa using this
  have m1 := R.m0
  have m1' := R'.m0
  go_enter Tryz.func85, Tryz.ntmps85
  go_wp2_with fail
  generalize ((w.alloc (.cells #[.bool f, .slice a n ca, .slice b m cb] 53)).alloc (.cells #[.bool f', .slice a' n' ca', .slice b' m' cb'] 53)) = w1 at *
  refine (fractionOf_any f a b ba oa n ca bb ob m cb X Y w1 (by omega) (by omega) R.nc R.mc (R.keep sA).LX (R.keep sA).LY R.pX R.pY).mono ?_
  rintro e w2 ⟨rfl, s2⟩
  have S2 : w.Since w.heap.size w2 := sA.trans (sinceMono s2 sA.size)
  have z2 := s2.size
  have p2 := pA.keep s2
  clear pA oA s2
  have t3 : w2.Since w2.heap.size (w2.alloc (.cells #[.bool f, .slice a n ca, .slice b m cb, .slice none 0 0] 168)) := (World.Since.refl _ _).alloc (Nat.le_refl _) _
  have c3 := Box4.new w2 (.bool f) (.slice a n ca) (.slice b m cb) (.slice none 0 0) 168
  have p3 := p2.keep t3
  have S3 : w.Since w.heap.size (w2.alloc (.cells #[.bool f, .slice a n ca, .slice b m cb, .slice none 0 0] 168)) := S2.trans (sinceMono t3 S2.size)
  have k0 := p3.c0
  have k1 := p3.c1
  have k2 := p3.c2
  go_wp2_with fail
  generalize w2.alloc (.cells #[.bool f, .slice a n ca, .slice b m cb, .slice none 0 0] 168) = w3 at *
  refine (fractionOf_any f' a' b' ba' oa' n' ca' bb' ob' m' cb' X' Y' w3 (by omega) (by omega) R'.nc R'.mc (R'.keep S3).LX (R'.keep S3).LY R'.pX R'.pY).mono ?_
  rintro e w4 ⟨rfl, s4⟩
  have S4 : w.Since w.heap.size w4 := S3.trans (sinceMono s4 S3.size)
  have c4 := c3.keep s4
  have R4 := R.keep S4
  have R4' := R'.keep S4
  clear k0 k1 k2 p3 p2 c3 s4
  have J := fracCmp_any w2.heap.size f f' a b a' b' ba oa n ca bb ob m cb ba' oa' n' ca' bb' ob' m' cb' X Y X' Y' w4 hn R4.LX R4.LY R4'.LX R4'.LY R.lX R.lY R'.lX R'.lY c4
  obtain ⟨z, hz⟩ : ∃ z, z = cmpR f f' (lv X n * lv Y' m') (lv X' n' * lv Y m) := ⟨_, rfl⟩
  rw [← hz] at J
  have HZ := hide hz
  clear hz
  go_wp2_with fail
  refine J.mono ?_
  rintro e w5 ⟨rfl, s5⟩
  go_wp2
  go_ret
  exact ⟨ret_int HZ.out, S4.trans (sinceMono s5 S4.size)⟩

end Go.Proofs.YtlpabmcebpppfaaGreatDoor
