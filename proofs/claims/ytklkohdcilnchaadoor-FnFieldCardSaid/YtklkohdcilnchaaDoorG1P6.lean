import Derived.Test.YtklkohdcilnchaaDoorG1P5
import Derived.Test.YtklkohdcilnchaaDoorG1P2
import Derived.Maps.AppendAt
import Derived.OneCell
import Derived.Test.YtklkohdcilnchaaDoorG1P1
import Derived.Test.YtklkohdcilnchaaDoorG1P3
namespace Go.Proofs.YtklkohdcilnchaaDoor
open Go.RowKit

/-- The limbs of a machine number. -/
def nl (v j : Nat) : Nat := v / 4294967296 ^ j % 4294967296

theorem lv_nl (v k : Nat) : lv (nl v) k = v % 4294967296 ^ k := by
  induction k with
  | zero => simp [lv, Nat.mod_one]
  | succ k ih =>
    have h : lv (nl v) (k + 1) = lv (nl v) k + nl v k * 2 ^ (32 * k) := rfl
    rw [h, ih, Nat.pow_succ, Nat.mod_mul, show (2 : Nat) ^ (32 * k) = 4294967296 ^ k by rw [Nat.pow_mul], Nat.mul_comm (4294967296 ^ k)]
    rfl

theorem own_limbs2 {w : World} {base : Nat} {v : Value} {m : Nat} {X : Nat → Nat} (h : w.ownsRow base 43 1 v m (ll X m)) (hs : v ≠ .slice none 0 0) :
    ∃ a g cap, v = .slice a m cap ∧ m ≤ cap ∧ (a = none → cap = 0) ∧ base ≤ g ∧ g < w.heap.size ∧ Limbs w a g 0 m X ∧ (0 < m → ∀ o, w.frozen? ⟨g, o, none⟩ = false) := by
  have hc := @World.ownsRow.cells _ _ _ _ _ _ _ h
  rcases h.2 with ⟨rfl, rfl⟩ | ⟨g, cap, cur, rfl, hb, hg, hm, _⟩
  · exact absurd rfl hs
  · refine ⟨_, g, cap, rfl, hm, fun h => (by cases h), hb, (Array.getElem?_eq_some_iff.1 hg).1, fun j hj => ⟨rfl, ?_⟩, fun _ o => by simp [World.frozen?, hg]⟩
    have := hc (g := g) rfl j _ (ll_get X m j hj)
    rw [Addr.add_lit] at this; exact this

set_option maxHeartbeats 1600000 in
set_option maxRecDepth 100000 in
theorem l1LimbsOf_any (v : Nat) (w : World) (hv : v < 18446744073709551616) :
    Calls Tryd.prog 98 #[.int .u64 v] w fun e w' => ∃ x g, e = .returned x ∧ NatAt w' x g v 4194304 ∧ w.heap.size ≤ g ∧ w.Since w.heap.size w' ∧ g < w'.heap.size := by
  obtain ⟨i0, hi, hz0, hz1, hz2⟩ := info_parts Tryd.info43
  go_enter Tryd.func98, Tryd.ntmps98
  go_wp2
  go_loopw [0, 3] (fun p o wr => ∃ k q : Nat, k ≤ 2 ∧ p = .int .u64 q ∧ q < 18446744073709551616 ∧ Hid (q = v / 4294967296 ^ k) ∧ Hid (0 < k → 0 < v / 4294967296 ^ (k - 1)) ∧ wr.ownsRow w.heap.size 43 1 o k (ll (nl v) k) ∧ w.Since w.heap.size wr ∧ Hid (o ≠ .slice none 0 0)) (fun p _ _ => (intOf p).toNat)
  case atStart => exact ⟨0, v, by omega, rfl, hv, hide (by simp), hide (fun h => absurd h (by omega)), World.ownsRow_made w #[] 0 (Nat.le_refl _) (by decide) rfl, (World.Since.refl _ _).alloc (Nat.le_refl _) _, hide (by simp)⟩
  case round =>
    obtain ⟨k, q, hk, rfl, hq, HQ, HP, hown, hs, hsz⟩ := hrel
    by_cases h0 : q = 0
    · subst h0
      obtain ⟨a', g, cap', rfl, hmc, hac, hg, hgl, hL, hf⟩ := own_limbs2 hown hsz.out
      go_wp2
      go_ret
      have hlt : v < 4294967296 ^ k := by
        have := HQ.out
        have h2 : 0 < 4294967296 ^ k := Nat.pow_pos (by omega)
        rcases Nat.lt_or_ge v (4294967296 ^ k) with h | h
        · exact h
        · have := Nat.div_pos h h2; omega
      refine ⟨_, g, rfl, ⟨a', k, cap', nl v, rfl, hmc, by omega, hac, hL, hf, fun j _ => Nat.mod_lt _ (by omega), fun h => ?_, (lv_nl v k).trans (Nat.mod_eq_of_lt hlt)⟩, hg, hs, hgl⟩
      have h1 := HP.out h
      obtain ⟨j, rfl⟩ : ∃ j, k = j + 1 := ⟨k - 1, by omega⟩
      have h2 : v / 4294967296 ^ j < 4294967296 := by rw [Nat.div_lt_iff_lt_mul (Nat.pow_pos (by omega))]; rw [Nat.pow_succ] at hlt; omega
      simp only [Nat.add_sub_cancel] at h1 ⊢
      unfold nl
      rw [Nat.mod_eq_of_lt h2]
      omega
    · have hk2 : k < 2 := by
        rcases Nat.lt_or_ge k 2 with h | h
        · exact h
        · have e : k = 2 := by omega
          subst e
          have := HQ.out
          rw [Nat.div_eq_of_lt (show v < 4294967296 ^ 2 by omega)] at this
          omega
      have hne : 0 < q := by omega
      have hne2 : ((q : Int) == 0) = false := by simp; omega
      obtain ⟨y, hy⟩ : ∃ y, y = nl v k := ⟨_, rfl⟩
      have hyq : (q : Int) % 4294967296 = (y : Int) := by rw [hy]; unfold nl; rw [← HQ.out]; omega
      have hyl : y < 4294967296 := by rw [hy]; exact Nat.mod_lt _ (by omega)
      have HY := hide hy
      clear hy h0
      go_wp2_with (at_builtin; refine wpList_append_own _ rfl _ _ 23 rfl w.heap.size 43 i0 (.int .u32 0) 1 4 Tryd.underlying23 hi hz0 hz1 hz2 rfl (by decide) _ _ _ rfl (hown.alloc _) ⟨wr.heap.size, 0, none⟩ 1 1 [.int .u32 _] rfl rfl (new_cell _ _ _) (one_one _ rfl) (by unfold maxLen; omega) (by omega) (by have := hs.size; simp; omega) ?_)
      intro v' w1 hown' hgrow hnn
      have hs1 : w.Since w.heap.size w1 := (hs.alloc hs.size _).grown hgrow (by have := hs.size; simp; omega) (fun k hk => (hown.lt k hk).1)
      have HN := hide hnn
      rw [HY.out, ← ll_succ] at hown'
      clear hgrow hown hs hnn hsz
      go_wp2
      go_roundw
      case rel => exact ⟨k + 1, q / 4294967296, by omega, by go_num, by omega, hide (by rw [HQ.out, Nat.div_div_eq_div_mul, Nat.pow_succ]), hide (fun _ => by rw [Nat.add_sub_cancel, ← HQ.out]; exact hne), hown', hs1, HN⟩
      case measure => simp [intOf]; omega

set_option maxHeartbeats 1600000 in
set_option maxRecDepth 100000 in
theorem l1MakeSmall_any (neg : Bool) (n d : Nat) (w : World) (hn : n < 18446744073709551616) (hd : d < 18446744073709551616) (hd0 : 0 < d) :
    Calls Tryd.prog 84 #[.bool neg, .int .u64 n, .int .u64 d] w fun e w' => ∃ v, e = .returned v ∧ RatV w' v (neg && n != 0) (n / Nat.gcd n d) (d / Nat.gcd n d) w.heap.size 4194304 ∧ w.Since w.heap.size w' := by
  by_cases h0 : n = 0
  · subst h0
    have e1 : d / Nat.gcd 0 d = 1 := by rw [Nat.gcd_zero_left]; exact Nat.div_self hd0
    rw [show (neg && (0 : Nat) != 0) = false by simp, Nat.zero_div, e1]
    clear e1
    have sA : w.Since w.heap.size (w.alloc (.cells #[.bool false, .slice none 0 0, .slice none 0 0] 25)) := (World.Since.refl _ _).alloc (Nat.le_refl _) _
    have rA := Box3.new w (.bool false) (.slice none 0 0) (.slice none 0 0) 25
    go_enter Tryd.func84, Tryd.ntmps84
    go_wp2_with fail
    generalize (w.alloc (.cells #[.bool false, .slice none 0 0, .slice none 0 0] 25)) = w1 at *
    refine (l1Zero_any w1).mono ?_
    rintro e w2 ⟨v, rfl, ⟨v1, v2, g, h, rfl, N1, N2, b1, b2, ne⟩, s2⟩
    have rB := rA.keep s2
    have hz := rA.lt
    have N1' := N1
    have N2' := N2
    obtain ⟨a1, m1, c1, Y1, rfl, -⟩ := N1
    obtain ⟨a2, m2, c2, Y2, rfl, -⟩ := N2
    have u0 := rB.c0
    have u1 := rB.c1
    have u2 := rB.c2
    have uf0 := rB.f 0
    have uf1 := rB.f 1
    have uf2 := rB.f 2
    go_wp2
    have r4 := ((rB.set0 (.bool false)).set1 (.slice a1 m1 c1)).set2 (.slice a2 m2 c2)
    refine bodyPost_ret (results_box3 rfl _ _ _ _ _ _ rfl r4) rfl ?_
    have M : Marked w2 _ w.heap.size := (((Marked.refl w2 _).setCell 0 (.bool false)).setCell 1 (.slice a1 m1 c1)).setCell 2 (.slice a2 m2 c2)
    exact ⟨_, rfl, ⟨_, _, g, h, rfl, N1'.marked M (by omega), N2'.marked M (by omega), by omega, by omega, ne⟩, (sA.trans (sinceMono s2 sA.size)).trans (M.since (Nat.le_refl _))⟩
  · have hne : ((n : Int) == 0) = false := by simp; omega
    obtain ⟨G, hG⟩ : ∃ G, G = Nat.gcd n d := ⟨_, rfl⟩
    have hG0 : 0 < G := by rw [hG]; exact Nat.gcd_pos_of_pos_right n hd0
    have hGl : G < 18446744073709551616 := by rw [hG]; exact Nat.lt_of_le_of_lt (Nat.gcd_le_right n hd0) hd
    have hb : (neg && n != 0) = neg := by simp [h0]
    rw [← hG, hb]
    have sA : w.Since w.heap.size (w.alloc (.cells #[.bool false, .slice none 0 0, .slice none 0 0] 25)) := (World.Since.refl _ _).alloc (Nat.le_refl _) _
    have rA := Box3.new w (.bool false) (.slice none 0 0) (.slice none 0 0) 25
    have JG := l1GcdSmall_any n d (w.alloc (.cells #[.bool false, .slice none 0 0, .slice none 0 0] 25)) hn hd
    rw [← hG] at JG
    obtain ⟨x, hx⟩ : ∃ x, x = n / G := ⟨_, rfl⟩
    obtain ⟨y, hy⟩ : ∃ y, y = d / G := ⟨_, rfl⟩
    have hxl : x < 18446744073709551616 := by rw [hx]; exact Nat.lt_of_le_of_lt (Nat.div_le_self _ _) hn
    have hyl : y < 18446744073709551616 := by rw [hy]; exact Nat.lt_of_le_of_lt (Nat.div_le_self _ _) hd
    have hxd : IntKind.u64.wrap ((n : Int) / (G : Int)) = (x : Int) := by rw [← Int.natCast_ediv, ← hx]; exact wrap_u64_id x hxl
    have hyd : IntKind.u64.wrap ((d : Int) / (G : Int)) = (y : Int) := by rw [← Int.natCast_ediv, ← hy]; exact wrap_u64_id y hyl
    have hGz : ((G : Int) == 0) = false := by simp; omega
    have hGz2 : ¬ (G : Int) = 0 := by omega
    rw [← hx, ← hy]
    clear hx hy hG hn hd
    go_enter Tryd.func84, Tryd.ntmps84
    go_wp2_with fail
    refine JG.mono ?_
    rintro e w1 ⟨rfl, rfl⟩
    clear JG
    generalize (w.alloc (.cells #[.bool false, .slice none 0 0, .slice none 0 0] 25)) = w1 at *
    have J1 := l1LimbsOf_any x w1.drew hxl
    go_wp2
    go_region_held (fun _ => True) (trivial)
      (first
        | (go_at_call 98
           first
            | (with_reducible refine J1.mono ?_
               rintro e w2 ⟨v1, g, rfl, N1, b1, s2, z2⟩
               have J2 := l1LimbsOf_any y w2 hyl
               have rC := rA.drew.keep s2
               have N1' := N1
               obtain ⟨a1, m1, c1, Y1, rfl, -⟩ := N1)
            | (with_reducible refine J2.mono ?_
               rintro e w3 ⟨v2, h, rfl, N2, b2, s3, z3⟩
               have N2' := N2
               obtain ⟨a2, m2, c2, Y2, rfl, -⟩ := N2
               have rB := rC.keep s3
               have u0 := rB.c0
               have u1 := rB.c1
               have u2 := rB.c2
               have uf0 := rB.f 0
               have uf1 := rB.f 1
               have uf2 := rB.f 2)))
    all_goals go_wp2
    all_goals
      have hz : w.heap.size < w1.heap.size := rA.lt
      have zd : w1.drew.heap.size = w1.heap.size := rfl
      have r4 := ((rB.set0 (.bool neg)).set1 (.slice a1 m1 c1)).set2 (.slice a2 m2 c2)
      refine bodyPost_ret (results_box3 rfl _ _ _ _ _ _ rfl r4) rfl ?_
      have M : Marked w3 _ w.heap.size := (((Marked.refl w3 _).setCell 0 (.bool neg)).setCell 1 (.slice a1 m1 c1)).setCell 2 (.slice a2 m2 c2)
      have S1 : w.Since w.heap.size w1.drew := since_drew sA
      exact ⟨_, rfl, ⟨_, _, g, h, rfl, (N1'.keep s3).marked M (by omega), N2'.marked M (by omega), by omega, by omega, by omega⟩, ((S1.trans (sinceMono s2 S1.size)).trans (sinceMono s3 (Nat.le_trans S1.size s2.size))).trans (M.since (Nat.le_refl _))⟩

set_option maxHeartbeats 1600000 in
set_option maxRecDepth 100000 in
/-- l1Make of two trimmed lists of bits, the second not zero. -/
theorem l1Make_any (neg : Bool) (v1 v2 : Value) (n m : Nat) (A B : Nat → Bool) (w : World) (hn : n ≤ 67108864) (hm : m ≤ 67108864) (hA : Tr w v1 n A) (hB : Tr w v2 m B) (hD : 0 < bv B m) :
    Calls Tryd.prog 60 #[.bool neg, v1, v2] w fun e w' => ∃ v, e = .returned v ∧ RatV w' v (neg && bv A n != 0) (bv A n / Nat.gcd (bv A n) (bv B m)) (bv B m / Nat.gcd (bv A n) (bv B m)) w.heap.size 4194304 ∧ w.Since w.heap.size w' := by
  have hA' := hA
  have hB' := hB
  obtain ⟨a, ba, oa, ca, rfl, hca, LA, tA⟩ := hA
  obtain ⟨b, bb, ob, cb, rfl, hcb, LB, tB⟩ := hB
  have sA : w.Since w.heap.size (w.alloc (.cells #[.bool false, .slice none 0 0, .slice none 0 0] 25)) := (World.Since.refl _ _).alloc (Nat.le_refl _) _
  have rA := Box3.new w (.bool false) (.slice none 0 0) (.slice none 0 0) 25
  by_cases h0 : n = 0
  · subst h0
    have e0 : bv A 0 = 0 := rfl
    rw [e0]
    have e1 : bv B m / Nat.gcd 0 (bv B m) = 1 := by rw [Nat.gcd_zero_left]; exact Nat.div_self hD
    rw [show (neg && (0 : Nat) != 0) = false by simp, Nat.zero_div, e1]
    clear e1 e0 tA tB hD hA' hB'
    go_enter Tryd.func60, Tryd.ntmps60
    go_wp2_with fail
    generalize (w.alloc (.cells #[.bool false, .slice none 0 0, .slice none 0 0] 25)) = w1 at *
    refine (l1Zero_any w1).mono ?_
    rintro e w2 ⟨v, rfl, ⟨v1, v2, g, h, rfl, N1, N2, b1, b2, ne⟩, s2⟩
    have rB := rA.keep s2
    have hz := rA.lt
    have N1' := N1
    have N2' := N2
    obtain ⟨a1, m1, c1, Y1, rfl, -⟩ := N1
    obtain ⟨a2, m2, c2, Y2, rfl, -⟩ := N2
    have u0 := rB.c0
    have u1 := rB.c1
    have u2 := rB.c2
    have uf0 := rB.f 0
    have uf1 := rB.f 1
    have uf2 := rB.f 2
    go_wp2
    have r4 := ((rB.set0 (.bool false)).set1 (.slice a1 m1 c1)).set2 (.slice a2 m2 c2)
    refine bodyPost_ret (results_box3 rfl _ _ _ _ _ _ rfl r4) rfl ?_
    have M : Marked w2 _ w.heap.size := (((Marked.refl w2 _).setCell 0 (.bool false)).setCell 1 (.slice a1 m1 c1)).setCell 2 (.slice a2 m2 c2)
    exact ⟨_, rfl, ⟨_, _, g, h, rfl, N1'.marked M (by omega), N2'.marked M (by omega), by omega, by omega, ne⟩, (sA.trans (sinceMono s2 sA.size)).trans (M.since (Nat.le_refl _))⟩
  · have hne : ((n : Int) == 0) = false := by simp; omega
    have hpos : 0 < bv A n := bv_pos (by omega) (tA (by omega))
    have hb : (neg && bv A n != 0) = neg := by
      have h9 : bv A n ≠ 0 := by omega
      simp [h9]
    rw [hb]
    obtain ⟨G, hG⟩ : ∃ G, G = Nat.gcd (bv A n) (bv B m) := ⟨_, rfl⟩
    have hG0 : 0 < G := by rw [hG]; exact Nat.gcd_pos_of_pos_right _ hD
    have hGl : G ≤ bv B m := by rw [hG]; exact Nat.gcd_le_right _ hD
    have hGA : G ≤ bv A n := by rw [hG]; exact Nat.gcd_le_left _ hpos
    rw [← hG]
    clear hb
    go_enter Tryd.func60, Tryd.ntmps60
    go_wp2_with fail
    generalize (w.alloc (.cells #[.bool false, .slice none 0 0, .slice none 0 0] 25)) = w1 at *
    refine (l1GcdBits_any _ _ n m A B w1 hn hm (hA'.keep sA) (hB'.keep sA)).mono ?_
    rintro e w2 ⟨v3, t, O, rfl, ht, T3, e3, s2⟩
    rw [← hG] at e3
    obtain ⟨a3, b3, o3, c3, rfl, hc3, L3, p3⟩ := T3
    have S2 : w.Since w.heap.size w2 := sA.trans (sinceMono s2 sA.size)
    have htm : t ≤ m := bv_len p3 (by rw [e3]; exact hGl)
    clear hG hA' hB'
    go_wp2_with fail
    refine (l1DivBits_any a a3 ba oa n ca b3 o3 t c3 A O w2 (by omega) (by omega) (LA.keep S2) L3 p3 (by rw [e3]; exact hG0)).mono ?_
    rintro e w3 ⟨gq, tq, cq, Q, gr, tr, cr, R, rfl, q1, q2, q3, q4, LQ, -, q5, q6, q7, q8, eQ, -, s3⟩
    have S3 : w.Since w.heap.size w3 := S2.trans (sinceMono s3 S2.size)
    go_wp2_with fail
    refine (l1DivBits_any b a3 bb ob m cb b3 o3 t c3 B O w3 (by omega) (by omega) (LB.keep S3) (L3.keep s3) p3 (by rw [e3]; exact hG0)).mono ?_
    rintro e w4 ⟨gp, tp, cp, Q', gs, ts, cs, R', rfl, p1, p2, p3', p4, LP, -, p5, p6, p7, p8, eP, -, s4⟩
    have S4 : w.Since w.heap.size w4 := S3.trans (sinceMono s4 S3.size)
    have rB := ((rA.keep s2).keep s3).keep s4
    rw [e3] at eQ eP
    have EE := hide (And.intro (eQ.trans rfl) (And.intro eP (And.intro (Nat.div_pos hGA hG0) (Nat.div_pos hGl hG0))))
    clear eQ eP e3 q7 q8 p7 p8 p3 hpos tA tB hD hG0 hGl hGA
    go_wp2_with fail
    refine (l1Limbs_any _ gq 0 tq cq Q w4 (by omega) q1 (LQ.keep s4)).mono ?_
    rintro e w5 ⟨a5, g5, m5, c5, Y5, rfl, x1, x2, L5, x3, F5, l5, y5, e5, s5⟩
    go_wp2_with fail
    refine (l1Limbs_any _ gp 0 tp cp Q' w5 (by omega) p1 (LP.keep s5)).mono ?_
    rintro e w6 ⟨a6, g6, m6, c6, Y6, rfl, z1, z2, L6, z3, F6, l6, y6, e6, s6⟩
    have rC := (rB.keep s5).keep s6
    have u0 := rC.c0
    have u1 := rC.c1
    have u2 := rC.c2
    have uf0 := rC.f 0
    have uf1 := rC.f 1
    have uf2 := rC.f 2
    have hz := rB.lt
    have b5 := s5.size
    have b6 := s6.size
    have EF := hide (And.intro l5 (And.intro y5 (And.intro e5 (And.intro l6 (And.intro y6 e6)))))
    clear l5 y5 e5 l6 y6 e6
    go_wp2
    obtain ⟨l5, y5, e5, l6, y6, e6⟩ := EF.out
    obtain ⟨f1, f2, f3, f4⟩ := EE.out
    have k5 : 0 < m5 := by
      rcases Nat.eq_zero_or_pos m5 with h | h
      · subst h; rw [show lv Y5 0 = 0 from rfl] at e5; omega
      · exact h
    have k6 : 0 < m6 := by
      rcases Nat.eq_zero_or_pos m6 with h | h
      · subst h; rw [show lv Y6 0 = 0 from rfl] at e6; omega
      · exact h
    have N5 : NatAt w5 (.slice a5 m5 c5) g5 (bv A n / G) 4194304 := ⟨a5, m5, c5, Y5, rfl, x1, by omega, fun h => (by rw [(L5 0 k5).1] at h; cases h), L5, F5, fun j _ => l5 j, y5, e5.trans f1⟩
    have N6 : NatAt w6 (.slice a6 m6 c6) g6 (bv B m / G) 4194304 := ⟨a6, m6, c6, Y6, rfl, z1, by omega, fun h => (by rw [(L6 0 k6).1] at h; cases h), L6, F6, fun j _ => l6 j, y6, e6.trans f2⟩
    have g5l := L5.lt k5
    have x3' := x3 k5
    have z3' := z3 k6
    have r4 := ((rC.set0 (.bool neg)).set1 (.slice a5 m5 c5)).set2 (.slice a6 m6 c6)
    refine bodyPost_ret (results_box3 rfl _ _ _ _ _ _ rfl r4) rfl ?_
    have M : Marked w6 _ w.heap.size := (((Marked.refl w6 _).setCell 0 (.bool neg)).setCell 1 (.slice a5 m5 c5)).setCell 2 (.slice a6 m6 c6)
    exact ⟨_, rfl, ⟨_, _, g5, g6, rfl, (N5.keep s6).marked M (by omega), N6.marked M (by omega), by have := S4.size; omega, by have := S4.size; omega, by omega⟩, ((S4.trans (sinceMono s5 S4.size)).trans (sinceMono s6 (Nat.le_trans S4.size b5))).trans (M.since (Nat.le_refl _))⟩

end Go.Proofs.YtklkohdcilnchaaDoor

namespace Go.Proofs.YtklkohdcilnchaaDoor
open Go.RowKit

/-- A Rat, as an argument, valid or not. -/
structure RRaw (w : World) (a b : Option Addr) (ba oa n ca bb ob m cb : Nat) (X Y : Nat → Nat) : Prop where
  nc : n ≤ ca
  mc : m ≤ cb
  ac : a = none → ca = 0
  bc : b = none → cb = 0
  LX : Limbs w a ba oa n X
  LY : Limbs w b bb ob m Y
  lX : ∀ j, j < n → X j < 4294967296
  lY : ∀ j, j < m → Y j < 4294967296

theorem RRaw.keep {w w' : World} {a b : Option Addr} {ba oa n ca bb ob m cb : Nat} {X Y : Nat → Nat} (h : RRaw w a b ba oa n ca bb ob m cb X Y) (s : w.Since w.heap.size w') : RRaw w' a b ba oa n ca bb ob m cb X Y :=
  ⟨h.nc, h.mc, h.ac, h.bc, h.LX.keep s, h.LY.keep s, h.lX, h.lY⟩

theorem RRaw.ok {w : World} {f : Bool} {a b : Option Addr} {ba oa n ca bb ob m cb : Nat} {X Y : Nat → Nat} (h : RRaw w a b ba oa n ca bb ob m cb X Y) (ok : ratOkB f X n Y m = true) : RIn w a b ba oa n ca bb ob m cb X Y := by
  unfold ratOkB at ok
  simp only [Bool.and_eq_true, bne_iff_ne] at ok
  exact ⟨h.nc, h.mc, h.ac, h.bc, h.LX, h.LY, h.lX, h.lY, plainB_iff.1 ok.1.1.1.1, plainB_iff.1 ok.1.1.1.2, by have := ok.1.1.2; omega⟩

set_option maxHeartbeats 1600000 in
set_option maxRecDepth 100000 in
/-- impl.RatMul where one is not valid. -/
theorem implRatMul_no (f f' : Bool) (a b a' b' : Option Addr) (ba oa n ca bb ob m cb ba' oa' n' ca' bb' ob' m' cb' : Nat) (X Y X' Y' : Nat → Nat) (w : World) (hw : 0 < w.heap.size) (hT : Tab w) (hn : n + n' ≤ 1048576) (hm : m + m' ≤ 1048576)
    (R : RRaw w a b ba oa n ca bb ob m cb X Y) (R' : RRaw w a' b' ba' oa' n' ca' bb' ob' m' cb' X' Y') (ok : ¬ (ratOkB f X n Y m = true ∧ ratOkB f' X' n' Y' m' = true)) :
    Calls Tryd.prog 9 #[.agg #[.bool f, .slice a n ca, .slice b m cb], .agg #[.bool f', .slice a' n' ca', .slice b' m' cb']] w fun e w' => ∃ v, e = .returned v ∧ RatV w' v false 0 1 w.heap.size 4194304 ∧ w.Since w.heap.size w' := by
  have sA : w.Since w.heap.size (((w.alloc (.cells #[.bool f, .slice a n ca, .slice b m cb] 25)).alloc (.cells #[.bool f', .slice a' n' ca', .slice b' m' cb'] 25)).alloc (.cells #[.bool false, .slice none 0 0, .slice none 0 0] 25)) := (((World.Since.refl _ _).alloc (Nat.le_refl _) _).alloc (by simp) _).alloc (by simp; omega) _
  have zA : (((w.alloc (.cells #[.bool f, .slice a n ca, .slice b m cb] 25)).alloc (.cells #[.bool f', .slice a' n' ca', .slice b' m' cb'] 25)).alloc (.cells #[.bool false, .slice none 0 0, .slice none 0 0] 25)).heap.size = w.heap.size + 1 + 1 + 1 := by simp
  have pA : Box3 (((w.alloc (.cells #[.bool f, .slice a n ca, .slice b m cb] 25)).alloc (.cells #[.bool f', .slice a' n' ca', .slice b' m' cb'] 25)).alloc (.cells #[.bool false, .slice none 0 0, .slice none 0 0] 25)) (w.heap.size + 1) (.bool f') (.slice a' n' ca') (.slice b' m' cb') := by
    have := (Box3.new (w.alloc (.cells #[.bool f, .slice a n ca, .slice b m cb] 25)) (.bool f') (.slice a' n' ca') (.slice b' m' cb') 25).keep ((World.Since.refl _ _).alloc (Nat.le_refl _) (.cells #[.bool false, .slice none 0 0, .slice none 0 0] 25))
    simpa using this
  have rA : Box3 (((w.alloc (.cells #[.bool f, .slice a n ca, .slice b m cb] 25)).alloc (.cells #[.bool f', .slice a' n' ca', .slice b' m' cb'] 25)).alloc (.cells #[.bool false, .slice none 0 0, .slice none 0 0] 25)) (w.heap.size + 1 + 1) (.bool false) (.slice none 0 0) (.slice none 0 0) := by
    have := Box3.new ((w.alloc (.cells #[.bool f, .slice a n ca, .slice b m cb] 25)).alloc (.cells #[.bool f', .slice a' n' ca', .slice b' m' cb'] 25)) (.bool false) (.slice none 0 0) (.slice none 0 0) 25
    simpa using this
  have TA := hT.stay hw sA
  go_enter Tryd.func9, Tryd.ntmps9
  go_wp2_with fail
  generalize (((w.alloc (.cells #[.bool f, .slice a n ca, .slice b m cb] 25)).alloc (.cells #[.bool f', .slice a' n' ca', .slice b' m' cb'] 25)).alloc (.cells #[.bool false, .slice none 0 0, .slice none 0 0] 25)) = w1 at *
  have RA := R.keep sA
  have RA' := R'.keep sA
  have wA := Nat.lt_of_lt_of_le hw sA.size
  have I1 := implRatOk_any f a b ba oa n ca bb ob m cb X Y w1 wA (by omega) (by omega) R.nc R.mc R.ac R.bc RA.LX RA.LY R.lX R.lY TA
  by_cases h1 : ratOkB f X n Y m = true
  · have h2 : ratOkB f' X' n' Y' m' = false := by
      cases e : ratOkB f' X' n' Y' m'
      · rfl
      · exact absurd ⟨h1, e⟩ ok
    rw [h1] at I1
    clear h1 ok
    refine I1.mono ?_
    rintro e w2 ⟨rfl, s2⟩
    have p2 := pA.keep s2
    have r2 := rA.keep s2
    have S2 : w.Since w.heap.size w2 := sA.trans (sinceMono s2 sA.size)
    have z2 := s2.size
    have RB' := RA'.keep s2
    have I2 := implRatOk_any f' a' b' ba' oa' n' ca' bb' ob' m' cb' X' Y' w2 (Nat.lt_of_lt_of_le hw S2.size) (by omega) (by omega) R'.nc R'.mc R'.ac R'.bc RB'.LX RB'.LY R'.lX R'.lY (hT.stay hw S2)
    rw [h2] at I2
    clear I1 pA rA h2
    have k0 := p2.c0
    have k1 := p2.c1
    have k2 := p2.c2
    go_wp2_with fail
    refine I2.mono ?_
    rintro e w3 ⟨rfl, s3⟩
    have S3 : w.Since w.heap.size w3 := S2.trans (sinceMono s3 S2.size)
    have z3 := s3.size
    have r3 := r2.keep s3
    clear I2 k0 k1 k2 p2 r2
    go_wp2_with fail
    refine (zeroRat_any w3).mono ?_
    rintro e w6 ⟨v, rfl, ⟨x1, x2, g6, h6, rfl, N6, D6, y1, y2, y3⟩, s6⟩
    have rB := r3.keep s6
    have N6' := N6
    have D6' := D6
    obtain ⟨a1, q1, c1, Y1, rfl, -⟩ := N6
    obtain ⟨a2, q2, c2, Y2, rfl, -⟩ := D6
    have S6 : w.Since w.heap.size w6 := S3.trans (sinceMono s6 S3.size)
    have u0 := rB.c0
    have u1 := rB.c1
    have u2 := rB.c2
    have uf0 := rB.f 0
    have uf1 := rB.f 1
    have uf2 := rB.f 2
    go_wp2
    have rC := ((rB.set0 (.bool false)).set1 (.slice a1 q1 c1)).set2 (.slice a2 q2 c2)
    refine bodyPost_ret (results_box3 rfl _ _ _ _ _ _ rfl rC) rfl ?_
    have M : Marked w6 _ (w.heap.size + 1 + 1) := (((Marked.refl w6 _).setCell 0 (.bool false)).setCell 1 (.slice a1 q1 c1)).setCell 2 (.slice a2 q2 c2)
    exact ⟨_, rfl, ⟨_, _, g6, h6, rfl, N6'.marked M (by omega), D6'.marked M (by omega), by omega, by omega, y3⟩, S6.trans (M.since (by omega))⟩
  · have h1' : ratOkB f X n Y m = false := by simpa using h1
    rw [h1'] at I1
    clear h1 h1' ok
    refine I1.mono ?_
    rintro e w3 ⟨rfl, s3⟩
    have S3 : w.Since w.heap.size w3 := sA.trans (sinceMono s3 sA.size)
    have z3 := s3.size
    have z2 : w1.heap.size ≤ w1.heap.size := Nat.le_refl _
    have r3 := rA.keep s3
    clear I1 pA rA
    go_wp2_with fail
    refine (zeroRat_any w3).mono ?_
    rintro e w6 ⟨v, rfl, ⟨x1, x2, g6, h6, rfl, N6, D6, y1, y2, y3⟩, s6⟩
    have rB := r3.keep s6
    have N6' := N6
    have D6' := D6
    obtain ⟨a1, q1, c1, Y1, rfl, -⟩ := N6
    obtain ⟨a2, q2, c2, Y2, rfl, -⟩ := D6
    have S6 : w.Since w.heap.size w6 := S3.trans (sinceMono s6 S3.size)
    have u0 := rB.c0
    have u1 := rB.c1
    have u2 := rB.c2
    have uf0 := rB.f 0
    have uf1 := rB.f 1
    have uf2 := rB.f 2
    go_wp2
    have rC := ((rB.set0 (.bool false)).set1 (.slice a1 q1 c1)).set2 (.slice a2 q2 c2)
    refine bodyPost_ret (results_box3 rfl _ _ _ _ _ _ rfl rC) rfl ?_
    have M : Marked w6 _ (w.heap.size + 1 + 1) := (((Marked.refl w6 _).setCell 0 (.bool false)).setCell 1 (.slice a1 q1 c1)).setCell 2 (.slice a2 q2 c2)
    exact ⟨_, rfl, ⟨_, _, g6, h6, rfl, N6'.marked M (by omega), D6'.marked M (by omega), by omega, by omega, y3⟩, S6.trans (M.since (by omega))⟩

end Go.Proofs.YtklkohdcilnchaaDoor

namespace Go.Proofs.YtklkohdcilnchaaDoor
open Go.RowKit

set_option maxHeartbeats 1600000 in
set_option maxRecDepth 100000 in
/-- (*fraction).compare at differing signs. -/
theorem fracCmp_sign (c : Nat) (f f' : Bool) (a b a' b' : Option Addr) (n ca m cb n' ca' m' cb' : Nat) (w : World) (B : Box3 w c (.bool f) (.slice a n ca) (.slice b m cb)) (hne : f ≠ f') :
    Calls Tryd.prog 74 #[.pointer (some ⟨c, 0, none⟩), .agg #[.bool f', .slice a' n' ca', .slice b' m' cb']] w fun e w' => e = .returned (.int .i64 (if f then -1 else 1)) ∧ w.Since w.heap.size w' := by
  have sA : w.Since w.heap.size (w.alloc (.cells #[.bool f', .slice a' n' ca', .slice b' m' cb'] 74)) := (World.Since.refl _ _).alloc (Nat.le_refl _) _
  have BA := B.keep sA
  have gA := Box3.new w (.bool f') (.slice a' n' ca') (.slice b' m' cb') 74
  have k0 := BA.c0
  have g0 := gA.c0
  cases f <;> cases f'
  · exact absurd rfl hne
  · go_enter Tryd.func74, Tryd.ntmps74
    go_wp2
    go_quiet (fail)
    go_wp2
    go_ret
    exact ⟨rfl, ⟨sA.os, sA.tape, sA.output, sA.size, sA.block⟩⟩
  · go_enter Tryd.func74, Tryd.ntmps74
    go_wp2
    go_quiet (fail)
    go_wp2
    go_ret
    exact ⟨rfl, ⟨sA.os, sA.tape, sA.output, sA.size, sA.block⟩⟩
  · exact absurd rfl hne

end Go.Proofs.YtklkohdcilnchaaDoor

namespace Go.Proofs.YtklkohdcilnchaaDoor
open Go.RowKit

/-- What writing into one cell of a box and into one row leaves. -/
structure At1 (c o : Nat) (r : Option Nat) (w w' : World) : Prop where
  os : w'.os = w.os
  tape : w'.tape = w.tape
  output : w'.output = w.output
  size : w.heap.size ≤ w'.heap.size
  block : ∀ k, k < w.heap.size → k ≠ c → some k ≠ r → w'.heap[k]? = w.heap[k]?
  cell : ∀ x, x ≠ o → w'.cell? ⟨c, x, none⟩ = w.cell? ⟨c, x, none⟩
  frozen : ∀ x, w'.frozen? ⟨c, x, none⟩ = w.frozen? ⟨c, x, none⟩

section
variable {c o : Nat} {r : Option Nat} {w w' w'' : World}
theorem At1.refl (c o : Nat) (r : Option Nat) (w : World) : At1 c o r w w := ⟨rfl, rfl, rfl, Nat.le_refl _, fun _ _ _ _ => rfl, fun _ _ => rfl, fun _ => rfl⟩
theorem At1.alloc (h : At1 c o r w w') (hc : c < w.heap.size) (b : Obj) : At1 c o r w (w'.alloc b) := by
  have s : w'.Since w'.heap.size (w'.alloc b) := (World.Since.refl _ _).alloc (Nat.le_refl _) _
  have hl := h.size
  exact ⟨h.os, h.tape, h.output, Nat.le_trans h.size s.size, fun k h1 h2 h3 => (s.block k (by omega)).trans (h.block k h1 h2 h3), fun x hx => (s.cell (a := ⟨c, x, none⟩) (by show c < _; omega)).trans (h.cell x hx), fun x => (s.frozen (a := ⟨c, x, none⟩) (by show c < _; omega)).trans (h.frozen x)⟩
theorem At1.grown {row : Option Nat} (h : At1 c o r w w') (g : w'.grownBy w'' row) (hc : c < w.heap.size) (hr : row = r ∨ ∀ k, row = some k → w.heap.size ≤ k) (hrc : some c ≠ row) : At1 c o r w w'' := by
  have hl := h.size
  refine ⟨g.os.trans h.os, g.tape.trans h.tape, g.output.trans h.output, Nat.le_trans h.size g.size, fun k h1 h2 h3 => (g.block k (by omega) ?_).trans (h.block k h1 h2 h3), fun x hx => (World.cell?_of_block (w := w') (a := ⟨c, x, none⟩) (g.block c (by omega) hrc)).trans (h.cell x hx), fun x => (World.frozen?_of_block (w := w') (a := ⟨c, x, none⟩) (g.block c (by omega) hrc)).trans (h.frozen x)⟩
  rcases hr with rfl | hr
  · exact h3
  · intro e; have := hr k e.symm; omega
theorem At1.setRow (h : At1 c o r w w') (g i : Nat) (v : Value) (hr : some g = r ∨ w.heap.size ≤ g) (hc : g ≠ c) : At1 c o r w (w'.setCell ⟨g, i, none⟩ v) := by
  have M := (Marked.refl w' g).setCell i v
  refine ⟨M.os.trans h.os, M.tape.trans h.tape, M.output.trans h.output, by rw [M.size]; exact h.size, fun k h1 h2 h3 => (M.other k ?_).trans (h.block k h1 h2 h3), fun x hx => (M.cell (a := ⟨c, x, none⟩) (Ne.symm hc)).trans (h.cell x hx), fun x => (M.frozenO (a := ⟨c, x, none⟩) (Ne.symm hc)).trans (h.frozen x)⟩
  rcases hr with rfl | hr
  · intro e; exact h3 (by rw [e])
  · omega
theorem At1.setC (h : At1 c o r w w') (v : Value) : At1 c o r w (w'.setCell ⟨c, o, none⟩ v) := by
  have M := (Marked.refl w' c).setCell o v
  refine ⟨M.os.trans h.os, M.tape.trans h.tape, M.output.trans h.output, by rw [M.size]; exact h.size, fun k h1 h2 h3 => (M.other k h2).trans (h.block k h1 h2 h3), fun x hx => ?_, fun x => (M.frozen x).trans (h.frozen x)⟩
  rw [← h.cell x hx]
  exact World.cell?_setCell_other _ _ _ _ (by simp)
end

theorem own_set {w : World} {base g n cap : Nat} {V : Nat → Nat} (h : w.ownsRow base 43 1 (.slice (some ⟨g, 0, none⟩) n cap) n (ll V n)) (i x : Nat) (hi : i < n) :
    (w.setCell ⟨g, i, none⟩ (.int .u32 x)).ownsRow base 43 1 (.slice (some ⟨g, 0, none⟩) n cap) n (ll (upd V i x) n) := by
  obtain ⟨hl, h | ⟨g', cap', cur, e, hb, hh, hn, hm, hs, ht⟩⟩ := h
  · cases h.1
  · cases e
    have r : w.rowIs g 43 cap (fun j => cur[j]?.getD (.bool false)) := ⟨cur, hh, by simpa using hs, fun j hj => by
      show cur[j]? = some (cur[j]?.getD (.bool false)); rw [Array.getElem?_eq_getElem (by omega)]; rfl⟩
    obtain ⟨c2, k1, k2, k3⟩ := r.set i (.int .u32 x)
    refine ⟨by simp [ll], Or.inr ⟨g, cap, c2, rfl, hb, k1, hn, hm, by simpa using k2, ?_⟩⟩
    apply List.ext_getElem?
    intro j
    rw [Nat.mul_one] at ht ⊢
    by_cases hj : j < n
    · rw [List.getElem?_take_of_lt hj, Array.getElem?_toList, k3 j (by omega)]
      have h2 : (ll V n)[j]? = cur[j]? := by rw [← ht, List.getElem?_take_of_lt hj, Array.getElem?_toList]
      simp only [ll, List.getElem?_map, List.getElem?_range hj, Option.map_some] at h2 ⊢
      by_cases e : j = i
      · subst e; simp [upd_same]
      · rw [if_neg e, upd_other _ _ _ _ e, ← h2]; rfl
    · rw [List.getElem?_eq_none (by simp; omega), List.getElem?_eq_none (by simp [ll]; omega)]

theorem own_setI {w : World} {base g n cap : Nat} {V : Nat → Nat} (h : w.ownsRow base 43 1 (.slice (some ⟨g, 0, none⟩) n cap) n (ll V n)) (i x : Nat) (hi : i < n) (E : Int) (hE : E = (x : Int)) :
    (w.setCell ⟨g, i, none⟩ (.int .u32 E)).ownsRow base 43 1 (.slice (some ⟨g, 0, none⟩) n cap) n (ll (upd V i x) n) := by subst hE; exact own_set h i x hi

/-- What holds when i limbs have been added. -/
def AddL (X V Y : Nat → Nat) (n m i c : Nat) : Prop := lv V i + c * 2 ^ (32 * i) = lv (extL X n) i + lv (extL Y m) i ∧ c ≤ 1 ∧ (∀ k, i ≤ k → V k = extL X n k) ∧ ∀ k, k < i → V k < 4294967296

theorem addL_step {X V Y : Nat → Nat} {n m i c s c' x y : Nat} (h : AddL X V Y n m i c) (hx : V i = x) (hy : extL Y m i = y) (hs : s < 4294967296) (hc : c' ≤ 1) (e : s + c' * 4294967296 = x + y + c) : AddL X (upd V i s) Y n m (i + 1) c' := by
  obtain ⟨h1, h2, h3, h4⟩ := h
  have hx0 : extL X n i = x := by rw [← hx]; exact (h3 i (Nat.le_refl _)).symm
  refine ⟨?_, hc, fun k hk => by rw [upd_other _ _ _ _ (by omega)]; exact h3 k (by omega), fun k hk => ?_⟩
  · simp only [lv, upd_same, lv_upd V i s i (Nat.le_refl _), hx0, hy]
    rw [pow32]
    generalize 2 ^ (32 * i) = P at *
    have e2 : s * P + c' * (4294967296 * P) = x * P + y * P + c * P := by rw [← Nat.mul_assoc, ← Nat.add_mul, ← Nat.add_mul, ← Nat.add_mul, e]
    omega
  · by_cases e2 : k = i
    · subst e2; rw [upd_same]; exact hs
    · rw [upd_other _ _ _ _ e2]; exact h4 k (by omega)

theorem addL_end {X V Y : Nat → Nat} {n m k c : Nat} (h : AddL X V Y n m k c) (hn : n ≤ k) (hm : m ≤ k) : lv V k + c * 2 ^ (32 * k) = lv X n + lv Y m := by
  have := h.1
  rw [lv_extL X n k hn, lv_extL Y m k hm] at this
  exact this

theorem ll_snoc (X : Nat → Nat) (n k : Nat) (h : n ≤ k) : ll (extL X n) k ++ [.int .u32 0] = ll (extL X n) (k + 1) := by
  simp only [ll, List.range_succ, List.map_append, List.map_cons, List.map_nil]
  have : extL X n k = 0 := by simp [extL]; omega
  rw [this]; rfl

end Go.Proofs.YtklkohdcilnchaaDoor

namespace Go.Proofs.YtklkohdcilnchaaDoor
open Go.RowKit

theorem own_slice {w : World} {base : Nat} {v : Value} {k : Nat} {xs : List Value} (h : w.ownsRow base 43 1 v k xs) : ∃ a cap, v = .slice a k cap ∧ k ≤ cap ∧ (a = none → cap = 0) ∧ ∀ j, j < k → ∃ g, a = some ⟨g, 0, none⟩ := by
  obtain ⟨_, ⟨rfl, rfl⟩ | ⟨g, cap, cur, rfl, _, _, hn, _⟩⟩ := h
  · exact ⟨none, 0, rfl, Nat.le_refl _, fun _ => rfl, fun j hj => absurd hj (by omega)⟩
  · exact ⟨_, cap, rfl, hn, fun h => (by cases h), fun _ _ => ⟨g, rfl⟩⟩

theorem Limbs.at1 {c o : Nat} {r : Option Nat} {w w' : World} {a : Option Addr} {b off m : Nat} {Y : Nat → Nat} (h : Limbs w a b off m Y) (s : At1 c o r w w') (h1 : 0 < m → b ≠ c) (h2 : 0 < m → r ≠ some b) : Limbs w' a b off m Y :=
  fun j hj => ⟨(h j hj).1, (World.cell?_of_block (w := w) (a := ⟨b, off + j, none⟩) (s.block b (h.lt (by omega)) (h1 (by omega)) (fun e => h2 (by omega) e.symm))).trans (h j hj).2⟩

set_option maxHeartbeats 3200000 in
set_option maxRecDepth 100000 in
/-- (*nat).add into a row of its own. -/
theorem add_any (c o base n : Nat) (v0 : Value) (a' : Option Addr) (b' off' m cap' : Nat) (X Y : Nat → Nat) (w : World) (hn : n ≤ 4194304) (hm : m ≤ 4194304) (hc0 : w.cell? ⟨c, o, none⟩ = some v0) (hf0 : w.frozen? ⟨c, o, none⟩ = false)
    (hown : w.ownsRow base 43 1 v0 n (ll X n)) (hcb : c < base) (hbase : base ≤ w.heap.size) (hne : 0 < m → v0.ownBlock ≠ some b') (hbc : 0 < m → b' ≠ c) (hY : Limbs w a' b' off' m Y) (hXl : ∀ j, j < n → X j < 4294967296) (hYl : ∀ j, j < m → Y j < 4294967296) :
    Calls Tryd.prog 99 #[.pointer (some ⟨c, o, none⟩), .slice a' m cap'] w fun e w' => e = .returned (.tuple #[]) ∧ ∃ v k V, w'.cell? ⟨c, o, none⟩ = some v ∧ w'.ownsRow base 43 1 v k (ll V k) ∧ (∀ q, v.ownBlock = some q → v0.ownBlock = some q ∨ w.heap.size ≤ q) ∧
      At1 c o v0.ownBlock w w' ∧ (∀ j, j < k → V j < 4294967296) ∧ lv V k = lv X n + lv Y m ∧ k ≤ max n m + 1 ∧ (k = n ∨ k = m ∨ V (k - 1) ≠ 0) := by
  obtain ⟨i0, hi, hz0, hz1, hz2⟩ := info_parts Tryd.info43
  have hcl : c < w.heap.size := by omega
  have HXl := hide hXl
  have HYl := hide hYl
  clear hXl hYl
  have HLL : Hid (ll (extL X n) n = ll X n) := by
    simp only [Hid, ll]
    exact List.map_congr_left fun j hj => by simp [extL, List.mem_range.1 hj]
  go_enter Tryd.func99, Tryd.ntmps99
  go_wp2
  go_loopg [] (m - n) (fun g wr => ∃ (k : Nat) (v : Value), n ≤ k ∧ (k = n ∨ k ≤ m) ∧ Hid (g = m - k) ∧ wr.cell? ⟨c, o, none⟩ = some v ∧ wr.ownsRow base 43 1 v k (ll (extL X n) k) ∧ Hid (∀ q, v.ownBlock = some q → v0.ownBlock = some q ∨ w.heap.size ≤ q) ∧ At1 c o v0.ownBlock w wr)
  case atStart => exact ⟨n, v0, Nat.le_refl _, Or.inl rfl, hide rfl, hc0, by rw [HLL.out]; exact hown, hide (fun q hq => Or.inl hq), At1.refl _ _ _ _⟩
  case round =>
    obtain ⟨k, v, hnk, hkm, HG, q0, ho, HB, hs⟩ := hrel
    obtain ⟨a, cap, rfl, hkc, hac, hag⟩ := own_slice ho
    have qf : wr.frozen? ⟨c, o, none⟩ = false := by rw [hs.frozen]; exact hf0
    have hsz := hs.size
    by_cases hlt : k < m
    · have HO := hide hown
      clear hown
      have hC : some c ≠ (Value.slice a k cap).ownBlock := fun e => by have := (ho.lt c e.symm).1; omega
      go_wp2_with (at_builtin; refine wpList_append_own_at _ rfl _ _ 58 rfl base 43 i0 (.int .u32 0) 1 4 Tryd.underlying58 hi hz0 hz1 hz2 rfl (by decide) _ _ _ rfl (ho.alloc _) ⟨wr.heap.size, 0, none⟩ 1 1 [.int .u32 0] rfl rfl (new_cell _ _ _) (one_one _ rfl) (by unfold maxLen; omega) (by omega) (by simp; omega) ?_)
      intro v' w1 hown' hgrow hnn hat
      rw [ll_snoc X n k hnk] at hown'
      have sW := (World.Since.refl wr.heap.size wr).alloc (Nat.le_refl _) (.cells #[.int .u32 0] 43)
      have hR : (Value.slice a k cap).ownBlock = v0.ownBlock ∨ ∀ q, (Value.slice a k cap).ownBlock = some q → w.heap.size ≤ q := by
        cases e : (Value.slice a k cap).ownBlock with
        | none => exact Or.inr (fun q h => by cases h)
        | some q =>
          rcases HB.out q e with h | h
          · exact Or.inl h.symm
          · exact Or.inr (fun q' h' => by cases h'; exact h)
      have hs1 : At1 c o v0.ownBlock w w1 := (hs.alloc hcl _).grown hgrow hcl hR hC
      have q1 : w1.cell? ⟨c, o, none⟩ = some (.slice a k cap) := hgrow.cell ((sW.cell (a := ⟨c, o, none⟩) (show c < wr.heap.size by omega)).trans q0) hC
      have f1 : w1.frozen? ⟨c, o, none⟩ = false := by rw [hs1.frozen]; exact hf0
      have HB1 := hide (fun q (hq : v'.ownBlock = some q) => show v0.ownBlock = some q ∨ w.heap.size ≤ q by
        rcases hat with h | h
        · exact HB.out q (h.symm.trans hq)
        · rw [hq] at h; simp at h; omega)
      obtain ⟨a1, cap1, rfl, hkc1, hac1, hag1⟩ := own_slice hown'
      have hCv : (Value.slice a1 (k + 1) cap1).ownBlock ≠ some c := fun e => by have := (hown'.lt c e).1; omega
      clear hgrow hnn hat sW hR ho hs HB q0 qf hC
      go_wp2
      go_roundg (m - (k + 1))
      case rel => exact ⟨k + 1, _, by omega, Or.inr (by omega), hide rfl, World.cell?_setCell_same _ _ _ q1, ownsRow_setCell_other hown' hCv _, HB1, hs1.setC _⟩
      case measure => have := HG.out; omega
    · have hmk : m ≤ k := by omega
      have hkb : k ≤ 4194304 := by omega
      have HKK : Hid (k = n ∨ k = m) := hide (by omega)
      have HV0 : Hid (AddL X (extL X n) Y n m 0 0) := hide ⟨by simp [lv], by omega, fun _ _ => rfl, fun j hj => absurd hj (by omega)⟩
      have HK : Hid (k ≤ max n m) := hide (by omega)
      clear hown hc0 hlt hkm HG
      go_wp2
      go_loopw [4, 26] (fun q t wr => ∃ (i cb : Nat) (V : Nat → Nat), i ≤ k ∧ t = .int .i64 i ∧ q = .int .u64 cb ∧ cb ≤ 1 ∧ wr.cell? ⟨c, o, none⟩ = some (.slice a k cap) ∧ wr.ownsRow base 43 1 (.slice a k cap) k (ll V k) ∧ At1 c o v0.ownBlock w wr ∧ Hid (AddL X V Y n m i cb)) (fun _ t _ => k - (intOf t).toNat)
      case atStart => exact ⟨0, 0, extL X n, Nat.zero_le _, rfl, rfl, by omega, q0, ho, hs, HV0⟩
      case round =>
        obtain ⟨i, cb, V, hik, rfl, rfl, hcb1, q2, ho2, hs2, HR⟩ := hrel
        clear ho hs q0 qf HV0
        by_cases hlt : i < k
        · obtain ⟨g, rfl⟩ := hag i hlt
          obtain ⟨g', cap', e, -, hbg, hgl, LV, FV⟩ := own_limbs_some ho2 (by simp)
          cases e
          have g1 : wr.cell? ⟨g, i, none⟩ = some (.int .u32 (V i)) := by simpa using (LV i hlt).2
          have g2 : wr.frozen? ⟨g, i, none⟩ = false := FV i
          have hgr : some g = v0.ownBlock ∨ w.heap.size ≤ g := by
            rcases HB.out g rfl with h | h
            · exact Or.inl h.symm
            · exact Or.inr h
          have hxl : V i < 4294967296 := by
            rw [HR.out.2.2.1 i (Nat.le_refl _)]
            unfold extL
            split
            · exact HXl.out i (by assumption)
            · omega
          have STEP := hide (fun (s c' : Nat) (y : Nat) (hy : extL Y m i = y) => addL_step (s := s) (c' := c') HR.out rfl hy)
          obtain ⟨x, ex⟩ : ∃ y, y = V i := ⟨_, rfl⟩
          rw [← ex] at g1 hxl STEP
          clear ex LV FV
          have hin : (i : Int) < (k : Int) := by omega
          have hcg : g ≠ c := by omega
          have q3 : ∀ u, (wr.setCell ⟨g, i, none⟩ u).cell? ⟨c, o, none⟩ = some (.slice (some ⟨g, 0, none⟩) k cap) := fun u => by rw [((Marked.refl wr g).setCell i u).cell (a := ⟨c, o, none⟩) (Ne.symm hcg)]; exact q2
          by_cases him : i < m
          · obtain ⟨rfl, ky⟩ := (hY.at1 hs2 hbc hne) i him
            have hyl := HYl.out i him
            have HEy : Hid (extL Y m i = Y i) := by simp [Hid, extL, him]
            obtain ⟨y, ey⟩ : ∃ y, y = Y i := ⟨_, rfl⟩
            rw [← ey] at ky hyl HEy
            clear ey
            by_cases hb : x + cb + y < 4294967296
            · go_wp2
              go_roundw
              case rel => go_light; exact ⟨i + 1, 0, _, by omega, by go_num, congrArg (Value.int .u64) (by omega), by omega, q3 _, own_setI ho2 i (x + cb + y) hlt _ (by omega), hs2.setRow g i _ hgr hcg, STEP.out _ _ y HEy.out (by omega) (by omega) (by omega)⟩
              case measure => simp [intOf]; omega
            · go_wp2
              go_roundw
              case rel => go_light; exact ⟨i + 1, 1, _, by omega, by go_num, congrArg (Value.int .u64) (by omega), by omega, q3 _, own_setI ho2 i (x + cb + y - 4294967296) hlt _ (by omega), hs2.setRow g i _ hgr hcg, STEP.out _ _ y HEy.out (by omega) (by omega) (by omega)⟩
              case measure => simp [intOf]; omega
          · have HEy : Hid (extL Y m i = 0) := by simp [Hid, extL, him]
            by_cases hb : x + cb < 4294967296
            · go_wp2
              go_roundw
              case rel => go_light; exact ⟨i + 1, 0, _, by omega, by go_num, congrArg (Value.int .u64) (by omega), by omega, q3 _, own_setI ho2 i (x + cb) hlt _ (by omega), hs2.setRow g i _ hgr hcg, STEP.out _ _ 0 HEy.out (by omega) (by omega) (by omega)⟩
              case measure => simp [intOf]; omega
            · go_wp2
              go_roundw
              case rel => go_light; exact ⟨i + 1, 1, _, by omega, by go_num, congrArg (Value.int .u64) (by omega), by omega, q3 _, own_setI ho2 i (x + cb - 4294967296) hlt _ (by omega), hs2.setRow g i _ hgr hcg, STEP.out _ _ 0 HEy.out (by omega) (by omega) (by omega)⟩
              case measure => simp [intOf]; omega
        · have e : i = k := by omega
          subst e
          have HE := hide (addL_end HR.out hnk hmk)
          have hc2 : cb = 0 ∨ cb = 1 := by omega
          rcases hc2 with rfl | rfl
          · go_wp2
            go_end0
            exact ⟨rfl, _, i, V, q2, ho2, HB.out, hs2, HR.out.2.2.2, by have := HE.out; omega, by have := HK.out; omega, by rcases HKK.out with h | h <;> simp [h]⟩
          · have hC : some c ≠ (Value.slice a i cap).ownBlock := fun e => by have := (ho2.lt c e.symm).1; omega
            have hsz2 := hs2.size
            go_wp2_with (at_builtin; refine wpList_append_own_at _ rfl _ _ 58 rfl base 43 i0 (.int .u32 0) 1 4 Tryd.underlying58 hi hz0 hz1 hz2 rfl (by decide) _ _ _ rfl (ho2.alloc _) ⟨wr.heap.size, 0, none⟩ 1 1 [.int .u32 1] rfl rfl (new_cell _ _ _) (one_one _ rfl) (by unfold maxLen; omega) (by omega) (by simp; omega) ?_)
            intro v' w1 hown' hgrow hnn hat
            rw [show ll V i ++ [.int .u32 1] = ll (upd V i 1) (i + 1) from by rw [ll_succ, upd_same, ll_congr (fun j hj => upd_other _ _ _ _ (show j ≠ i by omega))]; rfl] at hown'
            have sW := (World.Since.refl wr.heap.size wr).alloc (Nat.le_refl _) (.cells #[.int .u32 1] 43)
            have hR : (Value.slice a i cap).ownBlock = v0.ownBlock ∨ ∀ q, (Value.slice a i cap).ownBlock = some q → w.heap.size ≤ q := by
              cases e : (Value.slice a i cap).ownBlock with
              | none => exact Or.inr (fun q h => by cases h)
              | some q =>
                rcases HB.out q e with h | h
                · exact Or.inl h.symm
                · exact Or.inr (fun q' h' => by cases h'; exact h)
            have hs1 : At1 c o v0.ownBlock w w1 := (hs2.alloc hcl _).grown hgrow hcl hR hC
            have q1 : w1.cell? ⟨c, o, none⟩ = some (.slice a i cap) := hgrow.cell ((sW.cell (a := ⟨c, o, none⟩) (show c < wr.heap.size by omega)).trans q2) hC
            have f1 : w1.frozen? ⟨c, o, none⟩ = false := by rw [hs1.frozen]; exact hf0
            have HB1 := hide (fun q (hq : v'.ownBlock = some q) => show v0.ownBlock = some q ∨ w.heap.size ≤ q by
              rcases hat with h | h
              · exact HB.out q (h.symm.trans hq)
              · rw [hq] at h; simp at h; omega)
            obtain ⟨a1, cap1, rfl, hkc1, hac1, hag1⟩ := own_slice hown'
            have hCv : (Value.slice a1 (i + 1) cap1).ownBlock ≠ some c := fun e => by have := (hown'.lt c e).1; omega
            have HV1 := hide HR.out.2.2.2
            clear hgrow hnn hat sW hR ho2 hs2 HB q2 hC HR
            go_wp2
            go_end0
            refine ⟨rfl, _, i + 1, upd V i 1, World.cell?_setCell_same _ _ _ q1, ownsRow_setCell_other hown' hCv _, HB1.out, hs1.setC _, fun j hj => ?_, ?_, by have := HK.out; omega, Or.inr (Or.inr (by rw [show i + 1 - 1 = i by omega, upd_same]; omega))⟩
            · by_cases e2 : j = i
              · subst e2; rw [upd_same]; omega
              · rw [upd_other _ _ _ _ e2]; exact HV1.out j (by omega)
            · have := HE.out
              simp only [lv, upd_same, lv_upd V i 1 i (Nat.le_refl _)]
              exact this

end Go.Proofs.YtklkohdcilnchaaDoor

namespace Go.Proofs.YtklkohdcilnchaaDoor
open Go.RowKit

/-- Old memory but for three blocks stands. -/
structure Oth3 (c g h : Nat) (w w' : World) : Prop where
  os : w'.os = w.os
  tape : w'.tape = w.tape
  output : w'.output = w.output
  size : w.heap.size ≤ w'.heap.size
  block : ∀ k, k < w.heap.size → k ≠ c → k ≠ g → k ≠ h → w'.heap[k]? = w.heap[k]?

theorem Oth3.refl (c g h : Nat) (w : World) : Oth3 c g h w w := ⟨rfl, rfl, rfl, Nat.le_refl _, fun _ _ _ _ _ => rfl⟩
theorem Oth3.trans {c g h : Nat} {w w1 w2 : World} (x : Oth3 c g h w w1) (y : Oth3 c g h w1 w2) : Oth3 c g h w w2 :=
  ⟨y.os.trans x.os, y.tape.trans x.tape, y.output.trans x.output, Nat.le_trans x.size y.size, fun k h1 h2 h3 h4 => (y.block k (Nat.lt_of_lt_of_le h1 x.size) h2 h3 h4).trans (x.block k h1 h2 h3 h4)⟩
theorem Oth3.ofMarked {c g h b : Nat} {w w' : World} (m : Marked w w' b) (hb : b = c ∨ b = g ∨ b = h) : Oth3 c g h w w' :=
  ⟨m.os, m.tape, m.output, by rw [m.size]; exact Nat.le_refl _, fun k _ h2 h3 h4 => m.other k (by omega)⟩
theorem Oth3.ofAt1 {c o g h : Nat} {w w' : World} (m : At1 c o (some g) w w') : Oth3 c g h w w' :=
  ⟨m.os, m.tape, m.output, m.size, fun k h1 h2 h3 _ => m.block k h1 h2 (by simp; exact h3)⟩
theorem Oth3.since {c g h B : Nat} {w w' : World} (s : Oth3 c g h w w') (hB : B ≤ w.heap.size) (hc : B ≤ c) (hg : B ≤ g) (hh : B ≤ h) : w.Since B w' :=
  ⟨s.os, s.tape, s.output, s.size, fun k hk => s.block k (by omega) (by omega) (by omega) (by omega)⟩

/-- The sign and the numerator of a sum. -/
def sumNeg (f f' : Bool) (x y : Nat) : Bool := if f = f' then f else if x < y then f' else f
def sumTop (f f' : Bool) (x y : Nat) : Nat := if f = f' then x + y else if x < y then y - x else x - y

theorem top_of_sum {X Y V : Nat → Nat} {n m k : Nat} (lV : ∀ j, j < k → V j < 4294967296) (e : lv V k = lv X n + lv Y m) (hk : k = n ∨ k = m ∨ V (k - 1) ≠ 0) (pX : 0 < n → X (n - 1) ≠ 0) (pY : 0 < m → Y (m - 1) ≠ 0) (h0 : 0 < k) : V (k - 1) ≠ 0 := by
  intro hz
  have e2 : lv V k = lv V (k - 1) := lv_more V (k - 1) k (by omega) (fun j h1 h2 => by rw [show j = k - 1 by omega]; exact hz)
  rcases hk with rfl | rfl | h
  · have := lv_short (A := V) (B := X) (n := k - 1) (m := k) (fun j hj => lV j (by omega)) (by omega) pX
    omega
  · have := lv_short (A := V) (B := Y) (n := k - 1) (m := k) (fun j hj => lV j (by omega)) (by omega) pY
    omega
  · exact h hz

theorem top_row {P : Nat → Nat} {q : Nat} : 0 < tlen (nz P) q → P (tlen (nz P) q - 1) ≠ 0 := fun h => by have := tlen_top (nz P) q h; simpa [nz] using this

theorem subAt1 (c : Nat) (x z : Value) (b n cap : Nat) (a' : Option Addr) (b' off' m cap' : Nat) (X Y : Nat → Nat) (w : World) (hn : n ≤ 16777216) (hnc : n ≤ cap) (B : Box3 w c x (.slice (some ⟨b, 0, none⟩) n cap) z)
    (hf : ∀ x, w.frozen? ⟨b, x, none⟩ = false) (hcb : c ≠ b) (hbb : b' ≠ b) (hX : Limbs w (some ⟨b, 0, none⟩) b 0 n X) (hY : Limbs w a' b' off' m Y) (hXl : ∀ j, j < n → X j < 4294967296) (hYl : ∀ j, j < m → Y j < 4294967296) (pY : 0 < m → Y (m - 1) ≠ 0) (hle : lv Y m ≤ lv X n) (g h : Nat) (hb : b = g ∨ b = h) :
    Calls Tryd.prog 100 #[.pointer (some ⟨c, 1, none⟩), .slice a' m cap'] w fun e w' => e = .returned (.tuple #[]) ∧ ∃ v, Box3 w' c x v z ∧ NatAt w' v b (lv X n - lv Y m) n ∧ Oth3 c g h w w' := by
  have hmn : m ≤ n := by
    rcases Nat.lt_or_ge n m with h1 | h1
    · have := lv_short (A := X) (B := Y) (n := n) (m := m) hXl h1 pY
      omega
    · exact h1
  refine (subtract_any c 1 b n cap a' b' off' m cap' X Y w hn hnc hmn B.c1 (B.f 1) hf hcb hbb hX hY hXl hYl hle).mono ?_
  rintro e w' ⟨rfl, w2, V, M, L, lV, eV, rfl⟩
  have M2 := (Marked.refl w2 c).setCell 1 (.slice (some ⟨b, 0, none⟩) (tlen (nz V) n) cap)
  have N2 : NatAt w2 (.slice (some ⟨b, 0, none⟩) (tlen (nz V) n) cap) b (lv X n - lv Y m) n :=
    ⟨_, _, _, V, rfl, Nat.le_trans (tlen_le _ _) hnc, tlen_le _ _, fun h => (by cases h), L.take (tlen_le _ _), fun _ o => by rw [M.frozen o]; exact hf o, fun j hj => lV j (Nat.lt_of_lt_of_le hj (tlen_le _ _)), top_row, by rw [lv_tlen]; exact eV⟩
  exact ⟨rfl, _, (B.marked M hcb).set1 _, N2.marked M2 (Ne.symm hcb), (Oth3.ofMarked M (by omega)).trans (Oth3.ofMarked M2 (Or.inl rfl))⟩

end Go.Proofs.YtklkohdcilnchaaDoor

namespace Go.Proofs.YtklkohdcilnchaaDoor
open Go.RowKit

set_option maxHeartbeats 1600000 in
set_option maxRecDepth 100000 in
/-- (*fraction).addTop. -/
theorem addTop_any (c : Nat) (f f' : Bool) (v2 : Value) (g h qg qh : Nat) (P Q : Nat → Nat) (w : World) (hqg : qg ≤ 1048575) (hqh : qh ≤ 1048575) (B : Box3 w c (.bool f) (.slice (some ⟨g, 0, none⟩) (tlen (nz P) qg) qg) v2)
    (rg : w.rowIs g 43 qg (fun j => .int .u32 (P j : Nat))) (rh : w.rowIs h 43 qh (fun j => .int .u32 (Q j : Nat))) (hP : ∀ k, P k < 4294967296) (hQ : ∀ k, Q k < 4294967296) (hcg : c < g) (hgh : h ≠ g) (hch : c ≠ h) :
    Calls Tryd.prog 87 #[.pointer (some ⟨c, 0, none⟩), .bool f', .slice (some ⟨h, 0, none⟩) (tlen (nz Q) qh) qh] w fun e w' => e = .returned (.tuple #[]) ∧ ∃ v gg, Box3 w' c (.bool (sumNeg f f' (lv P qg) (lv Q qh))) v v2 ∧
      NatAt w' v gg (sumTop f f' (lv P qg) (lv Q qh)) 1048576 ∧ (gg = g ∨ gg = h ∨ w.heap.size ≤ gg) ∧ gg < w'.heap.size ∧ Oth3 c g h w w' := by
  have tP := tlen_le (nz P) qg
  have tQ := tlen_le (nz Q) qh
  have LP := (limbs_row rg).take tP
  have LQ := (limbs_row rh).take tQ
  have pP : 0 < tlen (nz P) qg → P (tlen (nz P) qg - 1) ≠ 0 := top_row
  have pQ : 0 < tlen (nz Q) qh → Q (tlen (nz Q) qh - 1) ≠ 0 := top_row
  have eP := lv_tlen P qg
  have eQ := lv_tlen Q qh
  have oP : w.ownsRow g 43 1 (.slice (some ⟨g, 0, none⟩) (tlen (nz P) qg) qg) (tlen (nz P) qg) (ll P (tlen (nz P) qg)) := row_own rg tP (by unfold maxLen; omega) (Nat.le_refl _)
  have fg := rg.frozen
  have fh := rh.frozen
  have gl := rg.lt
  have hl := rh.lt
  clear rg rh
  generalize tlen (nz P) qg = n at *
  generalize tlen (nz Q) qh = m at *
  have hcl := B.lt
  by_cases hff : f = f'
  · have hN : sumNeg f f' (lv P qg) (lv Q qh) = f := by simp [sumNeg, hff]
    have hT : sumTop f f' (lv P qg) (lv Q qh) = lv P n + lv Q m := by simp [sumTop, hff, eP, eQ]
    rw [hN, hT]
    clear hN hT eP eQ
    subst hff
    have k0 := B.c0
    go_enter Tryd.func87, Tryd.ntmps87
    go_wp2_with fail
    refine (add_any c 1 g n (.slice (some ⟨g, 0, none⟩) n qg) (some ⟨h, 0, none⟩) h 0 m qh P Q w (by omega) (by omega) B.c1 (B.f 1) oP hcg (by omega) (fun _ e => hgh (by simpa [Value.ownBlock] using e.symm)) (fun _ => Ne.symm hch) LQ (fun j _ => hP j) (fun j _ => hQ j)).mono ?_
    rintro e w1 ⟨rfl, v, k, V, c1, o1, b1, A1, lV, eV, kk, tk⟩
    go_wp2
    refine bodyPost_ret (results_none rfl _ _ _) rfl ?_
    have top := top_of_sum lV eV tk pP pQ
    have Bx : Box3 w1 c (.bool f) v v2 := ⟨by rw [A1.cell 0 (by omega)]; exact B.c0, c1, by rw [A1.cell 2 (by omega)]; exact B.c2, fun x => by rw [A1.frozen]; exact B.f x⟩
    have hs := A1.size
    have hk : k ≤ 1048576 := by omega
    have O : Oth3 c g h w w1 := Oth3.ofAt1 A1
    have hc := @World.ownsRow.cells _ _ _ _ _ _ _ o1
    rcases o1.2 with ⟨rfl, rfl⟩ | ⟨g', cap, cur, rfl, hb, hg, hm, _⟩
    · exact ⟨rfl, _, g, Bx, by rw [← eV]; exact natAt_nil _ _ _, Or.inl rfl, by omega, O⟩
    · have hlt := (Array.getElem?_eq_some_iff.1 hg).1
      refine ⟨rfl, _, g', Bx, ⟨_, k, cap, V, rfl, hm, hk, fun h => (by cases h), fun j hj => ⟨rfl, ?_⟩, fun _ o => by simp [World.frozen?, hg], lV, top, eV⟩, ?_, hlt, O⟩
      · have := hc (g := g') rfl j _ (ll_get V k j hj)
        rw [Addr.add_lit] at this; exact this
      · rcases b1 g' rfl with e | e
        · simp [Value.ownBlock] at e; exact Or.inl e.symm
        · exact Or.inr (Or.inr e)
  · have k0 := B.c0
    have HFF := hide hff
    have hfb : (f == f') = false := by simp [hff]
    by_cases hlt : lv P n < lv Q m
    · have hN : sumNeg f f' (lv P qg) (lv Q qh) = f' := by rw [← eP, ← eQ]; simp [sumNeg, hff, hlt]
      have hT : sumTop f f' (lv P qg) (lv Q qh) = lv Q m - lv P n := by rw [← eP, ← eQ]; simp [sumTop, hff, hlt]
      rw [hN, hT]
      clear hN hT eP eQ hff
      have hcp := cmpN_neg2 hlt
      have HL := hide hlt
      clear hlt
      go_enter Tryd.func87, Tryd.ntmps87
      go_wp2_with fail
      refine (compare_any c 1 (some ⟨g, 0, none⟩) (some ⟨h, 0, none⟩) g 0 n qg h 0 m qh P Q w (by omega) (by omega) B.c1 LP LQ (fun j _ => hP j) (fun j _ => hQ j) pP pQ).mono ?_
      rintro e w1 ⟨rfl, s1⟩
      have B1 : Box3 w1 c (.bool f) (.slice (some ⟨g, 0, none⟩) n qg) v2 := ⟨by rw [s1.cell]; exact B.c0, by rw [s1.cell]; exact B.c1, by rw [s1.cell]; exact B.c2, fun x => by rw [s1.frozen]; exact B.f x⟩
      have j1 := B1.c1
      have j0 := B1.c0
      have jf0 := B1.f 0
      have jf1 := B1.f 1
      go_wp2_with fail
      have M1 : Marked w1 ((w1.setCell ⟨c, 1, none⟩ (.slice (some ⟨h, 0, none⟩) m qh)).setCell ⟨c, 0, none⟩ (.bool f')) c := ((Marked.refl w1 c).setCell 1 _).setCell 0 _
      have B2 := (B1.set1 (.slice (some ⟨h, 0, none⟩) m qh)).set0 (.bool f')
      have O1 : Oth3 c g h w w1 := ⟨s1.os, s1.tape, s1.output, by rw [s1.size]; exact Nat.le_refl _, fun k _ _ _ _ => by rw [s1.heap]⟩
      have O2 := O1.trans (Oth3.ofMarked (c := c) (g := g) (h := h) M1 (Or.inl rfl))
      refine (subAt1 c _ _ h m qh (some ⟨g, 0, none⟩) g 0 n qg Q P _ (by omega) tQ B2 (fun x => by rw [M1.frozenO (a := ⟨h, x, none⟩) (Ne.symm hch), s1.frozen]; exact fh x) hch (Ne.symm hgh) ((LQ.same s1).marked M1 (fun _ => Ne.symm hch)) ((LP.same s1).marked M1 (fun _ => by omega)) (fun j _ => hQ j) (fun j _ => hP j) pP (Nat.le_of_lt HL.out) g h (Or.inr rfl)).mono ?_
      rintro e w2 ⟨rfl, v, B3, N3, O3⟩
      have O := O2.trans O3
      go_wp2
      go_end0
      exact ⟨rfl, v, h, B3, N3.more (by omega), Or.inr (Or.inl rfl), Nat.lt_of_lt_of_le hl O.size, O⟩
    · have hN : sumNeg f f' (lv P qg) (lv Q qh) = f := by rw [← eP, ← eQ]; simp [sumNeg, hff, hlt]
      have hT : sumTop f f' (lv P qg) (lv Q qh) = lv P n - lv Q m := by rw [← eP, ← eQ]; simp [sumTop, hff, hlt]
      rw [hN, hT]
      clear hN hT eP eQ hff
      have hcp := cmpN_nonneg2 (Nat.le_of_not_lt hlt)
      have HL := hide (Nat.le_of_not_lt hlt)
      clear hlt
      go_enter Tryd.func87, Tryd.ntmps87
      go_wp2_with fail
      refine (compare_any c 1 (some ⟨g, 0, none⟩) (some ⟨h, 0, none⟩) g 0 n qg h 0 m qh P Q w (by omega) (by omega) B.c1 LP LQ (fun j _ => hP j) (fun j _ => hQ j) pP pQ).mono ?_
      rintro e w1 ⟨rfl, s1⟩
      have B1 : Box3 w1 c (.bool f) (.slice (some ⟨g, 0, none⟩) n qg) v2 := ⟨by rw [s1.cell]; exact B.c0, by rw [s1.cell]; exact B.c1, by rw [s1.cell]; exact B.c2, fun x => by rw [s1.frozen]; exact B.f x⟩
      go_wp2_with fail
      refine (subAt1 c _ _ g n qg (some ⟨h, 0, none⟩) h 0 m qh P Q w1 (by omega) tP B1 (fun x => by rw [s1.frozen]; exact fg x) (by omega) hgh (LP.same s1) (LQ.same s1) (fun j _ => hP j) (fun j _ => hQ j) pQ HL.out g h (Or.inl rfl)).mono ?_
      rintro e w2 ⟨rfl, v, B2, N2, O2⟩
      have O1 : Oth3 c g h w w1 := ⟨s1.os, s1.tape, s1.output, by rw [s1.size]; exact Nat.le_refl _, fun k _ _ _ _ => by rw [s1.heap]⟩
      have O := O1.trans O2
      go_wp2
      go_end0
      exact ⟨rfl, v, g, B2, N2.more (by omega), Or.inl rfl, Nat.lt_of_lt_of_le gl O.size, O⟩

end Go.Proofs.YtklkohdcilnchaaDoor

namespace Go.Proofs.YtklkohdcilnchaaDoor
open Go.RowKit

theorem row_keep {w w' : World} {g t n : Nat} {F : Nat → Value} (h : w.rowIs g t n F) (s : w.Since w.heap.size w') : w'.rowIs g t n F := h.of_block (s.block g h.lt)
theorem row_oth {w w' : World} {g t n c : Nat} {F : Nat → Value} (h : w.rowIs g t n F) (s : Oth c w w') (hne : g ≠ c) : w'.rowIs g t n F := h.of_block (s.block g h.lt hne)

theorem Oth.up {c d : Nat} {w w1 w2 : World} (x : Oth c w w1) (y : Oth d w1 w2) (hd : w.heap.size ≤ d) : Oth c w w2 :=
  ⟨y.os.trans x.os, y.tape.trans x.tape, y.output.trans x.output, Nat.le_trans x.size y.size, fun k h1 h2 => (y.block k (Nat.lt_of_lt_of_le h1 x.size) (by omega)).trans (x.block k h1 h2)⟩
theorem Oth.up3 {c g h : Nat} {w w1 w2 : World} (x : Oth c w w1) (y : Oth3 c g h w1 w2) (hg : w.heap.size ≤ g) (hh : w.heap.size ≤ h) : Oth c w w2 :=
  ⟨y.os.trans x.os, y.tape.trans x.tape, y.output.trans x.output, Nat.le_trans x.size y.size, fun k h1 h2 => (y.block k (Nat.lt_of_lt_of_le h1 x.size) h2 (by omega) (by omega)).trans (x.block k h1 h2)⟩

/-- multiply at the second cell of a struct: the row told. -/
theorem mulAt1r (c : Nat) (x z : Value) (a a' : Option Addr) (b off n cap b' off' m cap' : Nat) (X Y : Nat → Nat) (w : World) (hn : n ≤ 4194304) (hm : m ≤ 4194304) (hX : Limbs w a b off n X) (hY : Limbs w a' b' off' m Y)
    (hXl : ∀ j, j < n → X j < 4294967296) (hYl : ∀ j, j < m → Y j < 4294967296) (B : Box3 w c x (.slice a n cap) z) :
    Calls Tryd.prog 56 #[.pointer (some ⟨c, 1, none⟩), .slice a' m cap'] w fun e w' => e = .returned (.tuple #[]) ∧ ∃ P : Nat → Nat, Box3 w' c x (.slice (some ⟨w.heap.size, 0, none⟩) (tlen (nz P) (n + m)) (n + m)) z ∧ w'.rowIs w.heap.size 43 (n + m) (fun j => .int .u32 (P j : Nat)) ∧
      (∀ k, P k < 4294967296) ∧ lv P (n + m) = lv X n * lv Y m ∧ Oth c w w' ∧ w.heap.size < w'.heap.size := by
  refine (multiply_any c 1 a a' b off n cap b' off' m cap' X Y w hn hm hX hY hXl hYl B.c1 (B.f 1)).mono ?_
  rintro e w' ⟨rfl, w2, P, s, r, hP, hv, rfl⟩
  have M := (Marked.refl w2 c).setCell 1 (.slice (some ⟨w.heap.size, 0, none⟩) (tlen (nz P) (n + m)) (n + m))
  exact ⟨rfl, P, (B.keep s).set1 _, r.of_block (M.other _ (Nat.ne_of_gt B.lt)), hP, hv, (Oth.ofSince c s).trans (Oth.ofMarked M), by rw [M.size]; exact r.lt⟩

/-- multiply at a box of one cell: the row told. -/
theorem mulAtR (c : Nat) (a a' : Option Addr) (b off n cap b' off' m cap' : Nat) (X Y : Nat → Nat) (w : World) (hn : n ≤ 4194304) (hm : m ≤ 4194304) (hX : Limbs w a b off n X) (hY : Limbs w a' b' off' m Y)
    (hXl : ∀ j, j < n → X j < 4294967296) (hYl : ∀ j, j < m → Y j < 4294967296) (hc0 : w.cell? ⟨c, 0, none⟩ = some (.slice a n cap)) (hf0 : w.frozen? ⟨c, 0, none⟩ = false) :
    Calls Tryd.prog 56 #[.pointer (some ⟨c, 0, none⟩), .slice a' m cap'] w fun e w' => e = .returned (.tuple #[]) ∧ ∃ P : Nat → Nat, w'.cell? ⟨c, 0, none⟩ = some (.slice (some ⟨w.heap.size, 0, none⟩) (tlen (nz P) (n + m)) (n + m)) ∧ w'.frozen? ⟨c, 0, none⟩ = false ∧ w'.rowIs w.heap.size 43 (n + m) (fun j => .int .u32 (P j : Nat)) ∧
      (∀ k, P k < 4294967296) ∧ lv P (n + m) = lv X n * lv Y m ∧ Oth c w w' ∧ w.heap.size < w'.heap.size := by
  have hcl := World.block_lt_of_cell? _ _ hc0
  refine (multiply_any c 0 a a' b off n cap b' off' m cap' X Y w hn hm hX hY hXl hYl hc0 hf0).mono ?_
  rintro e w' ⟨rfl, w2, P, s, r, hP, hv, rfl⟩
  have M := (Marked.refl w2 c).setCell 0 (.slice (some ⟨w.heap.size, 0, none⟩) (tlen (nz P) (n + m)) (n + m))
  have h2 : w2.cell? ⟨c, 0, none⟩ = some (.slice a n cap) := by rw [s.cell (a := ⟨c, 0, none⟩) hcl]; exact hc0
  exact ⟨rfl, P, World.cell?_setCell_same _ _ _ h2, by rw [M.frozen, s.frozen (a := ⟨c, 0, none⟩) hcl]; exact hf0, r.of_block (M.other _ (Nat.ne_of_gt hcl)), hP, hv, (Oth.ofSince c s).trans (Oth.ofMarked M), by rw [M.size]; exact r.lt⟩

set_option maxHeartbeats 1600000 in
set_option maxRecDepth 100000 in
/-- (*fraction).add. -/
theorem fracAdd_any (c : Nat) (f f' : Bool) (a b a' b' : Option Addr) (ba oa n ca bb ob m cb ba' oa' n' ca' bb' ob' m' cb' : Nat) (X Y X' Y' : Nat → Nat) (w : World) (hn : n + n' + m + m' ≤ 1048576) (hm0 : 0 < m) (hm0' : 0 < m')
    (hX : Limbs w a ba oa n X) (hY : Limbs w b bb ob m Y) (hX' : Limbs w a' ba' oa' n' X') (hY' : Limbs w b' bb' ob' m' Y') (hXl : ∀ j, j < n → X j < 4294967296) (hYl : ∀ j, j < m → Y j < 4294967296) (hXl' : ∀ j, j < n' → X' j < 4294967296) (hYl' : ∀ j, j < m' → Y' j < 4294967296)
    (ea : 0 < n → ba ≠ c) (eb : 0 < m → bb ≠ c) (_ea' : 0 < n' → ba' ≠ c) (eb' : 0 < m' → bb' ≠ c) (B : Box3 w c (.bool f) (.slice a n ca) (.slice b m cb)) :
    Calls Tryd.prog 66 #[.pointer (some ⟨c, 0, none⟩), .agg #[.bool f', .slice a' n' ca', .slice b' m' cb']] w fun e w' => e = .returned (.tuple #[]) ∧ ∃ v1 v2 g h, Box3 w' c (.bool (sumNeg f f' (lv X n * lv Y' m') (lv X' n' * lv Y m))) v1 v2 ∧
      NatAt w' v1 g (sumTop f f' (lv X n * lv Y' m') (lv X' n' * lv Y m)) 1048576 ∧ NatAt w' v2 h (lv Y m * lv Y' m') 1048576 ∧ w.heap.size ≤ g ∧ w.heap.size ≤ h ∧ g ≠ h ∧ g < w'.heap.size ∧ h < w'.heap.size ∧ Oth c w w' := by
  have sA : w.Since w.heap.size ((w.alloc (.cells #[.bool f', .slice a' n' ca', .slice b' m' cb'] 74)).alloc (.cells #[.slice a' n' ca'] 58)) := ((World.Since.refl _ _).alloc (Nat.le_refl _) _).alloc (by simp) _
  have gA : Box3 ((w.alloc (.cells #[.bool f', .slice a' n' ca', .slice b' m' cb'] 74)).alloc (.cells #[.slice a' n' ca'] 58)) w.heap.size (.bool f') (.slice a' n' ca') (.slice b' m' cb') := (Box3.new w _ _ _ _).keep ((World.Since.refl _ _).alloc (Nat.le_refl _) _)
  have BA := B.keep sA
  have hcl := B.lt
  have zA : ((w.alloc (.cells #[.bool f', .slice a' n' ca', .slice b' m' cb'] 74)).alloc (.cells #[.slice a' n' ca'] 58)).heap.size = w.heap.size + 1 + 1 := by simp
  have qA : ((w.alloc (.cells #[.bool f', .slice a' n' ca', .slice b' m' cb'] 74)).alloc (.cells #[.slice a' n' ca'] 58)).cell? ⟨w.heap.size + 1, 0, none⟩ = some (.slice a' n' ca') ∧ ((w.alloc (.cells #[.bool f', .slice a' n' ca', .slice b' m' cb'] 74)).alloc (.cells #[.slice a' n' ca'] 58)).frozen? ⟨w.heap.size + 1, 0, none⟩ = false := by
    simp
  have kB := BA.c2
  have JA := mulAtR (w.heap.size + 1) a' b ba' oa' n' ca' bb ob m cb X' Y ((w.alloc (.cells #[.bool f', .slice a' n' ca', .slice b' m' cb'] 74)).alloc (.cells #[.slice a' n' ca'] 58)) (by omega) (by omega) (hX'.keep sA) (hY.keep sA) hXl' hYl qA.1 qA.2
  go_enter Tryd.func66, Tryd.ntmps66
  go_wp2_with fail
  generalize ((w.alloc (.cells #[.bool f', .slice a' n' ca', .slice b' m' cb'] 74)).alloc (.cells #[.slice a' n' ca'] 58)) = w1 at *
  have zl : w.heap.size + 1 + 1 ≤ w1.heap.size := by omega
  clear kB zA
  refine JA.mono ?_
  rintro e w2 ⟨rfl, P1, q2, qf2, r2, hP1, e1, O2, z2⟩
  have O02 : Oth c w w2 := (Oth.ofSince c sA).up O2 (by omega)
  have B2 := BA.oth O2 (by omega)
  have G2 := gA.oth O2 (by omega)
  have k2 := G2.c2
  clear JA BA gA O2 sA
  have JB := mulAt1r c _ _ a b' ba oa n ca bb' ob' m' cb' X Y' w2.drew (by omega) (by omega) (hX.oth O02.drew ea) (hY'.oth O02.drew eb') hXl hYl' B2.drew
  go_wp2_with fail
  go_region_held3 (fun w' => w'.cell? ⟨w.heap.size, 2, none⟩ = some (.slice b' m' cb')) (go_keep)
    (first
      | (go_at_call 56
         with_reducible refine JB.mono ?_
         rintro e w3 ⟨rfl, P2, B3, r3, hP2, e2, O3, z3⟩
         have i1 := (G2.drew.oth O3 (by omega)).c2))
  have O3 : Oth c w2 w3 := ⟨O3.os, O3.tape, O3.output, O3.size, O3.block⟩
  have O03 := O02.trans O3
  have G3 := G2.oth O3 (by omega)
  have q3 : w3.cell? ⟨w.heap.size + 1, 0, none⟩ = _ := (O3.cell (a := ⟨w.heap.size + 1, 0, none⟩) (World.block_lt_of_cell? _ _ q2) (show w.heap.size + 1 ≠ c by omega)).trans q2
  have r23 := row_oth r2 O3 (by omega)
  have z3 : w2.heap.size < w3.heap.size := z3
  have r3 : w3.rowIs w2.heap.size _ _ _ := r3
  have B3 : Box3 w3 c (.bool f) (.slice (some ⟨w2.heap.size, 0, none⟩) (tlen (nz P2) (n + m')) (n + m')) (.slice b m cb) := B3
  clear k2 i1 JB B2 G2 O02 q2 qf2 r2
  have k2 := G3.c2
  have JC := mulAt2 c _ _ b b' bb ob m cb bb' ob' m' cb' Y Y' w3.drew (by omega) (by omega) (hY.oth O03.drew eb) (hY'.oth O03.drew eb') hYl hYl' B3.drew
  go_wp2_with fail
  go_region_held3 (fun w' => w'.cell? ⟨w.heap.size, 2, none⟩ = some (.slice b' m' cb')) (go_keep)
    (first
      | (go_at_call 56
         with_reducible refine JC.mono ?_
         rintro e w4 ⟨rfl, v2, B4, N4, O4, z4⟩
         have i1 := (G3.drew.oth O4 (by omega)).c2))
  have O4 : Oth c w3 w4 := ⟨O4.os, O4.tape, O4.output, O4.size, O4.block⟩
  have O04 := O03.trans O4
  have G4 := G3.oth O4 (by omega)
  have q4 : w4.cell? ⟨w.heap.size + 1, 0, none⟩ = _ := (O4.cell (a := ⟨w.heap.size + 1, 0, none⟩) (World.block_lt_of_cell? _ _ q3) (show w.heap.size + 1 ≠ c by omega)).trans q3
  have r24 := row_oth r23 O4 (by omega)
  have r34 := row_oth r3 O4 (by omega)
  have z4 : w3.heap.size < w4.heap.size := z4
  have N4 : NatAt w4 v2 w3.heap.size (lv Y m * lv Y' m') (m + m') := N4
  clear k2 i1 JC B3 G3 O03 q3 r23 r3 O3 O4
  have k1 := G4.c0
  have k3 := q4
  go_wp2_with fail
  refine (addTop_any c f f' v2 w2.heap.size w1.heap.size (n + m') (n' + m) P2 P1 w4 (by omega) (by omega) B4 r34 r24 hP2 hP1 (by omega) (by omega) (by omega)).mono ?_
  rintro e w5 ⟨rfl, v, gg, B5, N5, hgg, hgl, O5⟩
  rw [e1, e2] at B5 N5
  have hs := O5.size
  go_wp2
  go_end0
  exact ⟨rfl, v, v2, gg, w3.heap.size, B5, N5, (N4.ofBlock (fun _ => O5.block w3.heap.size (by omega) (by omega) (by omega) (by omega))).more (by omega), by omega, by omega, by omega, hgl, by omega, O04.up3 O5 (by omega) (by omega)⟩

end Go.Proofs.YtklkohdcilnchaaDoor

namespace Go.Proofs.YtklkohdcilnchaaDoor
open Go.RowKit

set_option maxHeartbeats 1600000 in
set_option maxRecDepth 100000 in
/-- (*fraction).compare at like signs. -/
theorem fracCmp_same (c : Nat) (f : Bool) (a b a' b' : Option Addr) (ba oa n ca bb ob m cb ba' oa' n' ca' bb' ob' m' cb' : Nat) (X Y X' Y' : Nat → Nat) (w : World) (hn : n + n' + m + m' ≤ 1048576)
    (hX : Limbs w a ba oa n X) (hY : Limbs w b bb ob m Y) (hX' : Limbs w a' ba' oa' n' X') (hY' : Limbs w b' bb' ob' m' Y') (hXl : ∀ j, j < n → X j < 4294967296) (hYl : ∀ j, j < m → Y j < 4294967296) (hXl' : ∀ j, j < n' → X' j < 4294967296) (hYl' : ∀ j, j < m' → Y' j < 4294967296)
    (B : Box3 w c (.bool f) (.slice a n ca) (.slice b m cb)) :
    Calls Tryd.prog 74 #[.pointer (some ⟨c, 0, none⟩), .agg #[.bool f, .slice a' n' ca', .slice b' m' cb']] w fun e w' => e = .returned (.int .i64 (if f then cmpN (lv X' n' * lv Y m) (lv X n * lv Y' m') else cmpN (lv X n * lv Y' m') (lv X' n' * lv Y m))) ∧ w.Since w.heap.size w' := by
  have sA : w.Since w.heap.size (w.alloc (.cells #[.bool f, .slice a' n' ca', .slice b' m' cb'] 74)) := (World.Since.refl _ _).alloc (Nat.le_refl _) _
  have BA := B.keep sA
  have gA := Box3.new w (.bool f) (.slice a' n' ca') (.slice b' m' cb') 74
  have hcl := B.lt
  have zA : (w.alloc (.cells #[.bool f, .slice a' n' ca', .slice b' m' cb'] 74)).heap.size = w.heap.size + 1 := by simp
  have k0 := BA.c0
  have k1 := BA.c1
  have g0 := gA.c0
  have g1 := gA.c1
  go_enter Tryd.func74, Tryd.ntmps74
  go_wp2
  go_quiet (fail)
  go_wp2
  have S1 : w.Since w.heap.size ((w.alloc (.cells #[.bool f, .slice a' n' ca', .slice b' m' cb'] 74)).drewN nq) := ⟨sA.os, sA.tape, sA.output, sA.size, sA.block⟩
  have B1 : Box3 ((w.alloc (.cells #[.bool f, .slice a' n' ca', .slice b' m' cb'] 74)).drewN nq) c (.bool f) (.slice a n ca) (.slice b m cb) := ⟨BA.c0, BA.c1, BA.c2, BA.f⟩
  have G1 : Box3 ((w.alloc (.cells #[.bool f, .slice a' n' ca', .slice b' m' cb'] 74)).drewN nq) w.heap.size (.bool f) (.slice a' n' ca') (.slice b' m' cb') := ⟨gA.c0, gA.c1, gA.c2, gA.f⟩
  have zl : w.heap.size + 1 ≤ ((w.alloc (.cells #[.bool f, .slice a' n' ca', .slice b' m' cb'] 74)).drewN nq).heap.size := Nat.le_of_eq zA.symm
  clear sA BA gA zA k0 k1 g0 g1
  generalize (w.alloc (.cells #[.bool f, .slice a' n' ca', .slice b' m' cb'] 74)).drewN nq = w1 at *
  have n1 : w1.heap.size ≠ c := by omega
  have n2 : w1.heap.size ≠ w.heap.size := by omega
  have n3 : w1.heap.size + 1 ≠ c := by omega
  have n4 : w1.heap.size + 1 ≠ w.heap.size := by omega
  have kk := And.intro B1.c1 G1.c1
  have tZ : (w1.drew.alloc (.cells #[.slice none 0 0] 58)).Since (w1.drew.alloc (.cells #[.slice none 0 0] 58)).heap.size ((w1.drew.alloc (.cells #[.slice none 0 0] 58)).alloc (.cells #[.slice none 0 0] 58)) := (World.Since.refl _ _).alloc (Nat.le_refl _) _
  have a1 : ((w1.drew.alloc (.cells #[.slice none 0 0] 58)).alloc (.cells #[.slice none 0 0] 58)).cell? ⟨w1.heap.size, 0, none⟩ = some (.slice none 0 0) := by rw [tZ.cell (a := ⟨w1.heap.size, 0, none⟩) (by show w1.drew.heap.size < _; simp)]; exact World.cell?_alloc_new w1.drew _ _ 0
  clear tZ
  go_region_held3 (fun w' => w'.cell? ⟨c, 1, none⟩ = some (.slice a n ca) ∧ w'.cell? ⟨w.heap.size, 1, none⟩ = some (.slice a' n' ca')) (go_keep) (fail)
  all_goals
    first
    | (with_reducible show Exit.then _ _ Exit.normal _ ((w1.alloc (.cells #[.slice a n ca] 58)).alloc (.cells #[.slice a' n' ca'] 58)).drew
       have tV : w1.Since w1.heap.size (w1.alloc (.cells #[.slice a n ca] 58)) := (World.Since.refl _ _).alloc (Nat.le_refl _) _
       have tW : (w1.alloc (.cells #[.slice a n ca] 58)).Since (w1.alloc (.cells #[.slice a n ca] 58)).heap.size ((w1.alloc (.cells #[.slice a n ca] 58)).alloc (.cells #[.slice a' n' ca'] 58)) := (World.Since.refl _ _).alloc (Nat.le_refl _) _
       have tt : w1.Since w1.heap.size ((w1.alloc (.cells #[.slice a n ca] 58)).alloc (.cells #[.slice a' n' ca'] 58)).drew := since_drew (tV.trans (sinceMono tW tV.size))
       have zV : (w1.alloc (.cells #[.slice a n ca] 58)).heap.size = w1.heap.size + 1 := by simp
       have zW : ((w1.alloc (.cells #[.slice a n ca] 58)).alloc (.cells #[.slice a' n' ca'] 58)).drew.heap.size = w1.heap.size + 2 := by show ((w1.alloc (.cells #[.slice a n ca] 58)).alloc (.cells #[.slice a' n' ca'] 58)).heap.size = _; simp
       have ql : ((w1.alloc (.cells #[.slice a n ca] 58)).alloc (.cells #[.slice a' n' ca'] 58)).drew.cell? ⟨w1.heap.size, 0, none⟩ = some (.slice a n ca) := (tW.cell (a := ⟨w1.heap.size, 0, none⟩) (by show w1.heap.size < _; omega)).trans (World.cell?_alloc_new w1 _ _ 0)
       have fl : ((w1.alloc (.cells #[.slice a n ca] 58)).alloc (.cells #[.slice a' n' ca'] 58)).drew.frozen? ⟨w1.heap.size, 0, none⟩ = false := (tW.frozen (a := ⟨w1.heap.size, 0, none⟩) (by show w1.heap.size < _; omega)).trans (by simp)
       have qr : ((w1.alloc (.cells #[.slice a n ca] 58)).alloc (.cells #[.slice a' n' ca'] 58)).drew.cell? ⟨w1.heap.size + 1, 0, none⟩ = some (.slice a' n' ca') := by have := World.cell?_alloc_new (w1.alloc (.cells #[.slice a n ca] 58)) #[.slice a' n' ca'] 58 0; rw [zV] at this; exact this
       have fr : ((w1.alloc (.cells #[.slice a n ca] 58)).alloc (.cells #[.slice a' n' ca'] 58)).drew.frozen? ⟨w1.heap.size + 1, 0, none⟩ = false := by have h9 : ((w1.alloc (.cells #[.slice a n ca] 58)).alloc (.cells #[.slice a' n' ca'] 58)).frozen? ⟨(w1.alloc (.cells #[.slice a n ca] 58)).heap.size, 0, none⟩ = false := (by simp); rw [zV] at h9; exact h9
       have S2 := S1.trans (sinceMono tt S1.size)
       have B2 := B1.keep tt
       have G2 := G1.keep tt
       obtain ⟨L, hL⟩ : ∃ L, L = w1.heap.size := ⟨_, rfl⟩
       obtain ⟨R, hR⟩ : ∃ R, R = w1.heap.size + 1 := ⟨_, rfl⟩
       have hLR : L ≠ R ∧ w.heap.size < L ∧ w.heap.size < R ∧ L < ((w1.alloc (.cells #[.slice a n ca] 58)).alloc (.cells #[.slice a' n' ca'] 58)).drew.heap.size ∧ R < ((w1.alloc (.cells #[.slice a n ca] 58)).alloc (.cells #[.slice a' n' ca'] 58)).drew.heap.size := by omega
       rw [← hR, ← hL]
       rw [← hL] at ql fl
       rw [← hR] at qr fr
       clear tV tW tt zV zW
       generalize ((w1.alloc (.cells #[.slice a n ca] 58)).alloc (.cells #[.slice a' n' ca'] 58)).drew = w2 at *)
    | (with_reducible show Exit.then _ _ Exit.normal _ ((w1.alloc (.cells #[.slice a' n' ca'] 58)).alloc (.cells #[.slice a n ca] 58)).drew
       have tV : w1.Since w1.heap.size (w1.alloc (.cells #[.slice a' n' ca'] 58)) := (World.Since.refl _ _).alloc (Nat.le_refl _) _
       have tW : (w1.alloc (.cells #[.slice a' n' ca'] 58)).Since (w1.alloc (.cells #[.slice a' n' ca'] 58)).heap.size ((w1.alloc (.cells #[.slice a' n' ca'] 58)).alloc (.cells #[.slice a n ca] 58)) := (World.Since.refl _ _).alloc (Nat.le_refl _) _
       have tt : w1.Since w1.heap.size ((w1.alloc (.cells #[.slice a' n' ca'] 58)).alloc (.cells #[.slice a n ca] 58)).drew := since_drew (tV.trans (sinceMono tW tV.size))
       have zV : (w1.alloc (.cells #[.slice a' n' ca'] 58)).heap.size = w1.heap.size + 1 := by simp
       have zW : ((w1.alloc (.cells #[.slice a' n' ca'] 58)).alloc (.cells #[.slice a n ca] 58)).drew.heap.size = w1.heap.size + 2 := by show ((w1.alloc (.cells #[.slice a' n' ca'] 58)).alloc (.cells #[.slice a n ca] 58)).heap.size = _; simp
       have qr : ((w1.alloc (.cells #[.slice a' n' ca'] 58)).alloc (.cells #[.slice a n ca] 58)).drew.cell? ⟨w1.heap.size, 0, none⟩ = some (.slice a' n' ca') := (tW.cell (a := ⟨w1.heap.size, 0, none⟩) (by show w1.heap.size < _; omega)).trans (World.cell?_alloc_new w1 _ _ 0)
       have fr : ((w1.alloc (.cells #[.slice a' n' ca'] 58)).alloc (.cells #[.slice a n ca] 58)).drew.frozen? ⟨w1.heap.size, 0, none⟩ = false := (tW.frozen (a := ⟨w1.heap.size, 0, none⟩) (by show w1.heap.size < _; omega)).trans (by simp)
       have ql : ((w1.alloc (.cells #[.slice a' n' ca'] 58)).alloc (.cells #[.slice a n ca] 58)).drew.cell? ⟨w1.heap.size + 1, 0, none⟩ = some (.slice a n ca) := by have := World.cell?_alloc_new (w1.alloc (.cells #[.slice a' n' ca'] 58)) #[.slice a n ca] 58 0; rw [zV] at this; exact this
       have fl : ((w1.alloc (.cells #[.slice a' n' ca'] 58)).alloc (.cells #[.slice a n ca] 58)).drew.frozen? ⟨w1.heap.size + 1, 0, none⟩ = false := by have h9 : ((w1.alloc (.cells #[.slice a' n' ca'] 58)).alloc (.cells #[.slice a n ca] 58)).frozen? ⟨(w1.alloc (.cells #[.slice a' n' ca'] 58)).heap.size, 0, none⟩ = false := (by simp); rw [zV] at h9; exact h9
       have S2 := S1.trans (sinceMono tt S1.size)
       have B2 := B1.keep tt
       have G2 := G1.keep tt
       obtain ⟨L, hL⟩ : ∃ L, L = w1.heap.size + 1 := ⟨_, rfl⟩
       obtain ⟨R, hR⟩ : ∃ R, R = w1.heap.size := ⟨_, rfl⟩
       have hLR : L ≠ R ∧ w.heap.size < L ∧ w.heap.size < R ∧ L < ((w1.alloc (.cells #[.slice a' n' ca'] 58)).alloc (.cells #[.slice a n ca] 58)).drew.heap.size ∧ R < ((w1.alloc (.cells #[.slice a' n' ca'] 58)).alloc (.cells #[.slice a n ca] 58)).drew.heap.size := by omega
       rw [← hL, ← hR]
       rw [← hL] at ql fl
       rw [← hR] at qr fr
       clear tV tW tt zV zW
       generalize ((w1.alloc (.cells #[.slice a' n' ca'] 58)).alloc (.cells #[.slice a n ca] 58)).drew = w2 at *)
  all_goals
    obtain ⟨hLR, hwL, hwR, hL2, hR2⟩ := hLR
    clear hL hR a1 n1 n2 n3 n4 kk zl S1 B1 G1
    have k2 := G2.c2
    go_wp2_with fail
    refine (mulAtR L a b' ba oa n ca bb' ob' m' cb' X Y' w2 (by omega) (by omega) (hX.keep S2) (hY'.keep S2) hXl hYl' ql fl).mono ?_
    rintro e w3 ⟨rfl, P, q3, f3, r3, hP, eP, O3, z3⟩
    have O03 : Oth w.heap.size w w3 := (Oth.ofSince _ S2).up O3 (by omega)
    have S3 : w.Since w.heap.size w3 := O03.since (Nat.le_refl _)
    have B3 := B2.oth O3 (by omega)
    have q4 : w3.cell? ⟨R, 0, none⟩ = some (.slice a' n' ca') := (O3.cell (a := ⟨R, 0, none⟩) hR2 (Ne.symm hLR)).trans qr
    have f4 : w3.frozen? ⟨R, 0, none⟩ = false := (O3.frozen (a := ⟨R, 0, none⟩) hR2 (Ne.symm hLR)).trans fr
    clear k2 G2 ql fl qr fr O03
    have k2 := B3.c2
    go_wp2_with fail
    refine (mulAtR R a' b ba' oa' n' ca' bb ob m cb X' Y w3 (by omega) (by omega) (hX'.keep S3) (hY.keep S3) hXl' hYl q4 f4).mono ?_
    rintro e w4 ⟨rfl, Q, q5, f5, r5, hQ, eQ, O4, z4⟩
    have hs3 := O3.size
    have O04 : Oth w.heap.size w w4 := (Oth.ofSince _ S3).up O4 (by omega)
    have S4 : w.Since w.heap.size w4 := O04.since (Nat.le_refl _)
    have B4 := B3.oth O4 (by omega)
    have q6 : w4.cell? ⟨L, 0, none⟩ = _ := (O4.cell (a := ⟨L, 0, none⟩) (show L < _ by omega) hLR).trans q3
    have r6 := row_oth r3 O4 (by omega)
    clear k2 B3 q3 f3 q4 f4 r3 O04 B2 O3 O4
    have k0 := B4.c0
    have tP := tlen_le (nz P) (n + m')
    have tQ := tlen_le (nz Q) (n' + m)
    have LP := (limbs_row r6).take tP
    have LQ := (limbs_row r5).take tQ
    have JA := compare_any R 0 (some ⟨w3.heap.size, 0, none⟩) (some ⟨w2.heap.size, 0, none⟩) w3.heap.size 0 (tlen (nz Q) (n' + m)) (n' + m) w2.heap.size 0 (tlen (nz P) (n + m')) (n + m') Q P w4 (by omega) (by omega) q5 LQ LP (fun j _ => hQ j) (fun j _ => hP j) top_row top_row
    have JB := compare_any L 0 (some ⟨w2.heap.size, 0, none⟩) (some ⟨w3.heap.size, 0, none⟩) w2.heap.size 0 (tlen (nz P) (n + m')) (n + m') w3.heap.size 0 (tlen (nz Q) (n' + m)) (n' + m) P Q w4 (by omega) (by omega) q6 LP LQ (fun j _ => hP j) (fun j _ => hQ j) top_row top_row
    rw [lv_tlen, lv_tlen, eP, eQ] at JA JB
    clear r5 r6 LP LQ hP hQ eP eQ tP tQ
    cases f
    · go_wp2_with fail
      refine JB.mono ?_
      rintro e w5 ⟨rfl, s5⟩
      go_wp2
      go_ret
      exact ⟨rfl, S4.trans (sinceMono (s5.since w4.heap.size) S4.size)⟩
    · go_wp2_with fail
      refine JA.mono ?_
      rintro e w5 ⟨rfl, s5⟩
      go_wp2
      go_ret
      exact ⟨rfl, S4.trans (sinceMono (s5.since w4.heap.size) S4.size)⟩

end Go.Proofs.YtklkohdcilnchaaDoor

namespace Go.Proofs.YtklkohdcilnchaaDoor
open Go.RowKit

/-- The order of two fractions. -/
def cmpR (f f' : Bool) (x y : Nat) : Int := if f = f' then (if f then cmpN y x else cmpN x y) else if f then -1 else 1

theorem fracCmp_any (c : Nat) (f f' : Bool) (a b a' b' : Option Addr) (ba oa n ca bb ob m cb ba' oa' n' ca' bb' ob' m' cb' : Nat) (X Y X' Y' : Nat → Nat) (w : World) (hn : n + n' + m + m' ≤ 1048576)
    (hX : Limbs w a ba oa n X) (hY : Limbs w b bb ob m Y) (hX' : Limbs w a' ba' oa' n' X') (hY' : Limbs w b' bb' ob' m' Y') (hXl : ∀ j, j < n → X j < 4294967296) (hYl : ∀ j, j < m → Y j < 4294967296) (hXl' : ∀ j, j < n' → X' j < 4294967296) (hYl' : ∀ j, j < m' → Y' j < 4294967296)
    (B : Box3 w c (.bool f) (.slice a n ca) (.slice b m cb)) :
    Calls Tryd.prog 74 #[.pointer (some ⟨c, 0, none⟩), .agg #[.bool f', .slice a' n' ca', .slice b' m' cb']] w fun e w' => e = .returned (.int .i64 (cmpR f f' (lv X n * lv Y' m') (lv X' n' * lv Y m))) ∧ w.Since w.heap.size w' := by
  by_cases hff : f = f'
  · subst hff
    rw [show cmpR f f (lv X n * lv Y' m') (lv X' n' * lv Y m) = if f then cmpN (lv X' n' * lv Y m) (lv X n * lv Y' m') else cmpN (lv X n * lv Y' m') (lv X' n' * lv Y m) by simp [cmpR]]
    exact fracCmp_same c f a b a' b' ba oa n ca bb ob m cb ba' oa' n' ca' bb' ob' m' cb' X Y X' Y' w hn hX hY hX' hY' hXl hYl hXl' hYl' B
  · rw [show cmpR f f' (lv X n * lv Y' m') (lv X' n' * lv Y m) = if f then -1 else 1 by simp [cmpR, hff]]
    exact fracCmp_sign c f f' a b a' b' n ca m cb n' ca' m' cb' w B hff

set_option maxHeartbeats 1600000 in
set_option maxRecDepth 100000 in
theorem orderOf_any (f f' : Bool) (a b a' b' : Option Addr) (ba oa n ca bb ob m cb ba' oa' n' ca' bb' ob' m' cb' : Nat) (X Y X' Y' : Nat → Nat) (w : World) (hn : n + n' + m + m' ≤ 1048576)
    (R : RIn w a b ba oa n ca bb ob m cb X Y) (R' : RIn w a' b' ba' oa' n' ca' bb' ob' m' cb' X' Y') :
    Calls Tryd.prog 40 #[.agg #[.bool f, .slice a n ca, .slice b m cb], .agg #[.bool f', .slice a' n' ca', .slice b' m' cb']] w fun e w' => e = .returned (.int .i64 (cmpR f f' (lv X n * lv Y' m') (lv X' n' * lv Y m))) ∧ w.Since w.heap.size w' := by
  have sA : w.Since w.heap.size ((w.alloc (.cells #[.bool f, .slice a n ca, .slice b m cb] 25)).alloc (.cells #[.bool f', .slice a' n' ca', .slice b' m' cb'] 25)) := ((World.Since.refl _ _).alloc (Nat.le_refl _) _).alloc (by simp) _
  have zA : ((w.alloc (.cells #[.bool f, .slice a n ca, .slice b m cb] 25)).alloc (.cells #[.bool f', .slice a' n' ca', .slice b' m' cb'] 25)).heap.size = w.heap.size + 1 + 1 := by simp
  have oA : Box3 ((w.alloc (.cells #[.bool f, .slice a n ca, .slice b m cb] 25)).alloc (.cells #[.bool f', .slice a' n' ca', .slice b' m' cb'] 25)) w.heap.size (.bool f) (.slice a n ca) (.slice b m cb) := (Box3.new w _ _ _ _).keep ((World.Since.refl _ _).alloc (Nat.le_refl _) _)
  have pA : Box3 ((w.alloc (.cells #[.bool f, .slice a n ca, .slice b m cb] 25)).alloc (.cells #[.bool f', .slice a' n' ca', .slice b' m' cb'] 25)) (w.heap.size + 1) (.bool f') (.slice a' n' ca') (.slice b' m' cb') := by
    have := Box3.new (w.alloc (.cells #[.bool f, .slice a n ca, .slice b m cb] 25)) (.bool f') (.slice a' n' ca') (.slice b' m' cb') 25
    simpa using this
  have m1 := R.m0
  have m1' := R'.m0
  go_enter Tryd.func40, Tryd.ntmps40
  go_wp2_with fail
  generalize ((w.alloc (.cells #[.bool f, .slice a n ca, .slice b m cb] 25)).alloc (.cells #[.bool f', .slice a' n' ca', .slice b' m' cb'] 25)) = w1 at *
  refine (fractionOf_any f a b ba oa n ca bb ob m cb X Y w1 (by omega) (by omega) R.nc R.mc (R.keep sA).LX (R.keep sA).LY R.pX R.pY).mono ?_
  rintro e w2 ⟨rfl, s2⟩
  have S2 : w.Since w.heap.size w2 := sA.trans (sinceMono s2 sA.size)
  have z2 := s2.size
  have p2 := pA.keep s2
  clear pA oA s2
  have t3 : w2.Since w2.heap.size (w2.alloc (.cells #[.bool f, .slice a n ca, .slice b m cb] 74)) := (World.Since.refl _ _).alloc (Nat.le_refl _) _
  have c3 := Box3.new w2 (.bool f) (.slice a n ca) (.slice b m cb) 74
  have p3 := p2.keep t3
  have S3 : w.Since w.heap.size (w2.alloc (.cells #[.bool f, .slice a n ca, .slice b m cb] 74)) := S2.trans (sinceMono t3 S2.size)
  have k0 := p3.c0
  have k1 := p3.c1
  have k2 := p3.c2
  go_wp2_with fail
  generalize w2.alloc (.cells #[.bool f, .slice a n ca, .slice b m cb] 74) = w3 at *
  refine (fractionOf_any f' a' b' ba' oa' n' ca' bb' ob' m' cb' X' Y' w3 (by omega) (by omega) R'.nc R'.mc (R'.keep S3).LX (R'.keep S3).LY R'.pX R'.pY).mono ?_
  rintro e w4 ⟨rfl, s4⟩
  have S4 : w.Since w.heap.size w4 := S3.trans (sinceMono s4 S3.size)
  have c4 := c3.keep s4
  have R4 := R.keep S4
  have R4' := R'.keep S4
  clear k0 k1 k2 p3 p2 c3 s4
  have J := fracCmp_any w2.heap.size f f' a b a' b' ba oa n ca bb ob m cb ba' oa' n' ca' bb' ob' m' cb' X Y X' Y' w4 hn R4.LX R4.LY R4'.LX R4'.LY R.lX R.lY R'.lX R'.lY c4
  obtain ⟨z, hz⟩ : ∃ z, z = cmpR f f' (lv X n * lv Y' m') (lv X' n' * lv Y m) := ⟨_, rfl⟩
  rw [← hz] at J
  have HZ := hide hz
  clear hz
  go_wp2_with fail
  refine J.mono ?_
  rintro e w5 ⟨rfl, s5⟩
  go_wp2
  go_ret
  exact ⟨ret_int HZ.out, S4.trans (sinceMono s5 S4.size)⟩

set_option maxHeartbeats 1600000 in
set_option maxRecDepth 100000 in
theorem implRatCmp_ok (f f' : Bool) (a b a' b' : Option Addr) (ba oa n ca bb ob m cb ba' oa' n' ca' bb' ob' m' cb' : Nat) (X Y X' Y' : Nat → Nat) (w : World) (hw : 0 < w.heap.size) (hT : Tab w) (hn : n + n' + m + m' ≤ 1048576)
    (R : RIn w a b ba oa n ca bb ob m cb X Y) (R' : RIn w a' b' ba' oa' n' ca' bb' ob' m' cb' X' Y') (ok : ratOkB f X n Y m = true) (ok' : ratOkB f' X' n' Y' m' = true) :
    Calls Tryd.prog 12 #[.agg #[.bool f, .slice a n ca, .slice b m cb], .agg #[.bool f', .slice a' n' ca', .slice b' m' cb']] w fun e w' => e = .returned (.int .i64 (cmpR f f' (lv X n * lv Y' m') (lv X' n' * lv Y m))) ∧ w.Since w.heap.size w' := by
  have sA : w.Since w.heap.size ((w.alloc (.cells #[.bool f, .slice a n ca, .slice b m cb] 25)).alloc (.cells #[.bool f', .slice a' n' ca', .slice b' m' cb'] 25)) := ((World.Since.refl _ _).alloc (Nat.le_refl _) _).alloc (by simp) _
  have zA : ((w.alloc (.cells #[.bool f, .slice a n ca, .slice b m cb] 25)).alloc (.cells #[.bool f', .slice a' n' ca', .slice b' m' cb'] 25)).heap.size = w.heap.size + 1 + 1 := by simp
  have oA : Box3 ((w.alloc (.cells #[.bool f, .slice a n ca, .slice b m cb] 25)).alloc (.cells #[.bool f', .slice a' n' ca', .slice b' m' cb'] 25)) w.heap.size (.bool f) (.slice a n ca) (.slice b m cb) := (Box3.new w _ _ _ _).keep ((World.Since.refl _ _).alloc (Nat.le_refl _) _)
  have pA : Box3 ((w.alloc (.cells #[.bool f, .slice a n ca, .slice b m cb] 25)).alloc (.cells #[.bool f', .slice a' n' ca', .slice b' m' cb'] 25)) (w.heap.size + 1) (.bool f') (.slice a' n' ca') (.slice b' m' cb') := by
    have := Box3.new (w.alloc (.cells #[.bool f, .slice a n ca, .slice b m cb] 25)) (.bool f') (.slice a' n' ca') (.slice b' m' cb') 25
    simpa using this
  have m1 := R.m0
  have m1' := R'.m0
  go_enter Tryd.func12, Tryd.ntmps12
  go_wp2_with fail
  generalize ((w.alloc (.cells #[.bool f, .slice a n ca, .slice b m cb] 25)).alloc (.cells #[.bool f', .slice a' n' ca', .slice b' m' cb'] 25)) = w1 at *
  have I1 := implRatOk_any f a b ba oa n ca bb ob m cb X Y w1 (Nat.lt_of_lt_of_le hw sA.size) (by omega) (by omega) R.nc R.mc R.ac R.bc (R.keep sA).LX (R.keep sA).LY R.lX R.lY (hT.stay hw sA)
  rw [ok] at I1
  refine I1.mono ?_
  rintro e w2 ⟨rfl, s2⟩
  have S2 : w.Since w.heap.size w2 := sA.trans (sinceMono s2 sA.size)
  have o2 := oA.keep s2
  have p2 := pA.keep s2
  have I2 := implRatOk_any f' a' b' ba' oa' n' ca' bb' ob' m' cb' X' Y' w2 (Nat.lt_of_lt_of_le hw S2.size) (by omega) (by omega) R'.nc R'.mc R'.ac R'.bc (R'.keep S2).LX (R'.keep S2).LY R'.lX R'.lY (hT.stay hw S2)
  rw [ok'] at I2
  clear I1 oA pA
  have k0 := p2.c0
  have k1 := p2.c1
  have k2 := p2.c2
  go_wp2_with fail
  refine I2.mono ?_
  rintro e w3 ⟨rfl, s3⟩
  have S3 : w.Since w.heap.size w3 := S2.trans (sinceMono s3 S2.size)
  have o3 := o2.keep s3
  have p3 := p2.keep s3
  clear I2 k0 k1 k2 o2 p2
  have k0 := p3.c0
  have k1 := p3.c1
  have k2 := p3.c2
  have j0 := o3.c0
  have j1 := o3.c1
  have j2 := o3.c2
  have J := orderOf_any f f' a b a' b' ba oa n ca bb ob m cb ba' oa' n' ca' bb' ob' m' cb' X Y X' Y' w3 hn (R.keep S3) (R'.keep S3)
  obtain ⟨z, hz⟩ : ∃ z, z = cmpR f f' (lv X n * lv Y' m') (lv X' n' * lv Y m) := ⟨_, rfl⟩
  rw [← hz] at J
  have HZ := hide hz
  clear hz
  go_wp2_with fail
  refine J.mono ?_
  rintro e w4 ⟨rfl, s4⟩
  go_wp2
  go_ret
  exact ⟨ret_int HZ.out, S3.trans (sinceMono s4 S3.size)⟩

set_option maxHeartbeats 1600000 in
set_option maxRecDepth 100000 in
theorem implRatCmp_no (f f' : Bool) (a b a' b' : Option Addr) (ba oa n ca bb ob m cb ba' oa' n' ca' bb' ob' m' cb' : Nat) (X Y X' Y' : Nat → Nat) (w : World) (hw : 0 < w.heap.size) (hT : Tab w) (hn : n + n' + m + m' ≤ 1048576)
    (R : RRaw w a b ba oa n ca bb ob m cb X Y) (R' : RRaw w a' b' ba' oa' n' ca' bb' ob' m' cb' X' Y') (ok : ¬ (ratOkB f X n Y m = true ∧ ratOkB f' X' n' Y' m' = true)) :
    Calls Tryd.prog 12 #[.agg #[.bool f, .slice a n ca, .slice b m cb], .agg #[.bool f', .slice a' n' ca', .slice b' m' cb']] w fun e w' => e = .returned (.int .i64 2) ∧ w.Since w.heap.size w' := by
  have sA : w.Since w.heap.size ((w.alloc (.cells #[.bool f, .slice a n ca, .slice b m cb] 25)).alloc (.cells #[.bool f', .slice a' n' ca', .slice b' m' cb'] 25)) := ((World.Since.refl _ _).alloc (Nat.le_refl _) _).alloc (by simp) _
  have zA : ((w.alloc (.cells #[.bool f, .slice a n ca, .slice b m cb] 25)).alloc (.cells #[.bool f', .slice a' n' ca', .slice b' m' cb'] 25)).heap.size = w.heap.size + 1 + 1 := by simp
  have oA : Box3 ((w.alloc (.cells #[.bool f, .slice a n ca, .slice b m cb] 25)).alloc (.cells #[.bool f', .slice a' n' ca', .slice b' m' cb'] 25)) w.heap.size (.bool f) (.slice a n ca) (.slice b m cb) := (Box3.new w _ _ _ _).keep ((World.Since.refl _ _).alloc (Nat.le_refl _) _)
  have pA : Box3 ((w.alloc (.cells #[.bool f, .slice a n ca, .slice b m cb] 25)).alloc (.cells #[.bool f', .slice a' n' ca', .slice b' m' cb'] 25)) (w.heap.size + 1) (.bool f') (.slice a' n' ca') (.slice b' m' cb') := by
    have := Box3.new (w.alloc (.cells #[.bool f, .slice a n ca, .slice b m cb] 25)) (.bool f') (.slice a' n' ca') (.slice b' m' cb') 25
    simpa using this
  go_enter Tryd.func12, Tryd.ntmps12
  go_wp2_with fail
  generalize ((w.alloc (.cells #[.bool f, .slice a n ca, .slice b m cb] 25)).alloc (.cells #[.bool f', .slice a' n' ca', .slice b' m' cb'] 25)) = w1 at *
  have I1 := implRatOk_any f a b ba oa n ca bb ob m cb X Y w1 (Nat.lt_of_lt_of_le hw sA.size) (by omega) (by omega) R.nc R.mc R.ac R.bc (R.keep sA).LX (R.keep sA).LY R.lX R.lY (hT.stay hw sA)
  by_cases h1 : ratOkB f X n Y m = true
  · have h2 : ratOkB f' X' n' Y' m' = false := by
      cases e : ratOkB f' X' n' Y' m'
      · rfl
      · exact absurd ⟨h1, e⟩ ok
    rw [h1] at I1
    clear h1 ok
    refine I1.mono ?_
    rintro e w2 ⟨rfl, s2⟩
    have S2 : w.Since w.heap.size w2 := sA.trans (sinceMono s2 sA.size)
    have o2 := oA.keep s2
    have p2 := pA.keep s2
    have I2 := implRatOk_any f' a' b' ba' oa' n' ca' bb' ob' m' cb' X' Y' w2 (Nat.lt_of_lt_of_le hw S2.size) (by omega) (by omega) R'.nc R'.mc R'.ac R'.bc (R'.keep S2).LX (R'.keep S2).LY R'.lX R'.lY (hT.stay hw S2)
    rw [h2] at I2
    clear I1 oA pA
    have k0 := p2.c0
    have k1 := p2.c1
    have k2 := p2.c2
    go_wp2_with fail
    refine I2.mono ?_
    rintro e w3 ⟨rfl, s3⟩
    have S3 : w.Since w.heap.size w3 := S2.trans (sinceMono s3 S2.size)
    have o3 := o2.keep s3
    have p3 := p2.keep s3
    clear I2 k0 k1 k2 o2 p2
    go_wp2
    go_ret
    exact ⟨rfl, S3⟩
  · rw [show ratOkB f X n Y m = false by simpa using h1] at I1
    clear h1 ok
    refine I1.mono ?_
    rintro e w2 ⟨rfl, s2⟩
    go_wp2
    go_ret
    exact ⟨rfl, sA.trans (sinceMono s2 sA.size)⟩

end Go.Proofs.YtklkohdcilnchaaDoor

namespace Go.Proofs.YtklkohdcilnchaaDoor
open Go.RowKit

set_option maxHeartbeats 1600000 in
set_option maxRecDepth 100000 in
theorem sumOf_any (f f' : Bool) (a b a' b' : Option Addr) (ba oa n ca bb ob m cb ba' oa' n' ca' bb' ob' m' cb' : Nat) (X Y X' Y' : Nat → Nat) (w : World) (hw : 0 < w.heap.size) (hT : Tab w) (hn : n + n' + m + m' ≤ 1048576)
    (R : RIn w a b ba oa n ca bb ob m cb X Y) (R' : RIn w a' b' ba' oa' n' ca' bb' ob' m' cb' X' Y') :
    Calls Tryd.prog 34 #[.agg #[.bool f, .slice a n ca, .slice b m cb], .agg #[.bool f', .slice a' n' ca', .slice b' m' cb']] w fun e w' => ∃ v, e = .returned v ∧
      RatV w' v (sumNeg f f' (lv X n * lv Y' m') (lv X' n' * lv Y m) && sumTop f f' (lv X n * lv Y' m') (lv X' n' * lv Y m) != 0) (sumTop f f' (lv X n * lv Y' m') (lv X' n' * lv Y m) / Nat.gcd (sumTop f f' (lv X n * lv Y' m') (lv X' n' * lv Y m)) (lv Y m * lv Y' m')) (lv Y m * lv Y' m' / Nat.gcd (sumTop f f' (lv X n * lv Y' m') (lv X' n' * lv Y m)) (lv Y m * lv Y' m')) w.heap.size 1048578 ∧ w.Since w.heap.size w' := by
  have sA : w.Since w.heap.size (((w.alloc (.cells #[.bool f, .slice a n ca, .slice b m cb] 25)).alloc (.cells #[.bool f', .slice a' n' ca', .slice b' m' cb'] 25)).alloc (.cells #[.bool false, .slice none 0 0, .slice none 0 0] 25)) := (((World.Since.refl _ _).alloc (Nat.le_refl _) _).alloc (by simp) _).alloc (by simp; omega) _
  have zA : (((w.alloc (.cells #[.bool f, .slice a n ca, .slice b m cb] 25)).alloc (.cells #[.bool f', .slice a' n' ca', .slice b' m' cb'] 25)).alloc (.cells #[.bool false, .slice none 0 0, .slice none 0 0] 25)).heap.size = w.heap.size + 1 + 1 + 1 := by simp
  have pA : Box3 (((w.alloc (.cells #[.bool f, .slice a n ca, .slice b m cb] 25)).alloc (.cells #[.bool f', .slice a' n' ca', .slice b' m' cb'] 25)).alloc (.cells #[.bool false, .slice none 0 0, .slice none 0 0] 25)) (w.heap.size + 1) (.bool f') (.slice a' n' ca') (.slice b' m' cb') := by
    have := (Box3.new (w.alloc (.cells #[.bool f, .slice a n ca, .slice b m cb] 25)) (.bool f') (.slice a' n' ca') (.slice b' m' cb') 25).keep ((World.Since.refl _ _).alloc (Nat.le_refl _) (.cells #[.bool false, .slice none 0 0, .slice none 0 0] 25))
    simpa using this
  have rA : Box3 (((w.alloc (.cells #[.bool f, .slice a n ca, .slice b m cb] 25)).alloc (.cells #[.bool f', .slice a' n' ca', .slice b' m' cb'] 25)).alloc (.cells #[.bool false, .slice none 0 0, .slice none 0 0] 25)) (w.heap.size + 1 + 1) (.bool false) (.slice none 0 0) (.slice none 0 0) := by
    have := Box3.new ((w.alloc (.cells #[.bool f, .slice a n ca, .slice b m cb] 25)).alloc (.cells #[.bool f', .slice a' n' ca', .slice b' m' cb'] 25)) (.bool false) (.slice none 0 0) (.slice none 0 0) 25
    simpa using this
  have m1 := R.m0
  have m1' := R'.m0
  go_enter Tryd.func34, Tryd.ntmps34
  go_wp2_with fail
  generalize (((w.alloc (.cells #[.bool f, .slice a n ca, .slice b m cb] 25)).alloc (.cells #[.bool f', .slice a' n' ca', .slice b' m' cb'] 25)).alloc (.cells #[.bool false, .slice none 0 0, .slice none 0 0] 25)) = w1 at *
  refine (fractionOf_any f a b ba oa n ca bb ob m cb X Y w1 (by omega) (by omega) R.nc R.mc (R.keep sA).LX (R.keep sA).LY R.pX R.pY).mono ?_
  rintro e w2 ⟨rfl, s2⟩
  have S2 : w.Since w.heap.size w2 := sA.trans (sinceMono s2 sA.size)
  have z2 := s2.size
  have p2 := pA.keep s2
  have r2 := rA.keep s2
  clear pA rA s2
  have t3 : w2.Since w2.heap.size (w2.alloc (.cells #[.bool f, .slice a n ca, .slice b m cb] 74)) := (World.Since.refl _ _).alloc (Nat.le_refl _) _
  have c3 := Box3.new w2 (.bool f) (.slice a n ca) (.slice b m cb) 74
  have p3 := p2.keep t3
  have r3 := r2.keep t3
  have S3 : w.Since w.heap.size (w2.alloc (.cells #[.bool f, .slice a n ca, .slice b m cb] 74)) := S2.trans (sinceMono t3 S2.size)
  have k0 := p3.c0
  have k1 := p3.c1
  have k2 := p3.c2
  go_wp2_with fail
  generalize w2.alloc (.cells #[.bool f, .slice a n ca, .slice b m cb] 74) = w3 at *
  refine (fractionOf_any f' a' b' ba' oa' n' ca' bb' ob' m' cb' X' Y' w3 (by omega) (by omega) R'.nc R'.mc (R'.keep S3).LX (R'.keep S3).LY R'.pX R'.pY).mono ?_
  rintro e w4 ⟨rfl, s4⟩
  have S4 : w.Since w.heap.size w4 := S3.trans (sinceMono s4 S3.size)
  have c4 := c3.keep s4
  have r4 := r3.keep s4
  have R4 := R.keep S4
  have R4' := R'.keep S4
  have zc : w.heap.size ≤ w2.heap.size := by omega
  have lX : 0 < n → ba < w.heap.size := R.LX.lt
  have lY : 0 < m → bb < w.heap.size := R.LY.lt
  have lX' : 0 < n' → ba' < w.heap.size := R'.LX.lt
  have lY' : 0 < m' → bb' < w.heap.size := R'.LY.lt
  have hDD : 0 < lv Y m * lv Y' m' := Nat.mul_pos R.den R'.den
  clear k0 k1 k2 p3 p2 r2 c3 r3 s4
  go_wp2_with fail
  refine (fracAdd_any w2.heap.size f f' a b a' b' ba oa n ca bb ob m cb ba' oa' n' ca' bb' ob' m' cb' X Y X' Y' w4 hn m1 m1' R4.LX R4.LY R4'.LX R4'.LY R.lX R.lY R'.lX R'.lY
    (fun h => by have := lX h; omega) (fun h => by have := lY h; omega) (fun h => by have := lX' h; omega) (fun h => by have := lY' h; omega) c4).mono ?_
  rintro e w5 ⟨rfl, v1, v2, g, h, c5, N5, D5, b5, b6, b7, b8, b9, O5⟩
  have hcl := c4.lt
  have r5 := r4.oth O5 (by omega)
  have S5 : w.Since w.heap.size w5 := S4.trans (sinceMono (O5.since (by omega)) zc)
  have T5 := hT.stay hw S5
  clear R4 R4' R R' lX lY lX' lY'
  go_wp2_with fail
  refine (normalise_any w2.heap.size (sumNeg f f' (lv X n * lv Y' m') (lv X' n' * lv Y m)) v1 v2 g h (sumTop f f' (lv X n * lv Y' m') (lv X' n' * lv Y m)) (lv Y m * lv Y' m') (w.heap.size + 1 + 1 + 1) w5 (Nat.lt_of_lt_of_le hw S5.size) T5 c5 N5 D5 b7 b8 b9 (by omega) (by omega) (by omega) (by omega) (by omega) (by omega) hDD).mono ?_
  rintro e w6 ⟨v, rfl, ⟨x1, x2, g6, h6, rfl, N6, D6, y1, y2, y3⟩, s6⟩
  have rB := r5.since s6 (by omega)
  have N6' := N6
  have D6' := D6
  obtain ⟨a1, q1, c1, Y1, rfl, -⟩ := N6
  obtain ⟨a2, q2, c2, Y2, rfl, -⟩ := D6
  have S6 : w.Since w.heap.size w6 := S5.trans (sinceMono s6 (by omega))
  have u0 := rB.c0
  have u1 := rB.c1
  have u2 := rB.c2
  have uf0 := rB.f 0
  have uf1 := rB.f 1
  have uf2 := rB.f 2
  obtain ⟨neg, hneg⟩ : ∃ neg, (sumNeg f f' (lv X n * lv Y' m') (lv X' n' * lv Y m) && sumTop f f' (lv X n * lv Y' m') (lv X' n' * lv Y m) != 0) = neg := ⟨_, rfl⟩
  rw [hneg]
  have hneg := hide hneg
  go_wp2
  have rC := ((rB.set0 (.bool neg)).set1 (.slice a1 q1 c1)).set2 (.slice a2 q2 c2)
  refine bodyPost_ret (results_box3 rfl _ _ _ _ _ _ rfl rC) rfl ?_
  have M : Marked w6 _ (w.heap.size + 1 + 1) := (((Marked.refl w6 _).setCell 0 (.bool neg)).setCell 1 (.slice a1 q1 c1)).setCell 2 (.slice a2 q2 c2)
  exact ⟨_, rfl, ⟨_, _, g6, h6, by rw [hneg.out], N6'.marked M (by omega), D6'.marked M (by omega), by omega, by omega, y3⟩, S6.trans (M.since (by omega))⟩

set_option maxHeartbeats 1600000 in
set_option maxRecDepth 100000 in
/-- impl.RatAdd where both are valid. -/
theorem implRatAdd_ok (f f' : Bool) (a b a' b' : Option Addr) (ba oa n ca bb ob m cb ba' oa' n' ca' bb' ob' m' cb' : Nat) (X Y X' Y' : Nat → Nat) (w : World) (hw : 0 < w.heap.size) (hT : Tab w) (hn : n + n' + m + m' ≤ 1048576)
    (R : RIn w a b ba oa n ca bb ob m cb X Y) (R' : RIn w a' b' ba' oa' n' ca' bb' ob' m' cb' X' Y') (ok : ratOkB f X n Y m = true) (ok' : ratOkB f' X' n' Y' m' = true) :
    Calls Tryd.prog 8 #[.agg #[.bool f, .slice a n ca, .slice b m cb], .agg #[.bool f', .slice a' n' ca', .slice b' m' cb']] w fun e w' => ∃ v, e = .returned v ∧
      RatV w' v (sumNeg f f' (lv X n * lv Y' m') (lv X' n' * lv Y m) && sumTop f f' (lv X n * lv Y' m') (lv X' n' * lv Y m) != 0) (sumTop f f' (lv X n * lv Y' m') (lv X' n' * lv Y m) / Nat.gcd (sumTop f f' (lv X n * lv Y' m') (lv X' n' * lv Y m)) (lv Y m * lv Y' m')) (lv Y m * lv Y' m' / Nat.gcd (sumTop f f' (lv X n * lv Y' m') (lv X' n' * lv Y m)) (lv Y m * lv Y' m')) w.heap.size 1048578 ∧ w.Since w.heap.size w' := by
  have sA : w.Since w.heap.size (((w.alloc (.cells #[.bool f, .slice a n ca, .slice b m cb] 25)).alloc (.cells #[.bool f', .slice a' n' ca', .slice b' m' cb'] 25)).alloc (.cells #[.bool false, .slice none 0 0, .slice none 0 0] 25)) := (((World.Since.refl _ _).alloc (Nat.le_refl _) _).alloc (by simp) _).alloc (by simp; omega) _
  have zA : (((w.alloc (.cells #[.bool f, .slice a n ca, .slice b m cb] 25)).alloc (.cells #[.bool f', .slice a' n' ca', .slice b' m' cb'] 25)).alloc (.cells #[.bool false, .slice none 0 0, .slice none 0 0] 25)).heap.size = w.heap.size + 1 + 1 + 1 := by simp
  have oA : Box3 (((w.alloc (.cells #[.bool f, .slice a n ca, .slice b m cb] 25)).alloc (.cells #[.bool f', .slice a' n' ca', .slice b' m' cb'] 25)).alloc (.cells #[.bool false, .slice none 0 0, .slice none 0 0] 25)) w.heap.size (.bool f) (.slice a n ca) (.slice b m cb) := ((Box3.new w _ _ _ _).keep ((World.Since.refl _ _).alloc (Nat.le_refl _) _)).keep ((World.Since.refl _ _).alloc (Nat.le_refl _) _)
  have pA : Box3 (((w.alloc (.cells #[.bool f, .slice a n ca, .slice b m cb] 25)).alloc (.cells #[.bool f', .slice a' n' ca', .slice b' m' cb'] 25)).alloc (.cells #[.bool false, .slice none 0 0, .slice none 0 0] 25)) (w.heap.size + 1) (.bool f') (.slice a' n' ca') (.slice b' m' cb') := by
    have := (Box3.new (w.alloc (.cells #[.bool f, .slice a n ca, .slice b m cb] 25)) (.bool f') (.slice a' n' ca') (.slice b' m' cb') 25).keep ((World.Since.refl _ _).alloc (Nat.le_refl _) (.cells #[.bool false, .slice none 0 0, .slice none 0 0] 25))
    simpa using this
  have rA : Box3 (((w.alloc (.cells #[.bool f, .slice a n ca, .slice b m cb] 25)).alloc (.cells #[.bool f', .slice a' n' ca', .slice b' m' cb'] 25)).alloc (.cells #[.bool false, .slice none 0 0, .slice none 0 0] 25)) (w.heap.size + 1 + 1) (.bool false) (.slice none 0 0) (.slice none 0 0) := by
    have := Box3.new ((w.alloc (.cells #[.bool f, .slice a n ca, .slice b m cb] 25)).alloc (.cells #[.bool f', .slice a' n' ca', .slice b' m' cb'] 25)) (.bool false) (.slice none 0 0) (.slice none 0 0) 25
    simpa using this
  have m1 := R.m0
  have m1' := R'.m0
  have TA := hT.stay hw sA
  go_enter Tryd.func8, Tryd.ntmps8
  go_wp2_with fail
  generalize (((w.alloc (.cells #[.bool f, .slice a n ca, .slice b m cb] 25)).alloc (.cells #[.bool f', .slice a' n' ca', .slice b' m' cb'] 25)).alloc (.cells #[.bool false, .slice none 0 0, .slice none 0 0] 25)) = w1 at *
  have RA := R.keep sA
  have RA' := R'.keep sA
  have wA := Nat.lt_of_lt_of_le hw sA.size
  have I1 := implRatOk_any f a b ba oa n ca bb ob m cb X Y w1 wA (by omega) (by omega) R.nc R.mc R.ac R.bc RA.LX RA.LY R.lX R.lY TA
  rw [ok] at I1
  refine I1.mono ?_
  rintro e w2 ⟨rfl, s2⟩
  have o2 := oA.keep s2
  have p2 := pA.keep s2
  have r2 := rA.keep s2
  have S2 : w.Since w.heap.size w2 := sA.trans (sinceMono s2 sA.size)
  have z2 := s2.size
  have RB' := RA'.keep s2
  have I2 := implRatOk_any f' a' b' ba' oa' n' ca' bb' ob' m' cb' X' Y' w2 (Nat.lt_of_lt_of_le hw S2.size) (by omega) (by omega) R'.nc R'.mc R'.ac R'.bc RB'.LX RB'.LY R'.lX R'.lY (hT.stay hw S2)
  rw [ok'] at I2
  clear I1 oA pA rA
  have k0 := p2.c0
  have k1 := p2.c1
  have k2 := p2.c2
  go_wp2_with fail
  refine I2.mono ?_
  rintro e w3 ⟨rfl, s3⟩
  have S3 : w.Since w.heap.size w3 := S2.trans (sinceMono s3 S2.size)
  have z3 := s3.size
  have o3 := o2.keep s3
  have p3 := p2.keep s3
  have r3 := r2.keep s3
  clear I2 k0 k1 k2 o2 p2 r2
  have k0 := p3.c0
  have k1 := p3.c1
  have k2 := p3.c2
  have j0 := o3.c0
  have j1 := o3.c1
  have j2 := o3.c2
  have JP := sumOf_any f f' a b a' b' ba oa n ca bb ob m cb ba' oa' n' ca' bb' ob' m' cb' X Y X' Y' w3 (Nat.lt_of_lt_of_le hw S3.size) (hT.stay hw S3) hn (R.keep S3) (R'.keep S3)
  go_wp2_with fail
  refine JP.mono ?_
  rintro e w6 ⟨v, rfl, ⟨x1, x2, g6, h6, rfl, N6, D6, y1, y2, y3⟩, s6⟩
  have rB := r3.keep s6
  have N6' := N6
  have D6' := D6
  obtain ⟨a1, q1, c1, Y1, rfl, -⟩ := N6
  obtain ⟨a2, q2, c2, Y2, rfl, -⟩ := D6
  have S6 : w.Since w.heap.size w6 := S3.trans (sinceMono s6 S3.size)
  have u0 := rB.c0
  have u1 := rB.c1
  have u2 := rB.c2
  have uf0 := rB.f 0
  have uf1 := rB.f 1
  have uf2 := rB.f 2
  obtain ⟨neg, hneg⟩ : ∃ neg, (sumNeg f f' (lv X n * lv Y' m') (lv X' n' * lv Y m) && sumTop f f' (lv X n * lv Y' m') (lv X' n' * lv Y m) != 0) = neg := ⟨_, rfl⟩
  rw [hneg]
  have hneg := hide hneg
  clear JP
  go_wp2
  have rC := ((rB.set0 (.bool neg)).set1 (.slice a1 q1 c1)).set2 (.slice a2 q2 c2)
  refine bodyPost_ret (results_box3 rfl _ _ _ _ _ _ rfl rC) rfl ?_
  have M : Marked w6 _ (w.heap.size + 1 + 1) := (((Marked.refl w6 _).setCell 0 (.bool neg)).setCell 1 (.slice a1 q1 c1)).setCell 2 (.slice a2 q2 c2)
  exact ⟨_, rfl, ⟨_, _, g6, h6, by rw [hneg.out], N6'.marked M (by omega), D6'.marked M (by omega), by omega, by omega, y3⟩, S6.trans (M.since (by omega))⟩

end Go.Proofs.YtklkohdcilnchaaDoor

namespace Go.Proofs.YtklkohdcilnchaaDoor
open Go.RowKit

set_option maxHeartbeats 1600000 in
set_option maxRecDepth 100000 in
/-- impl.RatAdd where one is not valid. -/
theorem implRatAdd_no (f f' : Bool) (a b a' b' : Option Addr) (ba oa n ca bb ob m cb ba' oa' n' ca' bb' ob' m' cb' : Nat) (X Y X' Y' : Nat → Nat) (w : World) (hw : 0 < w.heap.size) (hT : Tab w) (hn : n + n' ≤ 1048576) (hm : m + m' ≤ 1048576)
    (R : RRaw w a b ba oa n ca bb ob m cb X Y) (R' : RRaw w a' b' ba' oa' n' ca' bb' ob' m' cb' X' Y') (ok : ¬ (ratOkB f X n Y m = true ∧ ratOkB f' X' n' Y' m' = true)) :
    Calls Tryd.prog 8 #[.agg #[.bool f, .slice a n ca, .slice b m cb], .agg #[.bool f', .slice a' n' ca', .slice b' m' cb']] w fun e w' => ∃ v, e = .returned v ∧ RatV w' v false 0 1 w.heap.size 4194304 ∧ w.Since w.heap.size w' := by
  have sA : w.Since w.heap.size (((w.alloc (.cells #[.bool f, .slice a n ca, .slice b m cb] 25)).alloc (.cells #[.bool f', .slice a' n' ca', .slice b' m' cb'] 25)).alloc (.cells #[.bool false, .slice none 0 0, .slice none 0 0] 25)) := (((World.Since.refl _ _).alloc (Nat.le_refl _) _).alloc (by simp) _).alloc (by simp; omega) _
  have zA : (((w.alloc (.cells #[.bool f, .slice a n ca, .slice b m cb] 25)).alloc (.cells #[.bool f', .slice a' n' ca', .slice b' m' cb'] 25)).alloc (.cells #[.bool false, .slice none 0 0, .slice none 0 0] 25)).heap.size = w.heap.size + 1 + 1 + 1 := by simp
  have pA : Box3 (((w.alloc (.cells #[.bool f, .slice a n ca, .slice b m cb] 25)).alloc (.cells #[.bool f', .slice a' n' ca', .slice b' m' cb'] 25)).alloc (.cells #[.bool false, .slice none 0 0, .slice none 0 0] 25)) (w.heap.size + 1) (.bool f') (.slice a' n' ca') (.slice b' m' cb') := by
    have := (Box3.new (w.alloc (.cells #[.bool f, .slice a n ca, .slice b m cb] 25)) (.bool f') (.slice a' n' ca') (.slice b' m' cb') 25).keep ((World.Since.refl _ _).alloc (Nat.le_refl _) (.cells #[.bool false, .slice none 0 0, .slice none 0 0] 25))
    simpa using this
  have rA : Box3 (((w.alloc (.cells #[.bool f, .slice a n ca, .slice b m cb] 25)).alloc (.cells #[.bool f', .slice a' n' ca', .slice b' m' cb'] 25)).alloc (.cells #[.bool false, .slice none 0 0, .slice none 0 0] 25)) (w.heap.size + 1 + 1) (.bool false) (.slice none 0 0) (.slice none 0 0) := by
    have := Box3.new ((w.alloc (.cells #[.bool f, .slice a n ca, .slice b m cb] 25)).alloc (.cells #[.bool f', .slice a' n' ca', .slice b' m' cb'] 25)) (.bool false) (.slice none 0 0) (.slice none 0 0) 25
    simpa using this
  have TA := hT.stay hw sA
  go_enter Tryd.func8, Tryd.ntmps8
  go_wp2_with fail
  generalize (((w.alloc (.cells #[.bool f, .slice a n ca, .slice b m cb] 25)).alloc (.cells #[.bool f', .slice a' n' ca', .slice b' m' cb'] 25)).alloc (.cells #[.bool false, .slice none 0 0, .slice none 0 0] 25)) = w1 at *
  have RA := R.keep sA
  have RA' := R'.keep sA
  have wA := Nat.lt_of_lt_of_le hw sA.size
  have I1 := implRatOk_any f a b ba oa n ca bb ob m cb X Y w1 wA (by omega) (by omega) R.nc R.mc R.ac R.bc RA.LX RA.LY R.lX R.lY TA
  by_cases h1 : ratOkB f X n Y m = true
  · have h2 : ratOkB f' X' n' Y' m' = false := by
      cases e : ratOkB f' X' n' Y' m'
      · rfl
      · exact absurd ⟨h1, e⟩ ok
    rw [h1] at I1
    clear h1 ok
    refine I1.mono ?_
    rintro e w2 ⟨rfl, s2⟩
    have p2 := pA.keep s2
    have r2 := rA.keep s2
    have S2 : w.Since w.heap.size w2 := sA.trans (sinceMono s2 sA.size)
    have z2 := s2.size
    have RB' := RA'.keep s2
    have I2 := implRatOk_any f' a' b' ba' oa' n' ca' bb' ob' m' cb' X' Y' w2 (Nat.lt_of_lt_of_le hw S2.size) (by omega) (by omega) R'.nc R'.mc R'.ac R'.bc RB'.LX RB'.LY R'.lX R'.lY (hT.stay hw S2)
    rw [h2] at I2
    clear I1 pA rA h2
    have k0 := p2.c0
    have k1 := p2.c1
    have k2 := p2.c2
    go_wp2_with fail
    refine I2.mono ?_
    rintro e w3 ⟨rfl, s3⟩
    have S3 : w.Since w.heap.size w3 := S2.trans (sinceMono s3 S2.size)
    have z3 := s3.size
    have r3 := r2.keep s3
    clear I2 k0 k1 k2 p2 r2
    go_wp2_with fail
    refine (zeroRat_any w3).mono ?_
    rintro e w6 ⟨v, rfl, ⟨x1, x2, g6, h6, rfl, N6, D6, y1, y2, y3⟩, s6⟩
    have rB := r3.keep s6
    have N6' := N6
    have D6' := D6
    obtain ⟨a1, q1, c1, Y1, rfl, -⟩ := N6
    obtain ⟨a2, q2, c2, Y2, rfl, -⟩ := D6
    have S6 : w.Since w.heap.size w6 := S3.trans (sinceMono s6 S3.size)
    have u0 := rB.c0
    have u1 := rB.c1
    have u2 := rB.c2
    have uf0 := rB.f 0
    have uf1 := rB.f 1
    have uf2 := rB.f 2
    go_wp2
    have rC := ((rB.set0 (.bool false)).set1 (.slice a1 q1 c1)).set2 (.slice a2 q2 c2)
    refine bodyPost_ret (results_box3 rfl _ _ _ _ _ _ rfl rC) rfl ?_
    have M : Marked w6 _ (w.heap.size + 1 + 1) := (((Marked.refl w6 _).setCell 0 (.bool false)).setCell 1 (.slice a1 q1 c1)).setCell 2 (.slice a2 q2 c2)
    exact ⟨_, rfl, ⟨_, _, g6, h6, rfl, N6'.marked M (by omega), D6'.marked M (by omega), by omega, by omega, y3⟩, S6.trans (M.since (by omega))⟩
  · have h1' : ratOkB f X n Y m = false := by simpa using h1
    rw [h1'] at I1
    clear h1 h1' ok
    refine I1.mono ?_
    rintro e w3 ⟨rfl, s3⟩
    have S3 : w.Since w.heap.size w3 := sA.trans (sinceMono s3 sA.size)
    have z3 := s3.size
    have z2 : w1.heap.size ≤ w1.heap.size := Nat.le_refl _
    have r3 := rA.keep s3
    clear I1 pA rA
    go_wp2_with fail
    refine (zeroRat_any w3).mono ?_
    rintro e w6 ⟨v, rfl, ⟨x1, x2, g6, h6, rfl, N6, D6, y1, y2, y3⟩, s6⟩
    have rB := r3.keep s6
    have N6' := N6
    have D6' := D6
    obtain ⟨a1, q1, c1, Y1, rfl, -⟩ := N6
    obtain ⟨a2, q2, c2, Y2, rfl, -⟩ := D6
    have S6 : w.Since w.heap.size w6 := S3.trans (sinceMono s6 S3.size)
    have u0 := rB.c0
    have u1 := rB.c1
    have u2 := rB.c2
    have uf0 := rB.f 0
    have uf1 := rB.f 1
    have uf2 := rB.f 2
    go_wp2
    have rC := ((rB.set0 (.bool false)).set1 (.slice a1 q1 c1)).set2 (.slice a2 q2 c2)
    refine bodyPost_ret (results_box3 rfl _ _ _ _ _ _ rfl rC) rfl ?_
    have M : Marked w6 _ (w.heap.size + 1 + 1) := (((Marked.refl w6 _).setCell 0 (.bool false)).setCell 1 (.slice a1 q1 c1)).setCell 2 (.slice a2 q2 c2)
    exact ⟨_, rfl, ⟨_, _, g6, h6, rfl, N6'.marked M (by omega), D6'.marked M (by omega), by omega, by omega, y3⟩, S6.trans (M.since (by omega))⟩

end Go.Proofs.YtklkohdcilnchaaDoor
