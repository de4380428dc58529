import Derived.Test.YtklkohdcilnchabDoorG1P5
import Derived.Laws.ResultCell
import Derived.Test.YtklkohdcilnchabDoorG1P1
namespace Go.Proofs.YtklkohdcilnchabDoor
open Go.RowKit

/-- The limbs of a machine number. -/
def nl (v j : Nat) : Nat := v / 4294967296 ^ j % 4294967296

theorem lv_nl (v k : Nat) : lv (nl v) k = v % 4294967296 ^ k := by
  induction k with
  | zero => simp [lv, Nat.mod_one]
  | succ k ih =>
    have h : lv (nl v) (k + 1) = lv (nl v) k + nl v k * 2 ^ (32 * k) := rfl
    rw [h, ih, Nat.pow_succ, Nat.mod_mul, show (2 : Nat) ^ (32 * k) = 4294967296 ^ k by rw [Nat.pow_mul], Nat.mul_comm (4294967296 ^ k)]
    rfl

theorem own_limbs2 {w : World} {base : Nat} {v : Value} {m : Nat} {X : Nat → Nat} (h : w.ownsRow base 49 1 v m (ll X m)) (hs : v ≠ .slice none 0 0) :
    ∃ a g cap, v = .slice a m cap ∧ m ≤ cap ∧ (a = none → cap = 0) ∧ base ≤ g ∧ g < w.heap.size ∧ Limbs w a g 0 m X ∧ (0 < m → ∀ o, w.frozen? ⟨g, o, none⟩ = false) := by
  have hc := @World.ownsRow.cells _ _ _ _ _ _ _ h
  rcases h.2 with ⟨rfl, rfl⟩ | ⟨g, cap, cur, rfl, hb, hg, hm, _⟩
  · exact absurd rfl hs
  · refine ⟨_, g, cap, rfl, hm, fun h => (by cases h), hb, (Array.getElem?_eq_some_iff.1 hg).1, fun j hj => ⟨rfl, ?_⟩, fun _ o => by simp [World.frozen?, hg]⟩
    have := hc (g := g) rfl j _ (ll_get X m j hj)
    rw [Addr.add_lit] at this; exact this

set_option maxHeartbeats 1600000 in
set_option maxRecDepth 100000 in
theorem l1LimbsOf_any (v : Nat) (w : World) (hv : v < 18446744073709551616) :
    Calls Tryd.prog 108 #[.int .u64 v] w fun e w' => ∃ x g, e = .returned x ∧ NatAt w' x g v 4194304 ∧ w.heap.size ≤ g ∧ w.Since w.heap.size w' ∧ g < w'.heap.size := by
  obtain ⟨i0, hi, hz0, hz1, hz2⟩ := info_parts Tryd.info49
  go_enter Tryd.func108, Tryd.ntmps108
  go_wp2
  go_loopw [0, 3] (fun p o wr => ∃ k q : Nat, k ≤ 2 ∧ p = .int .u64 q ∧ q < 18446744073709551616 ∧ Hid (q = v / 4294967296 ^ k) ∧ Hid (0 < k → 0 < v / 4294967296 ^ (k - 1)) ∧ wr.ownsRow w.heap.size 49 1 o k (ll (nl v) k) ∧ w.Since w.heap.size wr ∧ Hid (o ≠ .slice none 0 0)) (fun p _ _ => (intOf p).toNat)
  case atStart => exact ⟨0, v, by omega, rfl, hv, hide (by simp), hide (fun h => absurd h (by omega)), World.ownsRow_made w #[] 0 (Nat.le_refl _) (by decide) rfl, (World.Since.refl _ _).alloc (Nat.le_refl _) _, hide (by simp)⟩
  case round =>
    obtain ⟨k, q, hk, rfl, hq, HQ, HP, hown, hs, hsz⟩ := hrel
    by_cases h0 : q = 0
    · subst h0
      obtain ⟨a', g, cap', rfl, hmc, hac, hg, hgl, hL, hf⟩ := own_limbs2 hown hsz.out
      go_wp2
      go_ret
      have hlt : v < 4294967296 ^ k := by
        have := HQ.out
        have h2 : 0 < 4294967296 ^ k := Nat.pow_pos (by omega)
        rcases Nat.lt_or_ge v (4294967296 ^ k) with h | h
        · exact h
        · have := Nat.div_pos h h2; omega
      refine ⟨_, g, rfl, ⟨a', k, cap', nl v, rfl, hmc, by omega, hac, hL, hf, fun j _ => Nat.mod_lt _ (by omega), fun h => ?_, (lv_nl v k).trans (Nat.mod_eq_of_lt hlt)⟩, hg, hs, hgl⟩
      have h1 := HP.out h
      obtain ⟨j, rfl⟩ : ∃ j, k = j + 1 := ⟨k - 1, by omega⟩
      have h2 : v / 4294967296 ^ j < 4294967296 := by rw [Nat.div_lt_iff_lt_mul (Nat.pow_pos (by omega))]; rw [Nat.pow_succ] at hlt; omega
      simp only [Nat.add_sub_cancel] at h1 ⊢
      unfold nl
      rw [Nat.mod_eq_of_lt h2]
      omega
    · have hk2 : k < 2 := by
        rcases Nat.lt_or_ge k 2 with h | h
        · exact h
        · have e : k = 2 := by omega
          subst e
          have := HQ.out
          rw [Nat.div_eq_of_lt (show v < 4294967296 ^ 2 by omega)] at this
          omega
      have hne : 0 < q := by omega
      have hne2 : ((q : Int) == 0) = false := by simp; omega
      obtain ⟨y, hy⟩ : ∃ y, y = nl v k := ⟨_, rfl⟩
      have hyq : (q : Int) % 4294967296 = (y : Int) := by rw [hy]; unfold nl; rw [← HQ.out]; omega
      have hyl : y < 4294967296 := by rw [hy]; exact Nat.mod_lt _ (by omega)
      have HY := hide hy
      clear hy h0
      go_wp2_with (at_builtin; refine wpList_append_own _ rfl _ _ 22 rfl w.heap.size 49 i0 (.int .u32 0) 1 4 Tryd.underlying22 hi hz0 hz1 hz2 rfl (by decide) _ _ _ rfl (hown.alloc _) ⟨wr.heap.size, 0, none⟩ 1 1 [.int .u32 _] rfl rfl (new_cell _ _ _) (one_one _ rfl) (by unfold maxLen; omega) (by omega) (by have := hs.size; simp; omega) ?_)
      intro v' w1 hown' hgrow hnn
      have hs1 : w.Since w.heap.size w1 := (hs.alloc hs.size _).grown hgrow (by have := hs.size; simp; omega) (fun k hk => (hown.lt k hk).1)
      have HN := hide hnn
      rw [HY.out, ← ll_succ] at hown'
      clear hgrow hown hs hnn hsz
      go_wp2
      go_roundw
      case rel => exact ⟨k + 1, q / 4294967296, by omega, by go_num, by omega, hide (by rw [HQ.out, Nat.div_div_eq_div_mul, Nat.pow_succ]), hide (fun _ => by rw [Nat.add_sub_cancel, ← HQ.out]; exact hne), hown', hs1, HN⟩
      case measure => simp [intOf]; omega

set_option maxHeartbeats 1600000 in
set_option maxRecDepth 100000 in
theorem l1MakeSmall_any (neg : Bool) (n d : Nat) (w : World) (hn : n < 18446744073709551616) (hd : d < 18446744073709551616) (hd0 : 0 < d) :
    Calls Tryd.prog 83 #[.bool neg, .int .u64 n, .int .u64 d] w fun e w' => ∃ v, e = .returned v ∧ RatV w' v (neg && n != 0) (n / Nat.gcd n d) (d / Nat.gcd n d) w.heap.size 4194304 ∧ w.Since w.heap.size w' := by
  by_cases h0 : n = 0
  · subst h0
    have e1 : d / Nat.gcd 0 d = 1 := by rw [Nat.gcd_zero_left]; exact Nat.div_self hd0
    rw [show (neg && (0 : Nat) != 0) = false by simp, Nat.zero_div, e1]
    clear e1
    have sA : w.Since w.heap.size (w.alloc (.cells #[.bool false, .slice none 0 0, .slice none 0 0] 31)) := (World.Since.refl _ _).alloc (Nat.le_refl _) _
    have rA := Box3.new w (.bool false) (.slice none 0 0) (.slice none 0 0) 31
    go_enter Tryd.func83, Tryd.ntmps83
    go_wp2_with fail
    generalize (w.alloc (.cells #[.bool false, .slice none 0 0, .slice none 0 0] 31)) = w1 at *
    refine (l1Zero_any w1).mono ?_
    rintro e w2 ⟨v, rfl, ⟨v1, v2, g, h, rfl, N1, N2, b1, b2, ne⟩, s2⟩
    have rB := rA.keep s2
    have hz := rA.lt
    have N1' := N1
    have N2' := N2
    obtain ⟨a1, m1, c1, Y1, rfl, -⟩ := N1
    obtain ⟨a2, m2, c2, Y2, rfl, -⟩ := N2
    have u0 := rB.c0
    have u1 := rB.c1
    have u2 := rB.c2
    have uf0 := rB.f 0
    have uf1 := rB.f 1
    have uf2 := rB.f 2
    go_wp2
    have r4 := ((rB.set0 (.bool false)).set1 (.slice a1 m1 c1)).set2 (.slice a2 m2 c2)
    refine bodyPost_ret (results_box3 rfl _ _ _ _ _ _ rfl r4) rfl ?_
    have M : Marked w2 _ w.heap.size := (((Marked.refl w2 _).setCell 0 (.bool false)).setCell 1 (.slice a1 m1 c1)).setCell 2 (.slice a2 m2 c2)
    exact ⟨_, rfl, ⟨_, _, g, h, rfl, N1'.marked M (by omega), N2'.marked M (by omega), by omega, by omega, ne⟩, (sA.trans (sinceMono s2 sA.size)).trans (M.since (Nat.le_refl _))⟩
  · have hne : ((n : Int) == 0) = false := by simp; omega
    obtain ⟨G, hG⟩ : ∃ G, G = Nat.gcd n d := ⟨_, rfl⟩
    have hG0 : 0 < G := by rw [hG]; exact Nat.gcd_pos_of_pos_right n hd0
    have hGl : G < 18446744073709551616 := by rw [hG]; exact Nat.lt_of_le_of_lt (Nat.gcd_le_right n hd0) hd
    have hb : (neg && n != 0) = neg := by simp [h0]
    rw [← hG, hb]
    have sA : w.Since w.heap.size (w.alloc (.cells #[.bool false, .slice none 0 0, .slice none 0 0] 31)) := (World.Since.refl _ _).alloc (Nat.le_refl _) _
    have rA := Box3.new w (.bool false) (.slice none 0 0) (.slice none 0 0) 31
    have JG := l1GcdSmall_any n d (w.alloc (.cells #[.bool false, .slice none 0 0, .slice none 0 0] 31)) hn hd
    rw [← hG] at JG
    obtain ⟨x, hx⟩ : ∃ x, x = n / G := ⟨_, rfl⟩
    obtain ⟨y, hy⟩ : ∃ y, y = d / G := ⟨_, rfl⟩
    have hxl : x < 18446744073709551616 := by rw [hx]; exact Nat.lt_of_le_of_lt (Nat.div_le_self _ _) hn
    have hyl : y < 18446744073709551616 := by rw [hy]; exact Nat.lt_of_le_of_lt (Nat.div_le_self _ _) hd
    have hxd : IntKind.u64.wrap ((n : Int) / (G : Int)) = (x : Int) := by rw [← Int.natCast_ediv, ← hx]; exact wrap_u64_id x hxl
    have hyd : IntKind.u64.wrap ((d : Int) / (G : Int)) = (y : Int) := by rw [← Int.natCast_ediv, ← hy]; exact wrap_u64_id y hyl
    have hGz : ((G : Int) == 0) = false := by simp; omega
    have hGz2 : ¬ (G : Int) = 0 := by omega
    rw [← hx, ← hy]
    clear hx hy hG hn hd
    go_enter Tryd.func83, Tryd.ntmps83
    go_wp2_with fail
    refine JG.mono ?_
    rintro e w1 ⟨rfl, rfl⟩
    clear JG
    generalize (w.alloc (.cells #[.bool false, .slice none 0 0, .slice none 0 0] 31)) = w1 at *
    have J1 := l1LimbsOf_any x w1.drew hxl
    go_wp2
    go_region_held (fun _ => True) (trivial)
      (first
        | (go_at_call 108
           first
            | (with_reducible refine J1.mono ?_
               rintro e w2 ⟨v1, g, rfl, N1, b1, s2, z2⟩
               have J2 := l1LimbsOf_any y w2 hyl
               have rC := rA.drew.keep s2
               have N1' := N1
               obtain ⟨a1, m1, c1, Y1, rfl, -⟩ := N1)
            | (with_reducible refine J2.mono ?_
               rintro e w3 ⟨v2, h, rfl, N2, b2, s3, z3⟩
               have N2' := N2
               obtain ⟨a2, m2, c2, Y2, rfl, -⟩ := N2
               have rB := rC.keep s3
               have u0 := rB.c0
               have u1 := rB.c1
               have u2 := rB.c2
               have uf0 := rB.f 0
               have uf1 := rB.f 1
               have uf2 := rB.f 2)))
    all_goals go_wp2
    all_goals
      have hz : w.heap.size < w1.heap.size := rA.lt
      have zd : w1.drew.heap.size = w1.heap.size := rfl
      have r4 := ((rB.set0 (.bool neg)).set1 (.slice a1 m1 c1)).set2 (.slice a2 m2 c2)
      refine bodyPost_ret (results_box3 rfl _ _ _ _ _ _ rfl r4) rfl ?_
      have M : Marked w3 _ w.heap.size := (((Marked.refl w3 _).setCell 0 (.bool neg)).setCell 1 (.slice a1 m1 c1)).setCell 2 (.slice a2 m2 c2)
      have S1 : w.Since w.heap.size w1.drew := since_drew sA
      exact ⟨_, rfl, ⟨_, _, g, h, rfl, (N1'.keep s3).marked M (by omega), N2'.marked M (by omega), by omega, by omega, by omega⟩, ((S1.trans (sinceMono s2 S1.size)).trans (sinceMono s3 (Nat.le_trans S1.size s2.size))).trans (M.since (Nat.le_refl _))⟩

set_option maxHeartbeats 1600000 in
set_option maxRecDepth 100000 in
/-- l1Make of two trimmed lists of bits, the second not zero. -/
theorem l1Make_any (neg : Bool) (v1 v2 : Value) (n m : Nat) (A B : Nat → Bool) (w : World) (hn : n ≤ 67108864) (hm : m ≤ 67108864) (hA : Tr w v1 n A) (hB : Tr w v2 m B) (hD : 0 < bv B m) :
    Calls Tryd.prog 64 #[.bool neg, v1, v2] w fun e w' => ∃ v, e = .returned v ∧ RatV w' v (neg && bv A n != 0) (bv A n / Nat.gcd (bv A n) (bv B m)) (bv B m / Nat.gcd (bv A n) (bv B m)) w.heap.size 4194304 ∧ w.Since w.heap.size w' := by
  have hA' := hA
  have hB' := hB
  obtain ⟨a, ba, oa, ca, rfl, hca, LA, tA⟩ := hA
  obtain ⟨b, bb, ob, cb, rfl, hcb, LB, tB⟩ := hB
  have sA : w.Since w.heap.size (w.alloc (.cells #[.bool false, .slice none 0 0, .slice none 0 0] 31)) := (World.Since.refl _ _).alloc (Nat.le_refl _) _
  have rA := Box3.new w (.bool false) (.slice none 0 0) (.slice none 0 0) 31
  by_cases h0 : n = 0
  · subst h0
    have e0 : bv A 0 = 0 := rfl
    rw [e0]
    have e1 : bv B m / Nat.gcd 0 (bv B m) = 1 := by rw [Nat.gcd_zero_left]; exact Nat.div_self hD
    rw [show (neg && (0 : Nat) != 0) = false by simp, Nat.zero_div, e1]
    clear e1 e0 tA tB hD hA' hB'
    go_enter Tryd.func64, Tryd.ntmps64
    go_wp2_with fail
    generalize (w.alloc (.cells #[.bool false, .slice none 0 0, .slice none 0 0] 31)) = w1 at *
    refine (l1Zero_any w1).mono ?_
    rintro e w2 ⟨v, rfl, ⟨v1, v2, g, h, rfl, N1, N2, b1, b2, ne⟩, s2⟩
    have rB := rA.keep s2
    have hz := rA.lt
    have N1' := N1
    have N2' := N2
    obtain ⟨a1, m1, c1, Y1, rfl, -⟩ := N1
    obtain ⟨a2, m2, c2, Y2, rfl, -⟩ := N2
    have u0 := rB.c0
    have u1 := rB.c1
    have u2 := rB.c2
    have uf0 := rB.f 0
    have uf1 := rB.f 1
    have uf2 := rB.f 2
    go_wp2
    have r4 := ((rB.set0 (.bool false)).set1 (.slice a1 m1 c1)).set2 (.slice a2 m2 c2)
    refine bodyPost_ret (results_box3 rfl _ _ _ _ _ _ rfl r4) rfl ?_
    have M : Marked w2 _ w.heap.size := (((Marked.refl w2 _).setCell 0 (.bool false)).setCell 1 (.slice a1 m1 c1)).setCell 2 (.slice a2 m2 c2)
    exact ⟨_, rfl, ⟨_, _, g, h, rfl, N1'.marked M (by omega), N2'.marked M (by omega), by omega, by omega, ne⟩, (sA.trans (sinceMono s2 sA.size)).trans (M.since (Nat.le_refl _))⟩
  · have hne : ((n : Int) == 0) = false := by simp; omega
    have hpos : 0 < bv A n := bv_pos (by omega) (tA (by omega))
    have hb : (neg && bv A n != 0) = neg := by
      have h9 : bv A n ≠ 0 := by omega
      simp [h9]
    rw [hb]
    obtain ⟨G, hG⟩ : ∃ G, G = Nat.gcd (bv A n) (bv B m) := ⟨_, rfl⟩
    have hG0 : 0 < G := by rw [hG]; exact Nat.gcd_pos_of_pos_right _ hD
    have hGl : G ≤ bv B m := by rw [hG]; exact Nat.gcd_le_right _ hD
    have hGA : G ≤ bv A n := by rw [hG]; exact Nat.gcd_le_left _ hpos
    rw [← hG]
    clear hb
    go_enter Tryd.func64, Tryd.ntmps64
    go_wp2_with fail
    generalize (w.alloc (.cells #[.bool false, .slice none 0 0, .slice none 0 0] 31)) = w1 at *
    refine (l1GcdBits_any _ _ n m A B w1 hn hm (hA'.keep sA) (hB'.keep sA)).mono ?_
    rintro e w2 ⟨v3, t, O, rfl, ht, T3, e3, s2⟩
    rw [← hG] at e3
    obtain ⟨a3, b3, o3, c3, rfl, hc3, L3, p3⟩ := T3
    have S2 : w.Since w.heap.size w2 := sA.trans (sinceMono s2 sA.size)
    have htm : t ≤ m := bv_len p3 (by rw [e3]; exact hGl)
    clear hG hA' hB'
    go_wp2_with fail
    refine (l1DivBits_any a a3 ba oa n ca b3 o3 t c3 A O w2 (by omega) (by omega) (LA.keep S2) L3 p3 (by rw [e3]; exact hG0)).mono ?_
    rintro e w3 ⟨gq, tq, cq, Q, gr, tr, cr, R, rfl, q1, q2, q3, q4, LQ, -, q5, q6, q7, q8, eQ, -, s3⟩
    have S3 : w.Since w.heap.size w3 := S2.trans (sinceMono s3 S2.size)
    go_wp2_with fail
    refine (l1DivBits_any b a3 bb ob m cb b3 o3 t c3 B O w3 (by omega) (by omega) (LB.keep S3) (L3.keep s3) p3 (by rw [e3]; exact hG0)).mono ?_
    rintro e w4 ⟨gp, tp, cp, Q', gs, ts, cs, R', rfl, p1, p2, p3', p4, LP, -, p5, p6, p7, p8, eP, -, s4⟩
    have S4 : w.Since w.heap.size w4 := S3.trans (sinceMono s4 S3.size)
    have rB := ((rA.keep s2).keep s3).keep s4
    rw [e3] at eQ eP
    have EE := hide (And.intro (eQ.trans rfl) (And.intro eP (And.intro (Nat.div_pos hGA hG0) (Nat.div_pos hGl hG0))))
    clear eQ eP e3 q7 q8 p7 p8 p3 hpos tA tB hD hG0 hGl hGA
    go_wp2_with fail
    refine (l1Limbs_any _ gq 0 tq cq Q w4 (by omega) q1 (LQ.keep s4)).mono ?_
    rintro e w5 ⟨a5, g5, m5, c5, Y5, rfl, x1, x2, L5, x3, F5, l5, y5, e5, s5⟩
    go_wp2_with fail
    refine (l1Limbs_any _ gp 0 tp cp Q' w5 (by omega) p1 (LP.keep s5)).mono ?_
    rintro e w6 ⟨a6, g6, m6, c6, Y6, rfl, z1, z2, L6, z3, F6, l6, y6, e6, s6⟩
    have rC := (rB.keep s5).keep s6
    have u0 := rC.c0
    have u1 := rC.c1
    have u2 := rC.c2
    have uf0 := rC.f 0
    have uf1 := rC.f 1
    have uf2 := rC.f 2
    have hz := rB.lt
    have b5 := s5.size
    have b6 := s6.size
    have EF := hide (And.intro l5 (And.intro y5 (And.intro e5 (And.intro l6 (And.intro y6 e6)))))
    clear l5 y5 e5 l6 y6 e6
    go_wp2
    obtain ⟨l5, y5, e5, l6, y6, e6⟩ := EF.out
    obtain ⟨f1, f2, f3, f4⟩ := EE.out
    have k5 : 0 < m5 := by
      rcases Nat.eq_zero_or_pos m5 with h | h
      · subst h; rw [show lv Y5 0 = 0 from rfl] at e5; omega
      · exact h
    have k6 : 0 < m6 := by
      rcases Nat.eq_zero_or_pos m6 with h | h
      · subst h; rw [show lv Y6 0 = 0 from rfl] at e6; omega
      · exact h
    have N5 : NatAt w5 (.slice a5 m5 c5) g5 (bv A n / G) 4194304 := ⟨a5, m5, c5, Y5, rfl, x1, by omega, fun h => (by rw [(L5 0 k5).1] at h; cases h), L5, F5, fun j _ => l5 j, y5, e5.trans f1⟩
    have N6 : NatAt w6 (.slice a6 m6 c6) g6 (bv B m / G) 4194304 := ⟨a6, m6, c6, Y6, rfl, z1, by omega, fun h => (by rw [(L6 0 k6).1] at h; cases h), L6, F6, fun j _ => l6 j, y6, e6.trans f2⟩
    have g5l := L5.lt k5
    have x3' := x3 k5
    have z3' := z3 k6
    have r4 := ((rC.set0 (.bool neg)).set1 (.slice a5 m5 c5)).set2 (.slice a6 m6 c6)
    refine bodyPost_ret (results_box3 rfl _ _ _ _ _ _ rfl r4) rfl ?_
    have M : Marked w6 _ w.heap.size := (((Marked.refl w6 _).setCell 0 (.bool neg)).setCell 1 (.slice a5 m5 c5)).setCell 2 (.slice a6 m6 c6)
    exact ⟨_, rfl, ⟨_, _, g5, g6, rfl, (N5.keep s6).marked M (by omega), N6.marked M (by omega), by have := S4.size; omega, by have := S4.size; omega, by omega⟩, ((S4.trans (sinceMono s5 S4.size)).trans (sinceMono s6 (Nat.le_trans S4.size b5))).trans (M.since (Nat.le_refl _))⟩

end Go.Proofs.YtklkohdcilnchabDoor

namespace Go.Proofs.YtklkohdcilnchabDoor
open Go.RowKit

/-- A Rat, as an argument, valid or not. -/
structure RRaw (w : World) (a b : Option Addr) (ba oa n ca bb ob m cb : Nat) (X Y : Nat → Nat) : Prop where
  nc : n ≤ ca
  mc : m ≤ cb
  ac : a = none → ca = 0
  bc : b = none → cb = 0
  LX : Limbs w a ba oa n X
  LY : Limbs w b bb ob m Y
  lX : ∀ j, j < n → X j < 4294967296
  lY : ∀ j, j < m → Y j < 4294967296

theorem RRaw.keep {w w' : World} {a b : Option Addr} {ba oa n ca bb ob m cb : Nat} {X Y : Nat → Nat} (h : RRaw w a b ba oa n ca bb ob m cb X Y) (s : w.Since w.heap.size w') : RRaw w' a b ba oa n ca bb ob m cb X Y :=
  ⟨h.nc, h.mc, h.ac, h.bc, h.LX.keep s, h.LY.keep s, h.lX, h.lY⟩

theorem RRaw.ok {w : World} {f : Bool} {a b : Option Addr} {ba oa n ca bb ob m cb : Nat} {X Y : Nat → Nat} (h : RRaw w a b ba oa n ca bb ob m cb X Y) (ok : ratOkB f X n Y m = true) : RIn w a b ba oa n ca bb ob m cb X Y := by
  unfold ratOkB at ok
  simp only [Bool.and_eq_true, bne_iff_ne] at ok
  exact ⟨h.nc, h.mc, h.ac, h.bc, h.LX, h.LY, h.lX, h.lY, plainB_iff.1 ok.1.1.1.1, plainB_iff.1 ok.1.1.1.2, by have := ok.1.1.2; omega⟩

set_option maxHeartbeats 1600000 in
set_option maxRecDepth 100000 in
/-- impl.RatMul where one is not valid. -/
theorem implRatMul_no (f f' : Bool) (a b a' b' : Option Addr) (ba oa n ca bb ob m cb ba' oa' n' ca' bb' ob' m' cb' : Nat) (X Y X' Y' : Nat → Nat) (w : World) (hw : 1 < w.heap.size) (hT : Tab w) (hn : n + n' ≤ 1048576) (hm : m + m' ≤ 1048576)
    (R : RRaw w a b ba oa n ca bb ob m cb X Y) (R' : RRaw w a' b' ba' oa' n' ca' bb' ob' m' cb' X' Y') (ok : ¬ (ratOkB f X n Y m = true ∧ ratOkB f' X' n' Y' m' = true)) :
    Calls Tryd.prog 27 #[.agg #[.bool f, .slice a n ca, .slice b m cb], .agg #[.bool f', .slice a' n' ca', .slice b' m' cb']] w fun e w' => ∃ v, e = .returned v ∧ RatV w' v false 0 1 w.heap.size 4194304 ∧ w.Since w.heap.size w' := by
  have sA : w.Since w.heap.size (((w.alloc (.cells #[.bool f, .slice a n ca, .slice b m cb] 31)).alloc (.cells #[.bool f', .slice a' n' ca', .slice b' m' cb'] 31)).alloc (.cells #[.bool false, .slice none 0 0, .slice none 0 0] 31)) := (((World.Since.refl _ _).alloc (Nat.le_refl _) _).alloc (by simp) _).alloc (by simp; omega) _
  have zA : (((w.alloc (.cells #[.bool f, .slice a n ca, .slice b m cb] 31)).alloc (.cells #[.bool f', .slice a' n' ca', .slice b' m' cb'] 31)).alloc (.cells #[.bool false, .slice none 0 0, .slice none 0 0] 31)).heap.size = w.heap.size + 1 + 1 + 1 := by simp
  have pA : Box3 (((w.alloc (.cells #[.bool f, .slice a n ca, .slice b m cb] 31)).alloc (.cells #[.bool f', .slice a' n' ca', .slice b' m' cb'] 31)).alloc (.cells #[.bool false, .slice none 0 0, .slice none 0 0] 31)) (w.heap.size + 1) (.bool f') (.slice a' n' ca') (.slice b' m' cb') := by
    have := (Box3.new (w.alloc (.cells #[.bool f, .slice a n ca, .slice b m cb] 31)) (.bool f') (.slice a' n' ca') (.slice b' m' cb') 31).keep ((World.Since.refl _ _).alloc (Nat.le_refl _) (.cells #[.bool false, .slice none 0 0, .slice none 0 0] 31))
    simpa using this
  have rA : Box3 (((w.alloc (.cells #[.bool f, .slice a n ca, .slice b m cb] 31)).alloc (.cells #[.bool f', .slice a' n' ca', .slice b' m' cb'] 31)).alloc (.cells #[.bool false, .slice none 0 0, .slice none 0 0] 31)) (w.heap.size + 1 + 1) (.bool false) (.slice none 0 0) (.slice none 0 0) := by
    have := Box3.new ((w.alloc (.cells #[.bool f, .slice a n ca, .slice b m cb] 31)).alloc (.cells #[.bool f', .slice a' n' ca', .slice b' m' cb'] 31)) (.bool false) (.slice none 0 0) (.slice none 0 0) 31
    simpa using this
  have TA := hT.stay hw sA
  go_enter Tryd.func27, Tryd.ntmps27
  go_wp2_with fail
  generalize (((w.alloc (.cells #[.bool f, .slice a n ca, .slice b m cb] 31)).alloc (.cells #[.bool f', .slice a' n' ca', .slice b' m' cb'] 31)).alloc (.cells #[.bool false, .slice none 0 0, .slice none 0 0] 31)) = w1 at *
  have RA := R.keep sA
  have RA' := R'.keep sA
  have wA := Nat.lt_of_lt_of_le hw sA.size
  have I1 := implRatOk_any f a b ba oa n ca bb ob m cb X Y w1 wA (by omega) (by omega) R.nc R.mc R.ac R.bc RA.LX RA.LY R.lX R.lY TA
  by_cases h1 : ratOkB f X n Y m = true
  · have h2 : ratOkB f' X' n' Y' m' = false := by
      cases e : ratOkB f' X' n' Y' m'
      · rfl
      · exact absurd ⟨h1, e⟩ ok
    rw [h1] at I1
    clear h1 ok
    refine I1.mono ?_
    rintro e w2 ⟨rfl, s2⟩
    have p2 := pA.keep s2
    have r2 := rA.keep s2
    have S2 : w.Since w.heap.size w2 := sA.trans (sinceMono s2 sA.size)
    have z2 := s2.size
    have RB' := RA'.keep s2
    have I2 := implRatOk_any f' a' b' ba' oa' n' ca' bb' ob' m' cb' X' Y' w2 (Nat.lt_of_lt_of_le hw S2.size) (by omega) (by omega) R'.nc R'.mc R'.ac R'.bc RB'.LX RB'.LY R'.lX R'.lY (hT.stay hw S2)
    rw [h2] at I2
    clear I1 pA rA h2
    have k0 := p2.c0
    have k1 := p2.c1
    have k2 := p2.c2
    go_wp2_with fail
    refine I2.mono ?_
    rintro e w3 ⟨rfl, s3⟩
    have S3 : w.Since w.heap.size w3 := S2.trans (sinceMono s3 S2.size)
    have z3 := s3.size
    have r3 := r2.keep s3
    clear I2 k0 k1 k2 p2 r2
    go_wp2_with fail
    refine (zeroRat_any w3).mono ?_
    rintro e w6 ⟨v, rfl, ⟨x1, x2, g6, h6, rfl, N6, D6, y1, y2, y3⟩, s6⟩
    have rB := r3.keep s6
    have N6' := N6
    have D6' := D6
    obtain ⟨a1, q1, c1, Y1, rfl, -⟩ := N6
    obtain ⟨a2, q2, c2, Y2, rfl, -⟩ := D6
    have S6 : w.Since w.heap.size w6 := S3.trans (sinceMono s6 S3.size)
    have u0 := rB.c0
    have u1 := rB.c1
    have u2 := rB.c2
    have uf0 := rB.f 0
    have uf1 := rB.f 1
    have uf2 := rB.f 2
    go_wp2
    have rC := ((rB.set0 (.bool false)).set1 (.slice a1 q1 c1)).set2 (.slice a2 q2 c2)
    refine bodyPost_ret (results_box3 rfl _ _ _ _ _ _ rfl rC) rfl ?_
    have M : Marked w6 _ (w.heap.size + 1 + 1) := (((Marked.refl w6 _).setCell 0 (.bool false)).setCell 1 (.slice a1 q1 c1)).setCell 2 (.slice a2 q2 c2)
    exact ⟨_, rfl, ⟨_, _, g6, h6, rfl, N6'.marked M (by omega), D6'.marked M (by omega), by omega, by omega, y3⟩, S6.trans (M.since (by omega))⟩
  · have h1' : ratOkB f X n Y m = false := by simpa using h1
    rw [h1'] at I1
    clear h1 h1' ok
    refine I1.mono ?_
    rintro e w3 ⟨rfl, s3⟩
    have S3 : w.Since w.heap.size w3 := sA.trans (sinceMono s3 sA.size)
    have z3 := s3.size
    have z2 : w1.heap.size ≤ w1.heap.size := Nat.le_refl _
    have r3 := rA.keep s3
    clear I1 pA rA
    go_wp2_with fail
    refine (zeroRat_any w3).mono ?_
    rintro e w6 ⟨v, rfl, ⟨x1, x2, g6, h6, rfl, N6, D6, y1, y2, y3⟩, s6⟩
    have rB := r3.keep s6
    have N6' := N6
    have D6' := D6
    obtain ⟨a1, q1, c1, Y1, rfl, -⟩ := N6
    obtain ⟨a2, q2, c2, Y2, rfl, -⟩ := D6
    have S6 : w.Since w.heap.size w6 := S3.trans (sinceMono s6 S3.size)
    have u0 := rB.c0
    have u1 := rB.c1
    have u2 := rB.c2
    have uf0 := rB.f 0
    have uf1 := rB.f 1
    have uf2 := rB.f 2
    go_wp2
    have rC := ((rB.set0 (.bool false)).set1 (.slice a1 q1 c1)).set2 (.slice a2 q2 c2)
    refine bodyPost_ret (results_box3 rfl _ _ _ _ _ _ rfl rC) rfl ?_
    have M : Marked w6 _ (w.heap.size + 1 + 1) := (((Marked.refl w6 _).setCell 0 (.bool false)).setCell 1 (.slice a1 q1 c1)).setCell 2 (.slice a2 q2 c2)
    exact ⟨_, rfl, ⟨_, _, g6, h6, rfl, N6'.marked M (by omega), D6'.marked M (by omega), by omega, by omega, y3⟩, S6.trans (M.since (by omega))⟩

end Go.Proofs.YtklkohdcilnchabDoor

namespace Go.Proofs.YtklkohdcilnchabDoor
open Go.RowKit

theorem Box3.cells {w : World} {c : Nat} {x y z : Value} (h : Box3 w c x y z) : w.cell? ⟨c, 0, none⟩ = some x ∧ w.cell? ⟨c, 1, none⟩ = some y ∧ w.cell? ⟨c, 2, none⟩ = some z := ⟨h.c0, h.c1, h.c2⟩

end Go.Proofs.YtklkohdcilnchabDoor

namespace Go.Proofs.YtklkohdcilnchabDoor
open Go.RowKit

theorem zero_form (f f' : Bool) (N D : Nat) (hN : N = 0) (hD : 0 < D) : (((f != f') && N != 0) = false ∧ N / Nat.gcd N D = 0) ∧ D / Nat.gcd N D = 1 := by
  subst hN
  refine ⟨⟨by simp, Nat.zero_div _⟩, ?_⟩
  rw [Nat.gcd_zero_left]; exact Nat.div_self hD

set_option maxHeartbeats 3200000 in
set_option maxRecDepth 100000 in
theorem l1Mul_zero (f f' : Bool) (a b a' b' : Option Addr) (ba oa n ca bb ob m cb ba' oa' n' ca' bb' ob' m' cb' : Nat) (X Y X' Y' : Nat → Nat) (w : World) (_hn : n + n' + m + m' ≤ 1048576)
    (R : RIn w a b ba oa n ca bb ob m cb X Y) (R' : RIn w a' b' ba' oa' n' ca' bb' ob' m' cb' X' Y') (h0 : n = 0 ∨ n' = 0) :
    Calls Tryd.prog 54 #[.agg #[.bool f, .slice a n ca, .slice b m cb], .agg #[.bool f', .slice a' n' ca', .slice b' m' cb']] w fun e w' => ∃ v, e = .returned v ∧
      RatV w' v ((f != f') && lv X n * lv X' n' != 0) (lv X n * lv X' n' / Nat.gcd (lv X n * lv X' n') (lv Y m * lv Y' m')) (lv Y m * lv Y' m' / Nat.gcd (lv X n * lv X' n') (lv Y m * lv Y' m')) w.heap.size 4194304 ∧ w.Since w.heap.size w' := by
  have hne2 : w.heap.size + 1 + 1 ≠ w.heap.size := by omega
  have sA : w.Since w.heap.size (((w.alloc (.cells #[.bool f, .slice a n ca, .slice b m cb] 31)).alloc (.cells #[.bool f', .slice a' n' ca', .slice b' m' cb'] 31)).alloc (.cells #[.bool false, .slice none 0 0, .slice none 0 0] 31)) := (((World.Since.refl _ _).alloc (Nat.le_refl _) _).alloc (by simp) _).alloc (by simp; omega) _
  have zA : (((w.alloc (.cells #[.bool f, .slice a n ca, .slice b m cb] 31)).alloc (.cells #[.bool f', .slice a' n' ca', .slice b' m' cb'] 31)).alloc (.cells #[.bool false, .slice none 0 0, .slice none 0 0] 31)).heap.size = w.heap.size + 1 + 1 + 1 := by simp
  have oA : Box3 (((w.alloc (.cells #[.bool f, .slice a n ca, .slice b m cb] 31)).alloc (.cells #[.bool f', .slice a' n' ca', .slice b' m' cb'] 31)).alloc (.cells #[.bool false, .slice none 0 0, .slice none 0 0] 31)) w.heap.size (.bool f) (.slice a n ca) (.slice b m cb) := ((Box3.new w _ _ _ _).keep ((World.Since.refl _ _).alloc (Nat.le_refl _) _)).keep ((World.Since.refl _ _).alloc (Nat.le_refl _) _)
  have pA : Box3 (((w.alloc (.cells #[.bool f, .slice a n ca, .slice b m cb] 31)).alloc (.cells #[.bool f', .slice a' n' ca', .slice b' m' cb'] 31)).alloc (.cells #[.bool false, .slice none 0 0, .slice none 0 0] 31)) (w.heap.size + 1) (.bool f') (.slice a' n' ca') (.slice b' m' cb') := by
    have := (Box3.new (w.alloc (.cells #[.bool f, .slice a n ca, .slice b m cb] 31)) (.bool f') (.slice a' n' ca') (.slice b' m' cb') 31).keep ((World.Since.refl _ _).alloc (Nat.le_refl _) (.cells #[.bool false, .slice none 0 0, .slice none 0 0] 31))
    simpa using this
  have rA : Box3 (((w.alloc (.cells #[.bool f, .slice a n ca, .slice b m cb] 31)).alloc (.cells #[.bool f', .slice a' n' ca', .slice b' m' cb'] 31)).alloc (.cells #[.bool false, .slice none 0 0, .slice none 0 0] 31)) (w.heap.size + 1 + 1) (.bool false) (.slice none 0 0) (.slice none 0 0) := by
    have := Box3.new ((w.alloc (.cells #[.bool f, .slice a n ca, .slice b m cb] 31)).alloc (.cells #[.bool f', .slice a' n' ca', .slice b' m' cb'] 31)) (.bool false) (.slice none 0 0) (.slice none 0 0) 31
    simpa using this
  have hZ := zero_form f f' (lv X n * lv X' n') (lv Y m * lv Y' m') (by rcases h0 with h | h <;> subst h <;> simp [lv]) (Nat.mul_pos R.den R'.den)
  rw [hZ.1.1, hZ.1.2, hZ.2]
  clear hZ
  by_cases h1 : n = 0
  · subst h1
    clear h0
    go_enter Tryd.func54, Tryd.ntmps54
    go_wp2_with fail
    generalize (((w.alloc (.cells #[.bool f, .slice a 0 ca, .slice b m cb] 31)).alloc (.cells #[.bool f', .slice a' n' ca', .slice b' m' cb'] 31)).alloc (.cells #[.bool false, .slice none 0 0, .slice none 0 0] 31)) = w1 at *
    refine (l1Zero_any w1).mono ?_
    rintro e w6 ⟨v, rfl, ⟨x1, x2, g6, h6, rfl, N6, D6, y1, y2, y3⟩, s6⟩
    have rB := rA.keep s6
    have N6' := N6
    have D6' := D6
    obtain ⟨a1, q1, c1, Y1, rfl, -⟩ := N6
    obtain ⟨a2, q2, c2, Y2, rfl, -⟩ := D6
    have S6 : w.Since w.heap.size w6 := sA.trans (sinceMono s6 sA.size)
    have u0 := rB.c0
    have u1 := rB.c1
    have u2 := rB.c2
    have uf0 := rB.f 0
    have uf1 := rB.f 1
    have uf2 := rB.f 2
    go_wp2
    have rC := ((rB.set0 (.bool false)).set1 (.slice a1 q1 c1)).set2 (.slice a2 q2 c2)
    refine bodyPost_ret (results_box3 rfl _ _ _ _ _ _ rfl rC) rfl ?_
    have M : Marked w6 _ (w.heap.size + 1 + 1) := (((Marked.refl w6 _).setCell 0 (.bool false)).setCell 1 (.slice a1 q1 c1)).setCell 2 (.slice a2 q2 c2)
    exact ⟨_, rfl, ⟨_, _, g6, h6, rfl, N6'.marked M (by omega), D6'.marked M (by omega), by omega, by omega, y3⟩, S6.trans (M.since (by omega))⟩
  · have h2 : n' = 0 := by omega
    subst h2
    clear h0
    have q1 : ((n : Int) == 0) = false := by simp; omega
    go_enter Tryd.func54, Tryd.ntmps54
    go_wp2_with fail
    generalize (((w.alloc (.cells #[.bool f, .slice a n ca, .slice b m cb] 31)).alloc (.cells #[.bool f', .slice a' 0 ca', .slice b' m' cb'] 31)).alloc (.cells #[.bool false, .slice none 0 0, .slice none 0 0] 31)) = w1 at *
    refine (l1Zero_any w1).mono ?_
    rintro e w6 ⟨v, rfl, ⟨x1, x2, g6, h6, rfl, N6, D6, y1, y2, y3⟩, s6⟩
    have rB := rA.keep s6
    have N6' := N6
    have D6' := D6
    obtain ⟨a1, q1, c1, Y1, rfl, -⟩ := N6
    obtain ⟨a2, q2, c2, Y2, rfl, -⟩ := D6
    have S6 : w.Since w.heap.size w6 := sA.trans (sinceMono s6 sA.size)
    have u0 := rB.c0
    have u1 := rB.c1
    have u2 := rB.c2
    have uf0 := rB.f 0
    have uf1 := rB.f 1
    have uf2 := rB.f 2
    go_wp2
    have rC := ((rB.set0 (.bool false)).set1 (.slice a1 q1 c1)).set2 (.slice a2 q2 c2)
    refine bodyPost_ret (results_box3 rfl _ _ _ _ _ _ rfl rC) rfl ?_
    have M : Marked w6 _ (w.heap.size + 1 + 1) := (((Marked.refl w6 _).setCell 0 (.bool false)).setCell 1 (.slice a1 q1 c1)).setCell 2 (.slice a2 q2 c2)
    exact ⟨_, rfl, ⟨_, _, g6, h6, rfl, N6'.marked M (by omega), D6'.marked M (by omega), by omega, by omega, y3⟩, S6.trans (M.since (by omega))⟩

set_option maxHeartbeats 3200000 in
set_option maxRecDepth 100000 in
theorem l1Mul_small (f f' : Bool) (a b a' b' : Option Addr) (ba oa n ca bb ob m cb ba' oa' n' ca' bb' ob' m' cb' : Nat) (X Y X' Y' : Nat → Nat) (w : World) (_hn : n + n' + m + m' ≤ 1048576)
    (R : RIn w a b ba oa n ca bb ob m cb X Y) (R' : RIn w a' b' ba' oa' n' ca' bb' ob' m' cb' X' Y') (h1 : 0 < n) (h2 : 0 < n') (hs : smallB X n Y m = true) (hs' : smallB X' n' Y' m' = true) :
    Calls Tryd.prog 54 #[.agg #[.bool f, .slice a n ca, .slice b m cb], .agg #[.bool f', .slice a' n' ca', .slice b' m' cb']] w fun e w' => ∃ v, e = .returned v ∧
      RatV w' v ((f != f') && lv X n * lv X' n' != 0) (lv X n * lv X' n' / Nat.gcd (lv X n * lv X' n') (lv Y m * lv Y' m')) (lv Y m * lv Y' m' / Nat.gcd (lv X n * lv X' n') (lv Y m * lv Y' m')) w.heap.size 4194304 ∧ w.Since w.heap.size w' := by
  have hne2 : w.heap.size + 1 + 1 ≠ w.heap.size := by omega
  have sA : w.Since w.heap.size (((w.alloc (.cells #[.bool f, .slice a n ca, .slice b m cb] 31)).alloc (.cells #[.bool f', .slice a' n' ca', .slice b' m' cb'] 31)).alloc (.cells #[.bool false, .slice none 0 0, .slice none 0 0] 31)) := (((World.Since.refl _ _).alloc (Nat.le_refl _) _).alloc (by simp) _).alloc (by simp; omega) _
  have zA : (((w.alloc (.cells #[.bool f, .slice a n ca, .slice b m cb] 31)).alloc (.cells #[.bool f', .slice a' n' ca', .slice b' m' cb'] 31)).alloc (.cells #[.bool false, .slice none 0 0, .slice none 0 0] 31)).heap.size = w.heap.size + 1 + 1 + 1 := by simp
  have oA : Box3 (((w.alloc (.cells #[.bool f, .slice a n ca, .slice b m cb] 31)).alloc (.cells #[.bool f', .slice a' n' ca', .slice b' m' cb'] 31)).alloc (.cells #[.bool false, .slice none 0 0, .slice none 0 0] 31)) w.heap.size (.bool f) (.slice a n ca) (.slice b m cb) := ((Box3.new w _ _ _ _).keep ((World.Since.refl _ _).alloc (Nat.le_refl _) _)).keep ((World.Since.refl _ _).alloc (Nat.le_refl _) _)
  have pA : Box3 (((w.alloc (.cells #[.bool f, .slice a n ca, .slice b m cb] 31)).alloc (.cells #[.bool f', .slice a' n' ca', .slice b' m' cb'] 31)).alloc (.cells #[.bool false, .slice none 0 0, .slice none 0 0] 31)) (w.heap.size + 1) (.bool f') (.slice a' n' ca') (.slice b' m' cb') := by
    have := (Box3.new (w.alloc (.cells #[.bool f, .slice a n ca, .slice b m cb] 31)) (.bool f') (.slice a' n' ca') (.slice b' m' cb') 31).keep ((World.Since.refl _ _).alloc (Nat.le_refl _) (.cells #[.bool false, .slice none 0 0, .slice none 0 0] 31))
    simpa using this
  have rA : Box3 (((w.alloc (.cells #[.bool f, .slice a n ca, .slice b m cb] 31)).alloc (.cells #[.bool f', .slice a' n' ca', .slice b' m' cb'] 31)).alloc (.cells #[.bool false, .slice none 0 0, .slice none 0 0] 31)) (w.heap.size + 1 + 1) (.bool false) (.slice none 0 0) (.slice none 0 0) := by
    have := Box3.new ((w.alloc (.cells #[.bool f, .slice a n ca, .slice b m cb] 31)).alloc (.cells #[.bool f', .slice a' n' ca', .slice b' m' cb'] 31)) (.bool false) (.slice none 0 0) (.slice none 0 0) 31
    simpa using this
  obtain ⟨s1, s2', s3', s4'⟩ := smallB_iff.1 hs
  obtain ⟨t1, t2', t3', t4'⟩ := smallB_iff.1 hs'
  obtain ⟨x, hx⟩ : ∃ x, x = lv X n := ⟨_, rfl⟩
  obtain ⟨y, hy⟩ : ∃ y, y = lv Y m := ⟨_, rfl⟩
  obtain ⟨x', hx'⟩ : ∃ x', x' = lv X' n' := ⟨_, rfl⟩
  obtain ⟨y', hy'⟩ : ∃ y', y' = lv Y' m' := ⟨_, rfl⟩
  have hyp : 0 < y * y' := by rw [hy, hy']; exact Nat.mul_pos R.den R'.den
  rw [← hx] at s3'
  rw [← hy] at s4'
  rw [← hx'] at t3'
  rw [← hy'] at t4'
  obtain ⟨p, hp⟩ : ∃ p, p = x * x' := ⟨_, rfl⟩
  obtain ⟨q, hq⟩ : ∃ q, q = y * y' := ⟨_, rfl⟩
  have hpl : p < 18446744073709551616 := by rw [hp]; exact Nat.lt_of_le_of_lt (Nat.mul_le_mul (Nat.le_of_lt s3') (Nat.le_of_lt t3')) (by omega)
  have hql : q < 18446744073709551616 := by rw [hq]; exact Nat.lt_of_le_of_lt (Nat.mul_le_mul (Nat.le_of_lt s4') (Nat.le_of_lt t4')) (by omega)
  have hpw : IntKind.u64.wrap ((x : Int) * (x' : Int)) = (p : Int) := by rw [← Int.natCast_mul, ← hp]; exact wrap_u64_id p hpl
  have hqw : IntKind.u64.wrap ((y : Int) * (y' : Int)) = (q : Int) := by rw [← Int.natCast_mul, ← hq]; exact wrap_u64_id q hql
  rw [← hq] at hyp
  rw [← hx, ← hx', ← hy, ← hy', ← hp, ← hq]
  clear s3' s4' t3' t4'
  have q1 : ((n : Int) == 0) = false := by simp; omega
  have q2 : ((n' : Int) == 0) = false := by simp; omega
  have j0 := oA.c0
  have j1 := oA.c1
  have j2 := oA.c2
  go_enter Tryd.func54, Tryd.ntmps54
  go_wp2_with fail
  generalize (((w.alloc (.cells #[.bool f, .slice a n ca, .slice b m cb] 31)).alloc (.cells #[.bool f', .slice a' n' ca', .slice b' m' cb'] 31)).alloc (.cells #[.bool false, .slice none 0 0, .slice none 0 0] 31)) = w1 at *
  have I1 := l1IsSmall_any f a b ba oa n ca bb ob m cb X Y w1 (by omega) (by omega) (R.keep sA).LX (R.keep sA).LY R.lX R.lY
  rw [hs] at I1
  refine I1.mono ?_
  rintro e w2 ⟨rfl, s2⟩
  have S2 : w.Since w.heap.size w2 := sA.trans (sinceMono s2 sA.size)
  have o2 := oA.keep s2
  have p2 := pA.keep s2
  have r2 := rA.keep s2
  have z2 := s2.size
  clear I1 j0 j1 j2 oA pA rA
  have k0 := p2.c0
  have k1 := p2.c1
  have k2 := p2.c2
  have I2 := l1IsSmall_any f' a' b' ba' oa' n' ca' bb' ob' m' cb' X' Y' w2 (by omega) (by omega) (R'.keep S2).LX (R'.keep S2).LY R'.lX R'.lY
  rw [hs'] at I2
  go_wp2_with fail
  refine I2.mono ?_
  rintro e w3 ⟨rfl, s3⟩
  have S3 : w.Since w.heap.size w3 := S2.trans (sinceMono s3 S2.size)
  have o3 := o2.keep s3
  have p3 := p2.keep s3
  have r3 := r2.keep s3
  have z3 := s3.size
  clear I2 k0 k1 k2 o2 p2 r2
  have k := And.intro o3.cells p3.cells
  have J1 := l1Small_any a ba oa n ca X w3.drew s1 (R.keep S3).LX R.lX
  have J2 := l1Small_any b bb ob m cb Y w3.drew s2' (R.keep S3).LY R.lY
  have J3 := l1Small_any a' ba' oa' n' ca' X' w3.drew t1 (R'.keep S3).LX R'.lX
  have J4 := l1Small_any b' bb' ob' m' cb' Y' w3.drew t2' (R'.keep S3).LY R'.lY
  rw [← hx] at J1
  rw [← hy] at J2
  rw [← hx'] at J3
  rw [← hy'] at J4
  have J5 := l1MakeSmall_any (!(f == f')) p q w3.drew hpl hql hyp
  clear hx hy hx' hy' hp hq R R' hs hs'
  go_wp2
  go_region_held3 (fun w' => w'.cell? ⟨w.heap.size, 0, none⟩ = some (.bool f) ∧ w'.cell? ⟨w.heap.size, 1, none⟩ = some (.slice a n ca) ∧ w'.cell? ⟨w.heap.size, 2, none⟩ = some (.slice b m cb) ∧ w'.cell? ⟨w.heap.size + 1, 0, none⟩ = some (.bool f') ∧ w'.cell? ⟨w.heap.size + 1, 1, none⟩ = some (.slice a' n' ca') ∧ w'.cell? ⟨w.heap.size + 1, 2, none⟩ = some (.slice b' m' cb')) (go_keep)
    (first
      | (go_at_call 45
         first
          | (with_reducible refine J1.mono ?_; rintro e w4 ⟨rfl, rfl⟩)
          | (with_reducible refine J2.mono ?_; rintro e w4 ⟨rfl, rfl⟩)
          | (with_reducible refine J3.mono ?_; rintro e w4 ⟨rfl, rfl⟩)
          | (with_reducible refine J4.mono ?_; rintro e w4 ⟨rfl, rfl⟩))
      | (go_at_call 83
         with_reducible refine J5.mono ?_
         rintro e w6 ⟨v, rfl, ⟨x1, x2, g6, h6, rfl, N6, D6, y1, y2, y3⟩, s6⟩
         have N6' := N6
         have D6' := D6
         obtain ⟨a1, q1, c1, Y1, rfl, -⟩ := N6
         obtain ⟨a2, q2, c2, Y2, rfl, -⟩ := D6
         have k9 := And.intro (o3.drew.keep s6).cells (p3.drew.keep s6).cells
         have rB := r3.drew.keep s6
         have u0 := rB.c0
         have u1 := rB.c1
         have u2 := rB.c2
         have uf0 := rB.f 0
         have uf1 := rB.f 1
         have uf2 := rB.f 2))
  all_goals go_wp2
  all_goals
    have zd : w3.drew.heap.size = w3.heap.size := rfl
    have S6 : w.Since w.heap.size w6 := (since_drew S3).trans (sinceMono s6 S3.size)
    have hb : (!(f == f') && p != 0) = ((f != f') && p != 0) := rfl
    have rC := ((rB.set0 (.bool (!(f == f') && p != 0))).set1 (.slice a1 q1 c1)).set2 (.slice a2 q2 c2)
    refine bodyPost_ret (results_box3 rfl _ _ _ _ _ _ rfl rC) rfl ?_
    have M : Marked w6 _ (w.heap.size + 1 + 1) := (((Marked.refl w6 _).setCell 0 (.bool (!(f == f') && p != 0))).setCell 1 (.slice a1 q1 c1)).setCell 2 (.slice a2 q2 c2)
    exact ⟨_, rfl, ⟨_, _, g6, h6, rfl, N6'.marked M (by omega), D6'.marked M (by omega), by omega, by omega, y3⟩, S6.trans (M.since (by omega))⟩

set_option maxHeartbeats 3200000 in
set_option maxRecDepth 100000 in
theorem l1Mul_bigA (f f' : Bool) (a b a' b' : Option Addr) (ba oa n ca bb ob m cb ba' oa' n' ca' bb' ob' m' cb' : Nat) (X Y X' Y' : Nat → Nat) (w : World) (hn : n + n' + m + m' ≤ 1048576)
    (R : RIn w a b ba oa n ca bb ob m cb X Y) (R' : RIn w a' b' ba' oa' n' ca' bb' ob' m' cb' X' Y') (h1 : 0 < n) (h2 : 0 < n') (hs : ¬ smallB X n Y m = true) :
    Calls Tryd.prog 54 #[.agg #[.bool f, .slice a n ca, .slice b m cb], .agg #[.bool f', .slice a' n' ca', .slice b' m' cb']] w fun e w' => ∃ v, e = .returned v ∧
      RatV w' v ((f != f') && lv X n * lv X' n' != 0) (lv X n * lv X' n' / Nat.gcd (lv X n * lv X' n') (lv Y m * lv Y' m')) (lv Y m * lv Y' m' / Nat.gcd (lv X n * lv X' n') (lv Y m * lv Y' m')) w.heap.size 4194304 ∧ w.Since w.heap.size w' := by
  have hne2 : w.heap.size + 1 + 1 ≠ w.heap.size := by omega
  have sA : w.Since w.heap.size (((w.alloc (.cells #[.bool f, .slice a n ca, .slice b m cb] 31)).alloc (.cells #[.bool f', .slice a' n' ca', .slice b' m' cb'] 31)).alloc (.cells #[.bool false, .slice none 0 0, .slice none 0 0] 31)) := (((World.Since.refl _ _).alloc (Nat.le_refl _) _).alloc (by simp) _).alloc (by simp; omega) _
  have zA : (((w.alloc (.cells #[.bool f, .slice a n ca, .slice b m cb] 31)).alloc (.cells #[.bool f', .slice a' n' ca', .slice b' m' cb'] 31)).alloc (.cells #[.bool false, .slice none 0 0, .slice none 0 0] 31)).heap.size = w.heap.size + 1 + 1 + 1 := by simp
  have oA : Box3 (((w.alloc (.cells #[.bool f, .slice a n ca, .slice b m cb] 31)).alloc (.cells #[.bool f', .slice a' n' ca', .slice b' m' cb'] 31)).alloc (.cells #[.bool false, .slice none 0 0, .slice none 0 0] 31)) w.heap.size (.bool f) (.slice a n ca) (.slice b m cb) := ((Box3.new w _ _ _ _).keep ((World.Since.refl _ _).alloc (Nat.le_refl _) _)).keep ((World.Since.refl _ _).alloc (Nat.le_refl _) _)
  have pA : Box3 (((w.alloc (.cells #[.bool f, .slice a n ca, .slice b m cb] 31)).alloc (.cells #[.bool f', .slice a' n' ca', .slice b' m' cb'] 31)).alloc (.cells #[.bool false, .slice none 0 0, .slice none 0 0] 31)) (w.heap.size + 1) (.bool f') (.slice a' n' ca') (.slice b' m' cb') := by
    have := (Box3.new (w.alloc (.cells #[.bool f, .slice a n ca, .slice b m cb] 31)) (.bool f') (.slice a' n' ca') (.slice b' m' cb') 31).keep ((World.Since.refl _ _).alloc (Nat.le_refl _) (.cells #[.bool false, .slice none 0 0, .slice none 0 0] 31))
    simpa using this
  have rA : Box3 (((w.alloc (.cells #[.bool f, .slice a n ca, .slice b m cb] 31)).alloc (.cells #[.bool f', .slice a' n' ca', .slice b' m' cb'] 31)).alloc (.cells #[.bool false, .slice none 0 0, .slice none 0 0] 31)) (w.heap.size + 1 + 1) (.bool false) (.slice none 0 0) (.slice none 0 0) := by
    have := Box3.new ((w.alloc (.cells #[.bool f, .slice a n ca, .slice b m cb] 31)).alloc (.cells #[.bool f', .slice a' n' ca', .slice b' m' cb'] 31)) (.bool false) (.slice none 0 0) (.slice none 0 0) 31
    simpa using this
  have hDD := Nat.mul_pos R.den R'.den
  have q1 : ((n : Int) == 0) = false := by simp; omega
  have q2 : ((n' : Int) == 0) = false := by simp; omega
  have j0 := oA.c0
  have j1 := oA.c1
  have j2 := oA.c2
  go_enter Tryd.func54, Tryd.ntmps54
  go_wp2_with fail
  generalize (((w.alloc (.cells #[.bool f, .slice a n ca, .slice b m cb] 31)).alloc (.cells #[.bool f', .slice a' n' ca', .slice b' m' cb'] 31)).alloc (.cells #[.bool false, .slice none 0 0, .slice none 0 0] 31)) = w1 at *
  have I1 := l1IsSmall_any f a b ba oa n ca bb ob m cb X Y w1 (by omega) (by omega) (R.keep sA).LX (R.keep sA).LY R.lX R.lY
  rw [show smallB X n Y m = false by simpa using hs] at I1
  refine I1.mono ?_
  rintro e w3 ⟨rfl, s3⟩
  have S3 : w.Since w.heap.size w3 := sA.trans (sinceMono s3 sA.size)
  have o3 := oA.keep s3
  have p3 := pA.keep s3
  have r3 := rA.keep s3
  clear I1 j0 j1 j2 oA pA rA
  have k := And.intro o3.cells p3.cells
  have J1 := l1Bits_any a ba oa n ca X w3.drew (by omega) (R.keep S3).LX R.lX
  go_wp2
  go_region_held3 (fun w' => w'.cell? ⟨w.heap.size, 0, none⟩ = some (.bool f) ∧ w'.cell? ⟨w.heap.size, 1, none⟩ = some (.slice a n ca) ∧ w'.cell? ⟨w.heap.size, 2, none⟩ = some (.slice b m cb) ∧ w'.cell? ⟨w.heap.size + 1, 0, none⟩ = some (.bool f') ∧ w'.cell? ⟨w.heap.size + 1, 1, none⟩ = some (.slice a' n' ca') ∧ w'.cell? ⟨w.heap.size + 1, 2, none⟩ = some (.slice b' m' cb')) (go_keep)
    (first
      | (go_at_call 38
         first
          | (with_reducible refine J1.mono ?_
             rintro e w4 ⟨a1, g1, m1, t1, B1, rfl, k1, k2, L1, -, p1, e1, s4⟩
             have S4 : w.Since w.heap.size w4 := (since_drew S3).trans (sinceMono s4 S3.size)
             have o4 := o3.drew.keep s4
             have p4 := p3.drew.keep s4
             have r4 := r3.drew.keep s4
             have kk := And.intro o4.cells p4.cells
             have J2 := l1Bits_any a' ba' oa' n' ca' X' w4 (by omega) (R'.keep S4).LX R'.lX)
          | (with_reducible refine J2.mono ?_
             rintro e w5 ⟨a2, g2, m2, t2, B2, rfl, l1, l2, L2, -, p2, e2, s5⟩
             have S5 : w.Since w.heap.size w5 := S4.trans (sinceMono s5 S4.size)
             have o5 := o4.keep s5
             have p5 := p4.keep s5
             have r5 := r4.keep s5
             have kk := And.intro o5.cells p5.cells
             have J3 := l1MulBits_any a1 a2 g1 0 m1 t1 g2 0 m2 t2 B1 B2 w5 (by omega) (by omega) (L1.keep s5) L2
             rw [e1, e2] at J3)
          | (with_reducible refine J4.mono ?_
             rintro e w7 ⟨a4, g4, m4, t4, B4, rfl, i1, i2, L4, -, p4', e4, s7⟩
             have S7 : w.Since w.heap.size w7 := S6.trans (sinceMono s7 S6.size)
             have o7 := o6.keep s7
             have p7 := p6.keep s7
             have r7 := r6.keep s7
             have kk := And.intro o7.cells p7.cells
             have T7 := T6.keep s7
             have J5 := l1Bits_any b' bb' ob' m' cb' Y' w7 (by omega) (R'.keep S7).LY R'.lY)
          | (with_reducible refine J5.mono ?_
             rintro e w8 ⟨a5, g5, m5, t5, B5, rfl, j1', j2', L5, -, p5', e5, s8⟩
             have S8 : w.Since w.heap.size w8 := S7.trans (sinceMono s8 S7.size)
             have o8 := o7.keep s8
             have p8 := p7.keep s8
             have r8 := r7.keep s8
             have kk := And.intro o8.cells p8.cells
             have T8 := T7.keep s8
             have J6 := l1MulBits_any a4 a5 g4 0 m4 t4 g5 0 m5 t5 B4 B5 w8 (by omega) (by omega) (L4.keep s8) L5
             rw [e4, e5] at J6))
      | (go_at_call 84
         first
          | (with_reducible refine J3.mono ?_
             rintro e w6 ⟨g6, t6, c6, O6, rfl, f1, f2, L6, f3, f4, e6, s6⟩
             have S6 : w.Since w.heap.size w6 := S5.trans (sinceMono s6 S5.size)
             have o6 := o5.keep s6
             have p6 := p5.keep s6
             have r6 := r5.keep s6
             have kk := And.intro o6.cells p6.cells
             have T6 : Tr w6 (.slice (some ⟨g6, 0, none⟩) t6 c6) t6 O6 := ⟨_, g6, 0, c6, rfl, f1, L6, f4⟩
             have J4 := l1Bits_any b bb ob m cb Y w6 (by omega) (R.keep S6).LY R.lY)
          | (with_reducible refine J6.mono ?_
             rintro e w9 ⟨g9, t9, c9, O9, rfl, f5, f6, L9, f7, f8, e9, s9⟩
             have S9 : w.Since w.heap.size w9 := S8.trans (sinceMono s9 S8.size)
             have o9 := o8.keep s9
             have p9 := p8.keep s9
             have r9 := r8.keep s9
             have kk := And.intro o9.cells p9.cells
             have T9 : Tr w9 (.slice (some ⟨g9, 0, none⟩) t9 c9) t9 O9 := ⟨_, g9, 0, c9, rfl, f5, L9, f8⟩
             have J7 := l1Make_any (!(f == f')) _ _ t6 t9 O6 O9 w9 (by omega) (by omega) (T8.keep s9) T9 (by rw [e9]; exact hDD)
             rw [e6, e9] at J7))
      | (go_at_call 64
         with_reducible refine J7.mono ?_
         rintro e w10 ⟨v, rfl, ⟨x1, x2, g10, h10, rfl, N10, D10, y1, y2, y3⟩, s10⟩
         have N10' := N10
         have D10' := D10
         obtain ⟨aa, qa, cca, Ya, rfl, -⟩ := N10
         obtain ⟨ab, qb, ccb, Yb, rfl, -⟩ := D10
         have kk := And.intro (o9.keep s10).cells (p9.keep s10).cells
         have rB := r9.keep s10
         have u0 := rB.c0
         have u1 := rB.c1
         have u2 := rB.c2
         have uf0 := rB.f 0
         have uf1 := rB.f 1
         have uf2 := rB.f 2))
  all_goals go_wp2
  all_goals
    have S10 : w.Since w.heap.size w10 := S9.trans (sinceMono s10 S9.size)
    have z9 := S9.size
    have z10 := S3.size
    have z11 := r9.lt
    have rC := ((rB.set0 (.bool (!(f == f') && lv X n * lv X' n' != 0))).set1 (.slice aa qa cca)).set2 (.slice ab qb ccb)
    refine bodyPost_ret (results_box3 rfl _ _ _ _ _ _ rfl rC) rfl ?_
    have M : Marked w10 _ (w.heap.size + 1 + 1) := (((Marked.refl w10 _).setCell 0 (.bool (!(f == f') && lv X n * lv X' n' != 0))).setCell 1 (.slice aa qa cca)).setCell 2 (.slice ab qb ccb)
    exact ⟨_, rfl, ⟨_, _, g10, h10, rfl, N10'.marked M (by omega), D10'.marked M (by omega), by omega, by omega, y3⟩, S10.trans (M.since (by omega))⟩

set_option maxHeartbeats 3200000 in
set_option maxRecDepth 100000 in
theorem l1Mul_bigB (f f' : Bool) (a b a' b' : Option Addr) (ba oa n ca bb ob m cb ba' oa' n' ca' bb' ob' m' cb' : Nat) (X Y X' Y' : Nat → Nat) (w : World) (hn : n + n' + m + m' ≤ 1048576)
    (R : RIn w a b ba oa n ca bb ob m cb X Y) (R' : RIn w a' b' ba' oa' n' ca' bb' ob' m' cb' X' Y') (h1 : 0 < n) (h2 : 0 < n') (hs : smallB X n Y m = true) (hs' : ¬ smallB X' n' Y' m' = true) :
    Calls Tryd.prog 54 #[.agg #[.bool f, .slice a n ca, .slice b m cb], .agg #[.bool f', .slice a' n' ca', .slice b' m' cb']] w fun e w' => ∃ v, e = .returned v ∧
      RatV w' v ((f != f') && lv X n * lv X' n' != 0) (lv X n * lv X' n' / Nat.gcd (lv X n * lv X' n') (lv Y m * lv Y' m')) (lv Y m * lv Y' m' / Nat.gcd (lv X n * lv X' n') (lv Y m * lv Y' m')) w.heap.size 4194304 ∧ w.Since w.heap.size w' := by
  have hne2 : w.heap.size + 1 + 1 ≠ w.heap.size := by omega
  have sA : w.Since w.heap.size (((w.alloc (.cells #[.bool f, .slice a n ca, .slice b m cb] 31)).alloc (.cells #[.bool f', .slice a' n' ca', .slice b' m' cb'] 31)).alloc (.cells #[.bool false, .slice none 0 0, .slice none 0 0] 31)) := (((World.Since.refl _ _).alloc (Nat.le_refl _) _).alloc (by simp) _).alloc (by simp; omega) _
  have zA : (((w.alloc (.cells #[.bool f, .slice a n ca, .slice b m cb] 31)).alloc (.cells #[.bool f', .slice a' n' ca', .slice b' m' cb'] 31)).alloc (.cells #[.bool false, .slice none 0 0, .slice none 0 0] 31)).heap.size = w.heap.size + 1 + 1 + 1 := by simp
  have oA : Box3 (((w.alloc (.cells #[.bool f, .slice a n ca, .slice b m cb] 31)).alloc (.cells #[.bool f', .slice a' n' ca', .slice b' m' cb'] 31)).alloc (.cells #[.bool false, .slice none 0 0, .slice none 0 0] 31)) w.heap.size (.bool f) (.slice a n ca) (.slice b m cb) := ((Box3.new w _ _ _ _).keep ((World.Since.refl _ _).alloc (Nat.le_refl _) _)).keep ((World.Since.refl _ _).alloc (Nat.le_refl _) _)
  have pA : Box3 (((w.alloc (.cells #[.bool f, .slice a n ca, .slice b m cb] 31)).alloc (.cells #[.bool f', .slice a' n' ca', .slice b' m' cb'] 31)).alloc (.cells #[.bool false, .slice none 0 0, .slice none 0 0] 31)) (w.heap.size + 1) (.bool f') (.slice a' n' ca') (.slice b' m' cb') := by
    have := (Box3.new (w.alloc (.cells #[.bool f, .slice a n ca, .slice b m cb] 31)) (.bool f') (.slice a' n' ca') (.slice b' m' cb') 31).keep ((World.Since.refl _ _).alloc (Nat.le_refl _) (.cells #[.bool false, .slice none 0 0, .slice none 0 0] 31))
    simpa using this
  have rA : Box3 (((w.alloc (.cells #[.bool f, .slice a n ca, .slice b m cb] 31)).alloc (.cells #[.bool f', .slice a' n' ca', .slice b' m' cb'] 31)).alloc (.cells #[.bool false, .slice none 0 0, .slice none 0 0] 31)) (w.heap.size + 1 + 1) (.bool false) (.slice none 0 0) (.slice none 0 0) := by
    have := Box3.new ((w.alloc (.cells #[.bool f, .slice a n ca, .slice b m cb] 31)).alloc (.cells #[.bool f', .slice a' n' ca', .slice b' m' cb'] 31)) (.bool false) (.slice none 0 0) (.slice none 0 0) 31
    simpa using this
  have hDD := Nat.mul_pos R.den R'.den
  have q1 : ((n : Int) == 0) = false := by simp; omega
  have q2 : ((n' : Int) == 0) = false := by simp; omega
  have j0 := oA.c0
  have j1 := oA.c1
  have j2 := oA.c2
  go_enter Tryd.func54, Tryd.ntmps54
  go_wp2_with fail
  generalize (((w.alloc (.cells #[.bool f, .slice a n ca, .slice b m cb] 31)).alloc (.cells #[.bool f', .slice a' n' ca', .slice b' m' cb'] 31)).alloc (.cells #[.bool false, .slice none 0 0, .slice none 0 0] 31)) = w1 at *
  have I1 := l1IsSmall_any f a b ba oa n ca bb ob m cb X Y w1 (by omega) (by omega) (R.keep sA).LX (R.keep sA).LY R.lX R.lY
  rw [hs] at I1
  refine I1.mono ?_
  rintro e w2 ⟨rfl, s2⟩
  have S2 : w.Since w.heap.size w2 := sA.trans (sinceMono s2 sA.size)
  have o2 := oA.keep s2
  have p2 := pA.keep s2
  have r2 := rA.keep s2
  have z2 := s2.size
  clear I1 j0 j1 j2 oA pA rA
  have k0 := p2.c0
  have k1 := p2.c1
  have k2 := p2.c2
  have I2 := l1IsSmall_any f' a' b' ba' oa' n' ca' bb' ob' m' cb' X' Y' w2 (by omega) (by omega) (R'.keep S2).LX (R'.keep S2).LY R'.lX R'.lY
  rw [show smallB X' n' Y' m' = false by simpa using hs'] at I2
  go_wp2_with fail
  refine I2.mono ?_
  rintro e w3 ⟨rfl, s3⟩
  have S3 : w.Since w.heap.size w3 := S2.trans (sinceMono s3 S2.size)
  have o3 := o2.keep s3
  have p3 := p2.keep s3
  have r3 := r2.keep s3
  have z3 := s3.size
  clear I2 k0 k1 k2 o2 p2 r2
  have k := And.intro o3.cells p3.cells
  have J1 := l1Bits_any a ba oa n ca X w3.drew (by omega) (R.keep S3).LX R.lX
  go_wp2
  go_region_held3 (fun w' => w'.cell? ⟨w.heap.size, 0, none⟩ = some (.bool f) ∧ w'.cell? ⟨w.heap.size, 1, none⟩ = some (.slice a n ca) ∧ w'.cell? ⟨w.heap.size, 2, none⟩ = some (.slice b m cb) ∧ w'.cell? ⟨w.heap.size + 1, 0, none⟩ = some (.bool f') ∧ w'.cell? ⟨w.heap.size + 1, 1, none⟩ = some (.slice a' n' ca') ∧ w'.cell? ⟨w.heap.size + 1, 2, none⟩ = some (.slice b' m' cb')) (go_keep)
    (first
      | (go_at_call 38
         first
          | (with_reducible refine J1.mono ?_
             rintro e w4 ⟨a1, g1, m1, t1, B1, rfl, k1, k2, L1, -, p1, e1, s4⟩
             have S4 : w.Since w.heap.size w4 := (since_drew S3).trans (sinceMono s4 S3.size)
             have o4 := o3.drew.keep s4
             have p4 := p3.drew.keep s4
             have r4 := r3.drew.keep s4
             have kk := And.intro o4.cells p4.cells
             have J2 := l1Bits_any a' ba' oa' n' ca' X' w4 (by omega) (R'.keep S4).LX R'.lX)
          | (with_reducible refine J2.mono ?_
             rintro e w5 ⟨a2, g2, m2, t2, B2, rfl, l1, l2, L2, -, p2, e2, s5⟩
             have S5 : w.Since w.heap.size w5 := S4.trans (sinceMono s5 S4.size)
             have o5 := o4.keep s5
             have p5 := p4.keep s5
             have r5 := r4.keep s5
             have kk := And.intro o5.cells p5.cells
             have J3 := l1MulBits_any a1 a2 g1 0 m1 t1 g2 0 m2 t2 B1 B2 w5 (by omega) (by omega) (L1.keep s5) L2
             rw [e1, e2] at J3)
          | (with_reducible refine J4.mono ?_
             rintro e w7 ⟨a4, g4, m4, t4, B4, rfl, i1, i2, L4, -, p4', e4, s7⟩
             have S7 : w.Since w.heap.size w7 := S6.trans (sinceMono s7 S6.size)
             have o7 := o6.keep s7
             have p7 := p6.keep s7
             have r7 := r6.keep s7
             have kk := And.intro o7.cells p7.cells
             have T7 := T6.keep s7
             have J5 := l1Bits_any b' bb' ob' m' cb' Y' w7 (by omega) (R'.keep S7).LY R'.lY)
          | (with_reducible refine J5.mono ?_
             rintro e w8 ⟨a5, g5, m5, t5, B5, rfl, j1', j2', L5, -, p5', e5, s8⟩
             have S8 : w.Since w.heap.size w8 := S7.trans (sinceMono s8 S7.size)
             have o8 := o7.keep s8
             have p8 := p7.keep s8
             have r8 := r7.keep s8
             have kk := And.intro o8.cells p8.cells
             have T8 := T7.keep s8
             have J6 := l1MulBits_any a4 a5 g4 0 m4 t4 g5 0 m5 t5 B4 B5 w8 (by omega) (by omega) (L4.keep s8) L5
             rw [e4, e5] at J6))
      | (go_at_call 84
         first
          | (with_reducible refine J3.mono ?_
             rintro e w6 ⟨g6, t6, c6, O6, rfl, f1, f2, L6, f3, f4, e6, s6⟩
             have S6 : w.Since w.heap.size w6 := S5.trans (sinceMono s6 S5.size)
             have o6 := o5.keep s6
             have p6 := p5.keep s6
             have r6 := r5.keep s6
             have kk := And.intro o6.cells p6.cells
             have T6 : Tr w6 (.slice (some ⟨g6, 0, none⟩) t6 c6) t6 O6 := ⟨_, g6, 0, c6, rfl, f1, L6, f4⟩
             have J4 := l1Bits_any b bb ob m cb Y w6 (by omega) (R.keep S6).LY R.lY)
          | (with_reducible refine J6.mono ?_
             rintro e w9 ⟨g9, t9, c9, O9, rfl, f5, f6, L9, f7, f8, e9, s9⟩
             have S9 : w.Since w.heap.size w9 := S8.trans (sinceMono s9 S8.size)
             have o9 := o8.keep s9
             have p9 := p8.keep s9
             have r9 := r8.keep s9
             have kk := And.intro o9.cells p9.cells
             have T9 : Tr w9 (.slice (some ⟨g9, 0, none⟩) t9 c9) t9 O9 := ⟨_, g9, 0, c9, rfl, f5, L9, f8⟩
             have J7 := l1Make_any (!(f == f')) _ _ t6 t9 O6 O9 w9 (by omega) (by omega) (T8.keep s9) T9 (by rw [e9]; exact hDD)
             rw [e6, e9] at J7))
      | (go_at_call 64
         with_reducible refine J7.mono ?_
         rintro e w10 ⟨v, rfl, ⟨x1, x2, g10, h10, rfl, N10, D10, y1, y2, y3⟩, s10⟩
         have N10' := N10
         have D10' := D10
         obtain ⟨aa, qa, cca, Ya, rfl, -⟩ := N10
         obtain ⟨ab, qb, ccb, Yb, rfl, -⟩ := D10
         have kk := And.intro (o9.keep s10).cells (p9.keep s10).cells
         have rB := r9.keep s10
         have u0 := rB.c0
         have u1 := rB.c1
         have u2 := rB.c2
         have uf0 := rB.f 0
         have uf1 := rB.f 1
         have uf2 := rB.f 2))
  all_goals go_wp2
  all_goals
    have S10 : w.Since w.heap.size w10 := S9.trans (sinceMono s10 S9.size)
    have z9 := S9.size
    have z10 := S3.size
    have z11 := r9.lt
    have rC := ((rB.set0 (.bool (!(f == f') && lv X n * lv X' n' != 0))).set1 (.slice aa qa cca)).set2 (.slice ab qb ccb)
    refine bodyPost_ret (results_box3 rfl _ _ _ _ _ _ rfl rC) rfl ?_
    have M : Marked w10 _ (w.heap.size + 1 + 1) := (((Marked.refl w10 _).setCell 0 (.bool (!(f == f') && lv X n * lv X' n' != 0))).setCell 1 (.slice aa qa cca)).setCell 2 (.slice ab qb ccb)
    exact ⟨_, rfl, ⟨_, _, g10, h10, rfl, N10'.marked M (by omega), D10'.marked M (by omega), by omega, by omega, y3⟩, S10.trans (M.since (by omega))⟩

theorem l1Mul_any (f f' : Bool) (a b a' b' : Option Addr) (ba oa n ca bb ob m cb ba' oa' n' ca' bb' ob' m' cb' : Nat) (X Y X' Y' : Nat → Nat) (w : World) (hn : n + n' + m + m' ≤ 1048576)
    (R : RIn w a b ba oa n ca bb ob m cb X Y) (R' : RIn w a' b' ba' oa' n' ca' bb' ob' m' cb' X' Y') :
    Calls Tryd.prog 54 #[.agg #[.bool f, .slice a n ca, .slice b m cb], .agg #[.bool f', .slice a' n' ca', .slice b' m' cb']] w fun e w' => ∃ v, e = .returned v ∧
      RatV w' v ((f != f') && lv X n * lv X' n' != 0) (lv X n * lv X' n' / Nat.gcd (lv X n * lv X' n') (lv Y m * lv Y' m')) (lv Y m * lv Y' m' / Nat.gcd (lv X n * lv X' n') (lv Y m * lv Y' m')) w.heap.size 4194304 ∧ w.Since w.heap.size w' := by
  by_cases h0 : n = 0 ∨ n' = 0
  · exact l1Mul_zero f f' a b a' b' ba oa n ca bb ob m cb ba' oa' n' ca' bb' ob' m' cb' X Y X' Y' w hn R R' h0
  have h1 : 0 < n := by omega
  have h2 : 0 < n' := by omega
  by_cases hs : smallB X n Y m = true
  · by_cases hs' : smallB X' n' Y' m' = true
    · exact l1Mul_small f f' a b a' b' ba oa n ca bb ob m cb ba' oa' n' ca' bb' ob' m' cb' X Y X' Y' w hn R R' h1 h2 hs hs'
    · exact l1Mul_bigB f f' a b a' b' ba oa n ca bb ob m cb ba' oa' n' ca' bb' ob' m' cb' X Y X' Y' w hn R R' h1 h2 hs hs'
  · exact l1Mul_bigA f f' a b a' b' ba oa n ca bb ob m cb ba' oa' n' ca' bb' ob' m' cb' X Y X' Y' w hn R R' h1 h2 hs

end Go.Proofs.YtklkohdcilnchabDoor

namespace Go.Proofs.YtklkohdcilnchabDoor
open Go.RowKit

set_option maxHeartbeats 800000 in
set_option maxRecDepth 100000 in
theorem isZeroRat_any (f : Bool) (a b : Option Addr) (n ca m cb : Nat) (w : World) :
    Calls Tryd.prog 57 #[.agg #[.bool f, .slice a n ca, .slice b m cb]] w fun e w' => e = .returned (.bool ((n : Int) == 0)) ∧ w.Since w.heap.size w' := by
  have sA : w.Since w.heap.size (w.alloc (.cells #[.bool f, .slice a n ca, .slice b m cb] 31)) := (World.Since.refl _ _).alloc (Nat.le_refl _) _
  go_enter Tryd.func57, Tryd.ntmps57
  go_wp2
  go_ret
  exact ⟨rfl, sA⟩

set_option maxHeartbeats 1600000 in
set_option maxRecDepth 100000 in
/-- (*fraction).divide: multiply with the parts of g changed over. -/
theorem fracDiv_any (c : Nat) (f f' : Bool) (a b a' b' : Option Addr) (ba oa n ca bb ob m cb ba' oa' n' ca' bb' ob' m' cb' : Nat) (X Y X' Y' : Nat → Nat) (w : World) (hn : n ≤ 1048576) (hm : m ≤ 1048576) (hn' : n' ≤ 1048576) (hm' : m' ≤ 1048576)
    (hX : Limbs w a ba oa n X) (hY : Limbs w b bb ob m Y) (hX' : Limbs w a' ba' oa' n' X') (hY' : Limbs w b' bb' ob' m' Y') (hXl : ∀ j, j < n → X j < 4294967296) (hYl : ∀ j, j < m → Y j < 4294967296) (hXl' : ∀ j, j < n' → X' j < 4294967296) (hYl' : ∀ j, j < m' → Y' j < 4294967296)
    (ea : 0 < n → ba ≠ c) (eb : 0 < m → bb ≠ c) (ea' : 0 < n' → ba' ≠ c) (eb' : 0 < m' → bb' ≠ c) (B : Box3 w c (.bool f) (.slice a n ca) (.slice b m cb)) :
    Calls Tryd.prog 89 #[.pointer (some ⟨c, 0, none⟩), .agg #[.bool f', .slice a' n' ca', .slice b' m' cb']] w fun e w' => e = .returned (.tuple #[]) ∧ ∃ v1 v2 g h, Box3 w' c (.bool (f != f')) v1 v2 ∧
      NatAt w' v1 g (lv X n * lv Y' m') (n + m') ∧ NatAt w' v2 h (lv Y m * lv X' n') (m + n') ∧ w.heap.size ≤ g ∧ g < h ∧ h < w'.heap.size ∧ Oth c w w' := by
  have sA : w.Since w.heap.size (w.alloc (.cells #[.bool f', .slice a' n' ca', .slice b' m' cb'] 72)) := (World.Since.refl _ _).alloc (Nat.le_refl _) _
  have gA := Box3.new w (.bool f') (.slice a' n' ca') (.slice b' m' cb') 72
  have hcl := B.lt
  have BA := B.keep sA
  have z1 := gA.lt
  go_enter Tryd.func89, Tryd.ntmps89
  go_wp2_with fail
  generalize w.alloc (.cells #[.bool f', .slice a' n' ca', .slice b' m' cb'] 72) = w1 at *
  refine (fracMul_any c f f' a b b' a' ba oa n ca bb ob m cb bb' ob' m' cb' ba' oa' n' ca' X Y Y' X' w1 hn hm hm' hn' (hX.keep sA) (hY.keep sA) (hY'.keep sA) (hX'.keep sA) hXl hYl hYl' hXl' ea eb eb' ea' BA).mono ?_
  rintro e w2 ⟨rfl, v1, v2, g, h, B2, N2, D2, b1, b2, b3, O2⟩
  go_wp2
  go_end0
  exact ⟨rfl, v1, v2, g, h, B2, N2, D2, by omega, b2, b3, (Oth.ofSince c sA).trans O2⟩

set_option maxHeartbeats 1600000 in
set_option maxRecDepth 100000 in
theorem quotientOf_any (f f' : Bool) (a b a' b' : Option Addr) (ba oa n ca bb ob m cb ba' oa' n' ca' bb' ob' m' cb' : Nat) (X Y X' Y' : Nat → Nat) (w : World) (hw : 1 < w.heap.size) (hT : Tab w) (hn : n + m' ≤ 1048576) (hm : m + n' ≤ 1048576) (h0 : 0 < n')
    (R : RIn w a b ba oa n ca bb ob m cb X Y) (R' : RIn w a' b' ba' oa' n' ca' bb' ob' m' cb' X' Y') :
    Calls Tryd.prog 58 #[.agg #[.bool f, .slice a n ca, .slice b m cb], .agg #[.bool f', .slice a' n' ca', .slice b' m' cb']] w fun e w' => ∃ v, e = .returned v ∧
      RatV w' v ((f != f') && lv X n * lv Y' m' != 0) (lv X n * lv Y' m' / Nat.gcd (lv X n * lv Y' m') (lv Y m * lv X' n')) (lv Y m * lv X' n' / Nat.gcd (lv X n * lv Y' m') (lv Y m * lv X' n')) w.heap.size 1048578 ∧ w.Since w.heap.size w' := by
  have sA : w.Since w.heap.size (((w.alloc (.cells #[.bool f, .slice a n ca, .slice b m cb] 31)).alloc (.cells #[.bool f', .slice a' n' ca', .slice b' m' cb'] 31)).alloc (.cells #[.bool false, .slice none 0 0, .slice none 0 0] 31)) := (((World.Since.refl _ _).alloc (Nat.le_refl _) _).alloc (by simp) _).alloc (by simp; omega) _
  have zA : (((w.alloc (.cells #[.bool f, .slice a n ca, .slice b m cb] 31)).alloc (.cells #[.bool f', .slice a' n' ca', .slice b' m' cb'] 31)).alloc (.cells #[.bool false, .slice none 0 0, .slice none 0 0] 31)).heap.size = w.heap.size + 1 + 1 + 1 := by simp
  have pA : Box3 (((w.alloc (.cells #[.bool f, .slice a n ca, .slice b m cb] 31)).alloc (.cells #[.bool f', .slice a' n' ca', .slice b' m' cb'] 31)).alloc (.cells #[.bool false, .slice none 0 0, .slice none 0 0] 31)) (w.heap.size + 1) (.bool f') (.slice a' n' ca') (.slice b' m' cb') := by
    have := (Box3.new (w.alloc (.cells #[.bool f, .slice a n ca, .slice b m cb] 31)) (.bool f') (.slice a' n' ca') (.slice b' m' cb') 31).keep ((World.Since.refl _ _).alloc (Nat.le_refl _) (.cells #[.bool false, .slice none 0 0, .slice none 0 0] 31))
    simpa using this
  have rA : Box3 (((w.alloc (.cells #[.bool f, .slice a n ca, .slice b m cb] 31)).alloc (.cells #[.bool f', .slice a' n' ca', .slice b' m' cb'] 31)).alloc (.cells #[.bool false, .slice none 0 0, .slice none 0 0] 31)) (w.heap.size + 1 + 1) (.bool false) (.slice none 0 0) (.slice none 0 0) := by
    have := Box3.new ((w.alloc (.cells #[.bool f, .slice a n ca, .slice b m cb] 31)).alloc (.cells #[.bool f', .slice a' n' ca', .slice b' m' cb'] 31)) (.bool false) (.slice none 0 0) (.slice none 0 0) 31
    simpa using this
  have m1 := R.m0
  have m1' := R'.m0
  go_enter Tryd.func58, Tryd.ntmps58
  go_wp2_with fail
  generalize (((w.alloc (.cells #[.bool f, .slice a n ca, .slice b m cb] 31)).alloc (.cells #[.bool f', .slice a' n' ca', .slice b' m' cb'] 31)).alloc (.cells #[.bool false, .slice none 0 0, .slice none 0 0] 31)) = w1 at *
  refine (fractionOf_any f a b ba oa n ca bb ob m cb X Y w1 (by omega) (by omega) R.nc R.mc (R.keep sA).LX (R.keep sA).LY R.pX R.pY).mono ?_
  rintro e w2 ⟨rfl, s2⟩
  have S2 : w.Since w.heap.size w2 := sA.trans (sinceMono s2 sA.size)
  have z2 := s2.size
  have p2 := pA.keep s2
  have r2 := rA.keep s2
  clear pA rA s2
  have t3 : w2.Since w2.heap.size (w2.alloc (.cells #[.bool f, .slice a n ca, .slice b m cb] 72)) := (World.Since.refl _ _).alloc (Nat.le_refl _) _
  have c3 := Box3.new w2 (.bool f) (.slice a n ca) (.slice b m cb) 72
  have p3 := p2.keep t3
  have r3 := r2.keep t3
  have S3 : w.Since w.heap.size (w2.alloc (.cells #[.bool f, .slice a n ca, .slice b m cb] 72)) := S2.trans (sinceMono t3 S2.size)
  have k0 := p3.c0
  have k1 := p3.c1
  have k2 := p3.c2
  go_wp2_with fail
  generalize w2.alloc (.cells #[.bool f, .slice a n ca, .slice b m cb] 72) = w3 at *
  refine (fractionOf_any f' a' b' ba' oa' n' ca' bb' ob' m' cb' X' Y' w3 (by omega) (by omega) R'.nc R'.mc (R'.keep S3).LX (R'.keep S3).LY R'.pX R'.pY).mono ?_
  rintro e w4 ⟨rfl, s4⟩
  have S4 : w.Since w.heap.size w4 := S3.trans (sinceMono s4 S3.size)
  have c4 := c3.keep s4
  have r4 := r3.keep s4
  have R4 := R.keep S4
  have R4' := R'.keep S4
  have zc : w.heap.size ≤ w2.heap.size := by omega
  have lX : 0 < n → ba < w.heap.size := R.LX.lt
  have lY : 0 < m → bb < w.heap.size := R.LY.lt
  have lX' : 0 < n' → ba' < w.heap.size := R'.LX.lt
  have lY' : 0 < m' → bb' < w.heap.size := R'.LY.lt
  have hDD : 0 < lv Y m * lv X' n' := Nat.mul_pos R.den (show 0 < lv X' n' by rcases Nat.eq_zero_or_pos (lv X' n') with e | e; exact absurd ((lv_zero R'.pX).2 e) (by omega); exact e)
  clear k0 k1 k2 p3 p2 r2 c3 r3 s4
  go_wp2_with fail
  refine (fracDiv_any w2.heap.size f f' a b a' b' ba oa n ca bb ob m cb ba' oa' n' ca' bb' ob' m' cb' X Y X' Y' w4 (by omega) (by omega) (by omega) (by omega) R4.LX R4.LY R4'.LX R4'.LY R.lX R.lY R'.lX R'.lY
    (fun h => by have := lX h; omega) (fun h => by have := lY h; omega) (fun h => by have := lX' h; omega) (fun h => by have := lY' h; omega) c4).mono ?_
  rintro e w5 ⟨rfl, v1, v2, g, h, c5, N5, D5, b5, b6, b7, O5⟩
  have hcl := c4.lt
  have r5 := r4.oth O5 (by omega)
  have S5 : w.Since w.heap.size w5 := S4.trans (sinceMono (O5.since (by omega)) zc)
  have T5 := hT.stay hw S5
  clear R4 R4' R R' lX lY lX' lY'
  go_wp2_with fail
  refine (normalise_any w2.heap.size (f != f') v1 v2 g h (lv X n * lv Y' m') (lv Y m * lv X' n') (w.heap.size + 1 + 1 + 1) w5 (Nat.lt_of_lt_of_le hw S5.size) T5 c5 (N5.more hn) (D5.more hm) (by omega) (by omega) b7 (by omega) (by omega) (by omega) (by omega) (by omega) (by omega) hDD).mono ?_
  rintro e w6 ⟨v, rfl, ⟨x1, x2, g6, h6, rfl, N6, D6, y1, y2, y3⟩, s6⟩
  have rB := r5.since s6 (by omega)
  have N6' := N6
  have D6' := D6
  obtain ⟨a1, q1, c1, Y1, rfl, -⟩ := N6
  obtain ⟨a2, q2, c2, Y2, rfl, -⟩ := D6
  have S6 : w.Since w.heap.size w6 := S5.trans (sinceMono s6 (by omega))
  have u0 := rB.c0
  have u1 := rB.c1
  have u2 := rB.c2
  have uf0 := rB.f 0
  have uf1 := rB.f 1
  have uf2 := rB.f 2
  obtain ⟨neg, hneg⟩ : ∃ neg, (f != f' && lv X n * lv Y' m' != 0) = neg := ⟨_, rfl⟩
  rw [hneg]
  have hneg := hide hneg
  go_wp2
  have rC := ((rB.set0 (.bool neg)).set1 (.slice a1 q1 c1)).set2 (.slice a2 q2 c2)
  refine bodyPost_ret (results_box3 rfl _ _ _ _ _ _ rfl rC) rfl ?_
  have M : Marked w6 _ (w.heap.size + 1 + 1) := (((Marked.refl w6 _).setCell 0 (.bool neg)).setCell 1 (.slice a1 q1 c1)).setCell 2 (.slice a2 q2 c2)
  exact ⟨_, rfl, ⟨_, _, g6, h6, by rw [hneg.out], N6'.marked M (by omega), D6'.marked M (by omega), by omega, by omega, y3⟩, S6.trans (M.since (by omega))⟩

end Go.Proofs.YtklkohdcilnchabDoor

namespace Go.Proofs.YtklkohdcilnchabDoor
open Go.RowKit

/-- A struct in a box and a plain second result. -/
theorem results_box3_tmp {fn : Func} {p u : Tmp} (h : fn.results = #[.cell p 31, .tmp u]) (tmps : Array Value) (w : World) (c : Nat) (x y z : Value) (hp : tmps.getD p undef = .pointer (some ⟨c, 0, none⟩)) (B : Box3 w c x y z) :
    (results fn tmps).run Tryd.prog w = .ok (.tuple #[.agg #[x, y, z], tmps.getD u undef]) w := by
  have hl := run_loadVar_mid (P := Tryd.prog) w c 0 31 [x, y, z] _ (fun j v hv => by
    rcases j with _ | _ | _ | j
    · simp at hv; subst hv; exact B.c0
    · simp at hv; subst hv; exact B.c1
    · simp at hv; subst hv; exact B.c2
    · simp at hv) Tryd.underlying31 rfl ratInfo
  rw [results_cell_tmp h, hp]
  simp [asAddr, hl, Result.andThen]

set_option maxHeartbeats 1600000 in
set_option maxRecDepth 100000 in
/-- impl.RatDiv where both are valid. -/
theorem implRatDiv_ok (f f' : Bool) (a b a' b' : Option Addr) (ba oa n ca bb ob m cb ba' oa' n' ca' bb' ob' m' cb' : Nat) (X Y X' Y' : Nat → Nat) (w : World) (hw : 1 < w.heap.size) (hT : Tab w) (hn : n + m' ≤ 1048576) (hm : m + n' ≤ 1048576) (h0 : 0 < n')
    (R : RIn w a b ba oa n ca bb ob m cb X Y) (R' : RIn w a' b' ba' oa' n' ca' bb' ob' m' cb' X' Y') (ok : ratOkB f X n Y m = true) (ok' : ratOkB f' X' n' Y' m' = true) :
    Calls Tryd.prog 29 #[.agg #[.bool f, .slice a n ca, .slice b m cb], .agg #[.bool f', .slice a' n' ca', .slice b' m' cb']] w fun e w' => ∃ v, e = .returned (.tuple #[v, .bool true]) ∧
      RatV w' v ((f != f') && lv X n * lv Y' m' != 0) (lv X n * lv Y' m' / Nat.gcd (lv X n * lv Y' m') (lv Y m * lv X' n')) (lv Y m * lv X' n' / Nat.gcd (lv X n * lv Y' m') (lv Y m * lv X' n')) w.heap.size 1048578 ∧ w.Since w.heap.size w' := by
  have sA : w.Since w.heap.size (((w.alloc (.cells #[.bool f, .slice a n ca, .slice b m cb] 31)).alloc (.cells #[.bool f', .slice a' n' ca', .slice b' m' cb'] 31)).alloc (.cells #[.bool false, .slice none 0 0, .slice none 0 0] 31)) := (((World.Since.refl _ _).alloc (Nat.le_refl _) _).alloc (by simp) _).alloc (by simp; omega) _
  have zA : (((w.alloc (.cells #[.bool f, .slice a n ca, .slice b m cb] 31)).alloc (.cells #[.bool f', .slice a' n' ca', .slice b' m' cb'] 31)).alloc (.cells #[.bool false, .slice none 0 0, .slice none 0 0] 31)).heap.size = w.heap.size + 1 + 1 + 1 := by simp
  have oA : Box3 (((w.alloc (.cells #[.bool f, .slice a n ca, .slice b m cb] 31)).alloc (.cells #[.bool f', .slice a' n' ca', .slice b' m' cb'] 31)).alloc (.cells #[.bool false, .slice none 0 0, .slice none 0 0] 31)) w.heap.size (.bool f) (.slice a n ca) (.slice b m cb) := ((Box3.new w _ _ _ _).keep ((World.Since.refl _ _).alloc (Nat.le_refl _) _)).keep ((World.Since.refl _ _).alloc (Nat.le_refl _) _)
  have pA : Box3 (((w.alloc (.cells #[.bool f, .slice a n ca, .slice b m cb] 31)).alloc (.cells #[.bool f', .slice a' n' ca', .slice b' m' cb'] 31)).alloc (.cells #[.bool false, .slice none 0 0, .slice none 0 0] 31)) (w.heap.size + 1) (.bool f') (.slice a' n' ca') (.slice b' m' cb') := by
    have := (Box3.new (w.alloc (.cells #[.bool f, .slice a n ca, .slice b m cb] 31)) (.bool f') (.slice a' n' ca') (.slice b' m' cb') 31).keep ((World.Since.refl _ _).alloc (Nat.le_refl _) (.cells #[.bool false, .slice none 0 0, .slice none 0 0] 31))
    simpa using this
  have rA : Box3 (((w.alloc (.cells #[.bool f, .slice a n ca, .slice b m cb] 31)).alloc (.cells #[.bool f', .slice a' n' ca', .slice b' m' cb'] 31)).alloc (.cells #[.bool false, .slice none 0 0, .slice none 0 0] 31)) (w.heap.size + 1 + 1) (.bool false) (.slice none 0 0) (.slice none 0 0) := by
    have := Box3.new ((w.alloc (.cells #[.bool f, .slice a n ca, .slice b m cb] 31)).alloc (.cells #[.bool f', .slice a' n' ca', .slice b' m' cb'] 31)) (.bool false) (.slice none 0 0) (.slice none 0 0) 31
    simpa using this
  have m1 := R.m0
  have m1' := R'.m0
  have TA := hT.stay hw sA
  go_enter Tryd.func29, Tryd.ntmps29
  go_wp2_with fail
  generalize (((w.alloc (.cells #[.bool f, .slice a n ca, .slice b m cb] 31)).alloc (.cells #[.bool f', .slice a' n' ca', .slice b' m' cb'] 31)).alloc (.cells #[.bool false, .slice none 0 0, .slice none 0 0] 31)) = w1 at *
  have RA := R.keep sA
  have RA' := R'.keep sA
  have wA := Nat.lt_of_lt_of_le hw sA.size
  have I1 := implRatOk_any f a b ba oa n ca bb ob m cb X Y w1 wA (by omega) (by omega) R.nc R.mc R.ac R.bc RA.LX RA.LY R.lX R.lY TA
  rw [ok] at I1
  refine I1.mono ?_
  rintro e w2 ⟨rfl, s2⟩
  have o2 := oA.keep s2
  have p2 := pA.keep s2
  have r2 := rA.keep s2
  have S2 : w.Since w.heap.size w2 := sA.trans (sinceMono s2 sA.size)
  have z2 := s2.size
  have RB' := RA'.keep s2
  have I2 := implRatOk_any f' a' b' ba' oa' n' ca' bb' ob' m' cb' X' Y' w2 (Nat.lt_of_lt_of_le hw S2.size) (by omega) (by omega) R'.nc R'.mc R'.ac R'.bc RB'.LX RB'.LY R'.lX R'.lY (hT.stay hw S2)
  rw [ok'] at I2
  clear I1 oA pA rA
  have k0 := p2.c0
  have k1 := p2.c1
  have k2 := p2.c2
  go_wp2_with fail
  refine I2.mono ?_
  rintro e w2b ⟨rfl, s2b⟩
  have hz0 : ((n' : Int) == 0) = false := by simp; omega
  have IZ := isZeroRat_any f' a' b' n' ca' m' cb' w2b
  rw [hz0] at IZ
  have p2b := p2.keep s2b
  clear k0 k1 k2
  have k0 := p2b.c0
  have k1 := p2b.c1
  have k2 := p2b.c2
  go_wp2_with fail
  refine IZ.mono ?_
  rintro e w3 ⟨rfl, s3b⟩
  have s3 : w2.Since w2.heap.size w3 := s2b.trans (sinceMono s3b s2b.size)
  clear IZ p2b s2b s3b
  have S3 : w.Since w.heap.size w3 := S2.trans (sinceMono s3 S2.size)
  have z3 := s3.size
  have o3 := o2.keep s3
  have p3 := p2.keep s3
  have r3 := r2.keep s3
  clear I2 k0 k1 k2 o2 p2 r2
  have k0 := p3.c0
  have k1 := p3.c1
  have k2 := p3.c2
  have j0 := o3.c0
  have j1 := o3.c1
  have j2 := o3.c2
  have JP := quotientOf_any f f' a b a' b' ba oa n ca bb ob m cb ba' oa' n' ca' bb' ob' m' cb' X Y X' Y' w3 (Nat.lt_of_lt_of_le hw S3.size) (hT.stay hw S3) hn hm h0 (R.keep S3) (R'.keep S3)
  go_wp2_with fail
  refine JP.mono ?_
  rintro e w6 ⟨v, rfl, ⟨x1, x2, g6, h6, rfl, N6, D6, y1, y2, y3⟩, s6⟩
  have rB := r3.keep s6
  have N6' := N6
  have D6' := D6
  obtain ⟨a1, q1, c1, Y1, rfl, -⟩ := N6
  obtain ⟨a2, q2, c2, Y2, rfl, -⟩ := D6
  have S6 : w.Since w.heap.size w6 := S3.trans (sinceMono s6 S3.size)
  have u0 := rB.c0
  have u1 := rB.c1
  have u2 := rB.c2
  have uf0 := rB.f 0
  have uf1 := rB.f 1
  have uf2 := rB.f 2
  obtain ⟨neg, hneg⟩ : ∃ neg, (f != f' && lv X n * lv Y' m' != 0) = neg := ⟨_, rfl⟩
  rw [hneg]
  have hneg := hide hneg
  clear JP
  go_wp2
  have rC := ((rB.set0 (.bool neg)).set1 (.slice a1 q1 c1)).set2 (.slice a2 q2 c2)
  refine bodyPost_ret (results_box3_tmp rfl _ _ _ _ _ _ rfl rC) rfl ?_
  have M : Marked w6 _ (w.heap.size + 1 + 1) := (((Marked.refl w6 _).setCell 0 (.bool neg)).setCell 1 (.slice a1 q1 c1)).setCell 2 (.slice a2 q2 c2)
  exact ⟨_, rfl, ⟨_, _, g6, h6, by rw [hneg.out], N6'.marked M (by omega), D6'.marked M (by omega), by omega, by omega, y3⟩, S6.trans (M.since (by omega))⟩

set_option maxHeartbeats 1600000 in
set_option maxRecDepth 100000 in
/-- impl.RatDiv where one is not valid. -/
theorem implRatDiv_no (f f' : Bool) (a b a' b' : Option Addr) (ba oa n ca bb ob m cb ba' oa' n' ca' bb' ob' m' cb' : Nat) (X Y X' Y' : Nat → Nat) (w : World) (hw : 1 < w.heap.size) (hT : Tab w) (hn : n + n' + m + m' ≤ 1048576)
    (R : RRaw w a b ba oa n ca bb ob m cb X Y) (R' : RRaw w a' b' ba' oa' n' ca' bb' ob' m' cb' X' Y') (ok : ¬ (ratOkB f X n Y m = true ∧ ratOkB f' X' n' Y' m' = true)) :
    Calls Tryd.prog 29 #[.agg #[.bool f, .slice a n ca, .slice b m cb], .agg #[.bool f', .slice a' n' ca', .slice b' m' cb']] w fun e w' => ∃ v, e = .returned (.tuple #[v, .bool false]) ∧ RatV w' v false 0 1 w.heap.size 4194304 ∧ w.Since w.heap.size w' := by
  have sA : w.Since w.heap.size (((w.alloc (.cells #[.bool f, .slice a n ca, .slice b m cb] 31)).alloc (.cells #[.bool f', .slice a' n' ca', .slice b' m' cb'] 31)).alloc (.cells #[.bool false, .slice none 0 0, .slice none 0 0] 31)) := (((World.Since.refl _ _).alloc (Nat.le_refl _) _).alloc (by simp) _).alloc (by simp; omega) _
  have zA : (((w.alloc (.cells #[.bool f, .slice a n ca, .slice b m cb] 31)).alloc (.cells #[.bool f', .slice a' n' ca', .slice b' m' cb'] 31)).alloc (.cells #[.bool false, .slice none 0 0, .slice none 0 0] 31)).heap.size = w.heap.size + 1 + 1 + 1 := by simp
  have pA : Box3 (((w.alloc (.cells #[.bool f, .slice a n ca, .slice b m cb] 31)).alloc (.cells #[.bool f', .slice a' n' ca', .slice b' m' cb'] 31)).alloc (.cells #[.bool false, .slice none 0 0, .slice none 0 0] 31)) (w.heap.size + 1) (.bool f') (.slice a' n' ca') (.slice b' m' cb') := by
    have := (Box3.new (w.alloc (.cells #[.bool f, .slice a n ca, .slice b m cb] 31)) (.bool f') (.slice a' n' ca') (.slice b' m' cb') 31).keep ((World.Since.refl _ _).alloc (Nat.le_refl _) (.cells #[.bool false, .slice none 0 0, .slice none 0 0] 31))
    simpa using this
  have rA : Box3 (((w.alloc (.cells #[.bool f, .slice a n ca, .slice b m cb] 31)).alloc (.cells #[.bool f', .slice a' n' ca', .slice b' m' cb'] 31)).alloc (.cells #[.bool false, .slice none 0 0, .slice none 0 0] 31)) (w.heap.size + 1 + 1) (.bool false) (.slice none 0 0) (.slice none 0 0) := by
    have := Box3.new ((w.alloc (.cells #[.bool f, .slice a n ca, .slice b m cb] 31)).alloc (.cells #[.bool f', .slice a' n' ca', .slice b' m' cb'] 31)) (.bool false) (.slice none 0 0) (.slice none 0 0) 31
    simpa using this
  have TA := hT.stay hw sA
  go_enter Tryd.func29, Tryd.ntmps29
  go_wp2_with fail
  generalize (((w.alloc (.cells #[.bool f, .slice a n ca, .slice b m cb] 31)).alloc (.cells #[.bool f', .slice a' n' ca', .slice b' m' cb'] 31)).alloc (.cells #[.bool false, .slice none 0 0, .slice none 0 0] 31)) = w1 at *
  have RA := R.keep sA
  have RA' := R'.keep sA
  have wA := Nat.lt_of_lt_of_le hw sA.size
  have I1 := implRatOk_any f a b ba oa n ca bb ob m cb X Y w1 wA (by omega) (by omega) R.nc R.mc R.ac R.bc RA.LX RA.LY R.lX R.lY TA
  by_cases h1 : ratOkB f X n Y m = true
  · have h2 : ratOkB f' X' n' Y' m' = false := by
      cases e : ratOkB f' X' n' Y' m'
      · rfl
      · exact absurd ⟨h1, e⟩ ok
    rw [h1] at I1
    clear h1 ok
    refine I1.mono ?_
    rintro e w2 ⟨rfl, s2⟩
    have p2 := pA.keep s2
    have r2 := rA.keep s2
    have S2 : w.Since w.heap.size w2 := sA.trans (sinceMono s2 sA.size)
    have z2 := s2.size
    have RB' := RA'.keep s2
    have I2 := implRatOk_any f' a' b' ba' oa' n' ca' bb' ob' m' cb' X' Y' w2 (Nat.lt_of_lt_of_le hw S2.size) (by omega) (by omega) R'.nc R'.mc R'.ac R'.bc RB'.LX RB'.LY R'.lX R'.lY (hT.stay hw S2)
    rw [h2] at I2
    clear I1 pA rA h2
    have k0 := p2.c0
    have k1 := p2.c1
    have k2 := p2.c2
    go_wp2_with fail
    refine I2.mono ?_
    rintro e w3 ⟨rfl, s3⟩
    have S3 : w.Since w.heap.size w3 := S2.trans (sinceMono s3 S2.size)
    have z3 := s3.size
    have r3 := r2.keep s3
    clear I2 k0 k1 k2 p2 r2
    go_wp2_with fail
    refine (zeroRat_any w3).mono ?_
    rintro e w6 ⟨v, rfl, ⟨x1, x2, g6, h6, rfl, N6, D6, y1, y2, y3⟩, s6⟩
    have rB := r3.keep s6
    have N6' := N6
    have D6' := D6
    obtain ⟨a1, q1, c1, Y1, rfl, -⟩ := N6
    obtain ⟨a2, q2, c2, Y2, rfl, -⟩ := D6
    have S6 : w.Since w.heap.size w6 := S3.trans (sinceMono s6 S3.size)
    have u0 := rB.c0
    have u1 := rB.c1
    have u2 := rB.c2
    have uf0 := rB.f 0
    have uf1 := rB.f 1
    have uf2 := rB.f 2
    go_wp2
    have rC := ((rB.set0 (.bool false)).set1 (.slice a1 q1 c1)).set2 (.slice a2 q2 c2)
    refine bodyPost_ret (results_box3_tmp rfl _ _ _ _ _ _ rfl rC) rfl ?_
    have M : Marked w6 _ (w.heap.size + 1 + 1) := (((Marked.refl w6 _).setCell 0 (.bool false)).setCell 1 (.slice a1 q1 c1)).setCell 2 (.slice a2 q2 c2)
    exact ⟨_, rfl, ⟨_, _, g6, h6, rfl, N6'.marked M (by omega), D6'.marked M (by omega), by omega, by omega, y3⟩, S6.trans (M.since (by omega))⟩
  · have h1' : ratOkB f X n Y m = false := by simpa using h1
    rw [h1'] at I1
    clear h1 h1' ok
    refine I1.mono ?_
    rintro e w3 ⟨rfl, s3⟩
    have S3 : w.Since w.heap.size w3 := sA.trans (sinceMono s3 sA.size)
    have z3 := s3.size
    have z2 : w1.heap.size ≤ w1.heap.size := Nat.le_refl _
    have r3 := rA.keep s3
    clear I1 pA rA
    go_wp2_with fail
    refine (zeroRat_any w3).mono ?_
    rintro e w6 ⟨v, rfl, ⟨x1, x2, g6, h6, rfl, N6, D6, y1, y2, y3⟩, s6⟩
    have rB := r3.keep s6
    have N6' := N6
    have D6' := D6
    obtain ⟨a1, q1, c1, Y1, rfl, -⟩ := N6
    obtain ⟨a2, q2, c2, Y2, rfl, -⟩ := D6
    have S6 : w.Since w.heap.size w6 := S3.trans (sinceMono s6 S3.size)
    have u0 := rB.c0
    have u1 := rB.c1
    have u2 := rB.c2
    have uf0 := rB.f 0
    have uf1 := rB.f 1
    have uf2 := rB.f 2
    go_wp2
    have rC := ((rB.set0 (.bool false)).set1 (.slice a1 q1 c1)).set2 (.slice a2 q2 c2)
    refine bodyPost_ret (results_box3_tmp rfl _ _ _ _ _ _ rfl rC) rfl ?_
    have M : Marked w6 _ (w.heap.size + 1 + 1) := (((Marked.refl w6 _).setCell 0 (.bool false)).setCell 1 (.slice a1 q1 c1)).setCell 2 (.slice a2 q2 c2)
    exact ⟨_, rfl, ⟨_, _, g6, h6, rfl, N6'.marked M (by omega), D6'.marked M (by omega), by omega, by omega, y3⟩, S6.trans (M.since (by omega))⟩


set_option maxHeartbeats 1600000 in
set_option maxRecDepth 100000 in
/-- impl.RatDiv by zero. -/
theorem implRatDiv_zero (f f' : Bool) (a b a' b' : Option Addr) (ba oa n ca bb ob m cb ba' oa' n' ca' bb' ob' m' cb' : Nat) (X Y X' Y' : Nat → Nat) (w : World) (hw : 1 < w.heap.size) (hT : Tab w) (hn : n + n' + m + m' ≤ 1048576)
    (R : RRaw w a b ba oa n ca bb ob m cb X Y) (R' : RRaw w a' b' ba' oa' n' ca' bb' ob' m' cb' X' Y') (h1 : ratOkB f X n Y m = true) (h2 : ratOkB f' X' n' Y' m' = true) (h0 : Hid (n' = 0)) :
    Calls Tryd.prog 29 #[.agg #[.bool f, .slice a n ca, .slice b m cb], .agg #[.bool f', .slice a' n' ca', .slice b' m' cb']] w fun e w' => ∃ v, e = .returned (.tuple #[v, .bool false]) ∧ RatV w' v false 0 1 w.heap.size 4194304 ∧ w.Since w.heap.size w' := by
  have sA : w.Since w.heap.size (((w.alloc (.cells #[.bool f, .slice a n ca, .slice b m cb] 31)).alloc (.cells #[.bool f', .slice a' n' ca', .slice b' m' cb'] 31)).alloc (.cells #[.bool false, .slice none 0 0, .slice none 0 0] 31)) := (((World.Since.refl _ _).alloc (Nat.le_refl _) _).alloc (by simp) _).alloc (by simp; omega) _
  have zA : (((w.alloc (.cells #[.bool f, .slice a n ca, .slice b m cb] 31)).alloc (.cells #[.bool f', .slice a' n' ca', .slice b' m' cb'] 31)).alloc (.cells #[.bool false, .slice none 0 0, .slice none 0 0] 31)).heap.size = w.heap.size + 1 + 1 + 1 := by simp
  have pA : Box3 (((w.alloc (.cells #[.bool f, .slice a n ca, .slice b m cb] 31)).alloc (.cells #[.bool f', .slice a' n' ca', .slice b' m' cb'] 31)).alloc (.cells #[.bool false, .slice none 0 0, .slice none 0 0] 31)) (w.heap.size + 1) (.bool f') (.slice a' n' ca') (.slice b' m' cb') := by
    have := (Box3.new (w.alloc (.cells #[.bool f, .slice a n ca, .slice b m cb] 31)) (.bool f') (.slice a' n' ca') (.slice b' m' cb') 31).keep ((World.Since.refl _ _).alloc (Nat.le_refl _) (.cells #[.bool false, .slice none 0 0, .slice none 0 0] 31))
    simpa using this
  have rA : Box3 (((w.alloc (.cells #[.bool f, .slice a n ca, .slice b m cb] 31)).alloc (.cells #[.bool f', .slice a' n' ca', .slice b' m' cb'] 31)).alloc (.cells #[.bool false, .slice none 0 0, .slice none 0 0] 31)) (w.heap.size + 1 + 1) (.bool false) (.slice none 0 0) (.slice none 0 0) := by
    have := Box3.new ((w.alloc (.cells #[.bool f, .slice a n ca, .slice b m cb] 31)).alloc (.cells #[.bool f', .slice a' n' ca', .slice b' m' cb'] 31)) (.bool false) (.slice none 0 0) (.slice none 0 0) 31
    simpa using this
  have TA := hT.stay hw sA
  go_enter Tryd.func29, Tryd.ntmps29
  go_wp2_with fail
  generalize (((w.alloc (.cells #[.bool f, .slice a n ca, .slice b m cb] 31)).alloc (.cells #[.bool f', .slice a' n' ca', .slice b' m' cb'] 31)).alloc (.cells #[.bool false, .slice none 0 0, .slice none 0 0] 31)) = w1 at *
  have RA := R.keep sA
  have RA' := R'.keep sA
  have wA := Nat.lt_of_lt_of_le hw sA.size
  have I1 := implRatOk_any f a b ba oa n ca bb ob m cb X Y w1 wA (by omega) (by omega) R.nc R.mc R.ac R.bc RA.LX RA.LY R.lX R.lY TA
  rw [h1] at I1
  clear h1
  refine I1.mono ?_
  rintro e w2 ⟨rfl, s2⟩
  have p2 := pA.keep s2
  have r2 := rA.keep s2
  have S2 : w.Since w.heap.size w2 := sA.trans (sinceMono s2 sA.size)
  have z2 := s2.size
  have RB' := RA'.keep s2
  have I2 := implRatOk_any f' a' b' ba' oa' n' ca' bb' ob' m' cb' X' Y' w2 (Nat.lt_of_lt_of_le hw S2.size) (by omega) (by omega) R'.nc R'.mc R'.ac R'.bc RB'.LX RB'.LY R'.lX R'.lY (hT.stay hw S2)
  rw [h2] at I2
  clear I1 pA rA h2
  have k0 := p2.c0
  have k1 := p2.c1
  have k2 := p2.c2
  go_wp2_with fail
  refine I2.mono ?_
  rintro e w2b ⟨rfl, s2b⟩
  have hz0 : ((n' : Int) == 0) = true := by have := h0.out; simp [this]
  have IZ := isZeroRat_any f' a' b' n' ca' m' cb' w2b
  rw [hz0] at IZ
  have p2b := p2.keep s2b
  clear k0 k1 k2 hz0
  have k0 := p2b.c0
  have k1 := p2b.c1
  have k2 := p2b.c2
  go_wp2_with fail
  refine IZ.mono ?_
  rintro e w3 ⟨rfl, s3b⟩
  have s3 : w2.Since w2.heap.size w3 := s2b.trans (sinceMono s3b s2b.size)
  clear IZ p2b s2b s3b
  have S3 : w.Since w.heap.size w3 := S2.trans (sinceMono s3 S2.size)
  have z3 := s3.size
  have r3 := r2.keep s3
  clear I2 k0 k1 k2 p2 r2
  go_wp2_with fail
  refine (zeroRat_any w3).mono ?_
  rintro e w6 ⟨v, rfl, ⟨x1, x2, g6, h6, rfl, N6, D6, y1, y2, y3⟩, s6⟩
  have rB := r3.keep s6
  have N6' := N6
  have D6' := D6
  obtain ⟨a1, q1, c1, Y1, rfl, -⟩ := N6
  obtain ⟨a2, q2, c2, Y2, rfl, -⟩ := D6
  have S6 : w.Since w.heap.size w6 := S3.trans (sinceMono s6 S3.size)
  have u0 := rB.c0
  have u1 := rB.c1
  have u2 := rB.c2
  have uf0 := rB.f 0
  have uf1 := rB.f 1
  have uf2 := rB.f 2
  go_wp2
  have rC := ((rB.set0 (.bool false)).set1 (.slice a1 q1 c1)).set2 (.slice a2 q2 c2)
  refine bodyPost_ret (results_box3_tmp rfl _ _ _ _ _ _ rfl rC) rfl ?_
  have M : Marked w6 _ (w.heap.size + 1 + 1) := (((Marked.refl w6 _).setCell 0 (.bool false)).setCell 1 (.slice a1 q1 c1)).setCell 2 (.slice a2 q2 c2)
  exact ⟨_, rfl, ⟨_, _, g6, h6, rfl, N6'.marked M (by omega), D6'.marked M (by omega), by omega, by omega, y3⟩, S6.trans (M.since (by omega))⟩

end Go.Proofs.YtklkohdcilnchabDoor

namespace Go.Proofs.YtklkohdcilnchabDoor
open Go.RowKit

set_option maxHeartbeats 1600000 in
set_option maxRecDepth 100000 in
/-- l1Copy of a Rat whose lists are not nil. -/
theorem l1Copy_any (f : Bool) (x y : Addr) (ba oa n ca bb ob m cb : Nat) (X Y : Nat → Nat) (w : World) (hn : n ≤ 1048576) (hm : m ≤ 1048576) (_hnc : n ≤ ca) (_hmc : m ≤ cb) (hX : Limbs w (some x) ba oa n X) (hY : Limbs w (some y) bb ob m Y) :
    Calls Tryd.prog 82 #[.agg #[.bool f, .slice (some x) n ca, .slice (some y) m cb]] w fun e w' => ∃ a1 a2 g h c1 c2, e = .returned (.agg #[.bool f, .slice a1 n c1, .slice a2 m c2]) ∧ n ≤ c1 ∧ m ≤ c2 ∧ (a1 = none → c1 = 0) ∧ (a2 = none → c2 = 0) ∧
      Limbs w' a1 g 0 n X ∧ Limbs w' a2 h 0 m Y ∧ (0 < n → ∀ o, w'.frozen? ⟨g, o, none⟩ = false) ∧ (0 < m → ∀ o, w'.frozen? ⟨h, o, none⟩ = false) ∧ w.heap.size ≤ g ∧ g < h ∧ h < w'.heap.size ∧ w.Since w.heap.size w' := by
  obtain ⟨i0, hi, hz0, hz1, hz2⟩ := info_parts Tryd.info49
  have sA : w.Since w.heap.size ((w.alloc (.cells #[.bool f, .slice (some x) n ca, .slice (some y) m cb] 31)).alloc (.cells #[.bool false, .slice none 0 0, .slice none 0 0] 31)) := ((World.Since.refl _ _).alloc (Nat.le_refl _) _).alloc (by simp) _
  have oA : Box3 ((w.alloc (.cells #[.bool f, .slice (some x) n ca, .slice (some y) m cb] 31)).alloc (.cells #[.bool false, .slice none 0 0, .slice none 0 0] 31)) w.heap.size (.bool f) (.slice (some x) n ca) (.slice (some y) m cb) := (Box3.new w _ _ _ _).keep ((World.Since.refl _ _).alloc (Nat.le_refl _) _)
  have tB : ((w.alloc (.cells #[.bool f, .slice (some x) n ca, .slice (some y) m cb] 31)).alloc (.cells #[.bool false, .slice none 0 0, .slice none 0 0] 31)).Since ((w.alloc (.cells #[.bool f, .slice (some x) n ca, .slice (some y) m cb] 31)).alloc (.cells #[.bool false, .slice none 0 0, .slice none 0 0] 31)).heap.size (((w.alloc (.cells #[.bool f, .slice (some x) n ca, .slice (some y) m cb] 31)).alloc (.cells #[.bool false, .slice none 0 0, .slice none 0 0] 31)).alloc (.cells #[] 49)) := (World.Since.refl _ _).alloc (Nat.le_refl _) _
  have SB := sA.trans (sinceMono tB sA.size)
  have X1 := hX.keep SB
  have own1 := World.ownsRow_made (e := 49) (size := 1) ((w.alloc (.cells #[.bool f, .slice (some x) n ca, .slice (some y) m cb] 31)).alloc (.cells #[.bool false, .slice none 0 0, .slice none 0 0] 31)) #[] 0 (Nat.le_refl _) (by decide) rfl
  have zA : ((w.alloc (.cells #[.bool f, .slice (some x) n ca, .slice (some y) m cb] 31)).alloc (.cells #[.bool false, .slice none 0 0, .slice none 0 0] 31)).heap.size = w.heap.size + 1 + 1 := by simp
  have own0 := World.ownsRow_made (e := 49) (size := 1) ((w.alloc (.cells #[.bool f, .slice (some x) n ca, .slice (some y) m cb] 31)).alloc (.cells #[.bool false, .slice none 0 0, .slice none 0 0] 31)) #[] 0 (Nat.le_refl _) (by decide) rfl
  rw [zA] at own1
  have zA' := zA
  have rA : Box3 ((w.alloc (.cells #[.bool f, .slice (some x) n ca, .slice (some y) m cb] 31)).alloc (.cells #[.bool false, .slice none 0 0, .slice none 0 0] 31)) (w.heap.size + 1) (.bool false) (.slice none 0 0) (.slice none 0 0) := by
    have := Box3.new (w.alloc (.cells #[.bool f, .slice (some x) n ca, .slice (some y) m cb] 31)) (.bool false) (.slice none 0 0) (.slice none 0 0) 31
    simpa using this
  have HZA := hide zA'
  clear zA zA'
  go_enter Tryd.func82, Tryd.ntmps82
  go_wp2_with (at_builtin; refine wpList_append_own _ rfl _ _ 22 rfl (w.heap.size + 1 + 1) 49 i0 (.int .u32 0) 1 4 Tryd.underlying22 hi hz0 hz1 hz2 rfl (by decide) _ 0 [] rfl own1 x n ca (ll X n) rfl (by rw [ll_len]; omega) (limbs_news X1) (ll_one X n) (by unfold maxLen; omega) (by omega) (by simp) ?_)
  intro v1 w2 own2 grow2 nn2
  have tC : ((w.alloc (.cells #[.bool f, .slice (some x) n ca, .slice (some y) m cb] 31)).alloc (.cells #[.bool false, .slice none 0 0, .slice none 0 0] 31)).Since ((w.alloc (.cells #[.bool f, .slice (some x) n ca, .slice (some y) m cb] 31)).alloc (.cells #[.bool false, .slice none 0 0, .slice none 0 0] 31)).heap.size w2 := tB.grown grow2 (Nat.le_trans (Nat.le_refl _) tB.size) (fun k hk => by
    have := own0.lt k (by rw [HZA.out]; exact hk)
    exact this.1)
  have SC : w.Since w.heap.size w2 := sA.trans (sinceMono tC sA.size)
  have o2 := oA.keep tC
  have r2 := rA.keep tC
  have HN := hide nn2
  clear grow2 own1 nn2
  generalize ((w.alloc (.cells #[.bool f, .slice (some x) n ca, .slice (some y) m cb] 31)).alloc (.cells #[.bool false, .slice none 0 0, .slice none 0 0] 31)) = wA at *
  have tD : w2.Since w2.heap.size (w2.alloc (.cells #[] 49)) := (World.Since.refl _ _).alloc (Nat.le_refl _) _
  have SD := SC.trans (sinceMono tD SC.size)
  have Y1 := hY.keep SD
  have own3 := World.ownsRow_made (e := 49) (size := 1) w2 #[] 0 (Nat.le_refl _) (by decide) rfl
  have o3 := o2.keep tD
  have k2 := o3.c2
  go_wp2_with (at_builtin; refine wpList_append_own _ rfl _ _ 22 rfl w2.heap.size 49 i0 (.int .u32 0) 1 4 Tryd.underlying22 hi hz0 hz1 hz2 rfl (by decide) _ 0 [] rfl own3 y m cb (ll Y m) rfl (by rw [ll_len]; omega) (limbs_news Y1) (ll_one Y m) (by unfold maxLen; omega) (by omega) tD.size ?_)
  intro v3 w4 own4 grow4 nn4
  have tE : w2.Since w2.heap.size w4 := tD.grown grow4 tD.size (fun k hk => (own3.lt k hk).1)
  have SE := SC.trans (sinceMono tE SC.size)
  have o4 := o2.keep tE
  have r4 := r2.keep tE
  obtain ⟨a1, g1, c1, rfl, m1, n1, b1, l1, L1, F1⟩ := own_limbs2 own2 HN.out
  obtain ⟨a2, g2, c2, rfl, m2, n2, b2, l2, L2, F2⟩ := own_limbs2 own4 nn4
  clear grow4 own3 nn4 k2 o3
  have j0 := o4.c0
  have u0 := r4.c0
  have u1 := r4.c1
  have u2 := r4.c2
  have uf0 := r4.f 0
  have uf1 := r4.f 1
  have uf2 := r4.f 2
  go_wp2
  have zC := tC.size
  have zE := tE.size
  have rC := ((r4.set0 (.bool f)).set1 (.slice a1 n c1)).set2 (.slice a2 m c2)
  refine bodyPost_ret (results_box3 rfl _ _ _ _ _ _ rfl rC) rfl ?_
  have M : Marked w4 _ (w.heap.size + 1) := (((Marked.refl w4 _).setCell 0 (.bool f)).setCell 1 (.slice a1 n c1)).setCell 2 (.slice a2 m c2)
  have hz := HZA.out
  have zM := M.size
  refine ⟨a1, a2, g1, g2, c1, c2, rfl, m1, m2, n1, n2, (L1.keep tE).marked M (fun _ => by omega), L2.marked M (fun _ => by omega), fun h0 o => ?_, fun h0 o => ?_, by omega, by omega, by omega, SE.trans (M.since (by omega))⟩
  · rw [M.frozenO (a := ⟨g1, o, none⟩) (by show g1 ≠ _; omega), tE.frozen (a := ⟨g1, o, none⟩) l1]; exact F1 h0 o
  · rw [M.frozenO (a := ⟨g2, o, none⟩) (by show g2 ≠ _; omega)]; exact F2 h0 o

end Go.Proofs.YtklkohdcilnchabDoor

namespace Go.Proofs.YtklkohdcilnchabDoor
open Go.RowKit

set_option maxHeartbeats 800000 in
set_option maxRecDepth 100000 in
theorem to_any (a : Option Addr) (b off n cap : Nat) (X : Nat → Nat) (w : World) (hn : n ≤ 1048576) (hX : Limbs w a b off n X) :
    Calls Tryd.prog 12 #[.slice a n cap] w fun e w' => e = .returned (.slice (some ⟨w.heap.size, 0, none⟩) n n) ∧ w.Since w.heap.size w' ∧ w'.rowIs w.heap.size 49 n (fun j => .int .u32 (X j)) := by
  have hmk := run_make_row' (P := Tryd.prog) 22 49 (.int .u32 0) 4 Tryd.underlying22 Tryd.info49 rfl .i64 .i64 n (by omega) (by omega)
  go_enter Tryd.func12, Tryd.ntmps12
  go_wp2
  clear hmk
  go_loopw [4] (fun i wr => ∃ k : Nat, k ≤ n ∧ i = .int .i64 k ∧ w.Since w.heap.size wr ∧ wr.rowIs w.heap.size 49 n (fun j => .int .u32 (if j < k then X j else 0))) (fun i _ => n - (intOf i).toNat)
  case atStart =>
    exact ⟨0, Nat.zero_le _, rfl, (World.Since.refl _ _).alloc (Nat.le_refl _) _, (World.rowIs_made w _ n 49).congr (fun j _ => by simp)⟩
  case round =>
    obtain ⟨k, hk, rfl, hs, hr⟩ := hrel
    by_cases hlt : k < n
    · obtain ⟨rfl, hc⟩ := hX k hlt
      have hb : b < w.heap.size := World.block_lt_of_cell? _ _ hc
      have g0 : wr.cell? ⟨b, off + k, none⟩ = some (.int .u32 (X k)) := by rw [hs.cell (a := ⟨b, off + k, none⟩) hb]; exact hc
      have g1 := hr.cell hlt
      have g2 := hr.frozen k
      go_wp2
      go_roundw
      case rel =>
        refine ⟨k + 1, by omega, by go_num, hs.setCell (Nat.le_refl _) _, (hr.set k _).congr (fun j _ => ?_)⟩
        by_cases e : j = k
        · subst e; simp
        · simp only [e, if_false]
          by_cases e2 : j < k
          · rw [if_pos e2, if_pos (by omega)]
          · rw [if_neg e2, if_neg (by omega)]
      case measure => simp [intOf]; omega
    · have e : k = n := by omega
      subst e
      go_wp2
      go_ret
      exact ⟨rfl, hs, hr.congr (fun j hj => by simp [hj])⟩

end Go.Proofs.YtklkohdcilnchabDoor

namespace Go.Proofs.YtklkohdcilnchabDoor
open Go.RowKit

set_option maxHeartbeats 800000 in
set_option maxRecDepth 100000 in
theorem eq_true (a a' : Option Addr) (b off b' off' n cap cap' : Nat) (X : Nat → Nat) (w : World) (hn : n ≤ 4194304) (hX : Limbs w a b off n X) (hY : Limbs w a' b' off' n X) :
    Calls Tryd.prog 14 #[.slice a n cap, .slice a' n cap'] w fun e w' => e = .returned (.bool true) ∧ Same w w' := by
  go_enter Tryd.func14, Tryd.ntmps14
  go_wp2
  go_loopw [5] (fun i wr => ∃ k : Nat, k ≤ n ∧ i = .int .i64 k ∧ Same w wr) (fun i _ => n - (intOf i).toNat)
  case atStart => exact ⟨0, Nat.zero_le _, rfl, Same.refl _⟩
  case round =>
    obtain ⟨k, hk, rfl, hs⟩ := hrel
    by_cases hlt : k < n
    · obtain ⟨rfl, hc⟩ := hX k hlt
      obtain ⟨rfl, hc'⟩ := hY k hlt
      have g0 : wr.cell? ⟨b, off + k, none⟩ = some (.int .u32 (X k)) := by rw [hs.cell]; exact hc
      have g1 : wr.cell? ⟨b', off' + k, none⟩ = some (.int .u32 (X k)) := by rw [hs.cell]; exact hc'
      have hz : (k : Int) < (n : Int) := by omega
      go_wp2
      go_quiet (fail)
      go_wp2
      go_roundw
      case rel => exact ⟨k + 1, by omega, by go_num, hs.drewN _⟩
      case measure => simp [intOf]; omega
    · go_wp2
      go_ret
      exact ⟨rfl, hs⟩

set_option maxHeartbeats 800000 in
set_option maxRecDepth 100000 in
theorem mark_any (a : Option Addr) (b n cap : Nat) (X : Nat → Nat) (k0 : Nat) (w : World) (hn : n ≤ 4194304) (hk0 : k0 ≤ 16777216) (hX : Limbs w a b 0 n X) (hf : 0 < n → ∀ o, w.frozen? ⟨b, o, none⟩ = false) :
    Calls Tryd.prog 15 #[.slice a n cap, .int .i64 k0] w fun e w' => e = .returned (.int .i64 ((k0 + n : Nat) : Int)) ∧ Marked w w' b ∧ Limbs w' a b 0 n (fun j => k0 + j) := by
  go_enter Tryd.func15, Tryd.ntmps15
  go_wp2
  go_loopw [1, 5] (fun q i wr => ∃ k : Nat, k ≤ n ∧ i = .int .i64 k ∧ q = .int .i64 ((k0 + k : Nat) : Int) ∧ Marked w wr b ∧ Limbs wr a b 0 n (fun j => if j < k then k0 + j else X j)) (fun _ i _ => n - (intOf i).toNat)
  case atStart => exact ⟨0, Nat.zero_le _, rfl, rfl, Marked.refl _ _, fun j hj => by simpa using hX j hj⟩
  case round =>
    obtain ⟨k, hk, rfl, rfl, hs, hr⟩ := hrel
    by_cases hlt : k < n
    · obtain ⟨rfl, hc⟩ := hr k hlt
      have g0 : wr.cell? ⟨b, k, none⟩ = some (.int .u32 ((X k : Nat) : Int)) := by simpa using hc
      have g1 : wr.frozen? ⟨b, k, none⟩ = false := by rw [hs.frozen]; exact hf (by omega) k
      clear hc
      go_wp2
      go_roundw
      case rel =>
        refine ⟨k + 1, by omega, by go_num, by go_num, hs.setCell _ _, fun j hj => ⟨rfl, ?_⟩⟩
        go_light
        by_cases e : j = k
        · subst e
          rw [Nat.zero_add, World.cell?_setCell_same _ _ _ g0]
          simp
        · rw [World.cell?_setCell_other _ _ _ _ (fun h => by have := congrArg Addr.off h; simp at this; omega)]
          have := (hr j hj).2
          simp only [this]
          by_cases e2 : j < k
          · rw [if_pos e2, if_pos (by omega)]
          · rw [if_neg e2, if_neg (by omega)]
      case measure => simp [intOf]; omega
    · have e : k = n := by omega
      subst e
      go_wp2
      go_ret
      exact ⟨rfl, hs, fun j hj => by have := hr j hj; simpa [hj] using this⟩

set_option maxHeartbeats 800000 in
set_option maxRecDepth 100000 in
theorem held_any (a : Option Addr) (b off n cap : Nat) (k0 : Nat) (w : World) (hn : n ≤ 4194304) (hk0 : k0 ≤ 16777216) (hX : Limbs w a b off n (fun j => k0 + j)) :
    Calls Tryd.prog 16 #[.slice a n cap, .int .i64 k0] w fun e w' => e = .returned (.int .i64 ((k0 + n : Nat) : Int)) ∧ w' = w := by
  go_enter Tryd.func16, Tryd.ntmps16
  go_wp2
  go_loop [1, 5] (fun q i => ∃ k : Nat, k ≤ n ∧ i = .int .i64 k ∧ q = .int .i64 ((k0 + k : Nat) : Int)) (fun _ i => n - (intOf i).toNat)
  case atStart => exact ⟨0, Nat.zero_le _, rfl, rfl⟩
  case round =>
    obtain ⟨k, hk, rfl, rfl⟩ := hrel
    by_cases hlt : k < n
    · obtain ⟨rfl, hc⟩ := hX k hlt
      go_wp2
      go_round
      case rel => exact ⟨k + 1, by omega, by go_num, by go_num⟩
      case measure => simp [intOf]; omega
    · have e : k = n := by omega
      subst e
      go_wp2
      go_ret
      exact ⟨rfl, rfl⟩

end Go.Proofs.YtklkohdcilnchabDoor
