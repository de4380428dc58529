import Derived.Test.YtlpabmcebpppfaaGreatDoorOwnP28
import Derived.Test.YtlpabmcebpppfaaGreatDoorOwnP26
namespace Go.Proofs.YtlpabmcebpppfaaGreatDoor
open Go.RowKit

set_option maxHeartbeats 6400000 in
set_option maxRecDepth 100000 in
/-- spec.l2Valid. -/
theorem l2Valid_any (g : GraphD) (aL aH aN : Option Addr) (lo kL kH kN : Nat) (w : World) (hd : g.size ≤ 1048576) (H : GraL w lo g aL aH aN kL kH kN) :
    Calls Tryz.prog 17 #[.agg #[.int .i64 g.inn, .int .i64 g.rounds, .slice aL g.nl kL, .slice aH g.nh kH, .slice aN g.nn kN, .int .i64 g.out]] w fun e w' => (∃ n X c a, Outc g n X c a ∧ e = .returned (.bool (decide (c = 0)))) ∧ w.Since w.heap.size w' := by
  have sA : w.Since w.heap.size (w.alloc (.cells #[.int .i64 g.inn, .int .i64 g.rounds, .slice aL g.nl kL, .slice aH g.nh kH, .slice aN g.nn kN, .int .i64 g.out] 31)) := (World.Since.refl _ _).alloc (Nat.le_refl _) _
  have bA := Box6.new w (.int .i64 g.inn) (.int .i64 g.rounds) (.slice aL g.nl kL) (.slice aH g.nh kH) (.slice aN g.nn kN) (.int .i64 g.out) 31
  go_enter Tryz.func17, Tryz.ntmps17
  go_wp2_with fail
  generalize w.alloc (.cells #[.int .i64 g.inn, .int .i64 g.rounds, .slice aL g.nl kL, .slice aH g.nh kH, .slice aN g.nn kN, .int .i64 g.out] 31) = wA at *
  refine (specCheckGraph_any g aL aH aN lo kL kH kN wA hd (H.keep sA)).mono ?_
  rintro e w0 ⟨⟨n, X, c, a, ad, cap, b, rfl, O, -⟩, s0⟩
  have S0 := sA.trans (sinceMono s0 sA.size)
  have O := hide O
  by_cases hc : c = 0
  · subst hc
    go_wp2
    go_ret
    exact ⟨⟨n, X, 0, a, O.out, by simp⟩, S0⟩
  · go_wp2
    go_ret
    exact ⟨⟨n, X, c, a, O.out, by simp [hc]⟩, S0⟩

set_option maxHeartbeats 6400000 in
set_option maxRecDepth 100000 in
theorem specGraphText_no (g : GraphD) (aL aH aN : Option Addr) (lo kL kH kN : Nat) (w : World) (hd : g.size ≤ 1048576) (H : GraL w lo g aL aH aN kL kH kN) (hno : ¬ GraV g) :
    Calls Tryz.prog 6 #[.agg #[.int .i64 g.inn, .int .i64 g.rounds, .slice aL g.nl kL, .slice aH g.nh kH, .slice aN g.nn kN, .int .i64 g.out]] w fun e w' => e = .returned (.string ⟨#[]⟩) ∧ w.Since w.heap.size w' := by
  have sA : w.Since w.heap.size (w.alloc (.cells #[.int .i64 g.inn, .int .i64 g.rounds, .slice aL g.nl kL, .slice aH g.nh kH, .slice aN g.nn kN, .int .i64 g.out] 31)) := (World.Since.refl _ _).alloc (Nat.le_refl _) _
  have bA := Box6.new w (.int .i64 g.inn) (.int .i64 g.rounds) (.slice aL g.nl kL) (.slice aH g.nh kH) (.slice aN g.nn kN) (.int .i64 g.out) 31
  go_enter Tryz.func6, Tryz.ntmps6
  go_wp2_with fail
  generalize w.alloc (.cells #[.int .i64 g.inn, .int .i64 g.rounds, .slice aL g.nl kL, .slice aH g.nh kH, .slice aN g.nn kN, .int .i64 g.out] 31) = wA at *
  refine (l2Valid_any g aL aH aN lo kL kH kN wA hd (H.keep sA)).mono ?_
  rintro e w1 ⟨⟨n, Y, c, a, O, rfl⟩, s1⟩
  have q : decide (c = 0) = false := by
    simp only [decide_eq_false_iff_not]
    intro e
    subst e
    exact hno (GraV.of O)
  rw [q]
  clear q O hno
  go_wp2
  go_ret
  exact ⟨rfl, sA.trans (sinceMono s1 sA.size)⟩

/-- The text ahead of the box. -/
def headB (g : GraphD) : List UInt8 := [103, 114, 97, 112, 104, 32] ++ (decB g.inn ++ (32 :: (decB g.rounds ++ [10])))

theorem graphB_eq (g : GraphD) : graphB g = headB g ++ (boxB g g.inn.toNat ++ (nodesB g g.nn ++ ([111, 117, 116, 112, 117, 116, 32] ++ (decB g.out ++ [10])))) := by
  unfold graphB headB; simp

/-- Bounds of a valid graph's text. -/
structure TxtP (g : GraphD) : Prop where
  head : (headB g).length ≤ 200
  box : ∀ j : Nat, (j : Int) ≤ g.inn → (boxB g j).length ≤ 100000000
  nodes : ∀ k, k ≤ g.nn → (nodesB g k).length ≤ 100000000
  node : ∀ k, k < g.nn → (nodeB (g.N k)).length ≤ 100000000
  out : (decB g.out).length ≤ 65
  lo : ∀ j : Nat, (j : Int) < g.inn → (g.Lo j).txt.length ≤ 100000000
  hi : ∀ j : Nat, (j : Int) < g.inn → (g.Hi j).txt.length ≤ 100000000

theorem TxtP.of {g : GraphD} {aL aH aN : Option Addr} {lo kL kH kN : Nat} {w : World} (E : GraV g) (hd : g.size ≤ 1048576) (H : GraL w lo g aL aH aN kL kH kN) : TxtP g := by
  have hp := E.head
  have i1 := hp.i1
  have i2 := hp.i2
  have r1 := hp.r1
  have el := hp.l
  have eh := hp.h
  have nn := hp.n
  have o1 := E.o1
  unfold GraphD.size at hd
  obtain ⟨bL, oL, -, LL⟩ := H.LL
  obtain ⟨bH, oH, -, LH⟩ := H.LH
  obtain ⟨bN, oN, -, LN⟩ := H.LN
  have hN : ∀ k, k < g.nn → (nodeB (g.N k)).length ≤ 37 * (g.N k).size + 271 := fun k hk => by
    obtain ⟨-, a1, k1, M⟩ := LN k hk
    obtain ⟨ba, oa, -, LV⟩ := M.L.LV
    exact node_lim M.L.ia.2 M.L.ib.2 M.L.ik.2 M.L.is.2 LV.lim
  refine ⟨?_, fun j hj => ?_, fun k hk => ?_, fun k hk => ?_, dec_lim (by omega), fun j hj => ?_, fun j hj => ?_⟩
  · have h1 := dec_lim (show g.inn ≤ 9223372036854775807 by omega)
    have h2 := dec_lim (show g.rounds ≤ 9223372036854775807 by omega)
    unfold headB
    simp only [List.length_append, List.length_cons, List.length_nil]
    omega
  · have h1 := box_lim (g := g) (j := j) (fun c hc => LL.lim c (by omega)) (fun c hc => LH.lim c (by omega))
    have h2 := szR_mono (R := g.Lo) (show j ≤ g.nl by omega)
    have h3 := szR_mono (R := g.Hi) (show j ≤ g.nh by omega)
    omega
  · have h1 := nodes_lim (g := g) (k := k) (fun j hj => hN j (by omega))
    have h2 := szN_mono (A := g.N) hk
    omega
  · have h1 := hN k hk
    have h2 := szN_at (A := g.N) hk
    omega
  · have h1 := txt_lim (LL.lim j (by omega))
    have h2 := szR_at (R := g.Lo) (show j < g.nl by omega)
    omega
  · have h1 := txt_lim (LH.lim j (by omega))
    have h2 := szR_at (R := g.Hi) (show j < g.nh by omega)
    omega

end Go.Proofs.YtlpabmcebpppfaaGreatDoor

namespace Go.Proofs.YtlpabmcebpppfaaGreatDoor
open Go.RowKit

set_option maxHeartbeats 6400000 in
set_option maxRecDepth 100000 in
theorem specGraphText_okA (g : GraphD) (bL oL bH oH : Nat) (aN : Option Addr) (lo kL kH kN : Nat) (w : World) (hd : g.size ≤ 1048576) (H : GraL w lo g (some ⟨bL, oL, none⟩) (some ⟨bH, oH, none⟩) aN kL kH kN) (E : GraV g)
    (LL : Rats w lo (some ⟨bL, oL, none⟩) bL oL g.nl g.Lo) (LH : Rats w lo (some ⟨bH, oH, none⟩) bH oH g.nh g.Hi) :
    Calls Tryz.prog 6 #[.agg #[.int .i64 g.inn, .int .i64 g.rounds, .slice (some ⟨bL, oL, none⟩) g.nl kL, .slice (some ⟨bH, oH, none⟩) g.nh kH, .slice aN g.nn kN, .int .i64 g.out]] w fun e w' => e = .returned (.string ⟨(graphB g).toArray⟩) ∧ w.Since w.heap.size w' := by
  have TP := hide (TxtP.of E hd H)
  have sA : w.Since w.heap.size (w.alloc (.cells #[.int .i64 g.inn, .int .i64 g.rounds, .slice (some ⟨bL, oL, none⟩) g.nl kL, .slice (some ⟨bH, oH, none⟩) g.nh kH, .slice aN g.nn kN, .int .i64 g.out] 31)) := (World.Since.refl _ _).alloc (Nat.le_refl _) _
  have bA := Box6.new w (.int .i64 g.inn) (.int .i64 g.rounds) (.slice (some ⟨bL, oL, none⟩) g.nl kL) (.slice (some ⟨bH, oH, none⟩) g.nh kH) (.slice aN g.nn kN) (.int .i64 g.out) 31
  have i1 := E.head.i1
  have i2 := E.head.i2
  have r0 := E.head.r0
  have r1 := E.head.r1
  have el := E.head.l
  have eh := E.head.h
  have o0 := E.o0
  have o1 := E.o1
  have nn := E.head.n
  have ts := hd
  unfold GraphD.size at ts
  have y1 := dec_lim (show g.inn ≤ 9223372036854775807 by omega)
  have y2 := dec_lim (show g.rounds ≤ 9223372036854775807 by omega)
  have x0 : 6 + (decB g.inn).length ≤ 9223372036854775807 := by omega
  have u0 : ¬ 9223372036854775807 < 6 + (decB g.inn).length := by omega
  have x1 : 6 + (decB g.inn).length + 1 ≤ 9223372036854775807 := by omega
  have u1 : ¬ 9223372036854775807 < 6 + (decB g.inn).length + 1 := by omega
  have x2 : 6 + (decB g.inn).length + 1 + (decB g.rounds).length ≤ 9223372036854775807 := by omega
  have u2' : ¬ 9223372036854775807 < 6 + (decB g.inn).length + 1 + (decB g.rounds).length := by omega
  have x3 : 6 + (decB g.inn).length + 1 + (decB g.rounds).length + 1 ≤ 9223372036854775807 := by omega
  have u3' : ¬ 9223372036854775807 < 6 + (decB g.inn).length + 1 + (decB g.rounds).length + 1 := by omega
  have EV := hide E
  clear E
  go_enter Tryz.func6, Tryz.ntmps6
  go_wp2_with fail
  generalize w.alloc (.cells #[.int .i64 g.inn, .int .i64 g.rounds, .slice (some ⟨bL, oL, none⟩) g.nl kL, .slice (some ⟨bH, oH, none⟩) g.nh kH, .slice aN g.nn kN, .int .i64 g.out] 31) = wA at *
  refine (l2Valid_any g _ _ aN lo kL kH kN wA hd (H.keep sA)).mono ?_
  rintro e w1 ⟨⟨n, Y, c, a, O, rfl⟩, s1⟩
  obtain rfl : c = 0 := EV.out.zero O
  rw [show decide ((0 : Int) = 0) = true from rfl]
  clear O
  have S1 : w.Since w.heap.size w1 := sA.trans (sinceMono s1 sA.size)
  have B1 := bA.keep s1
  have q0 := B1.c0
  have q1 := B1.c1
  have dr : w1.Since w1.heap.size w1.drew := (World.Since.refl _ _).drew
  have J1 := l2Dec_q g.inn w1.drew (by omega) (by omega)
  go_wp2_with fail
  go_region_held3 (fun w' => w'.cell? ⟨w.heap.size, 0, none⟩ = some (.int .i64 g.inn) ∧ w'.cell? ⟨w.heap.size, 1, none⟩ = some (.int .i64 g.rounds)) (go_keep)
    (first
      | (go_at_call 18
         with_reducible refine J1.mono ?_
         rintro e w2 ⟨rfl, s2⟩
         have u2 : w1.Since w1.heap.size w2 := dr.trans (sinceMono s2 dr.size)
         have p0 := (B1.keep u2).c0
         have p1 := (B1.keep u2).c1
         have J2 := l2Dec_q g.rounds w2 r0 (by omega))
      | (go_at_call 18
         with_reducible refine J2.mono ?_
         rintro e w3 ⟨rfl, s3⟩
         have u3 : w1.Since w1.heap.size w3 := u2.trans (sinceMono s3 u2.size)
         have t0 := (B1.keep u3).c0
         have t1 := (B1.keep u3).c1))
  have U3 : wA.Since wA.heap.size w3 := s1.trans (sinceMono u3 s1.size)
  have e0 : headB g = [103, 114, 97, 112, 104, 32] ++ (decB g.inn ++ (32 :: (decB g.rounds ++ [10]))) := rfl
  have E0 := hide e0
  clear q0 q1 p0 p1 t0 t1 J1 J2 e0 x0 u0 x1 u1 x2 u2' x3 u3' y1 y2
  go_wp2_with fail
  go_loopw [3, 4] (fun u i wr => ∃ k : Nat, (k : Int) ≤ g.inn ∧ i = .int .i64 (k : Int) ∧ u = .string ⟨(headB g ++ boxB g k).toArray⟩ ∧ wA.Since wA.heap.size wr) (fun _ i _ => g.inn.toNat - (intOf i).toNat)
  case atStart => exact ⟨0, by omega, rfl, by rw [E0.out]; simp [str_app, boxB], U3⟩
  case round =>
    obtain ⟨k, hk, rfl, rfl, s⟩ := hrel
    have B := bA.keep s
    have SS : w.Since w.heap.size wr := sA.trans (sinceMono s sA.size)
    have q0 := B.c0
    have hl0 := TP.out.head
    have hl1 := TP.out.box k hk
    by_cases hlt : (k : Int) < g.inn
    · obtain ⟨-, a1, a2, k1, k2, ML⟩ := LL k (by omega)
      obtain ⟨-, c1, c2, m1, m2, MH⟩ := LH k (by omega)
      have okL := EV.out.head.okL k (by omega)
      have okH := EV.out.head.okH k (by omega)
      have szL : (g.Lo k).n + (g.Lo k).m ≤ 1048576 := by have := szR_at (R := g.Lo) (n := g.nl) (k := k) (by omega); omega
      have szH : (g.Hi k).n + (g.Hi k).m ≤ 1048576 := by have := szR_at (R := g.Hi) (n := g.nh) (k := k) (by omega); omega
      have tl := TP.out.lo k hlt
      have th := TP.out.hi k hlt
      have dr : wr.Since wr.heap.size wr.drew := (World.Since.refl _ _).drew
      have SD : w.Since w.heap.size wr.drew := SS.trans (sinceMono dr SS.size)
      have J1 := l1Text_m (ML.keep SD).L okL szL
      obtain ⟨T1, hT1⟩ : ∃ T, (g.Lo k).txt = T := ⟨_, rfl⟩
      obtain ⟨T2, hT2⟩ : ∃ T, (g.Hi k).txt = T := ⟨_, rfl⟩
      obtain ⟨X, hX⟩ : ∃ X, headB g ++ boxB g k = X := ⟨_, rfl⟩
      have hXl : X.length ≤ 100000200 := by rw [← hX, List.length_append]; omega
      rw [hT1] at J1 tl
      rw [hT2] at th
      rw [hX]
      have HE : Hid (headB g ++ boxB g (k + 1) = X ++ ([98, 111, 120, 32] ++ (T1 ++ (32 :: (T2 ++ [10]))))) := hide (by rw [← hX, boxB, hT1, hT2, List.append_assoc])
      have HT2 := hide hT2
      clear hX hT1 hT2
      have lx0 : X.length + 4 ≤ 9223372036854775807 := by omega
      have ln0 : ¬ 9223372036854775807 < X.length + 4 := by omega
      have lx1 : X.length + 4 + T1.length ≤ 9223372036854775807 := by omega
      have ln1 : ¬ 9223372036854775807 < X.length + 4 + T1.length := by omega
      have lx2 : X.length + 4 + T1.length + 1 ≤ 9223372036854775807 := by omega
      have ln2 : ¬ 9223372036854775807 < X.length + 4 + T1.length + 1 := by omega
      have lx3 : X.length + 4 + T1.length + 1 + T2.length ≤ 9223372036854775807 := by omega
      have ln3 : ¬ 9223372036854775807 < X.length + 4 + T1.length + 1 + T2.length := by omega
      have lx4 : X.length + 4 + T1.length + 1 + T2.length + 1 ≤ 9223372036854775807 := by omega
      have ln4 : ¬ 9223372036854775807 < X.length + 4 + T1.length + 1 + T2.length + 1 := by omega
      have M1 := ML.keep SS
      have M2 := MH.keep SS
      have q2 := B.c2
      have q3 := B.c3
      have g0 := M1.c0
      have g1 := M1.c1
      have g2 := M1.c2
      have h0 := M2.c0
      have h1 := M2.c1
      have h2 := M2.c2
      have hzl : (k : Int) < (g.nl : Int) := by omega
      have hzh : (k : Int) < (g.nh : Int) := by omega
      clear M1 M2 hl0 hl1
      go_wp2_with fail
      go_region_held3 (fun w' => w'.cell? ⟨w.heap.size, 2, none⟩ = some (.slice (some ⟨bL, oL, none⟩) g.nl kL) ∧ w'.cell? ⟨w.heap.size, 3, none⟩ = some (.slice (some ⟨bH, oH, none⟩) g.nh kH) ∧ w'.cell? ⟨bL, oL + k * 3, none⟩ = some (.bool (g.Lo k).neg) ∧ w'.cell? ⟨bL, oL + k * 3 + 1, none⟩ = some (.slice a1 (g.Lo k).n k1) ∧ w'.cell? ⟨bL, oL + k * 3 + 2, none⟩ = some (.slice a2 (g.Lo k).m k2) ∧
          w'.cell? ⟨bH, oH + k * 3, none⟩ = some (.bool (g.Hi k).neg) ∧ w'.cell? ⟨bH, oH + k * 3 + 1, none⟩ = some (.slice c1 (g.Hi k).n m1) ∧ w'.cell? ⟨bH, oH + k * 3 + 2, none⟩ = some (.slice c2 (g.Hi k).m m2)) (go_keep)
        (first
          | (go_at_call 19
             with_reducible refine J1.mono ?_
             rintro e w4 ⟨rfl, s4⟩
             have v4 : wr.Since wr.heap.size w4 := dr.trans (sinceMono s4 dr.size)
             have S4 : w.Since w.heap.size w4 := SS.trans (sinceMono v4 SS.size)
             have B4 := B.keep v4
             have j2 := B4.c2
             have j3 := B4.c3
             have i0 := (ML.keep S4).c0
             have i1 := (ML.keep S4).c1
             have i2 := (ML.keep S4).c2
             have l0 := (MH.keep S4).c0
             have l1 := (MH.keep S4).c1
             have l2 := (MH.keep S4).c2
             have J2 := l1Text_m (MH.keep S4).L okH szH
             rw [HT2.out] at J2)
          | (go_at_call 19
             with_reducible refine J2.mono ?_
             rintro e w5 ⟨rfl, s5⟩
             have v5 : wr.Since wr.heap.size w5 := v4.trans (sinceMono s5 v4.size)
             have S5 : w.Since w.heap.size w5 := SS.trans (sinceMono v5 SS.size)
             have B5 := B.keep v5
             have j2' := B5.c2
             have j3' := B5.c3
             have i0' := (ML.keep S5).c0
             have i1' := (ML.keep S5).c1
             have i2' := (ML.keep S5).c2
             have l0' := (MH.keep S5).c0
             have l1' := (MH.keep S5).c1
             have l2' := (MH.keep S5).c2))
      all_goals clear q0 q2 q3 g0 g1 g2 h0 h1 h2 j2 j3 i0 i1 i2 l0 l1 l2 j2' j3' i0' i1' i2' l0' l1' l2' J1 J2
      all_goals go_wp2
      all_goals go_roundw
      case rel => exact ⟨k + 1, by omega, by go_num, by rw [HE.out]; simp [str_app], s.trans (sinceMono v5 s.size)⟩
      case measure => simp [intOf]; omega
    · have ek : (k : Int) = g.inn := by omega
      have ek2 : k = g.inn.toNat := by omega
      subst ek2
      clear ek hlt
      have hz0 : ¬ ((g.inn.toNat : Int) < g.inn) := by omega
      obtain ⟨Y0, hY0⟩ : ∃ Y, headB g ++ boxB g g.inn.toNat = Y := ⟨_, rfl⟩
      have hYl : Y0.length ≤ 100000200 := by rw [← hY0, List.length_append]; omega
      rw [hY0]
      have HY := hide hY0
      clear hY0 hl0 hl1
      go_wp2_with fail
      go_loopw [3, 5] (fun u i wr => ∃ k : Nat, k ≤ g.nn ∧ i = .int .i64 (k : Int) ∧ u = .string ⟨(Y0 ++ nodesB g k).toArray⟩ ∧ wA.Since wA.heap.size wr) (fun _ i _ => g.nn - (intOf i).toNat)
      case atStart => exact ⟨0, by omega, rfl, by simp [nodesB], s⟩
      case round =>
        obtain ⟨k, hk, rfl, rfl, s⟩ := hrel
        have B := bA.keep s
        have SS : w.Since w.heap.size wr := sA.trans (sinceMono s sA.size)
        have q4 := B.c4
        have hl1 := TP.out.nodes k hk
        by_cases hlt : k < g.nn
        · obtain ⟨bN, oN, -, LN⟩ := H.LN
          obtain ⟨ea, a1, k1, M⟩ := LN k hlt
          subst ea
          obtain ⟨f, ha, hb⟩ := EV.out.at_ hlt
          have hsz : (g.N k).size ≤ 1048576 := by have := szN_at (A := g.N) hlt; omega
          have hlt' : (k : Int) < (g.nn : Int) := by omega
          have tn := TP.out.node k hlt
          obtain ⟨T1, hT1⟩ : ∃ T, nodeB (g.N k) = T := ⟨_, rfl⟩
          obtain ⟨X, hX⟩ : ∃ X, Y0 ++ nodesB g k = X := ⟨_, rfl⟩
          have hXl : X.length ≤ 300000200 := by rw [← hX, List.length_append]; omega
          have M1 := M.keep SS
          have J1 := l2NodeLine_q (g.N k) a1 lo k1 wr f ha hb hsz M1.L
          rw [hT1] at tn J1
          rw [hX]
          have HE : Hid (Y0 ++ nodesB g (k + 1) = X ++ (T1 ++ [10])) := hide (by rw [← hX, nodesB, hT1, List.append_assoc])
          clear hX hT1 hl1
          have lx0 : X.length + T1.length ≤ 9223372036854775807 := by omega
          have ln0 : ¬ 9223372036854775807 < X.length + T1.length := by omega
          have lx1 : X.length + T1.length + 1 ≤ 9223372036854775807 := by omega
          have ln1 : ¬ 9223372036854775807 < X.length + T1.length + 1 := by omega
          have g0 := M1.c0
          have g1 := M1.c1
          have g2 := M1.c2
          have g3 := M1.c3
          have g4 := M1.c4
          have g5 := M1.c5
          clear M1
          go_wp2_with fail
          refine J1.mono ?_
          rintro e w4 ⟨rfl, s4⟩
          have v4 : wA.Since wA.heap.size w4 := s.trans (sinceMono s4 s.size)
          clear g0 g1 g2 g3 g4 g5 J1 q4
          go_wp2
          go_roundw
          case rel => exact ⟨k + 1, by omega, by go_num, by rw [HE.out]; simp [str_app], v4⟩
          case measure => simp [intOf]; omega
        · have ek : k = g.nn := by omega
          subst ek
          have hz1 : ¬ ((g.nn : Int) < (g.nn : Int)) := by omega
          have q5 := B.c5
          have to := TP.out.out
          obtain ⟨X, hX⟩ : ∃ X, Y0 ++ nodesB g g.nn = X := ⟨_, rfl⟩
          have hXl : X.length ≤ 300000200 := by rw [← hX, List.length_append]; omega
          rw [hX]
          have HE : Hid (graphB g = X ++ ([111, 117, 116, 112, 117, 116, 32] ++ (decB g.out ++ [10]))) := hide (by rw [graphB_eq, ← hX, ← HY.out]; simp)
          clear hX hl1
          have lx0 : X.length + 7 ≤ 9223372036854775807 := by omega
          have ln0 : ¬ 9223372036854775807 < X.length + 7 := by omega
          have lx1 : X.length + 7 + (decB g.out).length ≤ 9223372036854775807 := by omega
          have ln1 : ¬ 9223372036854775807 < X.length + 7 + (decB g.out).length := by omega
          have lx2 : X.length + 7 + (decB g.out).length + 1 ≤ 9223372036854775807 := by omega
          have ln2 : ¬ 9223372036854775807 < X.length + 7 + (decB g.out).length + 1 := by omega
          go_wp2_with fail
          refine (l2Dec_q g.out wr o0 (by omega)).mono ?_
          rintro e w4 ⟨rfl, s4⟩
          clear q4 q5
          go_wp2
          go_ret
          exact ⟨by rw [HE.out]; simp [str_app], SS.trans (sinceMono s4 SS.size)⟩

theorem specGraphText_ok (g : GraphD) (aL aH aN : Option Addr) (lo kL kH kN : Nat) (w : World) (hd : g.size ≤ 1048576) (H : GraL w lo g aL aH aN kL kH kN) (E : GraV g) :
    Calls Tryz.prog 6 #[.agg #[.int .i64 g.inn, .int .i64 g.rounds, .slice aL g.nl kL, .slice aH g.nh kH, .slice aN g.nn kN, .int .i64 g.out]] w fun e w' => e = .returned (.string ⟨(graphB g).toArray⟩) ∧ w.Since w.heap.size w' := by
  have i1 := E.head.i1
  have el := E.head.l
  have eh := E.head.h
  obtain ⟨bL, oL, -, LL⟩ := H.LL
  obtain ⟨bH, oH, -, LH⟩ := H.LH
  have eL := (LL 0 (by omega)).1
  have eH := (LH 0 (by omega)).1
  subst eL eH
  exact specGraphText_okA g bL oL bH oH aN lo kL kH kN w hd H E LL LH

end Go.Proofs.YtlpabmcebpppfaaGreatDoor
