import Derived.Test.YtlpabmcebpppfaaGreatDoorOwnP31
import Derived.Test.YtlpabmcebpppfaaGreatDoorOwnP33
import Derived.Test.YtlpabmcebpppfaaGreatDoorOwnP30
import Derived.Test.YtlpabmcebpppfaaGreatDoorOwnP26
import Derived.Test.YtlpabmcebpppfaaGreatDoorOwnP17
import Derived.Test.YtlpabmcebpppfaaGreatDoorOwnP23
namespace Go.Proofs.YtlpabmcebpppfaaGreatDoor
open Go.RowKit

set_option maxHeartbeats 6400000 in
set_option maxRecDepth 100000 in
theorem implGraphText_no (g : GraphD) (aL aH aN : Option Addr) (lo kL kH kN : Nat) (w : World) (hd : g.size ≤ 1048576) (H : GraL w lo g aL aH aN kL kH kN) (hno : ¬ GraV g) :
    Calls Tryz.prog 8 #[.agg #[.int .i64 g.inn, .int .i64 g.rounds, .slice aL g.nl kL, .slice aH g.nh kH, .slice aN g.nn kN, .int .i64 g.out]] w fun e w' => e = .returned (.string ⟨#[]⟩) ∧ w.Since w.heap.size w' := by
  have sA : w.Since w.heap.size (w.alloc (.cells #[.int .i64 g.inn, .int .i64 g.rounds, .slice aL g.nl kL, .slice aH g.nh kH, .slice aN g.nn kN, .int .i64 g.out] 31)) := (World.Since.refl _ _).alloc (Nat.le_refl _) _
  have bA := Box6.new w (.int .i64 g.inn) (.int .i64 g.rounds) (.slice aL g.nl kL) (.slice aH g.nh kH) (.slice aN g.nn kN) (.int .i64 g.out) 31
  go_enter Tryz.func8, Tryz.ntmps8
  go_wp2_with fail
  generalize w.alloc (.cells #[.int .i64 g.inn, .int .i64 g.rounds, .slice aL g.nl kL, .slice aH g.nh kH, .slice aN g.nn kN, .int .i64 g.out] 31) = wA at *
  refine (isValidGraph_any g aL aH aN lo kL kH kN wA (Nat.zero_le _) trivial hd (H.keep sA)).mono ?_
  rintro e w1 ⟨⟨n, Y, c, a, O, rfl⟩, s1⟩
  have q : decide (c = 0) = false := by
    simp only [decide_eq_false_iff_not]
    intro e
    subst e
    exact hno (GraV.of O)
  rw [q]
  clear q O hno
  go_wp2
  go_ret
  exact ⟨rfl, sA.trans (sinceMono s1 sA.size)⟩

theorem line_cells {w : World} {ws : List (List UInt8)} (cs : Array Value) (h : cs = (strV ws).toArray) : ∀ j x, ws[j]? = some x → (w.alloc (.cells cs 9)).cell? ⟨w.heap.size, 0 + j, none⟩ = some (.string ⟨x.toArray⟩) := fun j x hx => by
  subst h
  rw [Nat.zero_add, Lib.cell_of_heap (Go.heap_alloc_new w _) j]
  simpa using strV_get hx

set_option maxHeartbeats 25600000 in
set_option maxRecDepth 100000 in
theorem implGraphText_okA (g : GraphD) (bL oL bH oH : Nat) (aN : Option Addr) (lo kL kH kN : Nat) (w : World) (hP : Pow w) (hd : g.size ≤ 1048576) (H : GraL w lo g (some ⟨bL, oL, none⟩) (some ⟨bH, oH, none⟩) aN kL kH kN) (E : GraV g)
    (LL : Rats w lo (some ⟨bL, oL, none⟩) bL oL g.nl g.Lo) (LH : Rats w lo (some ⟨bH, oH, none⟩) bH oH g.nh g.Hi) :
    Calls Tryz.prog 8 #[.agg #[.int .i64 g.inn, .int .i64 g.rounds, .slice (some ⟨bL, oL, none⟩) g.nl kL, .slice (some ⟨bH, oH, none⟩) g.nh kH, .slice aN g.nn kN, .int .i64 g.out]] w fun e w' => e = .returned (.string ⟨(graphB g).toArray⟩) ∧ w.Since w.heap.size w' := by
  have TP := hide (TxtP.of E hd H)
  have sA : w.Since w.heap.size (w.alloc (.cells #[.int .i64 g.inn, .int .i64 g.rounds, .slice (some ⟨bL, oL, none⟩) g.nl kL, .slice (some ⟨bH, oH, none⟩) g.nh kH, .slice aN g.nn kN, .int .i64 g.out] 31)) := (World.Since.refl _ _).alloc (Nat.le_refl _) _
  have bA := Box6.new w (.int .i64 g.inn) (.int .i64 g.rounds) (.slice (some ⟨bL, oL, none⟩) g.nl kL) (.slice (some ⟨bH, oH, none⟩) g.nh kH) (.slice aN g.nn kN) (.int .i64 g.out) 31
  have i1 := E.head.i1
  have i2 := E.head.i2
  have r0 := E.head.r0
  have r1 := E.head.r1
  have el := E.head.l
  have eh := E.head.h
  have o0 := E.o0
  have o1 := E.o1
  have nn := E.head.n
  have ts := hd
  unfold GraphD.size at ts
  have EV := hide E
  clear E
  go_enter Tryz.func8, Tryz.ntmps8
  go_wp2_with fail
  generalize w.alloc (.cells #[.int .i64 g.inn, .int .i64 g.rounds, .slice (some ⟨bL, oL, none⟩) g.nl kL, .slice (some ⟨bH, oH, none⟩) g.nh kH, .slice aN g.nn kN, .int .i64 g.out] 31) = wA at *
  refine (isValidGraph_any g _ _ aN lo kL kH kN wA (Nat.zero_le _) trivial hd (H.keep sA)).mono ?_
  rintro e w1 ⟨⟨n, Y, c, a, O, rfl⟩, s1⟩
  obtain rfl : c = 0 := EV.out.zero O
  rw [show decide ((0 : Int) = 0) = true from rfl]
  clear O
  have S1 : w.Since w.heap.size w1 := sA.trans (sinceMono s1 sA.size)
  have B1 := bA.keep s1
  have l1 := B1.lt
  have sB : w1.Since w1.heap.size (w1.alloc (.cells #[.pointer none, .slice none 0 0] 62)) := (World.Since.refl _ _).alloc (Nat.le_refl _) _
  have hb0 : Hid (Lib.IsBuilder 62 5 w1.heap.size w1.heap.size (Lib.byteCells []) (w1.alloc (.cells #[.pointer none, .slice none 0 0] 62))) := hide (Lib.fresh_isBuilder 62 5 w1)
  have B2 := B1.keep sB
  have q0 := B2.c0
  have q1 := B2.c1
  go_wp2_with fail
  have zB : (w1.alloc (.cells #[.pointer none, .slice none 0 0] 62)).heap.size = w1.heap.size + 1 := by simp
  generalize w1.alloc (.cells #[.pointer none, .slice none 0 0] 62) = wB at *
  have SB : w.Since w.heap.size wB := S1.trans (sinceMono sB S1.size)
  have hP1 := hP.stay S1
  have dr : wB.Since wB.heap.size wB.drew := (World.Since.refl _ _).drew
  have y1 := dec_lim (show g.inn ≤ 9223372036854775807 by omega)
  have y2 := dec_lim (show g.rounds ≤ 9223372036854775807 by omega)
  have J1 := itoa_q g.inn wB.drew (by omega) (by omega) (hP1.stay (sB.trans (sinceMono dr sB.size)))
  obtain ⟨L1, hL1⟩ : ∃ L, Lib.join [[103, 114, 97, 112, 104], decB g.inn, decB g.rounds] [32] ++ [10] = L := ⟨_, rfl⟩
  have HL1 : Hid (headB g = L1) := hide (by rw [← hL1]; simp [headB, Lib.join])
  have HJ := hide hL1
  have ll1 : L1.length ≤ 200 := by rw [← HL1.out]; exact TP.out.head
  clear hL1
  go_region_held3 (fun w' => w'.cell? ⟨w.heap.size, 0, none⟩ = some (.int .i64 g.inn) ∧ w'.cell? ⟨w.heap.size, 1, none⟩ = some (.int .i64 g.rounds)) (go_keep)
    (first
      | (go_at_call 26
         with_reducible refine J1.mono ?_
         rintro e w2 ⟨rfl, s2⟩
         have v2 : wB.Since wB.heap.size w2 := dr.trans (sinceMono s2 dr.size)
         have p0 := (B2.keep v2).c0
         have p1 := (B2.keep v2).c1
         have J2 := itoa_q g.rounds w2 r0 (by omega) (hP1.stay (sB.trans (sinceMono v2 sB.size))))
      | (go_at_call 26
         with_reducible refine J2.mono ?_
         rintro e w3 ⟨rfl, s3⟩
         have v3 : wB.Since wB.heap.size w3 := v2.trans (sinceMono s3 v2.size)
         have t0 := (B2.keep v3).c0
         have t1 := (B2.keep v3).c1
         have sW : w3.Since w3.heap.size (w3.alloc (.cells #[.string ⟨#[103, 114, 97, 112, 104]⟩, .string ⟨(decB g.inn).toArray⟩, .string ⟨(decB g.rounds).toArray⟩] 9)) := (World.Since.refl _ _).alloc (Nat.le_refl _) _
         have J3 : Calls Tryz.prog 25 #[.slice (some ⟨w3.heap.size, 0, none⟩) 3 3] (w3.alloc (.cells #[.string ⟨#[103, 114, 97, 112, 104]⟩, .string ⟨(decB g.inn).toArray⟩, .string ⟨(decB g.rounds).toArray⟩] 9)) fun e w' => e = .returned (.string ⟨L1.toArray⟩) ∧ (w3.alloc (.cells #[.string ⟨#[103, 114, 97, 112, 104]⟩, .string ⟨(decB g.inn).toArray⟩, .string ⟨(decB g.rounds).toArray⟩] 9)).Since (w3.alloc (.cells #[.string ⟨#[103, 114, 97, 112, 104]⟩, .string ⟨(decB g.inn).toArray⟩, .string ⟨(decB g.rounds).toArray⟩] 9)).heap.size w' := by
           have := lineOf_q w3.heap.size 0 3 [[103, 114, 97, 112, 104], decB g.inn, decB g.rounds] (w3.alloc (.cells #[.string ⟨#[103, 114, 97, 112, 104]⟩, .string ⟨(decB g.inn).toArray⟩, .string ⟨(decB g.rounds).toArray⟩] 9)) (line_cells _ rfl) (by simp) (by simp) (by simp) (by have := congrArg List.length HJ.out; rw [List.length_append] at this; omega)
           rw [HJ.out] at this
           exact this)
      | (go_at_call 25
         with_reducible refine J3.mono ?_
         rintro e w4 ⟨rfl, s4⟩
         have v4 : wB.Since wB.heap.size w4 := (v3.trans (sinceMono sW v3.size)).trans (sinceMono s4 (Nat.le_trans v3.size sW.size))
         have m0 := (B2.keep v4).c0
         have m1 := (B2.keep v4).c1
         have u4 : w1.Since w1.heap.size w4 := sB.trans (sinceMono v4 sB.size)
         have J4 := writeString_q w1.heap.size w1.heap.size [] L1 w4 (bld_keep hb0.out v4) (by simp; omega) u4.size)
      | (go_at_call 24
         with_reducible refine J4.mono ?_
         rintro e w5 ⟨⟨x5, rfl⟩, hb5, s5, -⟩
         have u5 : w1.Since w1.heap.size w5 := u4.trans s5
         have n0 := (B1.keep u5).c0
         have n1 := (B1.keep u5).c1
         have hb5 := hide hb5))
  all_goals clear q0 q1 p0 p1 t0 t1 m0 m1 n1 J1 J2 J3 J4
  all_goals go_wp2_with fail
  go_loopw [25] (fun i wr => ∃ k : Nat, (k : Int) ≤ g.inn ∧ i = .int .i64 (k : Int) ∧ w1.Since w1.heap.size wr ∧ w1.heap.size < wr.heap.size ∧ Hid (Lib.IsBuilder 62 5 w1.heap.size w1.heap.size (Lib.byteCells (headB g ++ boxB g k)) wr)) (fun i _ => g.inn.toNat - (intOf i).toNat)
  case atStart => exact ⟨0, by omega, rfl, u5, by have := v4.size; have := s5.size; omega, hide (by rw [boxB, List.append_nil, HL1.out]; exact hb5.out)⟩
  case round =>
    obtain ⟨k, hk, rfl, u, hsz, hb⟩ := hrel
    have B := B1.keep u
    have SS : w.Since w.heap.size wr := S1.trans (sinceMono u S1.size)
    have hl0 := TP.out.head
    have hl1 := TP.out.box k hk
    by_cases hlt : (k : Int) < g.inn
    · obtain ⟨-, a1, a2, k1, k2, ML⟩ := LL k (by omega)
      obtain ⟨-, c1, c2, m1, m2, MH⟩ := LH k (by omega)
      have okL := EV.out.head.okL k (by omega)
      have okH := EV.out.head.okH k (by omega)
      have szL : (g.Lo k).n + (g.Lo k).m ≤ 1048576 := by have := szR_at (R := g.Lo) (n := g.nl) (k := k) (by omega); omega
      have szH : (g.Hi k).n + (g.Hi k).m ≤ 1048576 := by have := szR_at (R := g.Hi) (n := g.nh) (k := k) (by omega); omega
      have tl := TP.out.lo k hlt
      have th := TP.out.hi k hlt
      have dr : wr.Since wr.heap.size wr.drew := (World.Since.refl _ _).drew
      have SD : w.Since w.heap.size wr.drew := SS.trans (sinceMono dr SS.size)
      have J1 := textOf_m (ML.keep SD).L okL szL (hP.stay SD)
      obtain ⟨T1, hT1⟩ : ∃ T, (g.Lo k).txt = T := ⟨_, rfl⟩
      obtain ⟨T2, hT2⟩ : ∃ T, (g.Hi k).txt = T := ⟨_, rfl⟩
      obtain ⟨X, hX⟩ : ∃ X, headB g ++ boxB g k = X := ⟨_, rfl⟩
      have hXl : X.length ≤ 100000200 := by rw [← hX, List.length_append]; omega
      rw [hT1] at J1 tl
      rw [hT2] at th
      obtain ⟨L1, hL1⟩ : ∃ L, Lib.join [[98, 111, 120], T1, T2] [32] ++ [10] = L := ⟨_, rfl⟩
      have eL1 : L1 = [98, 111, 120, 32] ++ (T1 ++ (32 :: (T2 ++ [10]))) := by rw [← hL1]; simp [Lib.join]
      have ll1 : L1.length ≤ 200000010 := by rw [eL1]; simp; omega
      have HE : Hid (headB g ++ boxB g (k + 1) = X ++ L1) := hide (by rw [← hX, boxB, hT1, hT2, List.append_assoc, eL1])
      have hbX : Hid (Lib.IsBuilder 62 5 w1.heap.size w1.heap.size (Lib.byteCells (X)) wr) := hide (by rw [← hX]; exact hb.out)
      have HT2 := hide hT2
      have HJ := hide hL1
      clear hX hT1 hT2 hL1 eL1
      have M1 := ML.keep SS
      have M2 := MH.keep SS
      have q2 := B.c2
      have q3 := B.c3
      have g0 := M1.c0
      have g1 := M1.c1
      have g2 := M1.c2
      have h0 := M2.c0
      have h1 := M2.c1
      have h2 := M2.c2
      have hzl : (k : Int) < (g.nl : Int) := by omega
      have hzh : (k : Int) < (g.nh : Int) := by omega
      clear M1 M2 hl0 hl1 n0
      go_wp2_with fail
      go_region_held3 (fun w' => w'.cell? ⟨w.heap.size, 2, none⟩ = some (.slice (some ⟨bL, oL, none⟩) g.nl kL) ∧ w'.cell? ⟨w.heap.size, 3, none⟩ = some (.slice (some ⟨bH, oH, none⟩) g.nh kH) ∧ w'.cell? ⟨bL, oL + k * 3, none⟩ = some (.bool (g.Lo k).neg) ∧ w'.cell? ⟨bL, oL + k * 3 + 1, none⟩ = some (.slice a1 (g.Lo k).n k1) ∧ w'.cell? ⟨bL, oL + k * 3 + 2, none⟩ = some (.slice a2 (g.Lo k).m k2) ∧ w'.cell? ⟨bH, oH + k * 3, none⟩ = some (.bool (g.Hi k).neg) ∧ w'.cell? ⟨bH, oH + k * 3 + 1, none⟩ = some (.slice c1 (g.Hi k).n m1) ∧ w'.cell? ⟨bH, oH + k * 3 + 2, none⟩ = some (.slice c2 (g.Hi k).m m2)) (go_keep)
        (first
          | (go_at_call 27
             with_reducible refine J1.mono ?_
             rintro e w6 ⟨rfl, s6⟩
             have v6 : wr.Since wr.heap.size w6 := dr.trans (sinceMono s6 dr.size)
             have S6 : w.Since w.heap.size w6 := SS.trans (sinceMono v6 SS.size)
             have B6 := B.keep v6
             have j2 := B6.c2
             have j3 := B6.c3
             have i0 := (ML.keep S6).c0
             have i1 := (ML.keep S6).c1
             have i2 := (ML.keep S6).c2
             have l0 := (MH.keep S6).c0
             have l1 := (MH.keep S6).c1
             have l2 := (MH.keep S6).c2
             have J2 := textOf_m (MH.keep S6).L okH szH (hP.stay S6)
             rw [HT2.out] at J2)
          | (go_at_call 27
             with_reducible refine J2.mono ?_
             rintro e w7 ⟨rfl, s7⟩
             have v7 : wr.Since wr.heap.size w7 := v6.trans (sinceMono s7 v6.size)
             have S7 : w.Since w.heap.size w7 := SS.trans (sinceMono v7 SS.size)
             have B7 := B.keep v7
             have j2' := B7.c2
             have j3' := B7.c3
             have i0' := (ML.keep S7).c0
             have i1' := (ML.keep S7).c1
             have i2' := (ML.keep S7).c2
             have l0' := (MH.keep S7).c0
             have l1' := (MH.keep S7).c1
             have l2' := (MH.keep S7).c2
             have sW : w7.Since w7.heap.size (w7.alloc (.cells #[.string ⟨#[98, 111, 120]⟩, .string ⟨T1.toArray⟩, .string ⟨T2.toArray⟩] 9)) := (World.Since.refl _ _).alloc (Nat.le_refl _) _
             have J3 : Calls Tryz.prog 25 #[.slice (some ⟨w7.heap.size, 0, none⟩) 3 3] (w7.alloc (.cells #[.string ⟨#[98, 111, 120]⟩, .string ⟨T1.toArray⟩, .string ⟨T2.toArray⟩] 9)) fun e w' => e = .returned (.string ⟨L1.toArray⟩) ∧ (w7.alloc (.cells #[.string ⟨#[98, 111, 120]⟩, .string ⟨T1.toArray⟩, .string ⟨T2.toArray⟩] 9)).Since (w7.alloc (.cells #[.string ⟨#[98, 111, 120]⟩, .string ⟨T1.toArray⟩, .string ⟨T2.toArray⟩] 9)).heap.size w' := by
               have := lineOf_q w7.heap.size 0 3 [[98, 111, 120], T1, T2] (w7.alloc (.cells #[.string ⟨#[98, 111, 120]⟩, .string ⟨T1.toArray⟩, .string ⟨T2.toArray⟩] 9)) (line_cells _ rfl) (by simp) (by simp) (by simp) (by have := congrArg List.length HJ.out; rw [List.length_append] at this; omega)
               rw [HJ.out] at this
               exact this)
          | (go_at_call 25
             with_reducible refine J3.mono ?_
             rintro e w8 ⟨rfl, s8⟩
             have v8 : wr.Since wr.heap.size w8 := (v7.trans (sinceMono sW v7.size)).trans (sinceMono s8 (Nat.le_trans v7.size sW.size))
             have S8 : w.Since w.heap.size w8 := SS.trans (sinceMono v8 SS.size)
             have B8 := B.keep v8
             have a2' := B8.c2
             have a3' := B8.c3
             have b0' := (ML.keep S8).c0
             have b1' := (ML.keep S8).c1
             have b2' := (ML.keep S8).c2
             have d0' := (MH.keep S8).c0
             have d1' := (MH.keep S8).c1
             have d2' := (MH.keep S8).c2
             have u8 : w1.Since w1.heap.size w8 := u.trans (sinceMono v8 u.size)
             have J4 := writeString_q w1.heap.size w1.heap.size X L1 w8 (bld_keep hbX.out v8) (by omega) u8.size)
          | (go_at_call 24
             with_reducible refine J4.mono ?_
             rintro e w9 ⟨⟨x9, rfl⟩, hb9, s9, -⟩
             have u9 : w1.Since w1.heap.size w9 := u8.trans s9
             have S9 : w.Since w.heap.size w9 := S1.trans (sinceMono u9 S1.size)
             have B9 := B1.keep u9
             have a2'' := B9.c2
             have a3'' := B9.c3
             have b0'' := (ML.keep S9).c0
             have b1'' := (ML.keep S9).c1
             have b2'' := (ML.keep S9).c2
             have d0'' := (MH.keep S9).c0
             have d1'' := (MH.keep S9).c1
             have d2'' := (MH.keep S9).c2
             have z9 := s9.size
             have z8 := v8.size
             have hb9 := hide hb9))
      all_goals clear q2 q3 g0 g1 g2 h0 h1 h2 j2 j3 i0 i1 i2 l0 l1 l2 j2' j3' i0' i1' i2' l0' l1' l2' a2' a3' b0' b1' b2' d0' d1' d2' a2'' a3'' b0'' b1'' b2'' d0'' d1'' d2'' J1 J2 J3 J4
      all_goals go_wp2
      all_goals go_roundw
      case rel => exact ⟨k + 1, by omega, by go_num, u9, by omega, hide (by rw [HE.out]; exact hb9.out)⟩
      case measure => simp [intOf]; omega
    · have ek2 : k = g.inn.toNat := by omega
      subst ek2
      clear hlt n0
      have hz0 : ¬ ((g.inn.toNat : Int) < g.inn) := by omega
      obtain ⟨Y0, hY0⟩ : ∃ Y, headB g ++ boxB g g.inn.toNat = Y := ⟨_, rfl⟩
      have hYl : Y0.length ≤ 100000200 := by rw [← hY0, List.length_append]; omega
      have hbY : Hid (Lib.IsBuilder 62 5 w1.heap.size w1.heap.size (Lib.byteCells (Y0)) wr) := hide (by rw [← hY0]; exact hb.out)
      have HY := hide hY0
      clear hY0 hl0 hl1 hb
      go_wp2_with fail
      refine (allKinds_any wr).mono ?_
      rintro e w6 ⟨rfl, K6, s6⟩
      have u6 : w1.Since w1.heap.size w6 := u.trans (sinceMono s6 u.size)
      have z6 := s6.size
      have K6 := hide K6
      have q4 := (B1.keep u6).c4
      go_wp2_with fail
      clear q4
      have hbY6 := hide (bld_keep hbY.out s6)
      generalize wr.heap.size = mK at *
      go_loopw [48] (fun i wr => ∃ k : Nat, k ≤ g.nn ∧ i = .int .i64 (k : Int) ∧ w1.Since w1.heap.size wr ∧ mK < wr.heap.size ∧ Hid (Kinds wr mK) ∧ Hid (Lib.IsBuilder 62 5 w1.heap.size w1.heap.size (Lib.byteCells (Y0 ++ nodesB g k)) wr)) (fun i _ => g.nn - (intOf i).toNat)
      case atStart => exact ⟨0, by omega, rfl, u6, by have := K6.out.lt; omega, K6, hide (by rw [nodesB, List.append_nil]; exact hbY6.out)⟩
      case round =>
        obtain ⟨k, hk, rfl, ux, hzx, Kx, hbx⟩ := hrel
        have SX : w.Since w.heap.size wr := S1.trans (sinceMono ux S1.size)
        have hl1 := TP.out.nodes k hk
        by_cases hlt : k < g.nn
        · obtain ⟨bN, oN, -, LN⟩ := H.LN
          obtain ⟨ea, a1, k1, M⟩ := LN k hlt
          subst ea
          obtain ⟨bV, oV, -, LV⟩ := M.L.LV
          obtain ⟨f, ha, hb⟩ := EV.out.at_ hlt
          have hszn : (g.N k).size ≤ 1048576 := by have := szN_at (A := g.N) hlt; omega
          have hlt' : (k : Int) < (g.nn : Int) := by omega
          have tn := TP.out.node k hlt
          obtain ⟨TT, FF, ub, uk, us, nums, TF⟩ := txtF (g.N k) a1 lo bV oV k1 f ha hb hszn M.L.ia.2 M.L.ib.2
          obtain ⟨X, hX⟩ : ∃ X, Y0 ++ nodesB g k = X := ⟨_, rfl⟩
          have hXl : X.length ≤ 300000200 := by rw [← hX, List.length_append]; omega
          obtain ⟨L1, hL1⟩ : ∃ L, Lib.join (wordB (g.N k).op :: (intsB (g.N k) ++ txts (g.N k).V (g.N k).nv)) [32] ++ [10] = L := ⟨_, rfl⟩
          have ll1 : L1.length ≤ 100000010 := by rw [← hL1, nodeB_join]; simp; omega
          have lw : (intsB (g.N k)).length ≤ 4 := by unfold intsB; split <;> split <;> split <;> simp
          have HE : Hid (Y0 ++ nodesB g (k + 1) = X ++ L1) := hide (by rw [← hX, nodesB, ← hL1, nodeB_join, List.append_assoc])
          have hbX : Hid (Lib.IsBuilder 62 5 w1.heap.size w1.heap.size (Lib.byteCells (X)) wr) := hide (by rw [← hX]; exact hbx.out)
          have HJ := hide hL1
          obtain ⟨ws, hws⟩ : ∃ ws, wordB (g.N k).op :: (intsB (g.N k) ++ txts (g.N k).V (g.N k).nv) = ws := ⟨_, rfl⟩
          have lws : ws.length ≤ 100000000 := by
            have hq : (g.N k).nv ≤ 1048576 := by unfold NodeD.size at hszn; omega
            rw [← hws]; simp only [List.length_cons, List.length_append, txts_len]; omega
          rw [hws] at TF HJ
          clear hX hL1 hl1 hws tn hbx
          have M1 := M.keep SX
          have g0 := M1.c0
          have g1 := M1.c1
          have g2 := M1.c2
          have g3 := M1.c3
          have g4 := M1.c4
          have g5 := M1.c5
          have sN : wr.Since wr.heap.size (wr.alloc (.cells #[.int .i64 (g.N k).op, .int .i64 (g.N k).a, .int .i64 (g.N k).b, .int .i64 (g.N k).k, .int .i64 (g.N k).s, .slice a1 (g.N k).nv k1] 56)) := (World.Since.refl _ _).alloc (Nat.le_refl _) _
          have nB := Box6.new wr (.int .i64 (g.N k).op) (.int .i64 (g.N k).a) (.int .i64 (g.N k).b) (.int .i64 (g.N k).k) (.int .i64 (g.N k).s) (.slice a1 (g.N k).nv k1) 56
          have hNB : Hid ((wr.alloc (.cells #[.int .i64 (g.N k).op, .int .i64 (g.N k).a, .int .i64 (g.N k).b, .int .i64 (g.N k).k, .int .i64 (g.N k).s, .slice a1 (g.N k).nv k1] 56)).heap[wr.heap.size]? = some (.cells #[.int .i64 (g.N k).op, .int .i64 (g.N k).a, .int .i64 (g.N k).b, .int .i64 (g.N k).k, .int .i64 (g.N k).s, .slice a1 (g.N k).nv k1] 56)) := hide (Go.heap_alloc_new wr _)
          have zN : (wr.alloc (.cells #[.int .i64 (g.N k).op, .int .i64 (g.N k).a, .int .i64 (g.N k).b, .int .i64 (g.N k).k, .int .i64 (g.N k).s, .slice a1 (g.N k).nv k1] 56)).heap.size = wr.heap.size + 1 := by simp
          clear M1
          go_wp2_with fail
          generalize wr.alloc (.cells #[.int .i64 (g.N k).op, .int .i64 (g.N k).a, .int .i64 (g.N k).b, .int .i64 (g.N k).k, .int .i64 (g.N k).s, .slice a1 (g.N k).nv k1] 56) = w7 at *
          refine (TF.op w7 _ (Kx.out.keep sN)).mono ?_
          rintro e w8 ⟨rfl, s8⟩
          have v8 : wr.Since wr.heap.size w8 := sN.trans (sinceMono s8 sN.size)
          have S8 : w.Since w.heap.size w8 := SX.trans (sinceMono v8 SX.size)
          have N8 := nB.keep s8
          have hme := TF.me
          have hen := TF.en
          have dr : w8.Since w8.heap.size w8.drew := (World.Since.refl _ _).drew
          have J1 := TF.fr w8.drew
          clear g0 g1 g2 g3 g4 g5
          have h0 := N8.c0
          have h1 := N8.c1
          have h2 := N8.c2
          have h3 := N8.c3
          have h4 := N8.c4
          have h5 := N8.c5
          go_wp2_with fail
          go_region_held3 (fun w' => w'.cell? ⟨wr.heap.size, 0, none⟩ = some (.int .i64 (g.N k).op) ∧ w'.cell? ⟨wr.heap.size, 1, none⟩ = some (.int .i64 (g.N k).a) ∧ w'.cell? ⟨wr.heap.size, 2, none⟩ = some (.int .i64 (g.N k).b) ∧ w'.cell? ⟨wr.heap.size, 3, none⟩ = some (.int .i64 (g.N k).k) ∧ w'.cell? ⟨wr.heap.size, 4, none⟩ = some (.int .i64 (g.N k).s) ∧ w'.cell? ⟨wr.heap.size, 5, none⟩ = some (.slice a1 (g.N k).nv k1)) (go_keep)
            (first
              | (with_reducible refine J1.mono ?_
                 rintro e w9 ⟨rfl, s9⟩
                 have v9 : w8.Since w8.heap.size w9 := dr.trans (sinceMono s9 dr.size)
                 have N9 := N8.keep v9
                 have S9 : w.Since w.heap.size w9 := S8.trans (sinceMono v9 S8.size)
                 have j0 := N9.c0
                 have j1 := N9.c1
                 have j2 := N9.c2
                 have j3 := N9.c3
                 have j4 := N9.c4
                 have j5 := N9.c5
                 have J2 := TF.wo w9 (hP.stay S9) (LV.keep S9))
              | (go_at_call 30
                 with_reducible refine J2.mono ?_
                 rintro e w10 ⟨gw, nw, cw, rfl, OW, s10⟩
                 have v10 : w8.Since w8.heap.size w10 := v9.trans (sinceMono s10 v9.size)
                 have N10 := N8.keep v10
                 have m0 := N10.c0
                 have m1 := N10.c1
                 have m2 := N10.c2
                 have m3 := N10.c3
                 have m4 := N10.c4
                 have m5 := N10.c5
                 obtain ⟨tc, tl, -, tk, tn⟩ := own_texts OW
                 subst tn
                 have J3 : Calls Tryz.prog 25 #[.slice (some ⟨gw, 0, none⟩) ws.length cw] w10 fun e w' => e = .returned (.string ⟨L1.toArray⟩) ∧ w10.Since w10.heap.size w' := by
                   have := lineOf_q gw 0 cw ws w10 (fun j x h => by rw [Nat.zero_add]; exact tc j x h) tl tk lws (by have := congrArg List.length HJ.out; rw [List.length_append] at this; omega)
                   rw [HJ.out] at this
                   exact this)
              | (go_at_call 25
                 with_reducible refine J3.mono ?_
                 rintro e w11 ⟨rfl, s11⟩
                 have v11 : w8.Since w8.heap.size w11 := v10.trans (sinceMono s11 v10.size)
                 have N11 := N8.keep v11
                 have n0 := N11.c0
                 have n1 := N11.c1
                 have n2 := N11.c2
                 have n3 := N11.c3
                 have n4 := N11.c4
                 have n5 := N11.c5
                 have y11 : wr.Since wr.heap.size w11 := v8.trans (sinceMono v11 v8.size)
                 have u11 : w1.Since w1.heap.size w11 := ux.trans (sinceMono y11 ux.size)
                 have J4 := writeString_q w1.heap.size w1.heap.size X L1 w11 (bld_keep hbX.out y11) (by omega) u11.size)
              | (go_at_call 24
                 with_reducible refine J4.mono ?_
                 rintro e w12 ⟨⟨x12, rfl⟩, hb12, s12, k12⟩
                 have u12 : w1.Since w1.heap.size w12 := u11.trans s12
                 have z12 := s12.size
                 have z11 := y11.size
                 have hN7 := ((s8.trans (sinceMono v11 s8.size)).block wr.heap.size (by omega)).trans hNB.out
                 have hN12 := blk_oth hN7 k12 (by omega) (by decide)
                 have N12 := N11.blk (hN12.trans hN7.symm)
                 have t0 := N12.c0
                 have t1 := N12.c1
                 have t2 := N12.c2
                 have t3 := N12.c3
                 have t4 := N12.c4
                 have t5 := N12.c5
                 have K12 := hide ((Kx.out.keep y11).oth k12 (by omega))
                 have hN7 := hide hN7
                 have hN12 := hide hN12
                 have k12 := hide k12
                 have hb12 := hide hb12))
          all_goals clear h0 h1 h2 h3 h4 h5 j0 j1 j2 j3 j4 j5 m0 m1 m2 m3 m4 m5 n0 n1 n2 n3 n4 n5 t0 t1 t2 t3 t4 t5 J1 J2 J3 J4 hme hen hN7 hN12 k12
          all_goals go_wp2
          all_goals go_roundw
          case rel => exact ⟨k + 1, by omega, by go_num, u12, by omega, K12, hide (by rw [HE.out]; exact hb12.out)⟩
          case measure => simp [intOf]; omega
        · have ek : k = g.nn := by omega
          subst ek
          have hz1 : ¬ ((g.nn : Int) < (g.nn : Int)) := by omega
          have q5 := (B1.keep ux).c5
          have lto := TP.out.out
          obtain ⟨X, hX⟩ : ∃ X, Y0 ++ nodesB g g.nn = X := ⟨_, rfl⟩
          have hXl : X.length ≤ 300000200 := by rw [← hX, List.length_append]; omega
          obtain ⟨L1, hL1⟩ : ∃ L, Lib.join [[111, 117, 116, 112, 117, 116], decB g.out] [32] ++ [10] = L := ⟨_, rfl⟩
          have eL1 : L1 = [111, 117, 116, 112, 117, 116, 32] ++ (decB g.out ++ [10]) := by rw [← hL1]; simp [Lib.join]
          have ll1 : L1.length ≤ 100 := by rw [eL1]; simp; omega
          have HE : Hid (graphB g = X ++ L1) := hide (by rw [graphB_eq, ← hX, ← HY.out, eL1]; simp)
          have hbX : Hid (Lib.IsBuilder 62 5 w1.heap.size w1.heap.size (Lib.byteCells (X)) wr) := hide (by rw [← hX]; exact hbx.out)
          have HJ := hide hL1
          clear hX hl1 hL1 eL1 hbx
          go_wp2_with fail
          refine (itoa_q g.out wr o0 (by omega) (hP.stay SX)).mono ?_
          rintro e w7 ⟨rfl, s7⟩
          have sW : w7.Since w7.heap.size (w7.alloc (.cells #[.string ⟨#[111, 117, 116, 112, 117, 116]⟩, .string ⟨(decB g.out).toArray⟩] 9)) := (World.Since.refl _ _).alloc (Nat.le_refl _) _
          have J3 : Calls Tryz.prog 25 #[.slice (some ⟨w7.heap.size, 0, none⟩) 2 2] (w7.alloc (.cells #[.string ⟨#[111, 117, 116, 112, 117, 116]⟩, .string ⟨(decB g.out).toArray⟩] 9)) fun e w' => e = .returned (.string ⟨L1.toArray⟩) ∧ (w7.alloc (.cells #[.string ⟨#[111, 117, 116, 112, 117, 116]⟩, .string ⟨(decB g.out).toArray⟩] 9)).Since (w7.alloc (.cells #[.string ⟨#[111, 117, 116, 112, 117, 116]⟩, .string ⟨(decB g.out).toArray⟩] 9)).heap.size w' := by
            have := lineOf_q w7.heap.size 0 2 [[111, 117, 116, 112, 117, 116], decB g.out] (w7.alloc (.cells #[.string ⟨#[111, 117, 116, 112, 117, 116]⟩, .string ⟨(decB g.out).toArray⟩] 9)) (line_cells _ rfl) (by simp) (by simp) (by simp) (by have := congrArg List.length HJ.out; rw [List.length_append] at this; omega)
            rw [HJ.out] at this
            exact this
          clear q5
          go_wp2_with fail
          refine J3.mono ?_
          rintro e w8 ⟨rfl, s8⟩
          have v8 : wr.Since wr.heap.size w8 := (s7.trans (sinceMono sW s7.size)).trans (sinceMono s8 (Nat.le_trans s7.size sW.size))
          have u8 : w1.Since w1.heap.size w8 := ux.trans (sinceMono v8 ux.size)
          have J4 := writeString_q w1.heap.size w1.heap.size X L1 w8 (bld_keep hbX.out v8) (by omega) u8.size
          clear J3
          go_wp2_with fail
          refine J4.mono ?_
          rintro e w9 ⟨⟨x9, rfl⟩, hb9, s9, -⟩
          have u9 : w1.Since w1.heap.size w9 := u8.trans s9
          have J5 := Tryz.Builder_String_any w1.heap.size w1.heap.size (X ++ L1) w9 hb9 u9.size
          have hb9 := hide hb9
          clear J4
          go_wp2_with fail
          refine J5.mono ?_
          rintro e w10 ⟨rfl, b10⟩
          clear J5
          go_wp2
          go_ret
          rw [HE.out]
          exact ⟨rfl, S1.trans (sinceMono (u9.trans (since_of_below b10)) S1.size)⟩

theorem implGraphText_ok (g : GraphD) (aL aH aN : Option Addr) (lo kL kH kN : Nat) (w : World) (hP : Pow w) (hd : g.size ≤ 1048576) (H : GraL w lo g aL aH aN kL kH kN) (E : GraV g) :
    Calls Tryz.prog 8 #[.agg #[.int .i64 g.inn, .int .i64 g.rounds, .slice aL g.nl kL, .slice aH g.nh kH, .slice aN g.nn kN, .int .i64 g.out]] w fun e w' => e = .returned (.string ⟨(graphB g).toArray⟩) ∧ w.Since w.heap.size w' := by
  have i1 := E.head.i1
  have el := E.head.l
  have eh := E.head.h
  obtain ⟨bL, oL, -, LL⟩ := H.LL
  obtain ⟨bH, oH, -, LH⟩ := H.LH
  have eL := (LL 0 (by omega)).1
  have eH := (LH 0 (by omega)).1
  subst eL eH
  exact implGraphText_okA g bL oL bH oH aN lo kL kH kN w hP hd H E LL LH

end Go.Proofs.YtlpabmcebpppfaaGreatDoor

namespace Go.Proofs.YtlpabmcebpppfaaGreatDoor
open Go.RowKit

/-- The text that GraphText answers. -/
def gTxt (g : GraphD) [Decidable (GraV g)] : List UInt8 := if GraV g then graphB g else []

open Classical in
theorem specGraphText_any (g : GraphD) (aL aH aN : Option Addr) (lo kL kH kN : Nat) (w : World) (hd : g.size ≤ 1048576) (H : GraL w lo g aL aH aN kL kH kN) :
    Calls Tryz.prog 6 #[.agg #[.int .i64 g.inn, .int .i64 g.rounds, .slice aL g.nl kL, .slice aH g.nh kH, .slice aN g.nn kN, .int .i64 g.out]] w fun e w' => e = .returned (.string ⟨(gTxt g).toArray⟩) ∧ w.Since w.heap.size w' := by
  by_cases E : GraV g
  · rw [gTxt, if_pos E]
    exact specGraphText_ok g aL aH aN lo kL kH kN w hd H E
  · rw [gTxt, if_neg E]
    exact specGraphText_no g aL aH aN lo kL kH kN w hd H E

open Classical in
theorem implGraphText_any (g : GraphD) (aL aH aN : Option Addr) (lo kL kH kN : Nat) (w : World) (hP : Pow w) (hd : g.size ≤ 1048576) (H : GraL w lo g aL aH aN kL kH kN) :
    Calls Tryz.prog 8 #[.agg #[.int .i64 g.inn, .int .i64 g.rounds, .slice aL g.nl kL, .slice aH g.nh kH, .slice aN g.nn kN, .int .i64 g.out]] w fun e w' => e = .returned (.string ⟨(gTxt g).toArray⟩) ∧ w.Since w.heap.size w' := by
  by_cases E : GraV g
  · rw [gTxt, if_pos E]
    exact implGraphText_ok g aL aH aN lo kL kH kN w hP hd H E
  · rw [gTxt, if_neg E]
    exact implGraphText_no g aL aH aN lo kL kH kN w hd H E

open Classical in
set_option maxHeartbeats 6400000 in
set_option maxRecDepth 100000 in
theorem graphText_law (g : GraphD) (aL aH aN : Option Addr) (lo kL kH kN : Nat) (w : World) (hP : Pow w) (hd : g.size ≤ 1048576) (H : GraL w lo g aL aH aN kL kH kN) :
    Calls Tryz.prog 3 #[.agg #[.int .i64 g.inn, .int .i64 g.rounds, .slice aL g.nl kL, .slice aH g.nh kH, .slice aN g.nn kN, .int .i64 g.out]] w fun e w' => e = .returned (.bool true) ∧ w.Since w.heap.size w' := by
  have sA : w.Since w.heap.size (w.alloc (.cells #[.int .i64 g.inn, .int .i64 g.rounds, .slice aL g.nl kL, .slice aH g.nh kH, .slice aN g.nn kN, .int .i64 g.out] 25)) := (World.Since.refl _ _).alloc (Nat.le_refl _) _
  have bA := Box6.new w (.int .i64 g.inn) (.int .i64 g.rounds) (.slice aL g.nl kL) (.slice aH g.nh kH) (.slice aN g.nn kN) (.int .i64 g.out) 25
  have J0 := szGraph_any g aL aH aN lo kL kH kN 1048576 _ (by omega) (H.keep sA)
  rw [szl_ok hd] at J0
  have hl : ¬ (((1048576 - g.size : Nat) : Int) < 0) := by omega
  go_enter Tryz.func3, Tryz.ntmps3
  go_wp2_with fail
  generalize w.alloc (.cells #[.int .i64 g.inn, .int .i64 g.rounds, .slice aL g.nl kL, .slice aH g.nh kH, .slice aN g.nn kN, .int .i64 g.out] 25) = wA at *
  refine J0.mono ?_
  rintro e w1 ⟨rfl, s0⟩
  have S1 : w.Since w.heap.size w1 := sA.trans (sinceMono s0 sA.size)
  have B1 := bA.keep s0
  have b0 := B1.c0
  have b1 := B1.c1
  have b2 := B1.c2
  have b3 := B1.c3
  have b4 := B1.c4
  have b5 := B1.c5
  clear bA J0
  -- w0 := spec.GraphText(toGraph(aG))
  go_wp2_with fail
  refine (toGraph_own g aL aH aN lo kL kH kN w1 hd (H.keep S1)).mono ?_
  rintro e w2 ⟨y1, y2, y3, rfl, -, H2, s2⟩
  have S2 : w.Since w.heap.size w2 := S1.trans (sinceMono s2 S1.size)
  have B2 := B1.keep s2
  clear b0 b1 b2 b3 b4 b5 B1 hl
  go_wp2_with fail
  refine (specGraphText_any g _ _ _ _ _ _ _ w2 hd H2).mono ?_
  rintro e w4 ⟨rfl, s4⟩
  have S4 : w.Since w.heap.size w4 := S2.trans (sinceMono s4 S2.size)
  have B4 := B2.keep s4
  have d0 := B4.c0
  have d1 := B4.c1
  have d2 := B4.c2
  have d3 := B4.c3
  have d4 := B4.c4
  have d5 := B4.c5
  clear H2 B2
  -- x0 := toGraph(aG)
  go_wp2_with fail
  refine (toGraph_own g aL aH aN lo kL kH kN w4 hd (H.keep S4)).mono ?_
  rintro e w5 ⟨x1, x2, x3, rfl, -, H5, s5⟩
  have S5 : w.Since w.heap.size w5 := S4.trans (sinceMono s5 S4.size)
  have B5 := B4.keep s5
  clear d0 d1 d2 d3 d4 d5
  have t5 : w5.Since w5.heap.size (w5.alloc (.cells #[.int .i64 g.inn, .int .i64 g.rounds, .slice (some ⟨x1, 0, none⟩) g.nl g.nl, .slice (some ⟨x2, 0, none⟩) g.nh g.nh, .slice (some ⟨x3, 0, none⟩) g.nn g.nn, .int .i64 g.out] 31)) := (World.Since.refl _ _).alloc (Nat.le_refl _) _
  have C6 := Box6.new w5 (.int .i64 g.inn) (.int .i64 g.rounds) (.slice (some ⟨x1, 0, none⟩) g.nl g.nl) (.slice (some ⟨x2, 0, none⟩) g.nh g.nh) (.slice (some ⟨x3, 0, none⟩) g.nn g.nn) (.int .i64 g.out) 31
  go_wp2_with fail
  generalize w5.alloc (.cells #[.int .i64 g.inn, .int .i64 g.rounds, .slice (some ⟨x1, 0, none⟩) g.nl g.nl, .slice (some ⟨x2, 0, none⟩) g.nh g.nh, .slice (some ⟨x3, 0, none⟩) g.nn g.nn, .int .i64 g.out] 31) = w6 at *
  have S6 : w.Since w.heap.size w6 := S5.trans (sinceMono t5 S5.size)
  have B6 := B5.keep t5
  have H6 := H5.keep t5
  clear B5 H5
  -- g0 := impl.GraphText(x0)
  refine (implGraphText_any g _ _ _ _ _ _ _ w6 (hP.stay S6) hd H6).mono ?_
  rintro e w8 ⟨rfl, s8⟩
  have S8 : w.Since w.heap.size w8 := S6.trans (sinceMono s8 S6.size)
  have B8 := B6.keep s8
  have C8 := C6.keep s8
  have H8 := H6.keep s8
  clear B6 C6 H6
  generalize gTxt g = txt
  have d0 := B8.c0
  have d1 := B8.c1
  have d2 := B8.c2
  have d3 := B8.c3
  have d4 := B8.c4
  have d5 := B8.c5
  have f0 := C8.c0
  have f1 := C8.c1
  have f2 := C8.c2
  have f3 := C8.c3
  have f4 := C8.c4
  have f5 := C8.c5
  go_wp2_with fail
  have q9 : w8.Since w8.heap.size w8.drew := (World.Since.refl _ _).drew
  have S9 : w.Since w.heap.size w8.drew := S8.trans (sinceMono q9 S8.size)
  have J2 := toGraph_own g aL aH aN lo kL kH kN w8.drew hd (H.keep S9)
  go_region_held3 (fun w' => w'.cell? ⟨w.heap.size, 0, none⟩ = some (.int .i64 g.inn) ∧ w'.cell? ⟨w.heap.size, 1, none⟩ = some (.int .i64 g.rounds) ∧ w'.cell? ⟨w.heap.size, 2, none⟩ = some (.slice aL g.nl kL) ∧ w'.cell? ⟨w.heap.size, 3, none⟩ = some (.slice aH g.nh kH) ∧ w'.cell? ⟨w.heap.size, 4, none⟩ = some (.slice aN g.nn kN) ∧ w'.cell? ⟨w.heap.size, 5, none⟩ = some (.int .i64 g.out) ∧ w'.cell? ⟨w5.heap.size, 0, none⟩ = some (.int .i64 g.inn) ∧ w'.cell? ⟨w5.heap.size, 1, none⟩ = some (.int .i64 g.rounds) ∧ w'.cell? ⟨w5.heap.size, 2, none⟩ = some (.slice (some ⟨x1, 0, none⟩) g.nl g.nl) ∧ w'.cell? ⟨w5.heap.size, 3, none⟩ = some (.slice (some ⟨x2, 0, none⟩) g.nh g.nh) ∧ w'.cell? ⟨w5.heap.size, 4, none⟩ = some (.slice (some ⟨x3, 0, none⟩) g.nn g.nn) ∧ w'.cell? ⟨w5.heap.size, 5, none⟩ = some (.int .i64 g.out)) (go_keep)
    (first
      | (go_at_call 7
         with_reducible refine J2.mono ?_
         rintro e w10 ⟨z1, z2, z3, rfl, -, H10, s10⟩
         have q10 : w8.Since w8.heap.size w10 := q9.trans (sinceMono s10 q9.size)
         have J3 := eqGraph_true g _ _ _ _ _ _ _ _ _ _ _ _ _ _ w10 hd (H8.keep q10) H10
         have B10 := B8.keep q10
         have D10 := C8.keep q10
         have i0 := B10.c0
         have i1 := B10.c1
         have i2 := B10.c2
         have i3 := B10.c3
         have i4 := B10.c4
         have i5 := B10.c5
         have j0 := D10.c0
         have j1 := D10.c1
         have j2 := D10.c2
         have j3 := D10.c3
         have j4 := D10.c4
         have j5 := D10.c5
         clear B10 D10)
      | (go_at_call 9
         with_reducible refine J3.mono ?_
         rintro e w11 ⟨rfl, s11⟩
         have q11 : w8.Since w8.heap.size w11 := q10.trans (sinceMono s11 q10.size)
         have B11 := B8.keep q11
         have D11 := C8.keep q11
         have i0 := B11.c0
         have i1 := B11.c1
         have i2 := B11.c2
         have i3 := B11.c3
         have i4 := B11.c4
         have i5 := B11.c5
         have j0 := D11.c0
         have j1 := D11.c1
         have j2 := D11.c2
         have j3 := D11.c3
         have j4 := D11.c4
         have j5 := D11.c5
         skip))
  all_goals go_wp2
  all_goals go_ret
  all_goals exact ⟨rfl, S8.trans (sinceMono q11 S8.size)⟩

set_option maxHeartbeats 1600000 in
set_option maxRecDepth 100000 in
theorem graphText_long (g : GraphD) (aL aH aN : Option Addr) (lo kL kH kN : Nat) (w : World) (hd : 1048576 < g.size) (H : GraL w lo g aL aH aN kL kH kN) :
    Calls Tryz.prog 3 #[.agg #[.int .i64 g.inn, .int .i64 g.rounds, .slice aL g.nl kL, .slice aH g.nh kH, .slice aN g.nn kN, .int .i64 g.out]] w fun e w' => e = .returned (.bool true) ∧ w.Since w.heap.size w' := by
  have sA : w.Since w.heap.size (w.alloc (.cells #[.int .i64 g.inn, .int .i64 g.rounds, .slice aL g.nl kL, .slice aH g.nh kH, .slice aN g.nn kN, .int .i64 g.out] 25)) := (World.Since.refl _ _).alloc (Nat.le_refl _) _
  have J0 := szGraph_any g aL aH aN lo kL kH kN 1048576 _ (by omega) (H.keep sA)
  rw [szl_no hd] at J0
  go_enter Tryz.func3, Tryz.ntmps3
  go_wp2_with fail
  refine J0.mono ?_
  rintro e w0 ⟨rfl, s0⟩
  go_wp2
  go_ret
  exact ⟨rfl, sA.trans (sinceMono s0 sA.size)⟩

end Go.Proofs.YtlpabmcebpppfaaGreatDoor
