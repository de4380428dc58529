import Derived.Test.YtlpabmcebpppfaaGreatDoorOwnP32
import Derived.Test.YtlpabmcebpppfaaGreatDoorOwnP26
import Derived.Test.YtlpabmcebpppfaaGreatDoorOwnP19
import Derived.Test.YtlpabmcebpppfaaGreatDoorOwnP17
namespace Go.Proofs.YtlpabmcebpppfaaGreatDoor
open Go.RowKit

set_option maxHeartbeats 6400000 in
set_option maxRecDepth 100000 in
theorem implNetText_no (a : Option Addr) (lo b off n cap : Nat) (A : Nat → AffD) (w : World) (hn : n ≤ 1048576) (hs : szA A n ≤ 1048576) (H : Affs w lo a b off n A) (hno : ¬ NetP n A) :
    Calls Tryz.prog 13 #[.agg #[.slice a n cap]] w fun e w' => e = .returned (.string ⟨#[]⟩) ∧ w.Since w.heap.size w' := by
  have sA : w.Since w.heap.size (w.alloc (.cells #[.slice a n cap] 42)) := (World.Since.refl _ _).alloc (Nat.le_refl _) _
  have bA := Box1.new w (.slice a n cap) 42
  go_enter Tryz.func13, Tryz.ntmps13
  go_wp2_with fail
  generalize w.alloc (.cells #[.slice a n cap] 42) = wA at *
  refine (implNetOk_any a lo b off n cap A wA (Nat.zero_le _) trivial (by omega) (by omega) (H.keep sA)).mono ?_
  rintro e w1 ⟨r, rfl, i, s1⟩
  obtain rfl : r = false := by
    cases r
    · rfl
    · exact absurd (i.1 rfl) hno
  clear i hno
  go_wp2
  go_ret
  exact ⟨rfl, sA.trans (sinceMono s1 sA.size)⟩

set_option maxHeartbeats 1600000 in
set_option maxRecDepth 100000 in
/-- A row of a matrix, its numbers as they lie. -/
theorem row_r (c : Nat) (rows cols r nw k1 lo b off : Nat) (a1 : Option Addr) (W : Nat → RatD) (w : World) (hr : r < rows) (hrw : rows ≤ 20000) (hcl : cols ≤ 20000) (hnw : nw = rows * cols) (hk : nw ≤ k1)
    (B : Box3 w c (.int .i64 rows) (.int .i64 cols) (.slice a1 nw k1)) (H : Rats w lo a1 b off nw W) :
    Calls Tryz.prog 41 #[.pointer (some ⟨c, 0, none⟩), .int .i64 r] w fun e w' => ∃ a' b' off', e = .returned (.slice a' cols cols) ∧ Rats w' lo a' b' off' cols (fun j => W (r * cols + j)) ∧ w.Since w.heap.size w' := by
  have k0 := B.c0
  have k1' := B.c1
  have k2 := B.c2
  obtain ⟨F, hF⟩ : ∃ F, F = r * cols := ⟨_, rfl⟩
  obtain ⟨G, hG⟩ : ∃ G, G = (r + 1) * cols := ⟨_, rfl⟩
  have hFG : G = F + cols := by rw [hF, hG, Nat.add_mul, Nat.one_mul]
  have hGn : G ≤ nw := by rw [hG, hnw]; exact Nat.mul_le_mul_right _ hr
  have hnb : nw ≤ 20000 * 20000 := by rw [hnw]; exact Nat.mul_le_mul hrw hcl
  have e1 : (r : Int) * (cols : Int) = (F : Int) := by rw [hF, Int.natCast_mul]
  have e2 : ((r : Int) + 1) * (cols : Int) = (G : Int) := by rw [hG, Int.natCast_mul]; rfl
  have f1 : (F : Int) ≤ (G : Int) := by omega
  have f2 : (G : Int) ≤ (k1 : Int) := by omega
  have f3 : (G : Int) ≤ 400000000 := by omega
  have HF := hide hF
  have HG := hide hFG
  clear hF hG hnw hFG
  go_enter Tryz.func41, Tryz.ntmps41
  go_wp2_with fail
  go_quiet (fail)
  go_wp2
  case inl =>
    go_ret
    have hc : cols = 0 := by have := HG.out; omega
    refine ⟨a1, ?_, ⟨b, off, fun j hj => absurd hj (by omega)⟩, (Same.refl w).drewN _ |>.since _⟩
    show Ending.returned (.slice a1 0 0) = _
    rw [hc]
  case inr =>
    go_ret
    refine ⟨Option.map (fun x => x.add (F * 3)) a1, ?_, ⟨b, off + F * 3, ?_⟩, (Same.refl w).drewN _ |>.since _⟩
    · show Ending.returned (.slice (Option.map (fun x => x.add (F * 3)) a1) (G - F) (G - F)) = _
      rw [HG.out, Nat.add_sub_cancel_left]
    · rw [← HF.out]
      exact (H.sub F cols (by have := HG.out; omega)).keep ((Same.refl w).drewN _ |>.since _)

set_option maxHeartbeats 25600000 in
set_option maxRecDepth 100000 in
theorem implNetText_okA (lo b off n cap : Nat) (A : Nat → AffD) (w : World) (hP : Pow w) (hn : n ≤ 1048576) (hs : szA A n ≤ 1048576) (H : Affs w lo (some ⟨b, off, none⟩) b off n A) (hN : NetP n A) :
    Calls Tryz.prog 13 #[.agg #[.slice (some ⟨b, off, none⟩) n cap]] w fun e w' => e = .returned (.string ⟨(netB n A).toArray⟩) ∧ w.Since w.heap.size w' := by
  have TP := hide (TxtN.of hN hn hs H)
  have sA : w.Since w.heap.size (w.alloc (.cells #[.slice (some ⟨b, off, none⟩) n cap] 42)) := (World.Since.refl _ _).alloc (Nat.le_refl _) _
  have bA := Box1.new w (.slice (some ⟨b, off, none⟩) n cap) 42
  have NP := hide hN
  have n1 := hN.n1
  obtain ⟨i0, hi, hz0, hz1, hz2⟩ := infoStr
  go_enter Tryz.func13, Tryz.ntmps13
  go_wp2_with fail
  generalize w.alloc (.cells #[.slice (some ⟨b, off, none⟩) n cap] 42) = wA at *
  refine (implNetOk_any _ lo b off n cap A wA (Nat.zero_le _) trivial (by omega) (by omega) (H.keep sA)).mono ?_
  rintro e w1 ⟨r, rfl, i, s1⟩
  obtain rfl : r = true := i.2 hN
  clear i hN
  have S1 : w.Since w.heap.size w1 := sA.trans (sinceMono s1 sA.size)
  have B1 := bA.keep s1
  have l1 := B1.lt
  have sB : w1.Since w1.heap.size (w1.alloc (.cells #[.pointer none, .slice none 0 0] 62)) := (World.Since.refl _ _).alloc (Nat.le_refl _) _
  have hb0 : Hid (Lib.IsBuilder 62 5 w1.heap.size w1.heap.size (Lib.byteCells []) (w1.alloc (.cells #[.pointer none, .slice none 0 0] 62))) := hide (Lib.fresh_isBuilder 62 5 w1)
  have B2 := B1.keep sB
  have q0 := B2.c0
  have zB : (w1.alloc (.cells #[.pointer none, .slice none 0 0] 62)).heap.size = w1.heap.size + 1 := by simp
  have hP1 := hP.stay S1
  obtain ⟨L1, hL1⟩ : ∃ L, Lib.join [[110, 101, 116], decB (n : Int)] [32] ++ [10] = L := ⟨_, rfl⟩
  have HL1 : Hid (netH n = L1) := hide (by rw [← hL1]; simp [netH, Lib.join])
  have HJ := hide hL1
  have ll1 : L1.length ≤ 100 := by rw [← HL1.out]; exact TP.out.net
  clear hL1
  go_wp2_with fail
  generalize w1.alloc (.cells #[.pointer none, .slice none 0 0] 62) = wB at *
  refine (itoa_q n wB (by omega) (by omega) (hP1.stay sB)).mono ?_
  rintro e w3 ⟨rfl, v3⟩
  have sW : w3.Since w3.heap.size (w3.alloc (.cells #[.string ⟨#[110, 101, 116]⟩, .string ⟨(decB (n : Int)).toArray⟩] 9)) := (World.Since.refl _ _).alloc (Nat.le_refl _) _
  have J3 : Calls Tryz.prog 25 #[.slice (some ⟨w3.heap.size, 0, none⟩) 2 2] (w3.alloc (.cells #[.string ⟨#[110, 101, 116]⟩, .string ⟨(decB (n : Int)).toArray⟩] 9)) fun e w' => e = .returned (.string ⟨L1.toArray⟩) ∧ (w3.alloc (.cells #[.string ⟨#[110, 101, 116]⟩, .string ⟨(decB (n : Int)).toArray⟩] 9)).Since (w3.alloc (.cells #[.string ⟨#[110, 101, 116]⟩, .string ⟨(decB (n : Int)).toArray⟩] 9)).heap.size w' := by
    have := lineOf_q w3.heap.size 0 2 [[110, 101, 116], decB (n : Int)] (w3.alloc (.cells #[.string ⟨#[110, 101, 116]⟩, .string ⟨(decB (n : Int)).toArray⟩] 9)) (line_cells _ rfl) (by simp) (by simp) (by simp) (by have := congrArg List.length HJ.out; rw [List.length_append] at this; omega)
    rw [HJ.out] at this
    exact this
  clear q0
  go_wp2_with fail
  refine J3.mono ?_
  rintro e w4 ⟨rfl, s4⟩
  have v4 : wB.Since wB.heap.size w4 := (v3.trans (sinceMono sW v3.size)).trans (sinceMono s4 (Nat.le_trans v3.size sW.size))
  have u4 : w1.Since w1.heap.size w4 := sB.trans (sinceMono v4 sB.size)
  have J4 := writeString_q w1.heap.size w1.heap.size [] L1 w4 (bld_keep hb0.out v4) (by simp; omega) u4.size
  clear J3
  go_wp2_with fail
  refine J4.mono ?_
  rintro e w5 ⟨⟨x5, rfl⟩, hb5, s5, -⟩
  have u5 : w1.Since w1.heap.size w5 := u4.trans s5
  have hb5 := hide hb5
  have q0 := (B1.keep u5).c0
  have z5 : w1.heap.size < w5.heap.size := by have := v4.size; have := s5.size; omega
  clear J4
  go_wp2_with fail
  clear q0
  go_loopw [23] (fun i wr => ∃ k : Nat, k ≤ n ∧ i = .int .i64 (k : Int) ∧ w1.Since w1.heap.size wr ∧ w1.heap.size < wr.heap.size ∧ Hid (Lib.IsBuilder 62 5 w1.heap.size w1.heap.size (Lib.byteCells (L1 ++ mapsB A k)) wr)) (fun i _ => n - (intOf i).toNat)
  case atStart => exact ⟨0, by omega, rfl, u5, z5, hide (by rw [mapsB, List.append_nil]; exact hb5.out)⟩
  case round =>
    obtain ⟨k, hk, rfl, u, hsz, hb⟩ := hrel
    have SS : w.Since w.heap.size wr := S1.trans (sinceMono u S1.size)
    have hl1 := TP.out.maps k hk
    by_cases hlt : k < n
    · have hlt' : (k : Int) < (n : Int) := by omega
      obtain ⟨-, a1, a2, k1, k2, M⟩ := H k hlt
      obtain ⟨bW, oW, -, LW⟩ := M.L.LW
      obtain ⟨bB, oB, -, LB⟩ := M.L.LB
      have mc1 := M.L.nc
      have mp := NP.out.map hlt
      have hh := TP.out.head k hlt
      have hrows := fun r => TP.out.rows k r hlt
      have hrow := fun r => TP.out.row k r hlt
      have hdz : (A k).size ≤ 1048576 := by have := szA_at (A := A) hlt; omega
      obtain ⟨R, hRr⟩ : ∃ R, (A k).rows.toNat = R := ⟨_, rfl⟩
      obtain ⟨C, hCc⟩ : ∃ C, (A k).cols.toNat = C := ⟨_, rfl⟩
      rw [hRr, hCc] at mp
      rw [hRr] at hrows hrow
      have M1 := M.keep SS
      have g0 := M1.c0
      have g1 := M1.c1
      have g2 := M1.c2
      have g3 := M1.c3
      rw [mp.r] at g0
      rw [mp.c] at g1
      have rR := mp.r1
      have cC := mp.c1
      have vW := mp.vW
      have vB := mp.vB
      obtain ⟨nw, hnw⟩ : ∃ m, (A k).nw = m := ⟨_, rfl⟩
      obtain ⟨nb, hnb⟩ : ∃ m, (A k).nb = m := ⟨_, rfl⟩
      rw [hnw] at g2 LW vW mc1
      rw [hnb] at g3 LB vB
      have eNW : nw = R * C := by rw [← hnw]; exact mp.nw
      have eNB : nb = R := by rw [← hnb]; exact mp.nb
      have HW := hide eNW
      have HB := hide eNB
      have HDZ : Hid (nw + szR (A k).W nw + (nb + szR (A k).B nb) ≤ 1048576) := hide (by rw [← hnw, ← hnb]; exact hdz)
      obtain ⟨X, hX⟩ : ∃ X, L1 ++ mapsB A k = X := ⟨_, rfl⟩
      have hXl : X.length ≤ 100000200 := by rw [← hX, List.length_append]; omega
      have hbX : Hid (Lib.IsBuilder 62 5 w1.heap.size w1.heap.size (Lib.byteCells (X)) wr) := hide (by rw [← hX]; exact hb.out)
      obtain ⟨L2, hL2⟩ : ∃ L, Lib.join [[109, 97, 112], decB (R : Int), decB (C : Int)] [32] ++ [10] = L := ⟨_, rfl⟩
      have eL2 : mapH (A k) = L2 := by rw [← hL2, mapH, mp.r, mp.c]; simp [Lib.join]
      have ll2 : L2.length ≤ 200 := by rw [← eL2]; exact hh
      have HE : Hid (L1 ++ mapsB A (k + 1) = X ++ L2 ++ rowsL (A k) R) := hide (by rw [← hX, mapsB, eL2, hRr]; simp)
      have HX := hide hX
      have HC := hide hCc
      have HJ := hide hL2
      clear hX hL2 eL2 hnw hnb hb hl1 mp M1 hRr hCc hdz hh
      have sN : wr.Since wr.heap.size (wr.alloc (.cells #[.int .i64 (R : Int), .int .i64 (C : Int), .slice a1 nw k1, .slice a2 nb k2] 86)) := (World.Since.refl _ _).alloc (Nat.le_refl _) _
      have hNB : Hid ((wr.alloc (.cells #[.int .i64 (R : Int), .int .i64 (C : Int), .slice a1 nw k1, .slice a2 nb k2] 86)).heap[wr.heap.size]? = some (.cells #[.int .i64 (R : Int), .int .i64 (C : Int), .slice a1 nw k1, .slice a2 nb k2] 86)) := hide (Go.heap_alloc_new wr _)
      have nB := Box4.new wr (.int .i64 (R : Int)) (.int .i64 (C : Int)) (.slice a1 nw k1) (.slice a2 nb k2) 86
      have zN : (wr.alloc (.cells #[.int .i64 (R : Int), .int .i64 (C : Int), .slice a1 nw k1, .slice a2 nb k2] 86)).heap.size = wr.heap.size + 1 := by simp
      clear eNW eNB
      go_wp2_with fail
      clear g0 g1 g2 g3
      generalize wr.alloc (.cells #[.int .i64 (R : Int), .int .i64 (C : Int), .slice a1 nw k1, .slice a2 nb k2] 86) = wC at *
      have q0 := nB.c0
      have q1 := nB.c1
      have uC : w1.Since w1.heap.size wC := u.trans (sinceMono sN u.size)
      have dr : wC.Since wC.heap.size wC.drew := (World.Since.refl _ _).drew
      have J1 := itoa_q (R : Int) wC.drew (by omega) (by omega) (hP1.stay (uC.trans (sinceMono dr uC.size)))
      go_region_held3 (fun w' => w'.cell? ⟨wr.heap.size, 0, none⟩ = some (.int .i64 (R : Int)) ∧ w'.cell? ⟨wr.heap.size, 1, none⟩ = some (.int .i64 (C : Int))) (go_keep)
        (first
          | (go_at_call 26
             with_reducible refine J1.mono ?_
             rintro e w6 ⟨rfl, s6⟩
             have v6 : wC.Since wC.heap.size w6 := dr.trans (sinceMono s6 dr.size)
             have p0 := (nB.keep v6).c0
             have p1 := (nB.keep v6).c1
             have J2 := itoa_q (C : Int) w6 (by omega) (by omega) (hP1.stay (uC.trans (sinceMono v6 uC.size))))
          | (go_at_call 26
             with_reducible refine J2.mono ?_
             rintro e w7 ⟨rfl, s7⟩
             have v7 : wC.Since wC.heap.size w7 := v6.trans (sinceMono s7 v6.size)
             have t0 := (nB.keep v7).c0
             have t1 := (nB.keep v7).c1
             have sW : w7.Since w7.heap.size (w7.alloc (.cells #[.string ⟨#[109, 97, 112]⟩, .string ⟨(decB (R : Int)).toArray⟩, .string ⟨(decB (C : Int)).toArray⟩] 9)) := (World.Since.refl _ _).alloc (Nat.le_refl _) _
             have J3 : Calls Tryz.prog 25 #[.slice (some ⟨w7.heap.size, 0, none⟩) 3 3] (w7.alloc (.cells #[.string ⟨#[109, 97, 112]⟩, .string ⟨(decB (R : Int)).toArray⟩, .string ⟨(decB (C : Int)).toArray⟩] 9)) fun e w' => e = .returned (.string ⟨L2.toArray⟩) ∧ (w7.alloc (.cells #[.string ⟨#[109, 97, 112]⟩, .string ⟨(decB (R : Int)).toArray⟩, .string ⟨(decB (C : Int)).toArray⟩] 9)).Since (w7.alloc (.cells #[.string ⟨#[109, 97, 112]⟩, .string ⟨(decB (R : Int)).toArray⟩, .string ⟨(decB (C : Int)).toArray⟩] 9)).heap.size w' := by
               have := lineOf_q w7.heap.size 0 3 [[109, 97, 112], decB (R : Int), decB (C : Int)] (w7.alloc (.cells #[.string ⟨#[109, 97, 112]⟩, .string ⟨(decB (R : Int)).toArray⟩, .string ⟨(decB (C : Int)).toArray⟩] 9)) (line_cells _ rfl) (by simp) (by simp) (by simp) (by have := congrArg List.length HJ.out; rw [List.length_append] at this; omega)
               rw [HJ.out] at this
               exact this)
          | (go_at_call 25
             with_reducible refine J3.mono ?_
             rintro e w8 ⟨rfl, s8⟩
             have v8 : wC.Since wC.heap.size w8 := (v7.trans (sinceMono sW v7.size)).trans (sinceMono s8 (Nat.le_trans v7.size sW.size))
             have m0 := (nB.keep v8).c0
             have m1 := (nB.keep v8).c1
             have u8 : w1.Since w1.heap.size w8 := uC.trans (sinceMono v8 uC.size)
             have J4 := writeString_q w1.heap.size w1.heap.size X L2 w8 (bld_keep (bld_keep hbX.out sN) v8) (by omega) u8.size)
          | (go_at_call 24
             with_reducible refine J4.mono ?_
             rintro e w9 ⟨⟨x9, rfl⟩, hb9, s9, k9⟩
             have u9 : w1.Since w1.heap.size w9 := u8.trans s9
             have h5 := blk_oth (blk_keep hNB.out v8) k9 (by omega) (by decide)
             have n0 := (Box4.of_heap h5).c0
             have n1' := (Box4.of_heap h5).c1
             have n2 := (Box4.of_heap h5).c2
             have n3 := (Box4.of_heap h5).c3
             have h5 := hide h5
             have k9 := hide k9
             have z9 := s9.size
             have z8 := v8.size
             have hb9 := hide hb9))
      all_goals clear q0 q1 p0 p1 t0 t1 m0 m1 J1 J2 J3 J4 k9
      all_goals go_wp2_with fail
      refine (weightsOf_any (R : Int) (C : Int) a1 a2 nw k1 nb k2 w9).mono ?_
      rintro e w10 ⟨rfl, s10⟩
      have sM : w10.Since w10.heap.size (w10.alloc (.cells #[.int .i64 (R : Int), .int .i64 (C : Int), .slice a1 nw k1] 90)) := (World.Since.refl _ _).alloc (Nat.le_refl _) _
      have h6 : Hid ((w10.alloc (.cells #[.int .i64 (R : Int), .int .i64 (C : Int), .slice a1 nw k1] 90)).heap[w10.heap.size]? = some (.cells #[.int .i64 (R : Int), .int .i64 (C : Int), .slice a1 nw k1] 90)) := hide (Go.heap_alloc_new w10 _)
      have zM : (w10.alloc (.cells #[.int .i64 (R : Int), .int .i64 (C : Int), .slice a1 nw k1] 90)).heap.size = w10.heap.size + 1 := by simp
      have v10 : w9.Since w9.heap.size (w10.alloc (.cells #[.int .i64 (R : Int), .int .i64 (C : Int), .slice a1 nw k1] 90)) := s10.trans (sinceMono sM s10.size)
      have h5' := hide (blk_keep h5.out v10)
      have r0 := (Box4.of_heap h5'.out).c0
      clear n0 n1' n2 n3
      go_wp2_with fail
      clear r0
      generalize w10.alloc (.cells #[.int .i64 (R : Int), .int .i64 (C : Int), .slice a1 nw k1] 90) = w11 at *
      have u11 : w1.Since w1.heap.size w11 := u9.trans (sinceMono v10 u9.size)
      have z10 := s10.size
      generalize wr.heap.size = c5 at *
      go_loopw [40] (fun i wr => ∃ r : Nat, r ≤ R ∧ i = .int .i64 (r : Int) ∧ w1.Since w1.heap.size wr ∧ w11.heap.size ≤ wr.heap.size ∧ Hid (wr.heap[c5]? = some (.cells #[.int .i64 (R : Int), .int .i64 (C : Int), .slice a1 nw k1, .slice a2 nb k2] 86)) ∧ Hid (wr.heap[w10.heap.size]? = some (.cells #[.int .i64 (R : Int), .int .i64 (C : Int), .slice a1 nw k1] 90)) ∧ Hid (Lib.IsBuilder 62 5 w1.heap.size w1.heap.size (Lib.byteCells (X ++ L2 ++ rowsL (A k) r)) wr)) (fun i _ => R - (intOf i).toNat)
      case atStart => exact ⟨0, by omega, rfl, u11, Nat.le_refl _, h5', h6, hide (by rw [rowsL, List.append_nil]; exact bld_keep hb9.out v10)⟩
      case round =>
        obtain ⟨r, hr, rfl, ux, hzx, f5, f6, hbx⟩ := hrel
        have SX : w.Since w.heap.size wr := S1.trans (sinceMono ux S1.size)
        by_cases hrl : r < R
        · have hrl' : (r : Int) < (R : Int) := by omega
          have hrb : (r : Int) < (nb : Int) := by rw [HB.out]; exact hrl'
          obtain ⟨eaB, c1, c2, m1, m2, MB⟩ := LB r (by rw [HB.out]; exact hrl)
          subst eaB
          have okB := vB r (by rw [HB.out]; exact hrl)
          have szB : ((A k).B r).n + ((A k).B r).m ≤ 1048576 := by have := szR_at (R := (A k).B) (n := nb) (k := r) (by rw [HB.out]; exact hrl); have := HDZ.out; omega
          have hFn : r * C + C ≤ nw := by
            rw [HW.out]
            have := Nat.mul_le_mul_right C (show r + 1 ≤ R from hrl)
            rw [Nat.add_mul, Nat.one_mul] at this
            exact this
          have hCn : C + szR (fun j => (A k).W (r * C + j)) C ≤ 1048576 := by
            have e := szR_add (A k).W (r * C) C
            have m := szR_mono (R := (A k).W) hFn
            have := HDZ.out
            omega
          have okW : RatsOk (fun j => (A k).W (r * C + j)) C := fun j hj => vW _ (by omega)
          have eRS : rowS (A k) r = txts (fun j => (A k).W (r * C + j)) C ++ [((A k).B r).txt] := by
            unfold rowS rowW
            rw [HC.out]
          have hl2 := hrows r (by omega)
          have hl3 := hrow r hrl
          obtain ⟨T, hT⟩ : ∃ T, ((A k).B r).txt = T := ⟨_, rfl⟩
          obtain ⟨Y, hY⟩ : ∃ Y, X ++ L2 ++ rowsL (A k) r = Y := ⟨_, rfl⟩
          have hYl : Y.length ≤ 300000400 := by rw [← hY, List.length_append, List.length_append]; omega
          have hbY : Hid (Lib.IsBuilder 62 5 w1.heap.size w1.heap.size (Lib.byteCells (Y)) wr) := hide (by rw [← hY]; exact hbx.out)
          obtain ⟨L3, hL3⟩ : ∃ L, Lib.join (rowS (A k) r) [32] ++ [10] = L := ⟨_, rfl⟩
          have ll3 : L3.length ≤ 100000000 := by rw [← hL3]; exact hl3
          have HE3 : Hid (X ++ L2 ++ rowsL (A k) (r + 1) = Y ++ L3) := hide (by rw [← hY, rowsL, rowL, hL3]; simp)
          have HJ3 := hide hL3
          have HT := hide hT
          have HRS := hide eRS
          clear hY hL3 hT eRS hl2 hl3 hbx
          have dx : wr.Since wr.heap.size wr.drew := (World.Since.refl _ _).drew
          have SD : w.Since w.heap.size wr.drew := SX.trans (sinceMono dx SX.size)
          have J1 := row_r w10.heap.size R C r nw k1 lo bW oW a1 (A k).W wr.drew hrl rR cC HW.out mc1 (Box3.of_heap (blk_keep f6.out dx)) (LW.keep SD)
          have q3 := (Box4.of_heap f5.out).c3
          have MX := MB.keep SX
          have h0 := MX.c0
          have h1 := MX.c1
          have h2 := MX.c2
          clear MX
          go_wp2_with fail
          go_region_held3 (fun w' => w'.cell? ⟨c5, 3, none⟩ = some (.slice (some ⟨bB, oB, none⟩) nb k2) ∧ w'.cell? ⟨bB, oB + r * 3, none⟩ = some (.bool ((A k).B r).neg) ∧ w'.cell? ⟨bB, oB + r * 3 + 1, none⟩ = some (.slice c1 ((A k).B r).n m1) ∧ w'.cell? ⟨bB, oB + r * 3 + 2, none⟩ = some (.slice c2 ((A k).B r).m m2)) (go_keep)
            (first
              | (go_at_call 41
                 with_reducible refine J1.mono ?_
                 rintro e w12 ⟨ar, br, or, rfl, LR, s12⟩
                 have v12 : wr.Since wr.heap.size w12 := dx.trans (sinceMono s12 dx.size)
                 have S12 : w.Since w.heap.size w12 := SX.trans (sinceMono v12 SX.size)
                 have e3 := (Box4.of_heap (blk_keep f5.out v12)).c3
                 have l0 := (MB.keep S12).c0
                 have l1' := (MB.keep S12).c1
                 have l2 := (MB.keep S12).c2
                 have J2 := textsOf_q ar lo br or C C (fun j => (A k).W (r * C + j)) w12 hCn LR okW (hP.stay S12))
              | (go_at_call 40
                 with_reducible refine J2.mono ?_
                 rintro e w13 ⟨gt, ct, rfl, OT, s13⟩
                 have v13 : wr.Since wr.heap.size w13 := v12.trans (sinceMono s13 v12.size)
                 have S13 : w.Since w.heap.size w13 := SX.trans (sinceMono v13 SX.size)
                 have e3' := (Box4.of_heap (blk_keep f5.out v13)).c3
                 have l0' := (MB.keep S13).c0
                 have l1'' := (MB.keep S13).c1
                 have l2' := (MB.keep S13).c2
                 have J3 := textOf_m (MB.keep S13).L okB szB (hP.stay S13)
                 rw [HT.out] at J3)
              | (go_at_call 27
                 with_reducible refine J3.mono ?_
                 rintro e w14 ⟨rfl, s14⟩
                 have v14 : wr.Since wr.heap.size w14 := v13.trans (sinceMono s14 v13.size)
                 have S14 : w.Since w.heap.size w14 := SX.trans (sinceMono v14 SX.size)
                 have e3'' := (Box4.of_heap (blk_keep f5.out v14)).c3
                 have o0 := (MB.keep S14).c0
                 have o1 := (MB.keep S14).c1
                 have o2 := (MB.keep S14).c2
                 have OT4 := own_keep OT s14
                 have z12 := v12.size
                 have z14 := v14.size
                 have zz14 := s14.size
                 have zz13 := s13.size
                 have bl := MB.lt
                 have bl2 := SX.size
                 have c5lt := blk_lt f5.out)
              | (refine step_append_lies _ rfl _ _ 75 rfl w12.heap.size 9 i0 _ 1 16 Tryz.underlying75 hi hz0 hz1 hz2 rfl (by decide) _ C (strV (txts (fun j => (A k).W (r * C + j)) C)) rfl (OT4.alloc _) ⟨w14.heap.size, 0, none⟩ 1 1 [.string ⟨T.toArray⟩] rfl rfl (new_cell _ _ _) (one_one _ rfl) (by decide) (by unfold maxLen; omega) (by omega) (by simp; omega) (w14.heap.size + 1) (by simp) ?_
                 intro gw cw w15 OW hgrow hat hlt15
                 have sW := (World.Since.refl w14.heap.size w14).alloc (Nat.le_refl _) (.cells #[.string ⟨T.toArray⟩] 9)
                 have lg := OT.lt gt rfl
                 have v15 : wr.Since wr.heap.size w15 := (v14.trans (sinceMono sW v14.size)).grown hgrow (by simp; omega) (fun q hq => by have := (OT.lt q hq).1; omega)
                 have S15 : w.Since w.heap.size w15 := SX.trans (sinceMono v15 SX.size)
                 have y3 := (Box4.of_heap (blk_keep f5.out v15)).c3
                 have y0 := (MB.keep S15).c0
                 have y1 := (MB.keep S15).c1
                 have y2 := (MB.keep S15).c2
                 have OW := hide OW))
          all_goals clear q3 h0 h1 h2 e3 l0 l1' l2 e3' l0' l1'' l2' e3'' o0 o1 o2 y0 y1 y2 y3 J1 J2 J3 hgrow hat
          all_goals go_wp2_with fail
          have OW' : w15.ownsRow w12.heap.size 9 1 (.slice (some ⟨gw, 0, none⟩) (C + 1) cw) (C + 1) (strV (rowS (A k) r)) := by
            rw [HRS.out, HT.out, show ∀ L : List (List UInt8), strV (L ++ [T]) = strV L ++ [.string ⟨T.toArray⟩] from fun L => by simp [strV]]
            exact OW.out
          obtain ⟨tc, tl, -, tk, tn⟩ := own_texts OW'
          have J5 : Calls Tryz.prog 25 #[.slice (some ⟨gw, 0, none⟩) (C + 1) cw] w15 fun e w' => e = .returned (.string ⟨L3.toArray⟩) ∧ w15.Since w15.heap.size w' := by
            have := lineOf_q gw 0 cw (rowS (A k) r) w15 (fun j x h => by rw [Nat.zero_add]; exact tc j x h) tl (by omega) (by omega) (by have := congrArg List.length HJ3.out; rw [List.length_append] at this; omega)
            rw [HJ3.out, tn] at this
            exact this
          clear OW' tc tk
          refine J5.mono ?_
          rintro e w16 ⟨rfl, s16⟩
          have v16 : wr.Since wr.heap.size w16 := v15.trans (sinceMono s16 v15.size)
          have u16 : w1.Since w1.heap.size w16 := ux.trans (sinceMono v16 ux.size)
          have J6 := writeString_q w1.heap.size w1.heap.size Y L3 w16 (bld_keep hbY.out v16) (by omega) u16.size
          clear J5
          go_wp2_with fail
          refine J6.mono ?_
          rintro e w17 ⟨⟨x17, rfl⟩, hb17, s17, k17⟩
          have u17 : w1.Since w1.heap.size w17 := u16.trans s17
          have z16 := v16.size
          have z17 := s17.size
          have f5' := hide (blk_oth (blk_keep f5.out v16) k17 (by omega) (by decide))
          have f6' := hide (blk_oth (blk_keep f6.out v16) k17 (by omega) (by decide))
          have hb17 := hide hb17
          have k17 := hide k17
          clear J6
          go_wp2
          go_roundw
          case rel => exact ⟨r + 1, by omega, by go_num, u17, by omega, f5', f6', hide (by rw [HE3.out]; exact hb17.out)⟩
          case measure => simp [intOf]; omega
        · have er : r = R := by omega
          subst er
          have hz1 : ¬ ((r : Int) < (r : Int)) := by omega
          go_wp2
          go_roundw
          case rel => exact ⟨k + 1, by omega, by go_num, ux, by omega, hide (by rw [HE.out]; exact hbx.out)⟩
          case measure => simp [intOf]; omega
    · have ek : k = n := by omega
      subst ek
      have hz1 : ¬ ((k : Int) < (k : Int)) := by omega
      have J5 := Tryz.Builder_String_any w1.heap.size w1.heap.size (L1 ++ mapsB A k) wr hb.out u.size
      go_wp2_with fail
      refine J5.mono ?_
      rintro e w10 ⟨rfl, b10⟩
      clear J5
      go_wp2
      go_ret
      rw [netB, HL1.out]
      exact ⟨rfl, S1.trans (sinceMono (u.trans (since_of_below b10)) S1.size)⟩

end Go.Proofs.YtlpabmcebpppfaaGreatDoor
