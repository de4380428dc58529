import Derived.Test.YtlpabmcebpppfaaGreatDoorOwnP26
import Derived.Deep.RegionHeldLaw
namespace Go.Proofs.YtlpabmcebpppfaaGreatDoor
open Go.RowKit

/-- A row that the specification writes, its first byte left out. -/
theorem cut_one {T U L : List UInt8} {x : UInt8} (h : T ++ U ++ [10] = x :: L) : ((⟨T.toArray⟩ : ByteArray) ++ ⟨U.toArray⟩ ++ ⟨#[10]⟩).extract 1 (T.length + U.length + 1) = ⟨L.toArray⟩ := by
  have e1 : (⟨T.toArray⟩ : ByteArray) ++ ⟨U.toArray⟩ ++ ⟨#[10]⟩ = ⟨(x :: L).toArray⟩ := by rw [← h]; simp [str_app]
  have e2 : T.length + U.length + 1 = L.length + 1 := by
    have := congrArg List.length h
    simp only [List.length_append, List.length_cons, List.length_nil] at this
    omega
  rw [e1, e2]
  apply ByteArray.ext
  simp [ByteArray.data_extract]

/-- A block of another kind is not the row's. -/
theorem ByteRow.ne {w : World} {base c : Nat} {v : Value} {l : List UInt8} {cs : Array Value} {fz : Nat × Nat} (h : ByteRow w base v l) (hc : w.heap[c]? = some (.cells cs 86 fz)) : v.ownBlock ≠ some c := fun e => by
  obtain ⟨g, cap, cur, fz', rfl, hb, hg, -⟩ := h
  simp [Value.ownBlock] at e
  subst e
  rw [hg] at hc
  simp at hc

/-- A conversion of a string to bytes. -/
theorem conv_bytes (s : ByteArray) (l : List UInt8) (e : s = ⟨l.toArray⟩) (w : World) : ∃ w' c, (convert 9 60 (.string s)).run Tryz.prog w = .ok (.slice (some ⟨w.heap.size, 0, none⟩) l.length c) w' ∧ w.Since w.heap.size w' ∧ ∀ j u, (Lib.byteCells l)[j]? = some u → w'.cell? ((⟨w.heap.size, 0, none⟩ : Addr).add j) = some u := by
  subst e
  have := Lib.run_convert_string_bytes (P := Tryz.prog) w 9 60 5 ⟨l.toArray⟩ Tryz.underlying9 Tryz.underlying60 Tryz.underlying5
  rw [bsz] at this
  exact ⟨_, _, this, bytes_since w 5 ⟨l.toArray⟩, bytes_cells w 5 l⟩

set_option maxHeartbeats 12800000 in
set_option maxRecDepth 100000 in
theorem specNetText_okA (lo b off n cap : Nat) (A : Nat → AffD) (w : World) (hn : n ≤ 1048576) (hs : szA A n ≤ 1048576) (H : Affs w lo (some ⟨b, off, none⟩) b off n A) (hN : NetP n A) :
    Calls Tryz.prog 11 #[.agg #[.slice (some ⟨b, off, none⟩) n cap]] w fun e w' => e = .returned (.string ⟨(netB n A).toArray⟩) ∧ w.Since w.heap.size w' := by
  have TP := hide (TxtN.of hN hn hs H)
  have sA : w.Since w.heap.size (w.alloc (.cells #[.slice (some ⟨b, off, none⟩) n cap] 42)) := (World.Since.refl _ _).alloc (Nat.le_refl _) _
  have bA := Box1.new w (.slice (some ⟨b, off, none⟩) n cap) 42
  have NP := hide hN
  have y1 := dec_lim (show (n : Int) ≤ 9223372036854775807 by omega)
  have x0 : 4 + (decB (n : Int)).length ≤ 9223372036854775807 := by omega
  have u0 : ¬ 9223372036854775807 < 4 + (decB (n : Int)).length := by omega
  have x1 : 4 + (decB (n : Int)).length + 1 ≤ 9223372036854775807 := by omega
  have u1 : ¬ 9223372036854775807 < 4 + (decB (n : Int)).length + 1 := by omega
  go_enter Tryz.func11, Tryz.ntmps11
  go_wp2_with fail
  generalize w.alloc (.cells #[.slice (some ⟨b, off, none⟩) n cap] 42) = wA at *
  refine (specNetOk_any _ lo b off n cap A wA (by omega) (by omega) (H.keep sA)).mono ?_
  rintro e w1 ⟨r, rfl, i, s1⟩
  obtain rfl : r = true := i.2 hN
  clear i hN
  have B1 := bA.keep s1
  have q0 := B1.c0
  go_wp2_with fail
  refine (l2Dec_q n w1 (by omega) (by omega)).mono ?_
  rintro e w2 ⟨rfl, s2⟩
  have u2 : wA.Since wA.heap.size w2 := s1.trans (sinceMono s2 s1.size)
  have es : (⟨#[110, 101, 116, 32]⟩ : ByteArray) ++ ⟨(decB (n : Int)).toArray⟩ ++ ⟨#[10]⟩ = ⟨(netH n).toArray⟩ := by simp [str_app, netH]
  have hcv : (convert 9 60 (.string ((⟨#[110, 101, 116, 32]⟩ : ByteArray) ++ ⟨(decB (n : Int)).toArray⟩ ++ ⟨#[10]⟩))).run Tryz.prog w2 = .ok (.slice (some ⟨w2.heap.size, 0, none⟩) (netH n).length (grownCap w2 (netH n).length 0 5)) (Lib.bytesWorld w2 5 ⟨(netH n).toArray⟩) := by
    rw [es]
    have := Lib.run_convert_string_bytes (P := Tryz.prog) w2 9 60 5 ⟨(netH n).toArray⟩ Tryz.underlying9 Tryz.underlying60 Tryz.underlying5
    rw [bsz] at this
    exact this
  have R3 := ByteRow.conv w2 (netH n) (by have := TP.out.net; omega)
  have s3 := bytes_since w2 5 ⟨(netH n).toArray⟩
  have u3 : wA.Since wA.heap.size (Lib.bytesWorld w2 5 ⟨(netH n).toArray⟩) := u2.trans (sinceMono s3 u2.size)
  obtain ⟨N0, hN0⟩ : ∃ N0, netH n = N0 := ⟨_, rfl⟩
  rw [hN0] at hcv R3 u3
  have HN0 := hide hN0
  clear q0 es s3 hN0
  generalize Lib.bytesWorld w2 5 ⟨N0.toArray⟩ = w3 at *
  generalize grownCap w2 N0.length 0 5 = c3 at *
  go_wp2_with fail
  clear hcv
  go_loopw [3, 4] (fun u i wr => ∃ k : Nat, k ≤ n ∧ i = .int .i64 (k : Int) ∧ wA.Since wA.heap.size wr ∧ Hid (ByteRow wr wA.heap.size u (N0 ++ mapsB A k))) (fun _ i _ => n - (intOf i).toNat)
  case atStart => exact ⟨0, Nat.zero_le _, rfl, u3, hide (by rw [mapsB, List.append_nil]; obtain ⟨g, cap, cur, fz, e, hb, r⟩ := R3; exact ⟨g, cap, cur, fz, e, Nat.le_trans u2.size hb, r⟩)⟩
  case round =>
    obtain ⟨k, hk, rfl, s, hR⟩ := hrel
    have B := bA.keep s
    have SS : w.Since w.heap.size wr := sA.trans (sinceMono s sA.size)
    have q0 := B.c0
    by_cases hlt : k < n
    · have hlt' : (k : Int) < (n : Int) := by omega
      obtain ⟨-, a1, a2, k1, k2, M⟩ := H k hlt
      have mp := NP.out.map hlt
      obtain ⟨R, hRr⟩ : ∃ R, (A k).rows.toNat = R := ⟨_, rfl⟩
      obtain ⟨C, hCc⟩ : ∃ C, (A k).cols.toNat = C := ⟨_, rfl⟩
      rw [hRr, hCc] at mp
      have M1 := M.keep SS
      have g0 := M1.c0
      have g1 := M1.c1
      have g2 := M1.c2
      have g3 := M1.c3
      rw [mp.r] at g0
      rw [mp.c] at g1
      obtain ⟨nw, hnw⟩ : ∃ m, (A k).nw = m := ⟨_, rfl⟩
      obtain ⟨nb, hnb⟩ : ∃ m, (A k).nb = m := ⟨_, rfl⟩
      rw [hnw] at g2
      rw [hnb] at g3
      have sN : wr.Since wr.heap.size (wr.alloc (.cells #[.int .i64 (R : Int), .int .i64 (C : Int), .slice a1 nw k1, .slice a2 nb k2] 86)) := (World.Since.refl _ _).alloc (Nat.le_refl _) _
      have nB := Box4.new wr (.int .i64 (R : Int)) (.int .i64 (C : Int)) (.slice a1 nw k1) (.slice a2 nb k2) 86
      have zN : (wr.alloc (.cells #[.int .i64 (R : Int), .int .i64 (C : Int), .slice a1 nw k1, .slice a2 nb k2] 86)).heap.size = wr.heap.size + 1 := by simp
      clear M1
      obtain ⟨bW, oW, -, LW⟩ := M.L.LW
      obtain ⟨bB, oB, -, LB⟩ := M.L.LB
      have mc1 := M.L.nc
      have mc2 := M.L.mc
      have hh := TP.out.head k hlt
      have hrows := fun r => TP.out.rows k r hlt
      have hrow := fun r => TP.out.row k r hlt
      have hdz : (A k).size ≤ 1048576 := by have := szA_at (A := A) hlt; omega
      have hl1 := TP.out.maps k hk
      have hl0 := TP.out.net
      rw [hRr] at hrows hrow
      have rR := mp.r1
      have cC := mp.c1
      have vW := mp.vW
      have vB := mp.vB
      rw [hnw] at LW vW mc1
      rw [hnb] at LB vB mc2
      have HW := hide (show nw = R * C by rw [← hnw]; exact mp.nw)
      have HB := hide (show nb = R by rw [← hnb]; exact mp.nb)
      have HDZ : Hid (nw + szR (A k).W nw + (nb + szR (A k).B nb) ≤ 1048576) := hide (by rw [← hnw, ← hnb]; exact hdz)
      obtain ⟨X, hX⟩ : ∃ X, N0 ++ mapsB A k = X := ⟨_, rfl⟩
      have hXl : X.length ≤ 100000200 := by rw [← hX, List.length_append, ← HN0.out]; omega
      rw [hX] at hR
      obtain ⟨L2, hL2⟩ : ∃ L, mapH (A k) = L := ⟨_, rfl⟩
      have eL2 : (⟨#[109, 97, 112, 32]⟩ : ByteArray) ++ ⟨(decB (R : Int)).toArray⟩ ++ ⟨#[32]⟩ ++ ⟨(decB (C : Int)).toArray⟩ ++ ⟨#[10]⟩ = ⟨L2.toArray⟩ := by rw [← hL2, mapH, mp.r, mp.c]; simp [str_app]
      have ll2 : L2.length ≤ 200 := by rw [← hL2]; exact hh
      have HE : Hid (N0 ++ mapsB A (k + 1) = X ++ L2 ++ rowsL (A k) R) := hide (by rw [← hX, mapsB, hL2, hRr]; simp)
      have HC := hide hCc
      have E2 := hide eL2
      have yR := dec_lim (show (R : Int) ≤ 9223372036854775807 by omega)
      have yC := dec_lim (show (C : Int) ≤ 9223372036854775807 by omega)
      have lx0 : 4 + (decB (R : Int)).length ≤ 9223372036854775807 := by omega
      have ln0 : ¬ 9223372036854775807 < 4 + (decB (R : Int)).length := by omega
      have lx1 : 4 + (decB (R : Int)).length + 1 ≤ 9223372036854775807 := by omega
      have ln1 : ¬ 9223372036854775807 < 4 + (decB (R : Int)).length + 1 := by omega
      have lx2 : 4 + (decB (R : Int)).length + 1 + (decB (C : Int)).length ≤ 9223372036854775807 := by omega
      have ln2 : ¬ 9223372036854775807 < 4 + (decB (R : Int)).length + 1 + (decB (C : Int)).length := by omega
      have lx3 : 4 + (decB (R : Int)).length + 1 + (decB (C : Int)).length + 1 ≤ 9223372036854775807 := by omega
      have ln3 : ¬ 9223372036854775807 < 4 + (decB (R : Int)).length + 1 + (decB (C : Int)).length + 1 := by omega
      have hNB : Hid ((wr.alloc (.cells #[.int .i64 (R : Int), .int .i64 (C : Int), .slice a1 nw k1, .slice a2 nb k2] 86)).heap[wr.heap.size]? = some (.cells #[.int .i64 (R : Int), .int .i64 (C : Int), .slice a1 nw k1, .slice a2 nb k2] 86)) := hide (Go.heap_alloc_new wr _)
      clear hX hL2 eL2 hnw hnb hl1 hl0 mp hRr hCc hdz hh
      go_wp2_with fail
      clear g0 g1 g2 g3 q0
      generalize wr.alloc (.cells #[.int .i64 (R : Int), .int .i64 (C : Int), .slice a1 nw k1, .slice a2 nb k2] 86) = wC at *
      have uC : wA.Since wA.heap.size wC := s.trans (sinceMono sN s.size)
      have q0 := nB.c0
      have q1 := nB.c1
      have dr : wC.Since wC.heap.size wC.drew := (World.Since.refl _ _).drew
      have J1 := l2Dec_q (R : Int) wC.drew (by omega) (by omega)
      go_region_held_law (fun w' => w'.cell? ⟨wr.heap.size, 0, none⟩ = some (.int .i64 (R : Int)) ∧ w'.cell? ⟨wr.heap.size, 1, none⟩ = some (.int .i64 (C : Int))) (go_keep)
        (first
          | (go_at_call 18
             with_reducible refine J1.mono ?_
             rintro e w4 ⟨rfl, s4⟩
             have v4 : wC.Since wC.heap.size w4 := dr.trans (sinceMono s4 dr.size)
             have p0 := (nB.keep v4).c0
             have p1 := (nB.keep v4).c1
             have J2 := l2Dec_q (C : Int) w4 (by omega) (by omega))
          | (go_at_call 18
             with_reducible refine J2.mono ?_
             rintro e w5 ⟨rfl, s5⟩
             have v5 : wC.Since wC.heap.size w5 := v4.trans (sinceMono s5 v4.size)
             have t0 := (nB.keep v5).c0
             have t1 := (nB.keep v5).c1
             obtain ⟨w6, c6, hcv, s6, cl6⟩ := conv_bytes ((⟨#[109, 97, 112, 32]⟩ : ByteArray) ++ ⟨(decB (R : Int)).toArray⟩ ++ ⟨#[32]⟩ ++ ⟨(decB (C : Int)).toArray⟩ ++ ⟨#[10]⟩) L2 E2.out w5
             have v6 : wC.Since wC.heap.size w6 := v5.trans (sinceMono s6 v5.size)
             have m0 := (nB.keep v6).c0
             have m1 := (nB.keep v6).c1
             have R6 := (hR.out.keep sN).keep v6
             have u6' : wA.Since wA.heap.size w6 := uC.trans (sinceMono v6 uC.size))
          | (refine step_append_bytes rfl _ _ rfl wA.heap.size _ X rfl R6 ⟨w5.heap.size, 0, none⟩ L2 _ _ rfl rfl cl6 (by omega) u6'.size ?_
             intro v7 w7 R7 hg7
             have z6 := v6.size
             have u7' : wA.Since wA.heap.size w7 := u6'.grown hg7 u6'.size (fun q hq => (R6.lt q hq).1)
             have hne : some wr.heap.size ≠ u3.ownBlock := fun e => by have := (hR.out.lt _ e.symm).2; omega
             have h5 : Hid (w7.heap[wr.heap.size]? = some (.cells #[.int .i64 (R : Int), .int .i64 (C : Int), .slice a1 nw k1, .slice a2 nb k2] 86)) := hide ((hg7.block wr.heap.size (by omega) hne).trans (blk_keep hNB.out v6))
             have n0 := (Box4.of_heap h5.out).c0
             have n1 := (Box4.of_heap h5.out).c1
             have R7 := hide R7
             have hg7 := hide hg7))
      all_goals clear q0 q1 p0 p1 t0 t1 m0 m1 n0 n1 J1 J2 hcv cl6
      all_goals go_wp2_with fail
      generalize wr.heap.size = c5 at *
      go_loopw [3, 6] (fun u i wr => ∃ r : Nat, r ≤ R ∧ i = .int .i64 (r : Int) ∧ wA.Since wA.heap.size wr ∧ Hid (wr.heap[c5]? = some (.cells #[.int .i64 (R : Int), .int .i64 (C : Int), .slice a1 nw k1, .slice a2 nb k2] 86)) ∧ Hid (ByteRow wr wA.heap.size u (X ++ L2 ++ rowsL (A k) r))) (fun _ i _ => R - (intOf i).toNat)
      case atStart => exact ⟨0, by omega, rfl, u7', h5, hide (by rw [rowsL, List.append_nil]; exact R7.out)⟩
      case round =>
        obtain ⟨r, hr, rfl, sx, f5, hRx⟩ := hrel
        have SX : w.Since w.heap.size wr := sA.trans (sinceMono sx sA.size)
        have BX := Box4.of_heap f5.out
        have q0 := BX.c0
        by_cases hrl : r < R
        · have hrl' : (r : Int) < (R : Int) := by omega
          have q1 := BX.c1
          have q2 := BX.c2
          obtain ⟨F, hF⟩ : ∃ F, F = r * C := ⟨_, rfl⟩
          obtain ⟨G, hG⟩ : ∃ G, G = F + C := ⟨_, rfl⟩
          have hFn : G ≤ nw := by
            rw [HW.out, hG, hF]
            have := Nat.mul_le_mul_right C (show r + 1 ≤ R from hrl)
            rw [Nat.add_mul, Nat.one_mul] at this
            exact this
          have hnb2 : nw ≤ 20000 * 20000 := by rw [HW.out]; exact Nat.mul_le_mul rR cC
          have e1 : (r : Int) * (C : Int) = (F : Int) := by rw [hF, Int.natCast_mul]
          have e2 : (F : Int) + (C : Int) = (G : Int) := by omega
          have f1 : (F : Int) ≤ (G : Int) := by omega
          have f2 : (G : Int) ≤ (k1 : Int) := by omega
          have f3 : (G : Int) ≤ 400000000 := by omega
          have HF := hide hF
          have HG := hide hG
          have eaB := (LB r (by rw [HB.out]; exact hrl)).1
          subst eaB
          have okW : RatsOk (fun j => (A k).W (F + j)) (G - F) := fun j hj => vW _ (by omega)
          have okB : RatsOk (fun j => (A k).B (r + j)) 1 := fun j hj => vB _ (by rw [HB.out]; omega)
          have hCn : G - F + szR (fun j => (A k).W (F + j)) (G - F) ≤ 1048576 := by
            have e := szR_add (A k).W F (G - F)
            have m := szR_mono (R := (A k).W) (show F + (G - F) ≤ nw by omega)
            have := HDZ.out
            omega
          have hBn : 1 + szR (fun j => (A k).B (r + j)) 1 ≤ 1048576 := by
            have e := szR_add (A k).B r 1
            have m := szR_mono (R := (A k).B) (show r + 1 ≤ nb by rw [HB.out]; omega)
            have := HDZ.out
            have := HB.out
            omega
          have JA : k1 = F → Calls Tryz.prog 36 #[.slice a1 (G - F) 0] wr fun e w' => e = .returned (.string ⟨(tailB (fun j => (A k).W (F + j)) (G - F)).toArray⟩) ∧ wr.Since wr.heap.size w' := fun h => l2Tail_q a1 lo bW oW (G - F) 0 _ wr hCn (fun j hj => absurd hj (by omega)) okW
          have JB := l2Tail_q _ lo bW (oW + F * 3) (G - F) (k1 - F) _ wr hCn ((LW.keep SX).sub F (G - F) (by omega)) okW
          have hk2r : ¬ k2 = r := by have := HB.out; omega
          have hr2 : (r : Int) + 1 ≤ (k2 : Int) := by have := HB.out; omega
          have q3 := BX.c3
          obtain ⟨T1, hT1⟩ : ∃ T, tailB (fun j => (A k).W (F + j)) (G - F) = T := ⟨_, rfl⟩
          rw [hT1] at JA JB
          have hl2 := hrows r (by omega)
          have hl3 := hrow r hrl
          obtain ⟨U, hU⟩ : ∃ U, tailB (fun j => (A k).B (r + j)) 1 = U := ⟨_, rfl⟩
          have eRow : T1 ++ U ++ [10] = 32 :: rowL (A k) r := by
            rw [← rowL_tail, ← hT1, ← hU]
            unfold rowW
            rw [HC.out, ← hF, show G - F = C by omega]
            rfl
          obtain ⟨L3, hL3⟩ : ∃ L, rowL (A k) r = L := ⟨_, rfl⟩
          rw [hL3] at eRow hl3
          have lt12 : T1.length + U.length ≤ 100000000 := by
            have := congrArg List.length eRow
            simp only [List.length_append, List.length_cons, List.length_nil] at this
            omega
          have HU := hide hU
          have ER := hide eRow
          obtain ⟨Y, hY⟩ : ∃ Y, X ++ L2 ++ rowsL (A k) r = Y := ⟨_, rfl⟩
          have hYl : Y.length ≤ 300000400 := by rw [← hY, List.length_append, List.length_append]; omega
          rw [hY] at hRx
          have HE3 : Hid (X ++ L2 ++ rowsL (A k) (r + 1) = Y ++ L3) := hide (by rw [rowsL, hL3, ← hY]; simp)
          clear hF hG hT1 hU hL3 eRow hY
          have lx0 : T1.length + U.length ≤ 9223372036854775807 := by omega
          have ln0 : ¬ 9223372036854775807 < T1.length + U.length := by omega
          have lx1 : T1.length + U.length + 1 ≤ 9223372036854775807 := by omega
          have ln1 : ¬ 9223372036854775807 < T1.length + U.length + 1 := by omega
          by_cases hkF : k1 = F
          focus
            subst hkF
            replace JA := JA rfl
            go_wp2_with fail
            refine JA.mono ?_
          rotate_left
          focus
            go_wp2_with fail
            refine JB.mono ?_
          all_goals
            rintro e w8 ⟨rfl, s8⟩
            clear JA JB
            have SX8 : w.Since w.heap.size w8 := SX.trans (sinceMono s8 SX.size)
            have q3' := (Box4.of_heap (blk_keep f5.out s8)).c3
            have J8 := l2Tail_q (some ⟨bB, oB + r * 3, none⟩) lo bB (oB + r * 3) 1 (k2 - r) (fun j => (A k).B (r + j)) w8 hBn (by have h9 := (LB.keep SX8).sub r 1 (by rw [HB.out]; omega); rw [Option.map_some, Go.WideShapes.add_plain] at h9; exact h9) okB
            rw [HU.out] at J8
            go_wp2_with fail
            with_reducible refine J8.mono ?_
            rintro e w9 ⟨rfl, s9⟩
            clear J8
            have v9 : wr.Since wr.heap.size w9 := s8.trans (sinceMono s9 s8.size)
            obtain ⟨w10, c10, hcv, s10, cl10⟩ := conv_bytes (((⟨T1.toArray⟩ : ByteArray) ++ ⟨U.toArray⟩ ++ ⟨#[10]⟩).extract 1 (T1.length + U.length + 1)) L3 (cut_one ER.out) w9
            have v10 : wr.Since wr.heap.size w10 := v9.trans (sinceMono s10 v9.size)
            have R10 := hRx.out.keep v10
            have y10 : wA.Since wA.heap.size w10 := sx.trans (sinceMono v10 sx.size)
            have hlX : Y.length + L3.length ≤ 1000000000 := by omega
            have z10 := v10.size
            go_wp2_with (at_builtin; refine wpList_append_bytes rfl _ _ rfl wA.heap.size _ _ rfl R10 ⟨w9.heap.size, 0, none⟩ L3 _ _ rfl rfl cl10 hlX y10.size ?_)
            intro v11 w11 R11 hg11
            have y11 : wA.Since wA.heap.size w11 := y10.grown hg11 y10.size (fun q hq => (R10.lt q hq).1)
            have hne : some c5 ≠ u3.ownBlock := fun e => hRx.out.ne f5.out e.symm
            have f5' : Hid (w11.heap[c5]? = some (.cells #[.int .i64 (R : Int), .int .i64 (C : Int), .slice a1 nw k1, .slice (some ⟨bB, oB, none⟩) nb k2] 86)) := hide ((hg11.block c5 (by have := blk_lt f5.out; omega) hne).trans (blk_keep f5.out v10))
            have R11 := hide R11
            clear hcv cl10 hg11 q3 q3'
            go_wp2
            go_roundw
            case measure => simp [intOf]; omega
            case rel => exact ⟨r + 1, by omega, by go_num, y11, f5', hide (by rw [HE3.out]; exact R11.out)⟩
        · have er : r = R := by omega
          subst er
          have hz1 : ¬ ((r : Int) < (r : Int)) := by omega
          go_wp2
          go_roundw
          case rel => exact ⟨k + 1, by omega, by go_num, sx, hide (by rw [HE.out]; exact hRx.out)⟩
          case measure => simp [intOf]; omega
    · have ek : k = n := by omega
      subst ek
      have hz1 : ¬ ((k : Int) < (k : Int)) := by omega
      obtain ⟨Z, hZ⟩ : ∃ Z, N0 ++ mapsB A k = Z := ⟨_, rfl⟩
      rw [hZ] at hR
      have HZ : Hid (netB k A = Z) := hide (by rw [netB, HN0.out, hZ])
      clear hZ
      obtain ⟨gg, cc, eg, hcv⟩ := hR.out.str
      subst eg
      go_wp2
      go_ret
      rw [HZ.out]
      exact ⟨rfl, SS⟩

end Go.Proofs.YtlpabmcebpppfaaGreatDoor
