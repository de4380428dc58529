import Derived.Test.YtlpabmcebpppfaaGreatDoorOwnP27
import Derived.Lib.ConvBytes
import Derived.Deep.RegionHeld3
namespace Go.Proofs.YtlpabmcebpppfaaGreatDoor
open Go.RowKit

set_option maxHeartbeats 1600000 in
set_option maxRecDepth 100000 in
/-- spec.l2Dec. -/
theorem l2Dec_q (z : Int) (w : World) (h0 : 0 ≤ z) (h1 : z ≤ 9223372036854775807) :
    Calls Tryz.prog 18 #[.int .i64 z] w fun e w' => e = .returned (.string ⟨(decB z).toArray⟩) ∧ w.Since w.heap.size w' := by
  obtain ⟨v, hv⟩ : ∃ v : Nat, z = v := ⟨z.toNat, by omega⟩
  subst hv
  have hl : v < 18446744073709551616 := by omega
  have ed : decB (v : Int) = Lib.decDigits v := rfl
  rw [ed]
  clear h0 h1 ed
  go_enter Tryz.func18, Tryz.ntmps18
  go_wp2_with fail
  refine (l1BitsOf_any v w hl).mono ?_
  rintro e w1 ⟨x, t, B, rfl, ht, ⟨a, b, off, cap, rfl, hc, hB, -⟩, hbv, s1⟩
  have HV := hide hbv
  clear hbv
  go_wp2_with fail
  refine (l1Decimal_any a b off t cap B w1 (by omega) hB).mono ?_
  rintro e w2 ⟨rfl, s2⟩
  go_wp2
  go_ret
  refine ⟨?_, s1.trans (sinceMono s2 s1.size)⟩
  rw [HV.out]
  rfl

theorem own_blk {w w' : World} {base : Nat} {e : TypeId} {size : Nat} {v : Value} {n : Nat} {xs : List Value} (h : w.ownsRow base e size v n xs) (hk : ∀ g, v.ownBlock = some g → w'.heap[g]? = w.heap[g]?) : w'.ownsRow base e size v n xs := by
  obtain ⟨hl, h | ⟨g, cap, cur, rfl, hb, hh, hr⟩⟩ := h
  · exact ⟨hl, Or.inl h⟩
  · exact ⟨hl, Or.inr ⟨g, cap, cur, rfl, hb, (hk g (by simp [Value.ownBlock])).trans hh, hr⟩⟩

theorem own_keep {w w' : World} {base : Nat} {e : TypeId} {size : Nat} {v : Value} {n : Nat} {xs : List Value} (h : w.ownsRow base e size v n xs) (s : w.Since w.heap.size w') : w'.ownsRow base e size v n xs := own_blk h (fun g hg => s.block g (h.lt g hg).2)

theorem bytes_since (w : World) (e : TypeId) (s : ByteArray) : w.Since w.heap.size (Lib.bytesWorld w e s) := by
  have d := (World.Since.refl w.heap.size w).drew
  exact ⟨d.os, d.tape, d.output, by rw [Lib.bytesWorld_size]; omega, fun k hk => Lib.bytesWorld_at_old w e s k hk⟩

theorem bytes_cells (w : World) (e : TypeId) (l : List UInt8) : ∀ j u, (Lib.byteCells l)[j]? = some u → (Lib.bytesWorld w e ⟨l.toArray⟩).cell? ((⟨w.heap.size, 0, none⟩ : Addr).add j) = some u := fun j u h => by
  have hj : j < l.length := by
    have := (List.getElem?_eq_some_iff.1 h).1
    rwa [Lib.byteCells_length] at this
  rw [Go.WideShapes.add_plain, Nat.zero_add]
  have h2 := Lib.bytesWorld_cell w e ⟨l.toArray⟩ j (by simpa [ByteArray.size] using hj)
  rw [h2, ← h]
  simp [Lib.byteCells, hj]

theorem bytes_one (l : List UInt8) : ∀ u ∈ Lib.byteCells l, u.oneCell' = true := fun u hu => by
  obtain ⟨x, -, rfl⟩ := List.mem_map.1 hu
  rfl

theorem l1Text_m {w : World} {lo : Nat} {r : RatD} {a1 a2 : Option Addr} {k1 k2 : Nat} (L : RatL w lo r a1 a2 k1 k2) (ok : r.ok = true) (h : r.n + r.m ≤ 1048576) :
    Calls Tryz.prog 19 #[.agg #[.bool r.neg, .slice a1 r.n k1, .slice a2 r.m k2]] w fun e w' => e = .returned (.string ⟨r.txt.toArray⟩) ∧ w.Since w.heap.size w' := by
  obtain ⟨ba, oa, -, LX⟩ := L.LX
  obtain ⟨bb, ob, -, LY⟩ := L.LY
  exact l1Text_any r.neg a1 a2 ba oa r.n k1 bb ob r.m k2 r.X r.Y w (by omega) (by omega) LX LY L.lX L.lY (RatD.q_ok ok).2.2.2.2.1

theorem tail_len (V : Nat → RatD) (k : Nat) : (tailB V (k + 1)).length = (tailB V k).length + 1 + (V k).txt.length := by
  rw [tailB, List.length_append, List.length_cons]; omega

set_option maxHeartbeats 6400000 in
set_option maxRecDepth 100000 in
/-- spec.l2Tail. -/
theorem l2Tail_q (a : Option Addr) (lo b off n cap : Nat) (V : Nat → RatD) (w : World) (hn : n + szR V n ≤ 1048576) (H : Rats w lo a b off n V) (ok : RatsOk V n) :
    Calls Tryz.prog 36 #[.slice a n cap] w fun e w' => e = .returned (.string ⟨(tailB V n).toArray⟩) ∧ w.Since w.heap.size w' := by
  obtain ⟨i0, hi, hz0, hz1, hz2⟩ := info_parts Tryz.info5
  have lim : ∀ k, k ≤ n → (tailB V k).length ≤ 38797312 := fun k hk => by
    have h1 := tail_lim (V := V) (n := k) (fun c hc => H.lim c (by omega))
    have h2 := szR_mono (R := V) hk
    omega
  have hlim := hide lim
  clear lim
  have sA : w.Since w.heap.size (w.alloc (.cells #[] 5)) := (World.Since.refl _ _).alloc (Nat.le_refl _) _
  have oA : (w.alloc (.cells #[] 5)).ownsRow w.heap.size 5 1 (.slice (some ⟨w.heap.size, 0, none⟩) 0 0) 0 (Lib.byteCells []) := World.ownsRow_made w #[] 0 (Nat.le_refl _) (Nat.zero_le _) rfl
  go_enter Tryz.func36, Tryz.ntmps36
  go_wp2
  go_loopw [3, 4] (fun u i wr => ∃ k : Nat, k ≤ n ∧ i = .int .i64 k ∧ w.Since w.heap.size wr ∧ Hid (u ≠ .slice none 0 0) ∧ ∃ m, Hid (m = (tailB V k).length) ∧ wr.ownsRow w.heap.size 5 1 u m (Lib.byteCells (tailB V k))) (fun _ i _ => n - (intOf i).toNat)
  case atStart => exact ⟨0, Nat.zero_le _, rfl, sA, hide (by simp), 0, hide rfl, oA⟩
  case round =>
    obtain ⟨k, hk, rfl, s, hne, m, hm, O⟩ := hrel
    have hml : m ≤ 38797312 := by rw [hm.out]; exact hlim.out k hk
    by_cases hlt : k < n
    · obtain ⟨ea, a1, a2, k1, k2, M⟩ := H k hlt
      subst ea
      have hz : (k : Int) < (n : Int) := by omega
      have hl1 : (tailB V (k + 1)).length ≤ 38797312 := hlim.out (k + 1) (by omega)
      have htl := tail_len V k
      rw [← hm.out] at htl
      have hok := ok k hlt
      have hsz : (V k).n + (V k).m ≤ 1048576 := by have := szR_at (R := V) hlt; omega
      obtain ⟨T, hT⟩ : ∃ T, (V k).txt = T := ⟨_, rfl⟩
      rw [hT] at htl
      have HL := hide (show m + 1 + T.length ≤ 38797312 by omega)
      have HT := hide hT
      have HTL := hide htl
      clear hT htl hl1
      have hs0 := s.size
      go_wp2_with (at_builtin; refine wpList_append_own _ rfl _ _ 60 rfl w.heap.size 5 i0 (.int .u8 0) 1 1 Tryz.underlying60 hi hz0 hz1 hz2 rfl (by decide) _ _ _ rfl (O.alloc _) ⟨wr.heap.size, 0, none⟩ 1 1 [.int .u8 32] rfl rfl (new_cell _ _ _) (one_one _ rfl) (by unfold maxLen; omega) (by omega) (by simp; omega) ?_)
      intro v1 w1 ho1 hg1 hn1
      have S1 : w.Since w.heap.size w1 := (s.alloc s.size _).grown hg1 (by simp; omega) (fun k hk => (O.lt k hk).1)
      have HN1 := hide hn1
      have M1 := M.keep S1
      have g0 := M1.c0
      have g1 := M1.c1
      have g2 := M1.c2
      clear hn1 hg1
      go_wp2_with fail
      refine (l1Text_m M1.L hok hsz).mono ?_
      rintro e w2 ⟨rfl, s2⟩
      rw [HT.out]
      have S2 : w.Since w.heap.size w2 := S1.trans (sinceMono s2 S1.size)
      have ho2 := own_keep ho1 s2
      have hcv := Lib.run_convert_string_bytes (P := Tryz.prog) w2 9 60 5 ⟨T.toArray⟩ Tryz.underlying9 Tryz.underlying60 Tryz.underlying5
      have s3 := bytes_since w2 5 ⟨T.toArray⟩
      have S3 : w.Since w.heap.size (Lib.bytesWorld w2 5 ⟨T.toArray⟩) := S2.trans (sinceMono s3 S2.size)
      have ho3 := own_keep ho2 s3
      have hcl := bytes_cells w2 5 T
      have z3 := Lib.bytesWorld_size w2 5 ⟨T.toArray⟩
      have hTs : (⟨T.toArray⟩ : ByteArray).size = T.length := by simp [ByteArray.size]
      rw [hTs] at hcv
      have zz := S2.size
      have HLo := HL.out
      clear g0 g1 g2 M1
      generalize Lib.bytesWorld w2 5 ⟨T.toArray⟩ = w3 at *
      go_wp2_with (at_builtin; refine wpList_append_own _ rfl _ _ 60 rfl w.heap.size 5 i0 (.int .u8 0) 1 1 Tryz.underlying60 hi hz0 hz1 hz2 rfl (by decide) _ _ _ rfl ho3 ⟨w2.heap.size, 0, none⟩ T.length _ (Lib.byteCells T) rfl (by rw [Lib.byteCells_length]; omega) hcl (bytes_one T) (by unfold maxLen; omega) (by omega) (by omega) ?_)
      intro v4 w4 ho4 hg4 hn4
      have S4 : w.Since w.heap.size w4 := S3.grown hg4 (by omega) (fun k hk => (ho3.lt k hk).1)
      have HN4 := hide (show v4 ≠ .slice none 0 0 from fun e => HN1.out (hn4.1 e).1)
      have O4 : w4.ownsRow w.heap.size 5 1 v4 (m + 1 + T.length) (Lib.byteCells (tailB V (k + 1))) := by
        rw [show Lib.byteCells (tailB V (k + 1)) = Lib.byteCells (tailB V k) ++ .int .u8 32 :: Lib.byteCells T by rw [tailB, HT.out]; simp [Lib.byteCells]]
        exact ho4
      clear hn4 hg4 ho4 ho3 ho2 ho1 hcv hcl
      go_wp2
      go_roundw
      case rel => exact ⟨k + 1, by omega, by go_num, S4, HN4, m + 1 + T.length, hide HTL.out.symm, O4⟩
      case measure => simp [intOf]; omega
    · have e : k = n := by omega
      subst e
      obtain ⟨g, c, rfl, hcv⟩ := ownB_string O hne.out hm.out
      go_wp2
      go_ret
      exact ⟨rfl, s⟩

end Go.Proofs.YtlpabmcebpppfaaGreatDoor

namespace Go.Proofs.YtlpabmcebpppfaaGreatDoor
open Go.RowKit

set_option maxHeartbeats 6400000 in
set_option maxRecDepth 100000 in
theorem l2NodeLine1 (v1 v2 v3 v4 : Int) (nv : Nat) (V : Nat → RatD) (a1 : Option Addr) (lo bV oV : Nat) (k1 : Nat) (w : World) (ha : 0 ≤ v1) (ha2 : v1 ≤ 9223372036854775807) (hk : 0 ≤ v3) (hk2 : v3 ≤ 9223372036854775807) (hn : nv + szR V nv ≤ 1048576) (LV : Rats w lo a1 bV oV nv V) (ok : RatsOk V nv) :
    Calls Tryz.prog 20 #[.agg #[.int .i64 1, .int .i64 v1, .int .i64 v2, .int .i64 v3, .int .i64 v4, .slice a1 nv k1]] w fun e w' => e = .returned (.string ⟨([100, 101, 110, 115, 101] ++ ((32 :: decB v1) ++ ((32 :: decB v3) ++ (tailB V nv)))).toArray⟩) ∧ w.Since w.heap.size w' := by
  have sA : w.Since w.heap.size (w.alloc (.cells #[.int .i64 1, .int .i64 v1, .int .i64 v2, .int .i64 v3, .int .i64 v4, .slice a1 nv k1] 56)) := (World.Since.refl _ _).alloc (Nat.le_refl _) _
  have nA := Box6.new w (.int .i64 1) (.int .i64 v1) (.int .i64 v2) (.int .i64 v3) (.int .i64 v4) (.slice a1 nv k1) 56
  have q1 := nA.c1
  have y1 := dec_lim ha2
  have y3 := dec_lim hk2
  have yt : (tailB V nv).length ≤ 38797312 := by have := tail_lim (V := V) (n := nv) LV.lim; omega
  have x0 : 1 + (decB v1).length ≤ 9223372036854775807 := by omega
  have u0 : ¬ 9223372036854775807 < 1 + (decB v1).length := by omega
  have x1 : 5 + (1 + (decB v1).length) ≤ 9223372036854775807 := by omega
  have u1 : ¬ 9223372036854775807 < 5 + (1 + (decB v1).length) := by omega
  have x2 : 5 + (1 + (decB v1).length) + 1 ≤ 9223372036854775807 := by omega
  have u2 : ¬ 9223372036854775807 < 5 + (1 + (decB v1).length) + 1 := by omega
  have x3 : 5 + (1 + (decB v1).length) + 1 + (decB v3).length ≤ 9223372036854775807 := by omega
  have u3 : ¬ 9223372036854775807 < 5 + (1 + (decB v1).length) + 1 + (decB v3).length := by omega
  have x4 : 5 + (1 + (decB v1).length) + 1 + (decB v3).length + (tailB V nv).length ≤ 9223372036854775807 := by omega
  have u4 : ¬ 9223372036854775807 < 5 + (1 + (decB v1).length) + 1 + (decB v3).length + (tailB V nv).length := by omega
  go_enter Tryz.func20, Tryz.ntmps20
  go_wp2_with fail
  generalize w.alloc (.cells #[.int .i64 1, .int .i64 v1, .int .i64 v2, .int .i64 v3, .int .i64 v4, .slice a1 nv k1] 56) = wA at *
  refine (l2Dec_q v1 wA ha ha2).mono ?_
  rintro e w1 ⟨rfl, s1⟩
  have S1 : w.Since w.heap.size w1 := sA.trans (sinceMono s1 sA.size)
  have N1 := nA.keep s1
  clear q1
  have q0 := N1.c0
  have q2 := N1.c2
  have q3 := N1.c3
  have q4 := N1.c4
  have q5 := N1.c5
  have dr : w1.Since w1.heap.size w1.drew := (World.Since.refl _ _).drew
  have SD : w.Since w.heap.size w1.drew := S1.trans (sinceMono dr S1.size)
  have J1 := l2Dec_q v3 w1.drew hk hk2
  go_wp2_with fail
  go_region_held3 (fun w' => w'.cell? ⟨w.heap.size, 3, none⟩ = some (.int .i64 v3) ∧ w'.cell? ⟨w.heap.size, 4, none⟩ = some (.int .i64 v4) ∧ w'.cell? ⟨w.heap.size, 5, none⟩ = some (.slice a1 nv k1)) (go_keep)
    (first
      | (go_at_call 18
         with_reducible refine J1.mono ?_
         rintro e w2 ⟨rfl, s2⟩
         have u2 : w1.Since w1.heap.size w2 := dr.trans (sinceMono s2 dr.size)
         have S2 : w.Since w.heap.size w2 := S1.trans (sinceMono u2 S1.size)
         have N2 := N1.keep u2
         have i3 := N2.c3
         have i4 := N2.c4
         have i5 := N2.c5
         have J2 := l2Tail_q a1 lo bV oV nv k1 V w2 hn (LV.keep S2) ok)
      | (go_at_call 36
         with_reducible refine J2.mono ?_
         rintro e w4 ⟨rfl, s4⟩
         have u4 : w1.Since w1.heap.size w4 := u2.trans (sinceMono s4 u2.size)
         have S4 : w.Since w.heap.size w4 := S1.trans (sinceMono u4 S1.size)
         have N4 := N1.keep u4
         have k3 := N4.c3
         have k4 := N4.c4
         have k5 := N4.c5))
  all_goals go_wp2
  all_goals go_ret
  all_goals exact ⟨by simp [str_app], S4⟩

set_option maxHeartbeats 6400000 in
set_option maxRecDepth 100000 in
theorem l2NodeLine2 (v1 v2 v3 v4 : Int) (nv : Nat) (_V : Nat → RatD) (a1 : Option Addr) (k1 : Nat) (w : World) (ha : 0 ≤ v1) (ha2 : v1 ≤ 9223372036854775807) :
    Calls Tryz.prog 20 #[.agg #[.int .i64 2, .int .i64 v1, .int .i64 v2, .int .i64 v3, .int .i64 v4, .slice a1 nv k1]] w fun e w' => e = .returned (.string ⟨([114, 101, 108, 117] ++ ((32 :: decB v1) ++ ([]))).toArray⟩) ∧ w.Since w.heap.size w' := by
  have sA : w.Since w.heap.size (w.alloc (.cells #[.int .i64 2, .int .i64 v1, .int .i64 v2, .int .i64 v3, .int .i64 v4, .slice a1 nv k1] 56)) := (World.Since.refl _ _).alloc (Nat.le_refl _) _
  have nA := Box6.new w (.int .i64 2) (.int .i64 v1) (.int .i64 v2) (.int .i64 v3) (.int .i64 v4) (.slice a1 nv k1) 56
  have q1 := nA.c1
  have y1 := dec_lim ha2
  go_enter Tryz.func20, Tryz.ntmps20
  go_wp2_with fail
  generalize w.alloc (.cells #[.int .i64 2, .int .i64 v1, .int .i64 v2, .int .i64 v3, .int .i64 v4, .slice a1 nv k1] 56) = wA at *
  refine (l2Dec_q v1 wA ha ha2).mono ?_
  rintro e w1 ⟨rfl, s1⟩
  have S1 : w.Since w.heap.size w1 := sA.trans (sinceMono s1 sA.size)
  have N1 := nA.keep s1
  clear q1
  have q0 := N1.c0
  have q2 := N1.c2
  have q3 := N1.c3
  have q4 := N1.c4
  have q5 := N1.c5
  go_wp2
  go_ret
  exact ⟨by simp [str_app], S1⟩

set_option maxHeartbeats 6400000 in
set_option maxRecDepth 100000 in
theorem l2NodeLine3 (v1 v2 v3 v4 : Int) (nv : Nat) (V : Nat → RatD) (a1 : Option Addr) (lo bV oV : Nat) (k1 : Nat) (w : World) (ha : 0 ≤ v1) (ha2 : v1 ≤ 9223372036854775807) (hn : nv + szR V nv ≤ 1048576) (LV : Rats w lo a1 bV oV nv V) (ok : RatsOk V nv) :
    Calls Tryz.prog 20 #[.agg #[.int .i64 3, .int .i64 v1, .int .i64 v2, .int .i64 v3, .int .i64 v4, .slice a1 nv k1]] w fun e w' => e = .returned (.string ⟨([108, 101, 97, 107, 121] ++ ((32 :: decB v1) ++ (tailB V nv))).toArray⟩) ∧ w.Since w.heap.size w' := by
  have sA : w.Since w.heap.size (w.alloc (.cells #[.int .i64 3, .int .i64 v1, .int .i64 v2, .int .i64 v3, .int .i64 v4, .slice a1 nv k1] 56)) := (World.Since.refl _ _).alloc (Nat.le_refl _) _
  have nA := Box6.new w (.int .i64 3) (.int .i64 v1) (.int .i64 v2) (.int .i64 v3) (.int .i64 v4) (.slice a1 nv k1) 56
  have q1 := nA.c1
  have y1 := dec_lim ha2
  have yt : (tailB V nv).length ≤ 38797312 := by have := tail_lim (V := V) (n := nv) LV.lim; omega
  go_enter Tryz.func20, Tryz.ntmps20
  go_wp2_with fail
  generalize w.alloc (.cells #[.int .i64 3, .int .i64 v1, .int .i64 v2, .int .i64 v3, .int .i64 v4, .slice a1 nv k1] 56) = wA at *
  refine (l2Dec_q v1 wA ha ha2).mono ?_
  rintro e w1 ⟨rfl, s1⟩
  have S1 : w.Since w.heap.size w1 := sA.trans (sinceMono s1 sA.size)
  have N1 := nA.keep s1
  clear q1
  have q0 := N1.c0
  have q2 := N1.c2
  have q3 := N1.c3
  have q4 := N1.c4
  have q5 := N1.c5
  go_wp2_with fail
  refine (l2Tail_q a1 lo bV oV nv k1 V w1 hn (LV.keep S1) ok).mono ?_
  rintro e w2 ⟨rfl, s2⟩
  go_wp2
  go_ret
  exact ⟨by simp [str_app], S1.trans (sinceMono s2 S1.size)⟩

set_option maxHeartbeats 6400000 in
set_option maxRecDepth 100000 in
theorem l2NodeLine4 (v1 v2 v3 v4 : Int) (nv : Nat) (_V : Nat → RatD) (a1 : Option Addr) (k1 : Nat) (w : World) (ha : 0 ≤ v1) (ha2 : v1 ≤ 9223372036854775807) (hb : 0 ≤ v2) (hb2 : v2 ≤ 9223372036854775807) :
    Calls Tryz.prog 20 #[.agg #[.int .i64 4, .int .i64 v1, .int .i64 v2, .int .i64 v3, .int .i64 v4, .slice a1 nv k1]] w fun e w' => e = .returned (.string ⟨([97, 100, 100] ++ ((32 :: decB v1) ++ ((32 :: decB v2) ++ ([])))).toArray⟩) ∧ w.Since w.heap.size w' := by
  have sA : w.Since w.heap.size (w.alloc (.cells #[.int .i64 4, .int .i64 v1, .int .i64 v2, .int .i64 v3, .int .i64 v4, .slice a1 nv k1] 56)) := (World.Since.refl _ _).alloc (Nat.le_refl _) _
  have nA := Box6.new w (.int .i64 4) (.int .i64 v1) (.int .i64 v2) (.int .i64 v3) (.int .i64 v4) (.slice a1 nv k1) 56
  have q1 := nA.c1
  have y1 := dec_lim ha2
  have y2 := dec_lim hb2
  go_enter Tryz.func20, Tryz.ntmps20
  go_wp2_with fail
  generalize w.alloc (.cells #[.int .i64 4, .int .i64 v1, .int .i64 v2, .int .i64 v3, .int .i64 v4, .slice a1 nv k1] 56) = wA at *
  refine (l2Dec_q v1 wA ha ha2).mono ?_
  rintro e w1 ⟨rfl, s1⟩
  have S1 : w.Since w.heap.size w1 := sA.trans (sinceMono s1 sA.size)
  have N1 := nA.keep s1
  clear q1
  have q0 := N1.c0
  have q2 := N1.c2
  have q3 := N1.c3
  have q4 := N1.c4
  have q5 := N1.c5
  go_wp2_with fail
  refine (l2Dec_q v2 w1 hb hb2).mono ?_
  rintro e w2 ⟨rfl, s2⟩
  go_wp2
  go_ret
  exact ⟨by simp [str_app], S1.trans (sinceMono s2 S1.size)⟩

set_option maxHeartbeats 6400000 in
set_option maxRecDepth 100000 in
theorem l2NodeLine5 (v1 v2 v3 v4 : Int) (nv : Nat) (_V : Nat → RatD) (a1 : Option Addr) (k1 : Nat) (w : World) (ha : 0 ≤ v1) (ha2 : v1 ≤ 9223372036854775807) (hk : 0 ≤ v3) (hk2 : v3 ≤ 9223372036854775807) :
    Calls Tryz.prog 20 #[.agg #[.int .i64 5, .int .i64 v1, .int .i64 v2, .int .i64 v3, .int .i64 v4, .slice a1 nv k1]] w fun e w' => e = .returned (.string ⟨([109, 97, 120, 112, 111, 111, 108] ++ ((32 :: decB v1) ++ ((32 :: decB v3) ++ ([])))).toArray⟩) ∧ w.Since w.heap.size w' := by
  have sA : w.Since w.heap.size (w.alloc (.cells #[.int .i64 5, .int .i64 v1, .int .i64 v2, .int .i64 v3, .int .i64 v4, .slice a1 nv k1] 56)) := (World.Since.refl _ _).alloc (Nat.le_refl _) _
  have nA := Box6.new w (.int .i64 5) (.int .i64 v1) (.int .i64 v2) (.int .i64 v3) (.int .i64 v4) (.slice a1 nv k1) 56
  have q1 := nA.c1
  have y1 := dec_lim ha2
  have y3 := dec_lim hk2
  go_enter Tryz.func20, Tryz.ntmps20
  go_wp2_with fail
  generalize w.alloc (.cells #[.int .i64 5, .int .i64 v1, .int .i64 v2, .int .i64 v3, .int .i64 v4, .slice a1 nv k1] 56) = wA at *
  refine (l2Dec_q v1 wA ha ha2).mono ?_
  rintro e w1 ⟨rfl, s1⟩
  have S1 : w.Since w.heap.size w1 := sA.trans (sinceMono s1 sA.size)
  have N1 := nA.keep s1
  clear q1
  have q0 := N1.c0
  have q2 := N1.c2
  have q3 := N1.c3
  have q4 := N1.c4
  have q5 := N1.c5
  go_wp2_with fail
  refine (l2Dec_q v3 w1 hk hk2).mono ?_
  rintro e w2 ⟨rfl, s2⟩
  go_wp2
  go_ret
  exact ⟨by simp [str_app], S1.trans (sinceMono s2 S1.size)⟩

set_option maxHeartbeats 6400000 in
set_option maxRecDepth 100000 in
theorem l2NodeLine6 (v1 v2 v3 v4 : Int) (nv : Nat) (V : Nat → RatD) (a1 : Option Addr) (lo bV oV : Nat) (k1 : Nat) (w : World) (ha : 0 ≤ v1) (ha2 : v1 ≤ 9223372036854775807) (hk : 0 ≤ v3) (hk2 : v3 ≤ 9223372036854775807) (hs : 0 ≤ v4) (hs2 : v4 ≤ 9223372036854775807) (hn : nv + szR V nv ≤ 1048576) (LV : Rats w lo a1 bV oV nv V) (ok : RatsOk V nv) :
    Calls Tryz.prog 20 #[.agg #[.int .i64 6, .int .i64 v1, .int .i64 v2, .int .i64 v3, .int .i64 v4, .slice a1 nv k1]] w fun e w' => e = .returned (.string ⟨([99, 111, 110, 118] ++ ((32 :: decB v1) ++ ((32 :: decB v3) ++ ((32 :: decB v4) ++ (tailB V nv))))).toArray⟩) ∧ w.Since w.heap.size w' := by
  have sA : w.Since w.heap.size (w.alloc (.cells #[.int .i64 6, .int .i64 v1, .int .i64 v2, .int .i64 v3, .int .i64 v4, .slice a1 nv k1] 56)) := (World.Since.refl _ _).alloc (Nat.le_refl _) _
  have nA := Box6.new w (.int .i64 6) (.int .i64 v1) (.int .i64 v2) (.int .i64 v3) (.int .i64 v4) (.slice a1 nv k1) 56
  have q1 := nA.c1
  have y1 := dec_lim ha2
  have y3 := dec_lim hk2
  have y4 := dec_lim hs2
  have yt : (tailB V nv).length ≤ 38797312 := by have := tail_lim (V := V) (n := nv) LV.lim; omega
  have x0 : 1 + (decB v1).length ≤ 9223372036854775807 := by omega
  have u0 : ¬ 9223372036854775807 < 1 + (decB v1).length := by omega
  have x1 : 4 + (1 + (decB v1).length) ≤ 9223372036854775807 := by omega
  have u1 : ¬ 9223372036854775807 < 4 + (1 + (decB v1).length) := by omega
  have x2 : 4 + (1 + (decB v1).length) + 1 ≤ 9223372036854775807 := by omega
  have u2 : ¬ 9223372036854775807 < 4 + (1 + (decB v1).length) + 1 := by omega
  have x3 : 4 + (1 + (decB v1).length) + 1 + (decB v3).length ≤ 9223372036854775807 := by omega
  have u3 : ¬ 9223372036854775807 < 4 + (1 + (decB v1).length) + 1 + (decB v3).length := by omega
  have x4 : 4 + (1 + (decB v1).length) + 1 + (decB v3).length + 1 ≤ 9223372036854775807 := by omega
  have u4 : ¬ 9223372036854775807 < 4 + (1 + (decB v1).length) + 1 + (decB v3).length + 1 := by omega
  have x5 : 4 + (1 + (decB v1).length) + 1 + (decB v3).length + 1 + (decB v4).length ≤ 9223372036854775807 := by omega
  have u5 : ¬ 9223372036854775807 < 4 + (1 + (decB v1).length) + 1 + (decB v3).length + 1 + (decB v4).length := by omega
  have x6 : 4 + (1 + (decB v1).length) + 1 + (decB v3).length + 1 + (decB v4).length + (tailB V nv).length ≤ 9223372036854775807 := by omega
  have u6 : ¬ 9223372036854775807 < 4 + (1 + (decB v1).length) + 1 + (decB v3).length + 1 + (decB v4).length + (tailB V nv).length := by omega
  go_enter Tryz.func20, Tryz.ntmps20
  go_wp2_with fail
  generalize w.alloc (.cells #[.int .i64 6, .int .i64 v1, .int .i64 v2, .int .i64 v3, .int .i64 v4, .slice a1 nv k1] 56) = wA at *
  refine (l2Dec_q v1 wA ha ha2).mono ?_
  rintro e w1 ⟨rfl, s1⟩
  have S1 : w.Since w.heap.size w1 := sA.trans (sinceMono s1 sA.size)
  have N1 := nA.keep s1
  clear q1
  have q0 := N1.c0
  have q2 := N1.c2
  have q3 := N1.c3
  have q4 := N1.c4
  have q5 := N1.c5
  have dr : w1.Since w1.heap.size w1.drew := (World.Since.refl _ _).drew
  have SD : w.Since w.heap.size w1.drew := S1.trans (sinceMono dr S1.size)
  have J1 := l2Dec_q v3 w1.drew hk hk2
  go_wp2_with fail
  go_region_held3 (fun w' => w'.cell? ⟨w.heap.size, 3, none⟩ = some (.int .i64 v3) ∧ w'.cell? ⟨w.heap.size, 4, none⟩ = some (.int .i64 v4) ∧ w'.cell? ⟨w.heap.size, 5, none⟩ = some (.slice a1 nv k1)) (go_keep)
    (first
      | (go_at_call 18
         with_reducible refine J1.mono ?_
         rintro e w2 ⟨rfl, s2⟩
         have u2 : w1.Since w1.heap.size w2 := dr.trans (sinceMono s2 dr.size)
         have S2 : w.Since w.heap.size w2 := S1.trans (sinceMono u2 S1.size)
         have N2 := N1.keep u2
         have i3 := N2.c3
         have i4 := N2.c4
         have i5 := N2.c5
         have J3 := l2Dec_q v4 w2 hs hs2)
      | (go_at_call 18
         with_reducible refine J3.mono ?_
         rintro e w3 ⟨rfl, s3⟩
         have u3 : w1.Since w1.heap.size w3 := u2.trans (sinceMono s3 u2.size)
         have S3 : w.Since w.heap.size w3 := S1.trans (sinceMono u3 S1.size)
         have N3 := N1.keep u3
         have j3 := N3.c3
         have j4 := N3.c4
         have j5 := N3.c5
         have J2 := l2Tail_q a1 lo bV oV nv k1 V w3 hn (LV.keep S3) ok)
      | (go_at_call 36
         with_reducible refine J2.mono ?_
         rintro e w4 ⟨rfl, s4⟩
         have u4 : w1.Since w1.heap.size w4 := u3.trans (sinceMono s4 u3.size)
         have S4 : w.Since w.heap.size w4 := S1.trans (sinceMono u4 S1.size)
         have N4 := N1.keep u4
         have k3 := N4.c3
         have k4 := N4.c4
         have k5 := N4.c5))
  all_goals go_wp2
  all_goals go_ret
  all_goals exact ⟨by simp [str_app], S4⟩

set_option maxHeartbeats 6400000 in
set_option maxRecDepth 100000 in
theorem l2NodeLine7 (v1 v2 v3 v4 : Int) (nv : Nat) (V : Nat → RatD) (a1 : Option Addr) (lo bV oV : Nat) (k1 : Nat) (w : World) (ha : 0 ≤ v1) (ha2 : v1 ≤ 9223372036854775807) (hn : nv + szR V nv ≤ 1048576) (LV : Rats w lo a1 bV oV nv V) (ok : RatsOk V nv) :
    Calls Tryz.prog 20 #[.agg #[.int .i64 7, .int .i64 v1, .int .i64 v2, .int .i64 v3, .int .i64 v4, .slice a1 nv k1]] w fun e w' => e = .returned (.string ⟨([110, 111, 114, 109] ++ ((32 :: decB v1) ++ (tailB V nv))).toArray⟩) ∧ w.Since w.heap.size w' := by
  have sA : w.Since w.heap.size (w.alloc (.cells #[.int .i64 7, .int .i64 v1, .int .i64 v2, .int .i64 v3, .int .i64 v4, .slice a1 nv k1] 56)) := (World.Since.refl _ _).alloc (Nat.le_refl _) _
  have nA := Box6.new w (.int .i64 7) (.int .i64 v1) (.int .i64 v2) (.int .i64 v3) (.int .i64 v4) (.slice a1 nv k1) 56
  have q1 := nA.c1
  have y1 := dec_lim ha2
  have yt : (tailB V nv).length ≤ 38797312 := by have := tail_lim (V := V) (n := nv) LV.lim; omega
  go_enter Tryz.func20, Tryz.ntmps20
  go_wp2_with fail
  generalize w.alloc (.cells #[.int .i64 7, .int .i64 v1, .int .i64 v2, .int .i64 v3, .int .i64 v4, .slice a1 nv k1] 56) = wA at *
  refine (l2Dec_q v1 wA ha ha2).mono ?_
  rintro e w1 ⟨rfl, s1⟩
  have S1 : w.Since w.heap.size w1 := sA.trans (sinceMono s1 sA.size)
  have N1 := nA.keep s1
  clear q1
  have q0 := N1.c0
  have q2 := N1.c2
  have q3 := N1.c3
  have q4 := N1.c4
  have q5 := N1.c5
  go_wp2_with fail
  refine (l2Tail_q a1 lo bV oV nv k1 V w1 hn (LV.keep S1) ok).mono ?_
  rintro e w2 ⟨rfl, s2⟩
  go_wp2
  go_ret
  exact ⟨by simp [str_app], S1.trans (sinceMono s2 S1.size)⟩

/-- spec.l2NodeLine at a node of a valid form. -/
theorem l2NodeLine_q (d : NodeD) (a1 : Option Addr) (lo k1 : Nat) (w : World) (f : d.Form) (ha : 0 ≤ d.a) (hb : 0 ≤ d.b) (hd : d.size ≤ 1048576) (H : NodL w lo d a1 k1) :
    Calls Tryz.prog 20 #[.agg #[.int .i64 d.op, .int .i64 d.a, .int .i64 d.b, .int .i64 d.k, .int .i64 d.s, .slice a1 d.nv k1]] w fun e w' => e = .returned (.string ⟨(nodeB d).toArray⟩) ∧ w.Since w.heap.size w' := by
  have o1 := f.o1
  have o7 := f.o7
  have fk := f.k
  have fs := f.s
  have fv := f.v
  have ok := f.ok
  obtain ⟨bV, oV, -, LV⟩ := H.LV
  have ia := H.ia
  have ib := H.ib
  unfold NodeD.size at hd
  clear f H
  obtain ⟨op, v1, v2, v3, v4, nv, V⟩ := d
  dsimp only at *
  unfold I64 at ia ib
  have hop : op = 1 ∨ op = 2 ∨ op = 3 ∨ op = 4 ∨ op = 5 ∨ op = 6 ∨ op = 7 := by omega
  rcases hop with ho | ho | ho | ho | ho | ho | ho
  · subst ho
    have fk : 1 ≤ v3 ∧ v3 ≤ 1000 := fk
    refine (l2NodeLine1 v1 v2 v3 v4 nv V a1 lo bV oV k1 w ha ia.2 (by omega) (by omega) hd LV ok).mono ?_
    rintro e w' ⟨rfl, s⟩
    exact ⟨by simp [nodeB, wordB, intsB, usesB, usesK, usesS, Lib.joinTail], s⟩
  · subst ho
    have e0 := fv rfl
    subst e0
    refine (l2NodeLine2 v1 v2 v3 v4 0 V a1 k1 w ha ia.2).mono ?_
    rintro e w' ⟨rfl, s⟩
    exact ⟨by simp [nodeB, wordB, intsB, usesB, usesK, usesS, Lib.joinTail, tailB], s⟩
  · subst ho
    refine (l2NodeLine3 v1 v2 v3 v4 nv V a1 lo bV oV k1 w ha ia.2 hd LV ok).mono ?_
    rintro e w' ⟨rfl, s⟩
    exact ⟨by simp [nodeB, wordB, intsB, usesB, usesK, usesS, Lib.joinTail], s⟩
  · subst ho
    have e0 := fv rfl
    subst e0
    refine (l2NodeLine4 v1 v2 v3 v4 0 V a1 k1 w ha ia.2 hb ib.2).mono ?_
    rintro e w' ⟨rfl, s⟩
    exact ⟨by simp [nodeB, wordB, intsB, usesB, usesK, usesS, Lib.joinTail, tailB], s⟩
  · subst ho
    have fk : 1 ≤ v3 ∧ v3 ≤ 1000 := fk
    have e0 := fv rfl
    subst e0
    refine (l2NodeLine5 v1 v2 v3 v4 0 V a1 k1 w ha ia.2 (by omega) (by omega)).mono ?_
    rintro e w' ⟨rfl, s⟩
    exact ⟨by simp [nodeB, wordB, intsB, usesB, usesK, usesS, Lib.joinTail, tailB], s⟩
  · subst ho
    have fk : 1 ≤ v3 ∧ v3 ≤ 1000 := fk
    have fs : 1 ≤ v4 ∧ v4 ≤ 1000 := fs
    refine (l2NodeLine6 v1 v2 v3 v4 nv V a1 lo bV oV k1 w ha ia.2 (by omega) (by omega) (by omega) (by omega) hd LV ok).mono ?_
    rintro e w' ⟨rfl, s⟩
    exact ⟨by simp [nodeB, wordB, intsB, usesB, usesK, usesS, Lib.joinTail], s⟩
  · subst ho
    refine (l2NodeLine7 v1 v2 v3 v4 nv V a1 lo bV oV k1 w ha ia.2 hd LV ok).mono ?_
    rintro e w' ⟨rfl, s⟩
    exact ⟨by simp [nodeB, wordB, intsB, usesB, usesK, usesS, Lib.joinTail], s⟩

end Go.Proofs.YtlpabmcebpppfaaGreatDoor
