import Derived.Test.YtlpabmcebpppfaaGreatDoorOwnP23
import Derived.Lib.ConvBytes
import Derived.Deep.RegionHeld3
namespace Go.Proofs.YtlpabmcebpppfaaGreatDoor
open Go.RowKit

set_option maxHeartbeats 1600000 in
set_option maxRecDepth 100000 in
/-- spec.l2Dec. -/
theorem l2Dec_q (z : Int) (w : World) (h0 : 0 ≤ z) (h1 : z ≤ 9223372036854775807) :
    Calls Tryz.prog 18 #[.int .i64 z] w fun e w' => e = .returned (.string ⟨(decB z).toArray⟩) ∧ w.Since w.heap.size w' := by
  obtain ⟨v, hv⟩ : ∃ v : Nat, z = v := ⟨z.toNat, by omega⟩
  subst hv
  have hl : v < 18446744073709551616 := by omega
  have ed : decB (v : Int) = Lib.decDigits v := rfl
  rw [ed]
  clear h0 h1 ed
  go_enter Tryz.func18, Tryz.ntmps18
  go_wp2_with fail
  refine (l1BitsOf_any v w hl).mono ?_
  rintro e w1 ⟨x, t, B, rfl, ht, ⟨a, b, off, cap, rfl, hc, hB, -⟩, hbv, s1⟩
  have HV := hide hbv
  clear hbv
  go_wp2_with fail
  refine (l1Decimal_any a b off t cap B w1 (by omega) hB).mono ?_
  rintro e w2 ⟨rfl, s2⟩
  go_wp2
  go_ret
  refine ⟨?_, s1.trans (sinceMono s2 s1.size)⟩
  rw [HV.out]
  rfl

theorem own_blk {w w' : World} {base : Nat} {e : TypeId} {size : Nat} {v : Value} {n : Nat} {xs : List Value} (h : w.ownsRow base e size v n xs) (hk : ∀ g, v.ownBlock = some g → w'.heap[g]? = w.heap[g]?) : w'.ownsRow base e size v n xs := by
  obtain ⟨hl, h | ⟨g, cap, cur, rfl, hb, hh, hr⟩⟩ := h
  · exact ⟨hl, Or.inl h⟩
  · exact ⟨hl, Or.inr ⟨g, cap, cur, rfl, hb, (hk g (by simp [Value.ownBlock])).trans hh, hr⟩⟩

theorem own_keep {w w' : World} {base : Nat} {e : TypeId} {size : Nat} {v : Value} {n : Nat} {xs : List Value} (h : w.ownsRow base e size v n xs) (s : w.Since w.heap.size w') : w'.ownsRow base e size v n xs := own_blk h (fun g hg => s.block g (h.lt g hg).2)

theorem bytes_since (w : World) (e : TypeId) (s : ByteArray) : w.Since w.heap.size (Lib.bytesWorld w e s) := by
  have d := (World.Since.refl w.heap.size w).drew
  exact ⟨d.os, d.tape, d.output, by rw [Lib.bytesWorld_size]; omega, fun k hk => Lib.bytesWorld_at_old w e s k hk⟩

theorem bytes_cells (w : World) (e : TypeId) (l : List UInt8) : ∀ j u, (Lib.byteCells l)[j]? = some u → (Lib.bytesWorld w e ⟨l.toArray⟩).cell? ((⟨w.heap.size, 0, none⟩ : Addr).add j) = some u := fun j u h => by
  have hj : j < l.length := by
    have := (List.getElem?_eq_some_iff.1 h).1
    rwa [Lib.byteCells_length] at this
  rw [Go.WideShapes.add_plain, Nat.zero_add]
  have h2 := Lib.bytesWorld_cell w e ⟨l.toArray⟩ j (by simpa [ByteArray.size] using hj)
  rw [h2, ← h]
  simp [Lib.byteCells, hj]

theorem bytes_one (l : List UInt8) : ∀ u ∈ Lib.byteCells l, u.oneCell' = true := fun u hu => by
  obtain ⟨x, -, rfl⟩ := List.mem_map.1 hu
  rfl

theorem l1Text_m {w : World} {lo : Nat} {r : RatD} {a1 a2 : Option Addr} {k1 k2 : Nat} (L : RatL w lo r a1 a2 k1 k2) (ok : r.ok = true) (h : r.n + r.m ≤ 1048576) :
    Calls Tryz.prog 19 #[.agg #[.bool r.neg, .slice a1 r.n k1, .slice a2 r.m k2]] w fun e w' => e = .returned (.string ⟨r.txt.toArray⟩) ∧ w.Since w.heap.size w' := by
  obtain ⟨ba, oa, -, LX⟩ := L.LX
  obtain ⟨bb, ob, -, LY⟩ := L.LY
  exact l1Text_any r.neg a1 a2 ba oa r.n k1 bb ob r.m k2 r.X r.Y w (by omega) (by omega) LX LY L.lX L.lY (RatD.q_ok ok).2.2.2.2.1

theorem tail_len (V : Nat → RatD) (k : Nat) : (tailB V (k + 1)).length = (tailB V k).length + 1 + (V k).txt.length := by
  rw [tailB, List.length_append, List.length_cons]; omega

set_option maxHeartbeats 6400000 in
set_option maxRecDepth 100000 in
/-- spec.l2Tail. -/
theorem l2Tail_q (a : Option Addr) (lo b off n cap : Nat) (V : Nat → RatD) (w : World) (hn : n + szR V n ≤ 1048576) (H : Rats w lo a b off n V) (ok : RatsOk V n) :
    Calls Tryz.prog 36 #[.slice a n cap] w fun e w' => e = .returned (.string ⟨(tailB V n).toArray⟩) ∧ w.Since w.heap.size w' := by
  obtain ⟨i0, hi, hz0, hz1, hz2⟩ := info_parts Tryz.info5
  have lim : ∀ k, k ≤ n → (tailB V k).length ≤ 38797312 := fun k hk => by
    have h1 := tail_lim (V := V) (n := k) (fun c hc => H.lim c (by omega))
    have h2 := szR_mono (R := V) hk
    omega
  have hlim := hide lim
  clear lim
  have sA : w.Since w.heap.size (w.alloc (.cells #[] 5)) := (World.Since.refl _ _).alloc (Nat.le_refl _) _
  have oA : (w.alloc (.cells #[] 5)).ownsRow w.heap.size 5 1 (.slice (some ⟨w.heap.size, 0, none⟩) 0 0) 0 (Lib.byteCells []) := World.ownsRow_made w #[] 0 (Nat.le_refl _) (Nat.zero_le _) rfl
  go_enter Tryz.func36, Tryz.ntmps36
  go_wp2
  go_loopw [3, 4] (fun u i wr => ∃ k : Nat, k ≤ n ∧ i = .int .i64 k ∧ w.Since w.heap.size wr ∧ Hid (u ≠ .slice none 0 0) ∧ ∃ m, Hid (m = (tailB V k).length) ∧ wr.ownsRow w.heap.size 5 1 u m (Lib.byteCells (tailB V k))) (fun _ i _ => n - (intOf i).toNat)
  case atStart => exact ⟨0, Nat.zero_le _, rfl, sA, hide (by simp), 0, hide rfl, oA⟩
  case round =>
    obtain ⟨k, hk, rfl, s, hne, m, hm, O⟩ := hrel
    have hml : m ≤ 38797312 := by rw [hm.out]; exact hlim.out k hk
    by_cases hlt : k < n
    · obtain ⟨ea, a1, a2, k1, k2, M⟩ := H k hlt
      subst ea
      have hz : (k : Int) < (n : Int) := by omega
      have hl1 : (tailB V (k + 1)).length ≤ 38797312 := hlim.out (k + 1) (by omega)
      have htl := tail_len V k
      rw [← hm.out] at htl
      have hok := ok k hlt
      have hsz : (V k).n + (V k).m ≤ 1048576 := by have := szR_at (R := V) hlt; omega
      obtain ⟨T, hT⟩ : ∃ T, (V k).txt = T := ⟨_, rfl⟩
      rw [hT] at htl
      have HL := hide (show m + 1 + T.length ≤ 38797312 by omega)
      have HT := hide hT
      have HTL := hide htl
      clear hT htl hl1
      have hs0 := s.size
      go_wp2_with (at_builtin; refine wpList_append_own _ rfl _ _ 60 rfl w.heap.size 5 i0 (.int .u8 0) 1 1 Tryz.underlying60 hi hz0 hz1 hz2 rfl (by decide) _ _ _ rfl (O.alloc _) ⟨wr.heap.size, 0, none⟩ 1 1 [.int .u8 32] rfl rfl (new_cell _ _ _) (one_one _ rfl) (by unfold maxLen; omega) (by omega) (by simp; omega) ?_)
      intro v1 w1 ho1 hg1 hn1
      have S1 : w.Since w.heap.size w1 := (s.alloc s.size _).grown hg1 (by simp; omega) (fun k hk => (O.lt k hk).1)
      have HN1 := hide hn1
      have M1 := M.keep S1
      have g0 := M1.c0
      have g1 := M1.c1
      have g2 := M1.c2
      clear hn1 hg1
      go_wp2_with fail
      refine (l1Text_m M1.L hok hsz).mono ?_
      rintro e w2 ⟨rfl, s2⟩
      rw [HT.out]
      have S2 : w.Since w.heap.size w2 := S1.trans (sinceMono s2 S1.size)
      have ho2 := own_keep ho1 s2
      have hcv := Lib.run_convert_string_bytes (P := Tryz.prog) w2 9 60 5 ⟨T.toArray⟩ Tryz.underlying9 Tryz.underlying60 Tryz.underlying5
      have s3 := bytes_since w2 5 ⟨T.toArray⟩
      have S3 : w.Since w.heap.size (Lib.bytesWorld w2 5 ⟨T.toArray⟩) := S2.trans (sinceMono s3 S2.size)
      have ho3 := own_keep ho2 s3
      have hcl := bytes_cells w2 5 T
      have z3 := Lib.bytesWorld_size w2 5 ⟨T.toArray⟩
      have hTs : (⟨T.toArray⟩ : ByteArray).size = T.length := by simp [ByteArray.size]
      rw [hTs] at hcv
      have zz := S2.size
      have HLo := HL.out
      clear g0 g1 g2 M1
      generalize Lib.bytesWorld w2 5 ⟨T.toArray⟩ = w3 at *
      go_wp2_with (at_builtin; refine wpList_append_own _ rfl _ _ 60 rfl w.heap.size 5 i0 (.int .u8 0) 1 1 Tryz.underlying60 hi hz0 hz1 hz2 rfl (by decide) _ _ _ rfl ho3 ⟨w2.heap.size, 0, none⟩ T.length _ (Lib.byteCells T) rfl (by rw [Lib.byteCells_length]; omega) hcl (bytes_one T) (by unfold maxLen; omega) (by omega) (by omega) ?_)
      intro v4 w4 ho4 hg4 hn4
      have S4 : w.Since w.heap.size w4 := S3.grown hg4 (by omega) (fun k hk => (ho3.lt k hk).1)
      have HN4 := hide (show v4 ≠ .slice none 0 0 from fun e => HN1.out (hn4.1 e).1)
      have O4 : w4.ownsRow w.heap.size 5 1 v4 (m + 1 + T.length) (Lib.byteCells (tailB V (k + 1))) := by
        rw [show Lib.byteCells (tailB V (k + 1)) = Lib.byteCells (tailB V k) ++ .int .u8 32 :: Lib.byteCells T by rw [tailB, HT.out]; simp [Lib.byteCells]]
        exact ho4
      clear hn4 hg4 ho4 ho3 ho2 ho1 hcv hcl
      go_wp2
      go_roundw
      case rel => exact ⟨k + 1, by omega, by go_num, S4, HN4, m + 1 + T.length, hide HTL.out.symm, O4⟩
      case measure => simp [intOf]; omega
    · have e : k = n := by omega
      subst e
      obtain ⟨g, c, rfl, hcv⟩ := ownB_string O hne.out hm.out
      go_wp2
      go_ret
      exact ⟨rfl, s⟩

end Go.Proofs.YtlpabmcebpppfaaGreatDoor

namespace Go.Proofs.YtlpabmcebpppfaaGreatDoor
open Go.RowKit

theorem bsz (l : List UInt8) : (⟨l.toArray⟩ : ByteArray).size = l.length := by simp [ByteArray.size]

end Go.Proofs.YtlpabmcebpppfaaGreatDoor

namespace Go.Proofs.YtlpabmcebpppfaaGreatDoor
open Go.RowKit

end Go.Proofs.YtlpabmcebpppfaaGreatDoor
