import Derived.Test.YtigggjcnnlidgaaV1
import Derived.Test.YtigggjcnnlidgaaV2
namespace Go.Proofs.Ytigggjcnnlidgaa
open Go.RowKit

theorem bl_push (b : Bool) (R : Nat → Bool) (n : Nat) : bl (push b R) (n + 1) = [.bool b] ++ bl R n := by
  unfold bl
  rw [List.range_succ_eq_map]
  simp [push, Function.comp_def]

theorem own_one (w : World) (base : Nat) (x : Value) (t : TypeId) (hb : base ≤ w.heap.size) : (w.alloc (.cells #[x] t)).ownsRow base t 1 (.slice (some ⟨w.heap.size, 0, none⟩) 1 1) 1 [x] :=
  ⟨rfl, .inr ⟨w.heap.size, 1, #[x], rfl, hb, heap_alloc_new w _, Nat.le_refl _, by decide, rfl, rfl⟩⟩

theorem bits_news {w : World} {g t : Nat} {R : Nat → Bool} (h : Bits w (some ⟨g, 0, none⟩) g 0 t R) : ∀ j u, (bl R t)[j]? = some u → w.cell? ((⟨g, 0, none⟩ : Addr).add j) = some u := by
  intro j u hu
  have hj : j < t := by have := (List.getElem?_eq_some_iff.1 hu).1; rwa [bl_len] at this
  rw [bl_get R t j hj] at hu
  rw [Addr.add_lit, (h j hj).2]; exact hu

theorem bl_one (R : Nat → Bool) (t : Nat) : ∀ u ∈ bl R t, u.oneCell' = true := by
  intro u hu
  obtain ⟨_, _, rfl⟩ := List.mem_map.1 hu
  rfl

theorem cmpN_nonneg {x y : Nat} (h : y ≤ x) : 0 ≤ cmpN x y := by unfold cmpN; split <;> (try split) <;> omega
theorem cmpN_neg {x y : Nat} (h : x < y) : cmpN x y < 0 := by rw [cmpN_lt h]; decide

set_option maxHeartbeats 6400000 in
set_option maxRecDepth 100000 in
theorem l1DivBits_any (a a' : Option Addr) (b off n cap b' off' m cap' : Nat) (A B : Nat → Bool) (w : World) (hn : n ≤ 134217728) (hm : m ≤ 134217728) (hA : Bits w a b off n A) (hB : Bits w a' b' off' m B)
    (tB : 0 < m → B (m - 1) = true) (hD : 0 < bv B m) :
    Calls Try.prog 18 #[.slice a n cap, .slice a' m cap'] w fun e w' => ∃ gq tq cq Q gr tr cr R, e = .returned (.tuple #[.slice (some ⟨gq, 0, none⟩) tq cq, .slice (some ⟨gr, 0, none⟩) tr cr]) ∧
      tq ≤ cq ∧ tq ≤ n ∧ tr ≤ cr ∧ tr ≤ n ∧ Bits w' (some ⟨gq, 0, none⟩) gq 0 tq Q ∧ Bits w' (some ⟨gr, 0, none⟩) gr 0 tr R ∧ w.heap.size ≤ gq ∧ w.heap.size ≤ gr ∧
      (0 < tq → Q (tq - 1) = true) ∧ (0 < tr → R (tr - 1) = true) ∧ bv Q tq = bv A n / bv B m ∧ bv R tr = bv A n % bv B m ∧ w.Since w.heap.size w' := by
  obtain ⟨i0, hi, hz0, hz1, hz2⟩ := info_parts Try.info4
  have hmk := run_make_row' (P := Try.prog) 30 4 (.bool false) 1 Try.underlying30 Try.info4 rfl .i64 .i64 n (by omega) (by omega)
  have HT := hide tB
  have HD := hide hD
  clear tB hD
  go_enter Try.func18, Try.ntmps18
  go_wp2
  clear hmk
  go_loopw [7, 8] (fun v q wr => ∃ (k : Nat) (z : Int) (Q R : Nat → Bool) (g t c : Nat), k ≤ n ∧ q = .int .i64 z ∧ v = .slice (some ⟨g, 0, none⟩) t c ∧ Hid (z = k - 1) ∧ t ≤ c ∧ t ≤ n - k ∧ w.heap.size < g ∧
      Bits wr (some ⟨g, 0, none⟩) g 0 t R ∧ Hid (0 < t → R (t - 1) = true) ∧ Hid (DivRel A Q n k (bv B m) (bv R t)) ∧ w.Since w.heap.size wr ∧ wr.rowIs w.heap.size 4 n (fun j => .bool (Q j))) (fun _ q _ => (intOf q + 1).toNat)
  case atStart =>
    refine ⟨n, (n : Int) - 1, fun _ => false, fun _ => false, w.heap.size + 1, 0, 0, Nat.le_refl _, rfl, rfl, rfl, Nat.le_refl _, Nat.zero_le _, by omega, fun j hj => absurd hj (by omega), fun h => absurd h (by omega), divRel_start A n _ HD.out,
      ((World.Since.refl _ _).alloc (Nat.le_refl _) _).alloc (by simp) _, (World.rowIs_made w _ n 4).alloc _⟩
  case round =>
    obtain ⟨k, z, Q, R, g, t, c, hk, rfl, rfl, HZ, htc, htn, hg, hR, HRt, HR, hs, hq⟩ := hrel
    by_cases hz : 0 ≤ z
    · obtain ⟨i, rfl⟩ := Int.eq_ofNat_of_zero_le hz
      have hki : k = i + 1 := by have := HZ.out; omega
      subst hki
      clear HZ
      obtain ⟨rfl, hc⟩ := hA i (by omega)
      have g0 : wr.cell? ⟨b, off + i, none⟩ = some (.bool (A i)) := by rw [hs.cell (a := ⟨b, off + i, none⟩) (hA.lt (by omega))]; exact hc
      clear hc
      obtain ⟨x, hx⟩ : ∃ x, x = A i := ⟨_, rfl⟩
      rw [← hx] at g0
      have HX : Hid (A i = x) := hx.symm
      clear hx
      have hsz := hs.size
      have hqlt := hq.lt
      have hR1 : Bits (wr.alloc (.cells #[.bool x] 4)) (some ⟨g, 0, none⟩) g 0 t R := hR.keep ((World.Since.refl _ _).alloc (Nat.le_refl _) _)
      go_wp2_with (at_builtin; refine wpList_append_own _ rfl _ _ 30 rfl (w.heap.size + 1) 4 i0 (.bool false) 1 1 Try.underlying30 hi hz0 hz1 hz2 rfl (by decide) _ _ _ rfl (own_one _ _ _ _ (by omega)) ⟨g, 0, none⟩ t c (bl R t) rfl (by rw [bl_len]; omega) (bits_news hR1) (bl_one R t) (by unfold maxLen; omega) (by omega) (by simp; omega) ?_)
      intro v' w1 hown' hgrow hnn
      have hsw : wr.Since wr.heap.size w1 := ((World.Since.refl _ _).alloc (Nat.le_refl _) _).grown hgrow (by simp) (fun k hk => by simp [Value.ownBlock] at hk; omega)
      have e1 : Value.bool x :: bl R t = bl (push x R) (t + 1) := (bl_push x R t).symm
      rw [e1, Nat.add_comm 1 t] at hown'
      obtain ⟨g1, cap1, rfl, hmc1, hg1, hP⟩ := own_bits_some hown' hnn
      have hs1 : w.Since w.heap.size w1 := hs.trans (sinceMono hsw hs.size)
      have hq1 : w1.rowIs w.heap.size 4 n (fun j => .bool (Q j)) := hq.of_block (hsw.block _ hqlt)
      have HV := hide (bv_push x R t)
      clear hown' hgrow hnn hsw e1 hs hq g0 hR hR1
      obtain ⟨P, hPd⟩ : ∃ P, P = push x R := ⟨_, rfl⟩
      rw [← hPd] at hP HV
      clear hPd
      go_wp2_with fail
      refine (l1Trim_any _ g1 0 (t + 1) cap1 P _ (by omega) hmc1 hP).mono ?_
      rintro e w2 ⟨rfl, rfl⟩
      have htl := tlen_le P (t + 1)
      have HTop := hide (tlen_top P (t + 1))
      have HV2 : Hid (bv P (tlen P (t + 1)) = x.toNat + 2 * bv R t) := (bv_tlen P (t + 1)).trans HV.out
      have hP := hP.take htl
      generalize tlen P (t + 1) = t1 at *
      have hB1 := hB.keep hs1
      go_wp2_with fail
      refine (l1CmpBits_any _ a' g1 0 t1 cap1 b' off' m cap' P B _ (by omega) (by omega) hP hB1 HTop.out HT.out).mono ?_
      rintro e w3 ⟨rfl, s3⟩
      have hP := hP.same s3
      have hB1 := hB1.same s3
      have hs3 : w.Since w.heap.size w3 := hs1.trans (s3.since _)
      have hq3 : w3.rowIs w.heap.size 4 n (fun j => .bool (Q j)) := hq1.of_block (by rw [s3.heap])
      clear s3 hs1 hq1
      by_cases hge : bv B m ≤ bv P t1
      · have hc := cmpN_nonneg hge
        have HG := hide hge
        have hlen := bv_len HT.out hge
        clear hge
        generalize cmpN (bv P t1) (bv B m) = z at *
        go_wp2_with fail
        refine (l1SubBits_any _ a' g1 0 t1 cap1 b' off' m cap' P B _ (by omega) hlen hP hB1 HG.out).mono ?_
        rintro e w4 ⟨g4, t4, c4, D, rfl, k1, k2, hD4, k3, k4, k5, hs4⟩
        have HDt := hide k4
        have HDv : Hid (DivRel A (upd Q i true) n i (bv B m) (bv D t4)) := by
          have := divRel_one HR.out (by omega) (by have := HG.out; rw [HV2.out] at this; rw [HX.out]; exact this)
          rw [HX.out, ← HV2.out, ← k5] at this
          exact this
        clear k4 k5 HR HV HV2 HRt
        have hsz3 := hs3.size
        have hs5 : w.Since w.heap.size w4 := hs3.trans (sinceMono hs4 hsz3)
        have hq4 : w4.rowIs w.heap.size 4 n (fun j => .bool (Q j)) := hq3.of_block (hs4.block _ hq3.lt)
        have q1 := hq4.cell (i := i) (by omega)
        have q2 := hq4.frozen i
        have hq3l := hq3.lt
        have hni : (i : Int) < (n : Int) := by omega
        clear hs4 hs3 hq3
        go_wp2
        go_roundw
        case rel =>
          go_light
          refine ⟨i, (i : Int) - 1, upd Q i true, D, g4, t4, c4, by omega, by go_num, rfl, rfl, k1, by omega, by omega, ?_, HDt, HDv, hs5.setCell (Nat.le_refl _) _, (hq4.set i _).congr (fun j _ => ?_)⟩
          · intro j hj
            refine ⟨rfl, ?_⟩
            rw [World.cell?_setCell_other _ _ _ _ (fun h => by have := congrArg Addr.block h; simp at this; omega)]
            exact (hD4 j hj).2
          · by_cases e : j = i <;> simp [upd, e]
        case measure => simp [intOf]
      · have hc := cmpN_neg (Nat.lt_of_not_le hge)
        have HDv : Hid (DivRel A Q n i (bv B m) (bv P t1)) := by
          have := divRel_nought HR.out (by omega) (by rw [HV2.out] at hge; rw [HX.out]; omega)
          rw [HX.out, ← HV2.out] at this
          exact this
        clear hge HR HV HV2 HRt
        generalize cmpN (bv P t1) (bv B m) = z at *
        go_wp2
        go_roundw
        case rel => exact ⟨i, (i : Int) - 1, Q, P, g1, t1, cap1, by omega, by go_num, rfl, rfl, by omega, by omega, by omega, hP, HTop, HDv, hs3, hq3⟩
        case measure => simp [intOf]
    · have hk0 : k = 0 := by have := HZ.out; omega
      subst hk0
      go_wp2_with fail
      refine (l1Trim_any _ w.heap.size 0 n n Q _ (by omega) (Nat.le_refl _) (bits_row hq)).mono ?_
      rintro e w1 ⟨rfl, rfl⟩
      go_wp2
      go_ret2
      have htl := tlen_le Q n
      obtain ⟨v1, v2⟩ := divRel_end HR.out
      exact ⟨w.heap.size, _, _, Q, g, t, c, R, rfl, htl, htl, htc, by omega, (bits_row hq).take htl, hR, Nat.le_refl _, by omega, fun h => tlen_top _ _ h, HRt.out, (bv_tlen _ _).trans v1, v2, hs⟩

end Go.Proofs.Ytigggjcnnlidgaa
