import Derived.Test.YtigggjcnnlidgaaU1
import Derived.Test.YtigggjcnnlidgaaW4
import Derived.Test.YtigggjcnnlidgaaMath3
import Derived.Laws.AppendOwnNone
import Derived.Laws.BitsAllLaws
namespace Go.Proofs.Ytigggjcnnlidgaa
open Go.RowKit

theorem or_add32 (a b : Nat) (hb : b < 4294967296) : a * 4294967296 ||| b = a * 4294967296 + b := by
  have := Nat.two_pow_add_eq_or_of_lt (i := 32) (b := b) (by omega) a
  rw [Nat.mul_comm] at this
  exact this.symm

theorem or64 (a b : Nat) (ha : a < 4294967296) (hb : b < 4294967296) : bits .or .u64 ((a : Int) * 4294967296) (b : Int) = (a : Int) * 4294967296 + (b : Int) := by
  have h := u64_or_nat (a * 4294967296) b (by omega) (by omega)
  rw [or_add32 a b hb] at h
  rw [show ((a * 4294967296 : Nat) : Int) = (a : Int) * 4294967296 by omega] at h
  rw [h]; omega

theorem wrap_u64_id (d : Nat) (h : d < 18446744073709551616) : IntKind.u64.wrap (d : Int) = (d : Int) := by rw [IntKind.wrap_u64]; omega
theorem wrap_u32_id (d : Nat) (h : d < 4294967296) : IntKind.u32.wrap (d : Int) = (d : Int) := by rw [IntKind.wrap_u32']; omega

theorem ll_one (R : Nat → Nat) (t : Nat) : ∀ u ∈ ll R t, u.oneCell' = true := by
  intro u hu
  obtain ⟨_, _, rfl⟩ := List.mem_map.1 hu
  rfl

theorem limbs_news {w : World} {x : Addr} {g off t : Nat} {R : Nat → Nat} (h : Limbs w (some x) g off t R) : ∀ j u, (ll R t)[j]? = some u → w.cell? (x.add j) = some u := by
  intro j u hu
  have hj : j < t := by have := (List.getElem?_eq_some_iff.1 hu).1; rwa [ll_len] at this
  rw [ll_get R t j hj] at hu
  have hx := Option.some.inj (h j hj).1
  rw [hx, Addr.add_lit, (h j hj).2]; exact hu

set_option maxHeartbeats 800000 in
set_option maxRecDepth 100000 in
theorem ownCopy_any (a : Option Addr) (b off n cap : Nat) (X : Nat → Nat) (w : World) (hn : n ≤ 4194304) (hnc : n ≤ cap) (hac : a = none → cap = 0) (hX : Limbs w a b off n X) :
    Calls Try.prog 20 #[.slice a n cap] w fun e w' => ∃ v, e = .returned v ∧ w'.ownsRow w.heap.size 33 1 v (tlen (nz X) n) (ll X (tlen (nz X) n)) ∧ w.Since w.heap.size w' := by
  obtain ⟨i0, hi, hz0, hz1, hz2⟩ := info_parts Try.info33
  have htl := tlen_le (nz X) n
  cases a with
  | none =>
    have hc := hac rfl
    have hn0 : n = 0 := by omega
    subst hc hn0
    clear hac
    go_enter Try.func20, Try.ntmps20
    go_wp2_with fail
    refine (readOnly_any none b off 0 0 X _ (by omega) (Nat.le_refl _) hX).mono ?_
    rintro e w1 ⟨rfl, hs⟩
    have e0 : tlen (nz X) 0 = 0 := rfl
    rw [e0]
    go_wp2_with (at_builtin; refine wpList_append_own_none rfl _ _ 34 rfl w.heap.size 33 i0 1 Try.underlying34 hi _ 0 [] rfl (World.ownsRow_nil _ _ _ _) rfl ?_)
    go_ret
    exact ⟨_, rfl, World.ownsRow_nil _ _ _ _, hs⟩
  | some x =>
    clear hac
    go_enter Try.func20, Try.ntmps20
    go_wp2_with fail
    refine (readOnly_any (some x) b off n cap X _ (by omega) hnc hX).mono ?_
    rintro e w1 ⟨rfl, hs⟩
    have hX1 := (hX.keep hs).take htl
    obtain ⟨t, ht⟩ : ∃ t, t = tlen (nz X) n := ⟨_, rfl⟩
    have HT := hide ht
    rw [← ht] at hX1 htl ⊢
    clear ht
    go_wp2_with (at_builtin; refine wpList_append_own _ rfl _ _ 34 rfl w.heap.size 33 i0 (.int .u32 0) 1 4 Try.underlying34 hi hz0 hz1 hz2 rfl (by decide) _ 0 [] rfl (World.ownsRow_nil _ _ _ _) x t cap (ll X t) rfl (by rw [ll_len]; omega) (limbs_news hX1) (ll_one X t) (by unfold maxLen; omega) (by omega) hs.size ?_)
    intro v' w2 hown hgrow hnil
    have hown : w2.ownsRow w.heap.size 33 1 v' (tlen (nz X) n) (ll X (tlen (nz X) n)) := by rw [← HT.out]; exact hown
    have hs2 : w.Since w.heap.size w2 := hs.grown hgrow hs.size (fun k hk => by simp [Value.ownBlock] at hk)
    clear hgrow hnil
    go_wp2
    go_ret
    exact ⟨_, rfl, hown, hs2⟩

theorem Marked.drew {w w' : World} {b : Nat} (h : Marked w w' b) : Marked w w'.drew b := ⟨h.os, h.tape, h.output, h.size, h.other, h.frozen⟩
theorem Marked.drewN {w w' : World} {b : Nat} (h : Marked w w' b) (n : Nat) : Marked w (w'.drewN n) b := ⟨h.os, h.tape, h.output, h.size, h.other, h.frozen⟩
theorem Marked.trans {w w' w'' : World} {b : Nat} (h : Marked w w' b) (k : Marked w' w'' b) : Marked w w'' b :=
  ⟨k.os.trans h.os, k.tape.trans h.tape, k.output.trans h.output, k.size.trans h.size, fun j hj => (k.other j hj).trans (h.other j hj), fun o => (k.frozen o).trans (h.frozen o)⟩
theorem Marked.same {w w' w'' : World} {b : Nat} (h : Marked w w' b) (k : Same w' w'') : Marked w w'' b :=
  ⟨k.os.trans h.os, k.tape.trans h.tape, k.output.trans h.output, k.size.trans h.size, fun j hj => by rw [k.heap]; exact h.other j hj, fun o => by rw [k.frozen]; exact h.frozen o⟩

/-- One limb of a slice is written. -/
theorem Limbs.put {w : World} {a : Option Addr} {b n i : Nat} {Q : Nat → Nat} (h : Limbs w a b 0 n Q) (v : Nat) : Limbs (w.setCell ⟨b, i, none⟩ (.int .u32 v)) a b 0 n (upd Q i v) := by
  intro j hj
  have hj' := h j hj
  refine ⟨hj'.1, ?_⟩
  by_cases e : j = i
  · subst e
    rw [upd_same, Nat.zero_add]
    have := hj'.2
    rw [Nat.zero_add] at this
    exact World.cell?_setCell_same _ _ _ this
  · rw [upd_other _ _ _ _ e, World.cell?_setCell_other _ _ _ _ (fun h => by have := congrArg Addr.off h; simp at this; omega)]
    exact hj'.2

set_option maxHeartbeats 1600000 in
set_option maxRecDepth 100000 in
theorem divideByLimb_any (c o : Nat) (a : Option Addr) (b n cap d : Nat) (X : Nat → Nat) (w : World) (hn : n ≤ 281474976710656) (hnc : n ≤ cap) (hc0 : w.cell? ⟨c, o, none⟩ = some (.slice a n cap)) (hf0 : w.frozen? ⟨c, o, none⟩ = false)
    (hX : Limbs w a b 0 n X) (hXl : ∀ j, j < n → X j < 4294967296) (hf : 0 < n → ∀ o, w.frozen? ⟨b, o, none⟩ = false) (hcb : c ≠ b) (hd : 0 < d) (hdl : d < 4294967296) :
    Calls Try.prog 27 #[.pointer (some ⟨c, o, none⟩), .int .u32 d] w fun e w' => e = .returned (.int .u32 ((lv X n % d : Nat) : Int)) ∧ ∃ w2 Q, Marked w w2 b ∧ Limbs w2 a b 0 n Q ∧ (∀ j, j < n → Q j < 4294967296) ∧
      lv Q n = lv X n / d ∧ w' = w2.setCell ⟨c, o, none⟩ (.slice a (tlen (nz Q) n) cap) := by
  have HXl := hide hXl
  clear hXl
  go_enter Try.func27, Try.ntmps27
  go_wp2
  go_loopw [5, 6] (fun r t wr => ∃ (k rr : Nat) (z : Int) (Q : Nat → Nat), k ≤ n ∧ t = .int .i64 z ∧ r = .int .u64 rr ∧ rr < d ∧ Hid (z = k - 1) ∧ Marked w wr b ∧ Limbs wr a b 0 n Q ∧ Hid (LimbRel X Q n k d rr)) (fun _ t _ => (intOf t + 1).toNat)
  case atStart => exact ⟨n, 0, (n : Int) - 1, X, Nat.le_refl _, rfl, rfl, hd, rfl, Marked.refl _ _, hX, limbRel_start hd HXl.out⟩
  case round =>
    obtain ⟨k, rr, z, Q, hk, rfl, rfl, hrr, HZ, hs, hQ, HR⟩ := hrel
    by_cases hz : 0 ≤ z
    · obtain ⟨i, rfl⟩ := Int.eq_ofNat_of_zero_le hz
      have hki : k = i + 1 := by have := HZ.out; omega
      subst hki
      clear HZ
      obtain ⟨rfl, hc⟩ := hQ i (by omega)
      have hxi : Q i < 4294967296 := HR.out.2.2.2 i (by omega)
      have HS := hide (limbRel_step HR.out (by omega) (HXl.out i (by omega)))
      rw [← HR.out.2.2.1 i (by omega)] at HS
      have g0 : wr.cell? ⟨b, i, none⟩ = some (.int .u32 (Q i)) := by simpa using hc
      have g1 : wr.frozen? ⟨b, i, none⟩ = false := by rw [hs.frozen]; exact hf (by omega) i
      have g2 : wr.cell? ⟨c, o, none⟩ = some (.slice (some ⟨b, 0, none⟩) n cap) := by rw [hs.cell (a := ⟨c, o, none⟩) hcb]; exact hc0
      have hni : (i : Int) < (n : Int) := by omega
      have hor := or64 rr (Q i) (by omega) hxi
      obtain ⟨x, hx⟩ : ∃ x, x = Q i := ⟨_, rfl⟩
      rw [← hx] at HS hxi g0 hor
      clear hc hx
      go_wp2
      clear hor
      obtain ⟨p, hp⟩ : ∃ p, p = rr * 4294967296 + x := ⟨_, rfl⟩
      have hpi : (rr : Int) * 4294967296 + (x : Int) = (p : Int) := by omega
      have hpl : p < 18446744073709551615 := by omega
      rw [← hp] at HS
      rw [hpi]
      clear hp hpi
      obtain ⟨q, hq⟩ : ∃ q, q = p / d := ⟨_, rfl⟩
      have HQ := hide hq
      have hql : q < 4294967296 := by rw [hq]; exact HS.out.2
      have w1 : IntKind.u64.wrap (d : Int) = (d : Int) := wrap_u64_id d (by omega)
      have w2 : IntKind.u64.wrap ((p : Int) / (d : Int)) = (q : Int) := by rw [← Int.natCast_ediv, ← hq]; exact wrap_u64_id q (by omega)
      have w3 : IntKind.u32.wrap (q : Int) = (q : Int) := wrap_u32_id q hql
      have hd0 : ¬ (d : Int) = 0 := by omega
      clear hq
      go_region
      clear w1 w2 w3
      go_wp2
      go_roundw
      case rel =>
        go_light
        have HS2 := HS.out.1
        rw [← HQ.out] at HS2
        refine ⟨i, p % d, (i : Int) - 1, upd Q i q, by omega, rfl, congrArg (Value.int .u64) (by rw [Int.natCast_emod]), Nat.mod_lt _ hd, rfl, ?_, ?_, HS2⟩
        · first | exact (hs.setCell _ _).drew | exact hs.drew.setCell _ _
        · exact hQ.put q
      case measure => simp [intOf]
    · have hk0 : k = 0 := by have := HZ.out; omega
      subst hk0
      have g2 : wr.cell? ⟨c, o, none⟩ = some (.slice a n cap) := by rw [hs.cell (a := ⟨c, o, none⟩) hcb]; exact hc0
      have g3 : wr.frozen? ⟨c, o, none⟩ = false := by rw [hs.frozenO (a := ⟨c, o, none⟩) hcb]; exact hf0
      obtain ⟨v1, v2⟩ := limbRel_end HR.out
      have HV1 := hide v1
      have HV2 := hide v2
      clear v1 v2
      go_wp2_with fail
      refine (trimAt_any c o a b 0 n cap Q _ hn hnc g2 g3 hQ).mono ?_
      rintro e w1 ⟨rfl, rfl⟩
      have hrl : rr < 4294967296 := by omega
      go_wp2
      go_ret
      exact ⟨ret_int (a := (rr : Int)) (congrArg (fun x : Nat => (x : Int)) HV2.out), wr, Q, hs, hQ, HR.out.2.2.2, HV1.out, rfl⟩

end Go.Proofs.Ytigggjcnnlidgaa
