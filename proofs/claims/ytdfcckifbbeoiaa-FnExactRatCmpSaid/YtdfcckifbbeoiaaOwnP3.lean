import Derived.Test.YtdfcckifbbeoiaaOwnP2
import Derived.Test.YtdfcckifbbeoiaaG3P4
import Derived.Test.YtdfcckifbbeoiaaG2P5
namespace Go.Proofs.Ytdfcckifbbeoiaa
open Go.RowKit

set_option maxHeartbeats 1600000 in
set_option maxRecDepth 100000 in
/-- l1Copy of a Rat whose lists are not nil: nor are the answer's. -/
theorem l1Copy_some (f : Bool) (x y : Addr) (ba oa n ca bb ob m cb : Nat) (X Y : Nat → Nat) (w : World) (hn : n ≤ 1048576) (hm : m ≤ 1048576) (_hnc : n ≤ ca) (_hmc : m ≤ cb) (hX : Limbs w (some x) ba oa n X) (hY : Limbs w (some y) bb ob m Y) :
    Calls Try.prog 97 #[.agg #[.bool f, .slice (some x) n ca, .slice (some y) m cb]] w fun e w' => ∃ g h c1 c2, e = .returned (.agg #[.bool f, .slice (some ⟨g, 0, none⟩) n c1, .slice (some ⟨h, 0, none⟩) m c2]) ∧ n ≤ c1 ∧ m ≤ c2 ∧
      Limbs w' (some ⟨g, 0, none⟩) g 0 n X ∧ Limbs w' (some ⟨h, 0, none⟩) h 0 m Y ∧ (0 < n → ∀ o, w'.frozen? ⟨g, o, none⟩ = false) ∧ (0 < m → ∀ o, w'.frozen? ⟨h, o, none⟩ = false) ∧ w.heap.size ≤ g ∧ g < h ∧ h < w'.heap.size ∧ w.Since w.heap.size w' := by
  obtain ⟨i0, hi, hz0, hz1, hz2⟩ := info_parts Try.info35
  have sA : w.Since w.heap.size ((w.alloc (.cells #[.bool f, .slice (some x) n ca, .slice (some y) m cb] 27)).alloc (.cells #[.bool false, .slice none 0 0, .slice none 0 0] 27)) := ((World.Since.refl _ _).alloc (Nat.le_refl _) _).alloc (by simp) _
  have oA : Box3 ((w.alloc (.cells #[.bool f, .slice (some x) n ca, .slice (some y) m cb] 27)).alloc (.cells #[.bool false, .slice none 0 0, .slice none 0 0] 27)) w.heap.size (.bool f) (.slice (some x) n ca) (.slice (some y) m cb) := (Box3.new w _ _ _ _).keep ((World.Since.refl _ _).alloc (Nat.le_refl _) _)
  have tB : ((w.alloc (.cells #[.bool f, .slice (some x) n ca, .slice (some y) m cb] 27)).alloc (.cells #[.bool false, .slice none 0 0, .slice none 0 0] 27)).Since ((w.alloc (.cells #[.bool f, .slice (some x) n ca, .slice (some y) m cb] 27)).alloc (.cells #[.bool false, .slice none 0 0, .slice none 0 0] 27)).heap.size (((w.alloc (.cells #[.bool f, .slice (some x) n ca, .slice (some y) m cb] 27)).alloc (.cells #[.bool false, .slice none 0 0, .slice none 0 0] 27)).alloc (.cells #[] 35)) := (World.Since.refl _ _).alloc (Nat.le_refl _) _
  have SB := sA.trans (sinceMono tB sA.size)
  have X1 := hX.keep SB
  have own1 := World.ownsRow_made (e := 35) (size := 1) ((w.alloc (.cells #[.bool f, .slice (some x) n ca, .slice (some y) m cb] 27)).alloc (.cells #[.bool false, .slice none 0 0, .slice none 0 0] 27)) #[] 0 (Nat.le_refl _) (by decide) rfl
  have zA : ((w.alloc (.cells #[.bool f, .slice (some x) n ca, .slice (some y) m cb] 27)).alloc (.cells #[.bool false, .slice none 0 0, .slice none 0 0] 27)).heap.size = w.heap.size + 1 + 1 := by simp
  have own0 := World.ownsRow_made (e := 35) (size := 1) ((w.alloc (.cells #[.bool f, .slice (some x) n ca, .slice (some y) m cb] 27)).alloc (.cells #[.bool false, .slice none 0 0, .slice none 0 0] 27)) #[] 0 (Nat.le_refl _) (by decide) rfl
  rw [zA] at own1
  have zA' := zA
  have rA : Box3 ((w.alloc (.cells #[.bool f, .slice (some x) n ca, .slice (some y) m cb] 27)).alloc (.cells #[.bool false, .slice none 0 0, .slice none 0 0] 27)) (w.heap.size + 1) (.bool false) (.slice none 0 0) (.slice none 0 0) := by
    have := Box3.new (w.alloc (.cells #[.bool f, .slice (some x) n ca, .slice (some y) m cb] 27)) (.bool false) (.slice none 0 0) (.slice none 0 0) 27
    simpa using this
  have HZA := hide zA'
  clear zA zA'
  go_enter Try.func97, Try.ntmps97
  go_wp2_with (at_builtin; refine wpList_append_own _ rfl _ _ 23 rfl (w.heap.size + 1 + 1) 35 i0 (.int .u32 0) 1 4 Try.underlying23 hi hz0 hz1 hz2 rfl (by decide) _ 0 [] rfl own1 x n ca (ll X n) rfl (by rw [ll_len]; omega) (limbs_news X1) (ll_one X n) (by unfold maxLen; omega) (by omega) (by simp) ?_)
  intro v1 w2 own2 grow2 nn2
  have tC : ((w.alloc (.cells #[.bool f, .slice (some x) n ca, .slice (some y) m cb] 27)).alloc (.cells #[.bool false, .slice none 0 0, .slice none 0 0] 27)).Since ((w.alloc (.cells #[.bool f, .slice (some x) n ca, .slice (some y) m cb] 27)).alloc (.cells #[.bool false, .slice none 0 0, .slice none 0 0] 27)).heap.size w2 := tB.grown grow2 (Nat.le_trans (Nat.le_refl _) tB.size) (fun k hk => by
    have := own0.lt k (by rw [HZA.out]; exact hk)
    exact this.1)
  have SC : w.Since w.heap.size w2 := sA.trans (sinceMono tC sA.size)
  have o2 := oA.keep tC
  have r2 := rA.keep tC
  have HN := hide nn2
  clear grow2 own1 nn2
  generalize ((w.alloc (.cells #[.bool f, .slice (some x) n ca, .slice (some y) m cb] 27)).alloc (.cells #[.bool false, .slice none 0 0, .slice none 0 0] 27)) = wA at *
  have tD : w2.Since w2.heap.size (w2.alloc (.cells #[] 35)) := (World.Since.refl _ _).alloc (Nat.le_refl _) _
  have SD := SC.trans (sinceMono tD SC.size)
  have Y1 := hY.keep SD
  have own3 := World.ownsRow_made (e := 35) (size := 1) w2 #[] 0 (Nat.le_refl _) (by decide) rfl
  have o3 := o2.keep tD
  have k2 := o3.c2
  go_wp2_with (at_builtin; refine wpList_append_own _ rfl _ _ 23 rfl w2.heap.size 35 i0 (.int .u32 0) 1 4 Try.underlying23 hi hz0 hz1 hz2 rfl (by decide) _ 0 [] rfl own3 y m cb (ll Y m) rfl (by rw [ll_len]; omega) (limbs_news Y1) (ll_one Y m) (by unfold maxLen; omega) (by omega) tD.size ?_)
  intro v3 w4 own4 grow4 nn4
  have tE : w2.Since w2.heap.size w4 := tD.grown grow4 tD.size (fun k hk => (own3.lt k hk).1)
  have SE := SC.trans (sinceMono tE SC.size)
  have o4 := o2.keep tE
  have r4 := r2.keep tE
  obtain ⟨g1, c1, rfl, m1, b1, l1, L1, F1⟩ := own_limbs_some own2 HN.out
  obtain ⟨g2, c2, rfl, m2, b2, l2, L2, F2⟩ := own_limbs_some own4 nn4
  clear grow4 own3 nn4 k2 o3
  have j0 := o4.c0
  have u0 := r4.c0
  have u1 := r4.c1
  have u2 := r4.c2
  have uf0 := r4.f 0
  have uf1 := r4.f 1
  have uf2 := r4.f 2
  go_wp2
  have zC := tC.size
  have zE := tE.size
  have rC := ((r4.set0 (.bool f)).set1 (.slice (some ⟨g1, 0, none⟩) n c1)).set2 (.slice (some ⟨g2, 0, none⟩) m c2)
  refine bodyPost_ret (results_box3 rfl _ _ _ _ _ _ rfl rC) rfl ?_
  have M : Marked w4 _ (w.heap.size + 1) := (((Marked.refl w4 _).setCell 0 (.bool f)).setCell 1 (.slice (some ⟨g1, 0, none⟩) n c1)).setCell 2 (.slice (some ⟨g2, 0, none⟩) m c2)
  have hz := HZA.out
  have zM := M.size
  refine ⟨g1, g2, c1, c2, rfl, m1, m2, (L1.keep tE).marked M (fun _ => by omega), L2.marked M (fun _ => by omega), fun _ o => ?_, fun _ o => ?_, by omega, by omega, by omega, SE.trans (M.since (by omega))⟩
  · rw [M.frozenO (a := ⟨g1, o, none⟩) (by show g1 ≠ _; omega), tE.frozen (a := ⟨g1, o, none⟩) l1]; exact F1 o
  · rw [M.frozenO (a := ⟨g2, o, none⟩) (by show g2 ≠ _; omega)]; exact F2 o


set_option maxHeartbeats 1600000 in
set_option maxRecDepth 100000 in
theorem l1Neg_any (f : Bool) (x y : Addr) (ba oa n ca bb ob m cb : Nat) (X Y : Nat → Nat) (w : World) (hn : n ≤ 1048576) (hm : m ≤ 1048576) (hnc : n ≤ ca) (hmc : m ≤ cb) (hX : Limbs w (some x) ba oa n X) (hY : Limbs w (some y) bb ob m Y) :
    Calls Try.prog 106 #[.agg #[.bool f, .slice (some x) n ca, .slice (some y) m cb]] w fun e w' => ∃ g h c1 c2, e = .returned (.agg #[.bool (!f && decide (0 < n)), .slice (some ⟨g, 0, none⟩) n c1, .slice (some ⟨h, 0, none⟩) m c2]) ∧ n ≤ c1 ∧ m ≤ c2 ∧
      Limbs w' (some ⟨g, 0, none⟩) g 0 n X ∧ Limbs w' (some ⟨h, 0, none⟩) h 0 m Y ∧ w.heap.size ≤ g ∧ g < h ∧ h < w'.heap.size ∧ w.Since w.heap.size w' := by
  have sA : w.Since w.heap.size ((w.alloc (.cells #[.bool f, .slice (some x) n ca, .slice (some y) m cb] 27)).alloc (.cells #[.bool false, .slice none 0 0, .slice none 0 0] 27)) := ((World.Since.refl _ _).alloc (Nat.le_refl _) _).alloc (by simp) _
  have oA : Box3 ((w.alloc (.cells #[.bool f, .slice (some x) n ca, .slice (some y) m cb] 27)).alloc (.cells #[.bool false, .slice none 0 0, .slice none 0 0] 27)) w.heap.size (.bool f) (.slice (some x) n ca) (.slice (some y) m cb) := (Box3.new w _ _ _ _).keep ((World.Since.refl _ _).alloc (Nat.le_refl _) _)
  have rA : Box3 ((w.alloc (.cells #[.bool f, .slice (some x) n ca, .slice (some y) m cb] 27)).alloc (.cells #[.bool false, .slice none 0 0, .slice none 0 0] 27)) (w.heap.size + 1) (.bool false) (.slice none 0 0) (.slice none 0 0) := by
    have := Box3.new (w.alloc (.cells #[.bool f, .slice (some x) n ca, .slice (some y) m cb] 27)) (.bool false) (.slice none 0 0) (.slice none 0 0) 27
    simpa using this
  go_enter Try.func106, Try.ntmps106
  go_wp2_with fail
  generalize ((w.alloc (.cells #[.bool f, .slice (some x) n ca, .slice (some y) m cb] 27)).alloc (.cells #[.bool false, .slice none 0 0, .slice none 0 0] 27)) = w1 at *
  refine (l1Copy_some f x y ba oa n ca bb ob m cb X Y w1 hn hm hnc hmc (hX.keep sA) (hY.keep sA)).mono ?_
  rintro e w2 ⟨g, h, c1, c2, rfl, m1, m2, L1, L2, -, -, b1, b2, b3, s2⟩
  have S2 : w.Since w.heap.size w2 := sA.trans (sinceMono s2 sA.size)
  have z1 := rA.lt
  have t3 : w2.Since w2.heap.size (w2.alloc (.cells #[.bool f, .slice (some ⟨g, 0, none⟩) n c1, .slice (some ⟨h, 0, none⟩) m c2] 27)) := (World.Since.refl _ _).alloc (Nat.le_refl _) _
  have q3 := Box3.new w2 (.bool f) (.slice (some ⟨g, 0, none⟩) n c1) (.slice (some ⟨h, 0, none⟩) m c2) 27
  have o3 := (oA.keep s2).keep t3
  have r3 := (rA.keep s2).keep t3
  have k0 := o3.c0
  have k1 := o3.c1
  have j0 := q3.c0
  have j1 := q3.c1
  have j2 := q3.c2
  have jf := q3.f 0
  have hne : w.heap.size ≠ w2.heap.size := by omega
  have hne2 : w.heap.size + 1 ≠ w2.heap.size := by omega
  have r2 := rA.keep s2
  cases f
  · by_cases hn0 : 0 < n
    · have hgt : (0 : Int) < (n : Int) := by omega
      have t4 : w2.Since w2.heap.size (w2.alloc (.cells #[.bool true, .slice (some ⟨g, 0, none⟩) n c1, .slice (some ⟨h, 0, none⟩) m c2] 27)) := (World.Since.refl _ _).alloc (Nat.le_refl _) _
      have q4 := Box3.new w2 (.bool true) (.slice (some ⟨g, 0, none⟩) n c1) (.slice (some ⟨h, 0, none⟩) m c2) 27
      have r4 := r2.keep t4
      have S4 := S2.trans (sinceMono t4 S2.size)
      have i0 := q4.c0
      have i1 := q4.c1
      have i2 := q4.c2
      have u0 := r4.c0
      have u1 := r4.c1
      have u2 := r4.c2
      have uf0 := r4.f 0
      have uf1 := r4.f 1
      have uf2 := r4.f 2
      go_wp2
      have rC := ((r4.set0 (.bool true)).set1 (.slice (some ⟨g, 0, none⟩) n c1)).set2 (.slice (some ⟨h, 0, none⟩) m c2)
      refine bodyPost_ret (results_box3 rfl _ _ _ _ _ _ rfl rC) rfl ?_
      have M5 : Marked (w2.alloc (.cells #[.bool true, .slice (some ⟨g, 0, none⟩) n c1, .slice (some ⟨h, 0, none⟩) m c2] 27)) _ (w.heap.size + 1) := (((Marked.refl (w2.alloc (.cells #[.bool true, .slice (some ⟨g, 0, none⟩) n c1, .slice (some ⟨h, 0, none⟩) m c2] 27)) _).setCell 0 (.bool true)).setCell 1 (.slice (some ⟨g, 0, none⟩) n c1)).setCell 2 (.slice (some ⟨h, 0, none⟩) m c2)
      have zM := M5.size
      have zq : w2.heap.size ≤ (w2.alloc (.cells #[.bool true, .slice (some ⟨g, 0, none⟩) n c1, .slice (some ⟨h, 0, none⟩) m c2] 27)).heap.size := t4.size
      exact ⟨g, h, c1, c2, by simp [hn0], m1, m2, (L1.keep t4).marked M5 (fun _ => by omega), (L2.keep t4).marked M5 (fun _ => by omega), by omega, by omega, by omega, S4.trans (M5.since (by omega))⟩
    · have hgt : ¬ (0 : Int) < (n : Int) := by omega
      have t4 : w2.Since w2.heap.size (w2.alloc (.cells #[.bool false, .slice (some ⟨g, 0, none⟩) n c1, .slice (some ⟨h, 0, none⟩) m c2] 27)) := (World.Since.refl _ _).alloc (Nat.le_refl _) _
      have q4 := Box3.new w2 (.bool false) (.slice (some ⟨g, 0, none⟩) n c1) (.slice (some ⟨h, 0, none⟩) m c2) 27
      have r4 := r2.keep t4
      have S4 := S2.trans (sinceMono t4 S2.size)
      have i0 := q4.c0
      have i1 := q4.c1
      have i2 := q4.c2
      have u0 := r4.c0
      have u1 := r4.c1
      have u2 := r4.c2
      have uf0 := r4.f 0
      have uf1 := r4.f 1
      have uf2 := r4.f 2
      go_wp2
      have rC := ((r4.set0 (.bool false)).set1 (.slice (some ⟨g, 0, none⟩) n c1)).set2 (.slice (some ⟨h, 0, none⟩) m c2)
      refine bodyPost_ret (results_box3 rfl _ _ _ _ _ _ rfl rC) rfl ?_
      have M5 : Marked (w2.alloc (.cells #[.bool false, .slice (some ⟨g, 0, none⟩) n c1, .slice (some ⟨h, 0, none⟩) m c2] 27)) _ (w.heap.size + 1) := (((Marked.refl (w2.alloc (.cells #[.bool false, .slice (some ⟨g, 0, none⟩) n c1, .slice (some ⟨h, 0, none⟩) m c2] 27)) _).setCell 0 (.bool false)).setCell 1 (.slice (some ⟨g, 0, none⟩) n c1)).setCell 2 (.slice (some ⟨h, 0, none⟩) m c2)
      have zM := M5.size
      have zq : w2.heap.size ≤ (w2.alloc (.cells #[.bool false, .slice (some ⟨g, 0, none⟩) n c1, .slice (some ⟨h, 0, none⟩) m c2] 27)).heap.size := t4.size
      exact ⟨g, h, c1, c2, by simp [hn0], m1, m2, (L1.keep t4).marked M5 (fun _ => by omega), (L2.keep t4).marked M5 (fun _ => by omega), by omega, by omega, by omega, S4.trans (M5.since (by omega))⟩
  · have t4 : w2.Since w2.heap.size (w2.alloc (.cells #[.bool false, .slice (some ⟨g, 0, none⟩) n c1, .slice (some ⟨h, 0, none⟩) m c2] 27)) := (World.Since.refl _ _).alloc (Nat.le_refl _) _
    have q4 := Box3.new w2 (.bool false) (.slice (some ⟨g, 0, none⟩) n c1) (.slice (some ⟨h, 0, none⟩) m c2) 27
    have r4 := r2.keep t4
    have S4 := S2.trans (sinceMono t4 S2.size)
    have i0 := q4.c0
    have i1 := q4.c1
    have i2 := q4.c2
    have u0 := r4.c0
    have u1 := r4.c1
    have u2 := r4.c2
    have uf0 := r4.f 0
    have uf1 := r4.f 1
    have uf2 := r4.f 2
    go_wp2
    have rC := ((r4.set0 (.bool false)).set1 (.slice (some ⟨g, 0, none⟩) n c1)).set2 (.slice (some ⟨h, 0, none⟩) m c2)
    refine bodyPost_ret (results_box3 rfl _ _ _ _ _ _ rfl rC) rfl ?_
    have M5 : Marked (w2.alloc (.cells #[.bool false, .slice (some ⟨g, 0, none⟩) n c1, .slice (some ⟨h, 0, none⟩) m c2] 27)) _ (w.heap.size + 1) := (((Marked.refl (w2.alloc (.cells #[.bool false, .slice (some ⟨g, 0, none⟩) n c1, .slice (some ⟨h, 0, none⟩) m c2] 27)) _).setCell 0 (.bool false)).setCell 1 (.slice (some ⟨g, 0, none⟩) n c1)).setCell 2 (.slice (some ⟨h, 0, none⟩) m c2)
    have zM := M5.size
    have zq : w2.heap.size ≤ (w2.alloc (.cells #[.bool false, .slice (some ⟨g, 0, none⟩) n c1, .slice (some ⟨h, 0, none⟩) m c2] 27)).heap.size := t4.size
    exact ⟨g, h, c1, c2, rfl, m1, m2, (L1.keep t4).marked M5 (fun _ => by omega), (L2.keep t4).marked M5 (fun _ => by omega), by omega, by omega, by omega, S4.trans (M5.since (by omega))⟩

end Go.Proofs.Ytdfcckifbbeoiaa

namespace Go.Proofs.Ytdfcckifbbeoiaa
open Go.RowKit

theorem sign_cmp (f f' : Bool) (x y n' q : Nat) (hf : f = true → 0 < x) (hf' : f' = true → 0 < y) (hy : 0 < n' ↔ 0 < y) (hq : q = 0 ↔ sumTop f (!f' && decide (0 < n')) x y = 0) :
    (if (q : Int) = 0 then (0 : Int) else if (sumNeg f (!f' && decide (0 < n')) x y && sumTop f (!f' && decide (0 < n')) x y != 0) = true then -1 else 1) = cmpR f f' x y := by
  have hd : decide (0 < n') = decide (0 < y) := by simp [hy]
  rw [hd] at hq ⊢
  clear hd hy
  have hq' : ((q : Int) = 0) ↔ sumTop f (!f' && decide (0 < y)) x y = 0 := by omega
  simp only [hq']
  clear hq hq'
  rcases Nat.lt_trichotomy x y with h1 | h1 | h1
  · cases f <;> cases f' <;> rcases Nat.eq_zero_or_pos y with h0 | h0 <;> simp_all [sumNeg, sumTop, cmpR, cmpN] <;> (try omega)
  · cases f <;> cases f' <;> rcases Nat.eq_zero_or_pos y with h0 | h0 <;> simp_all [sumNeg, sumTop, cmpR, cmpN] <;> (try omega)
  · have h2 : ¬ x < y := by omega
    have h3 : ¬ x - y = 0 := by omega
    have h6 : 0 < x := by omega
    have h7 : ¬ x = 0 := by omega
    clear hf
    cases f <;> cases f' <;> rcases Nat.eq_zero_or_pos y with h0 | h0 <;> simp [sumNeg, sumTop, cmpR, cmpN, h0, h1, h2, h3, h6, h7] <;> (try (have := hf' rfl; omega)) <;> (try omega)

set_option maxHeartbeats 800000 in
set_option maxRecDepth 100000 in
theorem l1Sign_any (f : Bool) (a b : Option Addr) (n ca m cb : Nat) (w : World) :
    Calls Try.prog 99 #[.agg #[.bool f, .slice a n ca, .slice b m cb]] w fun e w' => e = .returned (.int .i64 (if (n : Int) = 0 then (0 : Int) else if f = true then -1 else 1)) ∧ w.Since w.heap.size w' := by
  have sA : w.Since w.heap.size (w.alloc (.cells #[.bool f, .slice a n ca, .slice b m cb] 27)) := (World.Since.refl _ _).alloc (Nat.le_refl _) _
  by_cases h0 : n = 0
  · subst h0
    go_enter Try.func99, Try.ntmps99
    go_wp2
    go_ret
    exact ⟨rfl, sA⟩
  · have q1 : ((n : Int) == 0) = false := by simp; omega
    have q2 : ¬ ((n : Int) = 0) := by omega
    rw [if_neg q2]
    cases f
    · go_enter Try.func99, Try.ntmps99
      go_wp2
      go_ret
      exact ⟨rfl, sA⟩
    · go_enter Try.func99, Try.ntmps99
      go_wp2
      go_ret
      exact ⟨rfl, sA⟩

theorem ratOk_neg {f' : Bool} {X' Y' : Nat → Nat} {n' m' : Nat} (ok' : ratOkB f' X' n' Y' m' = true) : ratOkB (!f' && decide (0 < n')) X' n' Y' m' = true := by
  unfold ratOkB at *
  cases f' <;> rcases Nat.eq_zero_or_pos n' with h | h <;> simp_all <;> (try omega)

set_option maxHeartbeats 3200000 in
set_option maxRecDepth 100000 in
theorem l1Sub_any (f f' : Bool) (a b a' b' : Addr) (ba oa n ca bb ob m cb ba' oa' n' ca' bb' ob' m' cb' : Nat) (X Y X' Y' : Nat → Nat) (w : World) (hn : n + n' + m + m' ≤ 1048576)
    (R : RIn w (some a) (some b) ba oa n ca bb ob m cb X Y) (R' : RIn w (some a') (some b') ba' oa' n' ca' bb' ob' m' cb' X' Y') (ok : ratOkB f X n Y m = true) (ok' : ratOkB f' X' n' Y' m' = true) :
    Calls Try.prog 100 #[.agg #[.bool f, .slice (some a) n ca, .slice (some b) m cb], .agg #[.bool f', .slice (some a') n' ca', .slice (some b') m' cb']] w fun e w' => ∃ v, e = .returned v ∧
      RatV w' v (sumNeg f (!f' && decide (0 < n')) (lv X n * lv Y' m') (lv X' n' * lv Y m) && sumTop f (!f' && decide (0 < n')) (lv X n * lv Y' m') (lv X' n' * lv Y m) != 0) (sumTop f (!f' && decide (0 < n')) (lv X n * lv Y' m') (lv X' n' * lv Y m) / Nat.gcd (sumTop f (!f' && decide (0 < n')) (lv X n * lv Y' m') (lv X' n' * lv Y m)) (lv Y m * lv Y' m')) ((lv Y m * lv Y' m') / Nat.gcd (sumTop f (!f' && decide (0 < n')) (lv X n * lv Y' m') (lv X' n' * lv Y m)) (lv Y m * lv Y' m')) w.heap.size 4194304 ∧ w.Since w.heap.size w' := by
  have hne2 : w.heap.size + 1 + 1 ≠ w.heap.size := by omega
  have sA : w.Since w.heap.size (((w.alloc (.cells #[.bool f, .slice (some a) n ca, .slice (some b) m cb] 27)).alloc (.cells #[.bool f', .slice (some a') n' ca', .slice (some b') m' cb'] 27)).alloc (.cells #[.bool false, .slice none 0 0, .slice none 0 0] 27)) := (((World.Since.refl _ _).alloc (Nat.le_refl _) _).alloc (by simp) _).alloc (by simp; omega) _
  have zA : (((w.alloc (.cells #[.bool f, .slice (some a) n ca, .slice (some b) m cb] 27)).alloc (.cells #[.bool f', .slice (some a') n' ca', .slice (some b') m' cb'] 27)).alloc (.cells #[.bool false, .slice none 0 0, .slice none 0 0] 27)).heap.size = w.heap.size + 1 + 1 + 1 := by simp
  have oA : Box3 (((w.alloc (.cells #[.bool f, .slice (some a) n ca, .slice (some b) m cb] 27)).alloc (.cells #[.bool f', .slice (some a') n' ca', .slice (some b') m' cb'] 27)).alloc (.cells #[.bool false, .slice none 0 0, .slice none 0 0] 27)) w.heap.size (.bool f) (.slice (some a) n ca) (.slice (some b) m cb) := ((Box3.new w _ _ _ _).keep ((World.Since.refl _ _).alloc (Nat.le_refl _) _)).keep ((World.Since.refl _ _).alloc (Nat.le_refl _) _)
  have pA : Box3 (((w.alloc (.cells #[.bool f, .slice (some a) n ca, .slice (some b) m cb] 27)).alloc (.cells #[.bool f', .slice (some a') n' ca', .slice (some b') m' cb'] 27)).alloc (.cells #[.bool false, .slice none 0 0, .slice none 0 0] 27)) (w.heap.size + 1) (.bool f') (.slice (some a') n' ca') (.slice (some b') m' cb') := by
    have := (Box3.new (w.alloc (.cells #[.bool f, .slice (some a) n ca, .slice (some b) m cb] 27)) (.bool f') (.slice (some a') n' ca') (.slice (some b') m' cb') 27).keep ((World.Since.refl _ _).alloc (Nat.le_refl _) (.cells #[.bool false, .slice none 0 0, .slice none 0 0] 27))
    simpa using this
  have rA : Box3 (((w.alloc (.cells #[.bool f, .slice (some a) n ca, .slice (some b) m cb] 27)).alloc (.cells #[.bool f', .slice (some a') n' ca', .slice (some b') m' cb'] 27)).alloc (.cells #[.bool false, .slice none 0 0, .slice none 0 0] 27)) (w.heap.size + 1 + 1) (.bool false) (.slice none 0 0) (.slice none 0 0) := by
    have := Box3.new ((w.alloc (.cells #[.bool f, .slice (some a) n ca, .slice (some b) m cb] 27)).alloc (.cells #[.bool f', .slice (some a') n' ca', .slice (some b') m' cb'] 27)) (.bool false) (.slice none 0 0) (.slice none 0 0) 27
    simpa using this
  have m1 := R.m0
  have m1' := R'.m0
  obtain ⟨NN, hNN⟩ : ∃ z, z = (sumNeg f (!f' && decide (0 < n')) (lv X n * lv Y' m') (lv X' n' * lv Y m) && sumTop f (!f' && decide (0 < n')) (lv X n * lv Y' m') (lv X' n' * lv Y m) != 0) := ⟨_, rfl⟩
  have HNN := hide hNN
  clear hNN
  have J1 := l1Neg_any f' a' b' ba' oa' n' ca' bb' ob' m' cb' X' Y' (((w.alloc (.cells #[.bool f, .slice (some a) n ca, .slice (some b) m cb] 27)).alloc (.cells #[.bool f', .slice (some a') n' ca', .slice (some b') m' cb'] 27)).alloc (.cells #[.bool false, .slice none 0 0, .slice none 0 0] 27)).drew (by omega) (by omega) R'.nc R'.mc (R'.keep (since_drew sA)).LX (R'.keep (since_drew sA)).LY
  go_enter Try.func100, Try.ntmps100
  have k := And.intro oA.cells pA.cells
  go_wp2_with fail
  generalize (((w.alloc (.cells #[.bool f, .slice (some a) n ca, .slice (some b) m cb] 27)).alloc (.cells #[.bool f', .slice (some a') n' ca', .slice (some b') m' cb'] 27)).alloc (.cells #[.bool false, .slice none 0 0, .slice none 0 0] 27)) = w1 at *
  go_region_held3 (fun w' => w'.cell? ⟨w.heap.size, 0, none⟩ = some (.bool f) ∧ w'.cell? ⟨w.heap.size, 1, none⟩ = some (.slice (some a) n ca) ∧ w'.cell? ⟨w.heap.size, 2, none⟩ = some (.slice (some b) m cb) ∧ w'.cell? ⟨w.heap.size + 1, 0, none⟩ = some (.bool f') ∧ w'.cell? ⟨w.heap.size + 1, 1, none⟩ = some (.slice (some a') n' ca') ∧ w'.cell? ⟨w.heap.size + 1, 2, none⟩ = some (.slice (some b') m' cb')) (go_keep)
    (first
      | (go_at_call 106
         with_reducible refine J1.mono ?_
         rintro e w2 ⟨g, h, c1, c2, rfl, v1, v2, L1, L2, b1, b2, b3, s2⟩
         have S2 : w.Since w.heap.size w2 := (since_drew sA).trans (sinceMono s2 sA.size)
         have o2 := oA.drew.keep s2
         have p2 := pA.drew.keep s2
         have r2 := rA.drew.keep s2
         have kk := And.intro o2.cells p2.cells
         have R2 : RIn w2 (some ⟨g, 0, none⟩) (some ⟨h, 0, none⟩) g 0 n' c1 h 0 m' c2 X' Y' := ⟨v1, v2, fun h => (by cases h), fun h => (by cases h), L1, L2, R'.lX, R'.lY, R'.pX, R'.pY, R'.m0⟩
         have J2 := l1Add_any f (!f' && decide (0 < n')) a b ⟨g, 0, none⟩ ⟨h, 0, none⟩ ba oa n ca bb ob m cb g 0 n' c1 h 0 m' c2 X Y X' Y' w2 hn (R.keep S2) R2 ok (ratOk_neg ok')
         rw [← HNN.out] at J2)
      | (go_at_call 58
         with_reducible refine J2.mono ?_
         rintro e w6 ⟨v, rfl, ⟨x1, x2, g6, h6, rfl, N6, D6, y1, y2, y3⟩, s6⟩
         have N6' := N6
         have D6' := D6
         obtain ⟨a1, q1, d1, Y1, rfl, -⟩ := N6
         obtain ⟨a2, q2, d2, Y2, rfl, -⟩ := D6
         have kk := And.intro (o2.keep s6).cells (p2.keep s6).cells
         have rB := r2.keep s6
         have u0 := rB.c0
         have u1 := rB.c1
         have u2 := rB.c2
         have uf0 := rB.f 0
         have uf1 := rB.f 1
         have uf2 := rB.f 2))
  all_goals go_wp2
  all_goals
    have S6 : w.Since w.heap.size w6 := S2.trans (sinceMono s6 S2.size)
    have zr := r2.lt
    have rC := ((rB.set0 (.bool NN)).set1 (.slice a1 q1 d1)).set2 (.slice a2 q2 d2)
    refine bodyPost_ret (results_box3 rfl _ _ _ _ _ _ rfl rC) rfl ?_
    have M : Marked w6 _ (w.heap.size + 1 + 1) := (((Marked.refl w6 _).setCell 0 (.bool NN)).setCell 1 (.slice a1 q1 d1)).setCell 2 (.slice a2 q2 d2)
    exact ⟨_, rfl, ⟨_, _, g6, h6, by rw [HNN.out], N6'.marked M (by omega), D6'.marked M (by omega), by omega, by omega, y3⟩, S6.trans (M.since (by omega))⟩

end Go.Proofs.Ytdfcckifbbeoiaa

namespace Go.Proofs.Ytdfcckifbbeoiaa
open Go.RowKit

theorem rat_pos {f : Bool} {X Y : Nat → Nat} {n m : Nat} (ok : ratOkB f X n Y m = true) (e : f = true) (pX : 0 < n → X (n - 1) ≠ 0) : 0 < lv X n := by
  subst e
  unfold ratOkB at ok
  rcases Nat.eq_zero_or_pos (lv X n) with h | h
  · have := (lv_zero pX).2 h
    subst this
    simp at ok
  · exact h

set_option maxHeartbeats 3200000 in
set_option maxRecDepth 100000 in
theorem l1Cmp_any (f f' : Bool) (a b a' b' : Addr) (ba oa n ca bb ob m cb ba' oa' n' ca' bb' ob' m' cb' : Nat) (X Y X' Y' : Nat → Nat) (w : World) (hn : n + n' + m + m' ≤ 1048576)
    (R : RIn w (some a) (some b) ba oa n ca bb ob m cb X Y) (R' : RIn w (some a') (some b') ba' oa' n' ca' bb' ob' m' cb' X' Y') (ok : ratOkB f X n Y m = true) (ok' : ratOkB f' X' n' Y' m' = true) :
    Calls Try.prog 61 #[.agg #[.bool f, .slice (some a) n ca, .slice (some b) m cb], .agg #[.bool f', .slice (some a') n' ca', .slice (some b') m' cb']] w fun e w' => e = .returned (.int .i64 (cmpR f f' (lv X n * lv Y' m') (lv X' n' * lv Y m))) ∧ w.Since w.heap.size w' := by
  have sA : w.Since w.heap.size ((w.alloc (.cells #[.bool f, .slice (some a) n ca, .slice (some b) m cb] 27)).alloc (.cells #[.bool f', .slice (some a') n' ca', .slice (some b') m' cb'] 27)) := ((World.Since.refl _ _).alloc (Nat.le_refl _) _).alloc (by simp) _
  have zA : ((w.alloc (.cells #[.bool f, .slice (some a) n ca, .slice (some b) m cb] 27)).alloc (.cells #[.bool f', .slice (some a') n' ca', .slice (some b') m' cb'] 27)).heap.size = w.heap.size + 1 + 1 := by simp
  have oA : Box3 ((w.alloc (.cells #[.bool f, .slice (some a) n ca, .slice (some b) m cb] 27)).alloc (.cells #[.bool f', .slice (some a') n' ca', .slice (some b') m' cb'] 27)) w.heap.size (.bool f) (.slice (some a) n ca) (.slice (some b) m cb) := (Box3.new w _ _ _ _).keep ((World.Since.refl _ _).alloc (Nat.le_refl _) _)
  have pA : Box3 ((w.alloc (.cells #[.bool f, .slice (some a) n ca, .slice (some b) m cb] 27)).alloc (.cells #[.bool f', .slice (some a') n' ca', .slice (some b') m' cb'] 27)) (w.heap.size + 1) (.bool f') (.slice (some a') n' ca') (.slice (some b') m' cb') := by
    have := Box3.new (w.alloc (.cells #[.bool f, .slice (some a) n ca, .slice (some b) m cb] 27)) (.bool f') (.slice (some a') n' ca') (.slice (some b') m' cb') 27
    simpa using this
  have hX0 : f = true → 0 < lv X n * lv Y' m' := fun e => Nat.mul_pos (rat_pos ok e R.pX) R'.den
  have hX1 : f' = true → 0 < lv X' n' * lv Y m := fun e => Nat.mul_pos (rat_pos ok' e R'.pX) R.den
  have hX2 : 0 < n' ↔ 0 < lv X' n' * lv Y m := by
    have h1 := lv_zero R'.pX
    constructor
    · intro h; exact Nat.mul_pos (by omega) R.den
    · intro h
      rcases Nat.eq_zero_or_pos n' with e | e
      · rw [h1.1 e, Nat.zero_mul] at h; omega
      · exact e
  have hDD := Nat.mul_pos R.den R'.den
  obtain ⟨z, hz⟩ : ∃ z, z = cmpR f f' (lv X n * lv Y' m') (lv X' n' * lv Y m) := ⟨_, rfl⟩
  have HZ := hide hz
  clear hz
  have k := And.intro oA.cells pA.cells
  have J1 := l1Sub_any f f' a b a' b' ba oa n ca bb ob m cb ba' oa' n' ca' bb' ob' m' cb' X Y X' Y' ((w.alloc (.cells #[.bool f, .slice (some a) n ca, .slice (some b) m cb] 27)).alloc (.cells #[.bool f', .slice (some a') n' ca', .slice (some b') m' cb'] 27)) hn (R.keep sA) (R'.keep sA) ok ok'
  go_enter Try.func61, Try.ntmps61
  go_wp2_with fail
  generalize ((w.alloc (.cells #[.bool f, .slice (some a) n ca, .slice (some b) m cb] 27)).alloc (.cells #[.bool f', .slice (some a') n' ca', .slice (some b') m' cb'] 27)) = w1 at *
  refine J1.mono ?_
  rintro e w2 ⟨v, rfl, ⟨x1, x2, g6, h6, rfl, N6, D6, y1, y2, y3⟩, s2⟩
  have S2 : w.Since w.heap.size w2 := sA.trans (sinceMono s2 sA.size)
  obtain ⟨a1, q1, d1, Y1, rfl, -, -, -, -, -, -, tp, ev⟩ := N6
  obtain ⟨a2, q2, d2, Y2, rfl, -⟩ := D6
  have hq : q1 = 0 ↔ sumTop f (!f' && decide (0 < n')) (lv X n * lv Y' m') (lv X' n' * lv Y m) = 0 := (lv_zero tp).trans (by rw [ev]; exact div_gcd_zero hDD)
  have HC := hide (sign_cmp f f' _ _ n' q1 hX0 hX1 hX2 hq)
  have J2 := l1Sign_any (sumNeg f (!f' && decide (0 < n')) (lv X n * lv Y' m') (lv X' n' * lv Y m) && sumTop f (!f' && decide (0 < n')) (lv X n * lv Y' m') (lv X' n' * lv Y m) != 0) a1 a2 q1 d1 q2 d2 w2
  rw [HC.out, ← HZ.out] at J2
  clear J1 HC hq hX0 hX1 hX2 tp ev k
  go_wp2_with fail
  refine J2.mono ?_
  rintro e w3 ⟨rfl, s3⟩
  go_wp2
  go_ret
  exact ⟨ret_int HZ.out, S2.trans (sinceMono s3 S2.size)⟩

set_option maxHeartbeats 1600000 in
set_option maxRecDepth 100000 in
theorem specRatCmp_ok (f f' : Bool) (a b a' b' : Addr) (ba oa n ca bb ob m cb ba' oa' n' ca' bb' ob' m' cb' : Nat) (X Y X' Y' : Nat → Nat) (w : World) (hn : n + n' + m + m' ≤ 1048576)
    (R : RIn w (some a) (some b) ba oa n ca bb ob m cb X Y) (R' : RIn w (some a') (some b') ba' oa' n' ca' bb' ob' m' cb' X' Y') (ok : ratOkB f X n Y m = true) (ok' : ratOkB f' X' n' Y' m' = true) :
    Calls Try.prog 18 #[.agg #[.bool f, .slice (some a) n ca, .slice (some b) m cb], .agg #[.bool f', .slice (some a') n' ca', .slice (some b') m' cb']] w fun e w' => e = .returned (.int .i64 (cmpR f f' (lv X n * lv Y' m') (lv X' n' * lv Y m))) ∧ w.Since w.heap.size w' := by
  have sA : w.Since w.heap.size ((w.alloc (.cells #[.bool f, .slice (some a) n ca, .slice (some b) m cb] 27)).alloc (.cells #[.bool f', .slice (some a') n' ca', .slice (some b') m' cb'] 27)) := ((World.Since.refl _ _).alloc (Nat.le_refl _) _).alloc (by simp) _
  have zA : ((w.alloc (.cells #[.bool f, .slice (some a) n ca, .slice (some b) m cb] 27)).alloc (.cells #[.bool f', .slice (some a') n' ca', .slice (some b') m' cb'] 27)).heap.size = w.heap.size + 1 + 1 := by simp
  have oA : Box3 ((w.alloc (.cells #[.bool f, .slice (some a) n ca, .slice (some b) m cb] 27)).alloc (.cells #[.bool f', .slice (some a') n' ca', .slice (some b') m' cb'] 27)) w.heap.size (.bool f) (.slice (some a) n ca) (.slice (some b) m cb) := (Box3.new w _ _ _ _).keep ((World.Since.refl _ _).alloc (Nat.le_refl _) _)
  have pA : Box3 ((w.alloc (.cells #[.bool f, .slice (some a) n ca, .slice (some b) m cb] 27)).alloc (.cells #[.bool f', .slice (some a') n' ca', .slice (some b') m' cb'] 27)) (w.heap.size + 1) (.bool f') (.slice (some a') n' ca') (.slice (some b') m' cb') := by
    have := Box3.new (w.alloc (.cells #[.bool f, .slice (some a) n ca, .slice (some b) m cb] 27)) (.bool f') (.slice (some a') n' ca') (.slice (some b') m' cb') 27
    simpa using this
  have m1 := R.m0
  have m1' := R'.m0
  go_enter Try.func18, Try.ntmps18
  go_wp2_with fail
  generalize ((w.alloc (.cells #[.bool f, .slice (some a) n ca, .slice (some b) m cb] 27)).alloc (.cells #[.bool f', .slice (some a') n' ca', .slice (some b') m' cb'] 27)) = w1 at *
  have I1 := specRatOk_any f (some a) (some b) ba oa n ca bb ob m cb X Y w1 (by omega) (by omega) (R.keep sA).LX (R.keep sA).LY R.lX R.lY
  rw [ok] at I1
  refine I1.mono ?_
  rintro e w2 ⟨rfl, s2⟩
  have S2 : w.Since w.heap.size w2 := sA.trans (sinceMono s2 sA.size)
  have o2 := oA.keep s2
  have p2 := pA.keep s2
  have I2 := specRatOk_any f' (some a') (some b') ba' oa' n' ca' bb' ob' m' cb' X' Y' w2 (by omega) (by omega) (R'.keep S2).LX (R'.keep S2).LY R'.lX R'.lY
  rw [ok'] at I2
  clear I1 oA pA
  have k0 := p2.c0
  have k1 := p2.c1
  have k2 := p2.c2
  go_wp2_with fail
  refine I2.mono ?_
  rintro e w3 ⟨rfl, s3⟩
  have S3 : w.Since w.heap.size w3 := S2.trans (sinceMono s3 S2.size)
  have o3 := o2.keep s3
  have p3 := p2.keep s3
  clear I2 k0 k1 k2 o2 p2
  have k0 := p3.c0
  have k1 := p3.c1
  have k2 := p3.c2
  have j0 := o3.c0
  have j1 := o3.c1
  have j2 := o3.c2
  have J := l1Cmp_any f f' a b a' b' ba oa n ca bb ob m cb ba' oa' n' ca' bb' ob' m' cb' X Y X' Y' w3 hn (R.keep S3) (R'.keep S3) ok ok'
  obtain ⟨z, hz⟩ : ∃ z, z = cmpR f f' (lv X n * lv Y' m') (lv X' n' * lv Y m) := ⟨_, rfl⟩
  rw [← hz] at J
  have HZ := hide hz
  clear hz
  go_wp2_with fail
  refine J.mono ?_
  rintro e w4 ⟨rfl, s4⟩
  go_wp2
  go_ret
  exact ⟨ret_int HZ.out, S3.trans (sinceMono s4 S3.size)⟩

set_option maxHeartbeats 1600000 in
set_option maxRecDepth 100000 in
theorem specRatCmp_no (f f' : Bool) (a b a' b' : Option Addr) (ba oa n ca bb ob m cb ba' oa' n' ca' bb' ob' m' cb' : Nat) (X Y X' Y' : Nat → Nat) (w : World) (hn : n + n' + m + m' ≤ 1048576)
    (R : RRaw w a b ba oa n ca bb ob m cb X Y) (R' : RRaw w a' b' ba' oa' n' ca' bb' ob' m' cb' X' Y') (ok : ¬ (ratOkB f X n Y m = true ∧ ratOkB f' X' n' Y' m' = true)) :
    Calls Try.prog 18 #[.agg #[.bool f, .slice a n ca, .slice b m cb], .agg #[.bool f', .slice a' n' ca', .slice b' m' cb']] w fun e w' => e = .returned (.int .i64 2) ∧ w.Since w.heap.size w' := by
  have sA : w.Since w.heap.size ((w.alloc (.cells #[.bool f, .slice a n ca, .slice b m cb] 27)).alloc (.cells #[.bool f', .slice a' n' ca', .slice b' m' cb'] 27)) := ((World.Since.refl _ _).alloc (Nat.le_refl _) _).alloc (by simp) _
  have zA : ((w.alloc (.cells #[.bool f, .slice a n ca, .slice b m cb] 27)).alloc (.cells #[.bool f', .slice a' n' ca', .slice b' m' cb'] 27)).heap.size = w.heap.size + 1 + 1 := by simp
  have oA : Box3 ((w.alloc (.cells #[.bool f, .slice a n ca, .slice b m cb] 27)).alloc (.cells #[.bool f', .slice a' n' ca', .slice b' m' cb'] 27)) w.heap.size (.bool f) (.slice a n ca) (.slice b m cb) := (Box3.new w _ _ _ _).keep ((World.Since.refl _ _).alloc (Nat.le_refl _) _)
  have pA : Box3 ((w.alloc (.cells #[.bool f, .slice a n ca, .slice b m cb] 27)).alloc (.cells #[.bool f', .slice a' n' ca', .slice b' m' cb'] 27)) (w.heap.size + 1) (.bool f') (.slice a' n' ca') (.slice b' m' cb') := by
    have := Box3.new (w.alloc (.cells #[.bool f, .slice a n ca, .slice b m cb] 27)) (.bool f') (.slice a' n' ca') (.slice b' m' cb') 27
    simpa using this
  go_enter Try.func18, Try.ntmps18
  go_wp2_with fail
  generalize ((w.alloc (.cells #[.bool f, .slice a n ca, .slice b m cb] 27)).alloc (.cells #[.bool f', .slice a' n' ca', .slice b' m' cb'] 27)) = w1 at *
  have I1 := specRatOk_any f a b ba oa n ca bb ob m cb X Y w1 (by omega) (by omega) (R.keep sA).LX (R.keep sA).LY R.lX R.lY
  by_cases h1 : ratOkB f X n Y m = true
  · have h2 : ratOkB f' X' n' Y' m' = false := by
      cases e : ratOkB f' X' n' Y' m'
      · rfl
      · exact absurd ⟨h1, e⟩ ok
    rw [h1] at I1
    clear h1 ok
    refine I1.mono ?_
    rintro e w2 ⟨rfl, s2⟩
    have S2 : w.Since w.heap.size w2 := sA.trans (sinceMono s2 sA.size)
    have o2 := oA.keep s2
    have p2 := pA.keep s2
    have I2 := specRatOk_any f' a' b' ba' oa' n' ca' bb' ob' m' cb' X' Y' w2 (by omega) (by omega) (R'.keep S2).LX (R'.keep S2).LY R'.lX R'.lY
    rw [h2] at I2
    clear I1 oA pA
    have k0 := p2.c0
    have k1 := p2.c1
    have k2 := p2.c2
    go_wp2_with fail
    refine I2.mono ?_
    rintro e w3 ⟨rfl, s3⟩
    have S3 : w.Since w.heap.size w3 := S2.trans (sinceMono s3 S2.size)
    have o3 := o2.keep s3
    have p3 := p2.keep s3
    clear I2 k0 k1 k2 o2 p2
    go_wp2
    go_ret
    exact ⟨rfl, S3⟩
  · rw [show ratOkB f X n Y m = false by simpa using h1] at I1
    clear h1 ok
    refine I1.mono ?_
    rintro e w2 ⟨rfl, s2⟩
    go_wp2
    go_ret
    exact ⟨rfl, sA.trans (sinceMono s2 sA.size)⟩

end Go.Proofs.Ytdfcckifbbeoiaa

namespace Go.Proofs.Ytdfcckifbbeoiaa
open Go.RowKit

/-- The two functions give one answer. -/
theorem ratCmp_both (f f' : Bool) (n m n' m' : Nat) (X Y X' Y' : Nat → Nat) (hn : n + n' + m + m' ≤ 1048576) : ∃ z : Int,
    (∀ (a b a' b' : Addr) (ba oa ca bb ob cb ba' oa' ca' bb' ob' cb' : Nat) (w : World), RRaw w (some a) (some b) ba oa n ca bb ob m cb X Y → RRaw w (some a') (some b') ba' oa' n' ca' bb' ob' m' cb' X' Y' →
      Calls Try.prog 18 #[.agg #[.bool f, .slice (some a) n ca, .slice (some b) m cb], .agg #[.bool f', .slice (some a') n' ca', .slice (some b') m' cb']] w fun e w' => e = .returned (.int .i64 z) ∧ w.Since w.heap.size w') ∧
    (∀ (a b a' b' : Addr) (ba oa ca bb ob cb ba' oa' ca' bb' ob' cb' : Nat) (w : World), 0 ≤ w.heap.size → Tab w → RRaw w (some a) (some b) ba oa n ca bb ob m cb X Y → RRaw w (some a') (some b') ba' oa' n' ca' bb' ob' m' cb' X' Y' →
      Calls Try.prog 26 #[.agg #[.bool f, .slice (some a) n ca, .slice (some b) m cb], .agg #[.bool f', .slice (some a') n' ca', .slice (some b') m' cb']] w fun e w' => e = .returned (.int .i64 z) ∧ w.Since w.heap.size w') := by
  by_cases ok : ratOkB f X n Y m = true ∧ ratOkB f' X' n' Y' m' = true
  · exact ⟨_, fun a b a' b' ba oa ca bb ob cb ba' oa' ca' bb' ob' cb' w R R' => specRatCmp_ok f f' a b a' b' ba oa n ca bb ob m cb ba' oa' n' ca' bb' ob' m' cb' X Y X' Y' w hn (R.ok ok.1) (R'.ok ok.2) ok.1 ok.2, fun a b a' b' ba oa ca bb ob cb ba' oa' ca' bb' ob' cb' w hw hT R R' => implRatCmp_ok f f' (some a) (some b) (some a') (some b') ba oa n ca bb ob m cb ba' oa' n' ca' bb' ob' m' cb' X Y X' Y' w hw hT hn (R.ok ok.1) (R'.ok ok.2) ok.1 ok.2⟩
  · exact ⟨_, fun a b a' b' ba oa ca bb ob cb ba' oa' ca' bb' ob' cb' w R R' => specRatCmp_no f f' (some a) (some b) (some a') (some b') ba oa n ca bb ob m cb ba' oa' n' ca' bb' ob' m' cb' X Y X' Y' w hn R R' ok, fun a b a' b' ba oa ca bb ob cb ba' oa' ca' bb' ob' cb' w hw hT R R' => implRatCmp_no f f' (some a) (some b) (some a') (some b') ba oa n ca bb ob m cb ba' oa' n' ca' bb' ob' m' cb' X Y X' Y' w hw hT hn R R' ok⟩

set_option maxHeartbeats 6400000 in
set_option maxRecDepth 100000 in
theorem ratCmp_law (f f' : Bool) (a b a' b' : Option Addr) (ba oa n ca bb ob m cb ba' oa' n' ca' bb' ob' m' cb' : Nat) (X Y X' Y' : Nat → Nat) (w : World) (hn : n + m + n' + m' ≤ 1048576) (hX : Limbs w a ba oa n X) (hY : Limbs w b bb ob m Y) (hX' : Limbs w a' ba' oa' n' X') (hY' : Limbs w b' bb' ob' m' Y')
    (lX : ∀ j, j < n → X j < 4294967296) (lY : ∀ j, j < m → Y j < 4294967296) (lX' : ∀ j, j < n' → X' j < 4294967296) (lY' : ∀ j, j < m' → Y' j < 4294967296) (hw : 0 ≤ w.heap.size) (hT : Tab w) :
    Calls Try.prog 10 #[.agg #[.bool f, .slice a n ca, .slice b m cb], .agg #[.bool f', .slice a' n' ca', .slice b' m' cb']] w fun e w' => e = .returned (.bool true) ∧ w.Since w.heap.size w' := by
  obtain ⟨z, HS, HI⟩ := ratCmp_both f f' n m n' m' X Y X' Y' (by omega)
  have sA : w.Since w.heap.size ((w.alloc (.cells #[.bool f, .slice a n ca, .slice b m cb] 48)).alloc (.cells #[.bool f', .slice a' n' ca', .slice b' m' cb'] 48)) := ((World.Since.refl _ _).alloc (Nat.le_refl _) _).alloc (by simp) _
  have zA : ((w.alloc (.cells #[.bool f, .slice a n ca, .slice b m cb] 48)).alloc (.cells #[.bool f', .slice a' n' ca', .slice b' m' cb'] 48)).heap.size = w.heap.size + 1 + 1 := by simp
  have oA : Box3 ((w.alloc (.cells #[.bool f, .slice a n ca, .slice b m cb] 48)).alloc (.cells #[.bool f', .slice a' n' ca', .slice b' m' cb'] 48)) w.heap.size (.bool f) (.slice a n ca) (.slice b m cb) := (Box3.new w _ _ _ _).keep ((World.Since.refl _ _).alloc (Nat.le_refl _) _)
  have pA : Box3 ((w.alloc (.cells #[.bool f, .slice a n ca, .slice b m cb] 48)).alloc (.cells #[.bool f', .slice a' n' ca', .slice b' m' cb'] 48)) (w.heap.size + 1) (.bool f') (.slice a' n' ca') (.slice b' m' cb') := by
    have := Box3.new (w.alloc (.cells #[.bool f, .slice a n ca, .slice b m cb] 48)) (.bool f') (.slice a' n' ca') (.slice b' m' cb') 48
    simpa using this
  go_enter Try.func10, Try.ntmps10
  go_wp2_with fail
  generalize ((w.alloc (.cells #[.bool f, .slice a n ca, .slice b m cb] 48)).alloc (.cells #[.bool f', .slice a' n' ca', .slice b' m' cb'] 48)) = w1 at *
  refine (szRat_ok f a b n ca m cb 1048576 w1 (by omega) (by omega)).mono ?_
  rintro e w2 ⟨rfl, s2⟩
  have S2 : w.Since w.heap.size w2 := sA.trans (sinceMono s2 sA.size)
  have o2 := oA.keep s2
  have p2 := pA.keep s2
  have z2 := s2.size
  clear oA pA s2
  have hl : ¬ (((1048576 - n - m : Nat) : Int) < 0) := by omega
  have k0 := p2.c0
  have k1 := p2.c1
  have k2 := p2.c2
  go_wp2_with fail
  refine (szRat_ok f' a' b' n' ca' m' cb' (1048576 - n - m) w2 (by omega) (by omega)).mono ?_
  rintro e w3 ⟨rfl, s3⟩
  have S3 : w.Since w.heap.size w3 := S2.trans (sinceMono s3 S2.size)
  have o3 := o2.keep s3
  have p3 := p2.keep s3
  have z3 := s3.size
  have hl2 : ¬ (((1048576 - n - m - n' - m' : Nat) : Int) < 0) := by omega
  clear k0 k1 k2 o2 p2 s3
  have k := And.intro o3.cells p3.cells
  go_wp2_with fail
  have SD : w.Since w.heap.size w3.drew := since_drew S3
  have J1 := toRat_any f a b ba oa n ca bb ob m cb X Y w3.drew (by omega) (by omega) (hX.keep SD) (hY.keep SD)
  have ol := o3.lt
  have pl := p3.lt
  go_region_held3 (fun w' => w'.cell? ⟨w.heap.size, 0, none⟩ = some (.bool f) ∧ w'.cell? ⟨w.heap.size, 1, none⟩ = some (.slice a n ca) ∧ w'.cell? ⟨w.heap.size, 2, none⟩ = some (.slice b m cb) ∧ w'.cell? ⟨w.heap.size + 1, 0, none⟩ = some (.bool f') ∧ w'.cell? ⟨w.heap.size + 1, 1, none⟩ = some (.slice a' n' ca') ∧ w'.cell? ⟨w.heap.size + 1, 2, none⟩ = some (.slice b' m' cb')) (go_keep)
    (first
      | (go_at_call 35
         first
         | (with_reducible refine J1.mono ?_
            rintro e v4 ⟨gx4, hx4, rfl, s4, b41, b42, b43, LX4, LY4, FX4, FY4⟩
            have S4 : w.Since w.heap.size v4 := SD.trans (sinceMono s4 SD.size)
            have o4 := o3.drew.keep s4
            have p4 := p3.drew.keep s4
            have kk4 := And.intro o4.cells p4.cells
            have O4 : Own v4 gx4 n X := ⟨LX4, FX4, by omega⟩
            have Q4 : Own v4 hx4 m Y := ⟨LY4, FY4, b43⟩
            have J2 := toRat_any f' a' b' ba' oa' n' ca' bb' ob' m' cb' X' Y' v4 (by omega) (by omega) (hX'.keep S4) (hY'.keep S4))
         | (with_reducible refine J2.mono ?_
            rintro e v5 ⟨gx5, hx5, rfl, s5, b51, b52, b53, LX5, LY5, FX5, FY5⟩
            have S5 : w.Since w.heap.size v5 := S4.trans (sinceMono s5 S4.size)
            have o5 := o4.keep s5
            have p5 := p4.keep s5
            have kk5 := And.intro o5.cells p5.cells
            have O5 := O4.keep s5
            have Q5 := Q4.keep s5
            have O5' : Own v5 gx5 n' X' := ⟨LX5, FX5, by omega⟩
            have Q5' : Own v5 hx5 m' Y' := ⟨LY5, FY5, b53⟩
            have J3 := HS _ _ _ _ _ _ _ _ _ _ _ _ _ _ _ _ v5 (raw_own O5 Q5 lX lY) (raw_own O5' Q5' lX' lY')))
      | (go_at_call 18
         with_reducible refine J3.mono ?_
         rintro e v7 ⟨rfl, s6⟩
         have S7 : w.Since w.heap.size v7 := S5.trans (sinceMono s6 S5.size)
         have o7 := o5.keep s6
         have p7 := p5.keep s6
         have kk6 := And.intro o7.cells p7.cells))
  have z7 := S7.size
  have hc0 : w.heap.size + 2 ≤ v7.heap.size := by have := p7.lt; omega
  clear k SD J1 J2 J3 s4 s5 s6 S4 S5 o3 p3 o4 p4 o5 p5 kk4 kk5 kk6 O4 Q4 O5 Q5 O5' Q5' LX4 LY4 FX4 FY4 LX5 LY5 FX5 FY5 b41 b42 b43 b51 b52 b53 HS
  have k0 := o7.c0
  have k1 := o7.c1
  have k2 := o7.c2
  go_wp2_with fail
  refine (toRat_any f a b ba oa n ca bb ob m cb X Y v7 (by omega) (by omega) (hX.keep S7) (hY.keep S7)).mono ?_
  rintro e v8 ⟨gx, hx, rfl, s8, b81, b82, b83, LX8, LY8, FX8, FY8⟩
  have S8 : w.Since w.heap.size v8 := S7.trans (sinceMono s8 S7.size)
  have o8 := o7.keep s8
  have p8 := p7.keep s8
  have Ox8 : Own v8 gx n X := ⟨LX8, FX8, by omega⟩
  have Qx8 : Own v8 hx m Y := ⟨LY8, FY8, b83⟩
  have z8 := s8.size
  clear k0 k1 k2 o7 p7 LX8 LY8 FX8 FY8 s8
  have t9 : v8.Since v8.heap.size (v8.alloc (.cells #[.bool f, .slice (some ⟨gx, 0, none⟩) n n, .slice (some ⟨hx, 0, none⟩) m m] 27)) := (World.Since.refl _ _).alloc (Nat.le_refl _) _
  have x9 := Box3.new v8 (.bool f) (.slice (some ⟨gx, 0, none⟩) n n) (.slice (some ⟨hx, 0, none⟩) m m) 27
  have S9 := S8.trans (sinceMono t9 S8.size)
  have o9 := o8.keep t9
  have p9 := p8.keep t9
  have Ox9 := Ox8.keep t9
  have Qx9 := Qx8.keep t9
  have k0 := p9.c0
  have k1 := p9.c1
  have k2 := p9.c2
  go_wp2_with fail
  clear k0 k1 k2 o8 p8 Ox8 Qx8 t9
  generalize v8.alloc (.cells #[.bool f, .slice (some ⟨gx, 0, none⟩) n n, .slice (some ⟨hx, 0, none⟩) m m] 27) = v9 at *
  generalize hcx : v8.heap.size = cx at *
  refine (toRat_any f' a' b' ba' oa' n' ca' bb' ob' m' cb' X' Y' v9 (by omega) (by omega) (hX'.keep S9) (hY'.keep S9)).mono ?_
  rintro e v10 ⟨gy, hy, rfl, s10, b101, b102, b103, LX10, LY10, FX10, FY10⟩
  have S10 : w.Since w.heap.size v10 := S9.trans (sinceMono s10 S9.size)
  have o10 := o9.keep s10
  have p10 := p9.keep s10
  have Ox10 := Ox9.keep s10
  have Qx10 := Qx9.keep s10
  have x10 := x9.keep s10
  have Oy10 : Own v10 gy n' X' := ⟨LX10, FX10, by omega⟩
  have Qy10 : Own v10 hy m' Y' := ⟨LY10, FY10, b103⟩
  have z10 := s10.size
  have x9l := x9.lt
  clear o9 p9 Ox9 Qx9 x9 LX10 LY10 FX10 FY10 s10
  have t11 : v10.Since v10.heap.size (v10.alloc (.cells #[.bool f', .slice (some ⟨gy, 0, none⟩) n' n', .slice (some ⟨hy, 0, none⟩) m' m'] 27)) := (World.Since.refl _ _).alloc (Nat.le_refl _) _
  have y11 := Box3.new v10 (.bool f') (.slice (some ⟨gy, 0, none⟩) n' n') (.slice (some ⟨hy, 0, none⟩) m' m') 27
  have S11 := S10.trans (sinceMono t11 S10.size)
  have o11 := o10.keep t11
  have p11 := p10.keep t11
  have Ox11 := Ox10.keep t11
  have Qx11 := Qx10.keep t11
  have Oy11 := Oy10.keep t11
  have Qy11 := Qy10.keep t11
  have x11 := x10.keep t11
  have k0 := x11.c0
  have k1 := x11.c1
  have k2 := x11.c2
  have j0 := y11.c0
  have j1 := y11.c1
  have j2 := y11.c2
  go_wp2_with fail
  clear k0 k1 k2 j0 j1 j2 o10 p10 Ox10 Qx10 Oy10 Qy10 x10 t11
  generalize v10.alloc (.cells #[.bool f', .slice (some ⟨gy, 0, none⟩) n' n', .slice (some ⟨hy, 0, none⟩) m' m'] 27) = v11 at *
  generalize hcy : v10.heap.size = cy at *
  refine (HI _ _ _ _ _ _ _ _ _ _ _ _ _ _ _ _ v11 (Nat.zero_le _) (hT.stay hw S11) (raw_own Ox11 Qx11 lX lY) (raw_own Oy11 Qy11 lX' lY')).mono ?_
  rintro e v14 ⟨rfl, s12⟩
  have S14 : w.Since w.heap.size v14 := S11.trans (sinceMono s12 S11.size)
  have o14 := o11.keep s12
  have p14 := p11.keep s12
  have Ox14 := Ox11.keep s12
  have Qx14 := Qx11.keep s12
  have Oy14 := Oy11.keep s12
  have Qy14 := Qy11.keep s12
  have x14 := x11.keep s12
  have y14 := y11.keep s12
  have z12 := s12.size
  have y11l := y11.lt
  clear o11 p11 Ox11 Qx11 Oy11 Qy11 x11 y11 s12
  have kA := And.intro o14.cells x14.cells
  have J1 := toRat_any f a b ba oa n ca bb ob m cb X Y v14.drew (by omega) (by omega) (hX.keep (since_drew S14)) (hY.keep (since_drew S14))
  go_wp2_with fail
  go_region_held3 (fun w' => w'.cell? ⟨w.heap.size, 0, none⟩ = some (.bool f) ∧ w'.cell? ⟨w.heap.size, 1, none⟩ = some (.slice a n ca) ∧ w'.cell? ⟨w.heap.size, 2, none⟩ = some (.slice b m cb) ∧ w'.cell? ⟨cx, 0, none⟩ = some (.bool f) ∧ w'.cell? ⟨cx, 1, none⟩ = some (.slice (some ⟨gx, 0, none⟩) n n) ∧ w'.cell? ⟨cx, 2, none⟩ = some (.slice (some ⟨hx, 0, none⟩) m m)) (go_keep)
    (first
      | (go_at_call 35
         with_reducible refine J1.mono ?_
         rintro e v15 ⟨gt, ht, rfl, sm, bm1, bm2, bm3, LXm, LYm, -, -⟩
         have J2 := eqRat_true f _ _ _ _ gx 0 gt 0 n n n hx 0 ht 0 m m m X Y v15 (by omega) (by omega) ((Ox14.L.drew).keep sm) LXm ((Qx14.L.drew).keep sm) LYm
         have kB := And.intro (o14.drew.keep sm).cells (x14.drew.keep sm).cells)
      | (go_at_call 36
         with_reducible refine J2.mono ?_
         rintro e v16 ⟨rfl, sn⟩
         have tt : v14.drew.Since v14.drew.heap.size v16 := sm.trans (sinceMono sn sm.size)
         have kC := And.intro (o14.drew.keep tt).cells (x14.drew.keep tt).cells))
  have tt : v14.Since v14.heap.size v16 := ⟨tt.os, tt.tape, tt.output, tt.size, tt.block⟩
  clear kA kB kC J1 J2 sm sn LXm LYm bm1 bm2 bm3
  have S16 : w.Since w.heap.size v16 := S14.trans (sinceMono tt S14.size)
  have o16 := o14.keep tt
  have p16 := p14.keep tt
  have Ox16 := Ox14.keep tt
  have Qx16 := Qx14.keep tt
  have Oy16 := Oy14.keep tt
  have Qy16 := Qy14.keep tt
  have x16 := x14.keep tt
  have y16 := y14.keep tt
  have z16 := tt.size
  clear o14 p14 Ox14 Qx14 Oy14 Qy14 x14 y14 tt
  have kA := And.intro p16.cells y16.cells
  have J1 := toRat_any f' a' b' ba' oa' n' ca' bb' ob' m' cb' X' Y' v16.drew (by omega) (by omega) (hX'.keep (since_drew S16)) (hY'.keep (since_drew S16))
  go_wp2_with fail
  go_region_held3 (fun w' => w'.cell? ⟨w.heap.size + 1, 0, none⟩ = some (.bool f') ∧ w'.cell? ⟨w.heap.size + 1, 1, none⟩ = some (.slice a' n' ca') ∧ w'.cell? ⟨w.heap.size + 1, 2, none⟩ = some (.slice b' m' cb') ∧ w'.cell? ⟨cy, 0, none⟩ = some (.bool f') ∧ w'.cell? ⟨cy, 1, none⟩ = some (.slice (some ⟨gy, 0, none⟩) n' n') ∧ w'.cell? ⟨cy, 2, none⟩ = some (.slice (some ⟨hy, 0, none⟩) m' m')) (go_keep)
    (first
      | (go_at_call 35
         with_reducible refine J1.mono ?_
         rintro e v17 ⟨gt, ht, rfl, sm, bm1, bm2, bm3, LXm, LYm, -, -⟩
         have J2 := eqRat_true f' _ _ _ _ gy 0 gt 0 n' n' n' hy 0 ht 0 m' m' m' X' Y' v17 (by omega) (by omega) ((Oy16.L.drew).keep sm) LXm ((Qy16.L.drew).keep sm) LYm
         have kB := And.intro (p16.drew.keep sm).cells (y16.drew.keep sm).cells)
      | (go_at_call 36
         with_reducible refine J2.mono ?_
         rintro e v18 ⟨rfl, sn⟩
         have tt : v16.drew.Since v16.drew.heap.size v18 := sm.trans (sinceMono sn sm.size)
         have kC := And.intro (p16.drew.keep tt).cells (y16.drew.keep tt).cells))
  have tt : v16.Since v16.heap.size v18 := ⟨tt.os, tt.tape, tt.output, tt.size, tt.block⟩
  clear kA kB kC J1 J2 sm sn LXm LYm bm1 bm2 bm3
  have S18 : w.Since w.heap.size v18 := S16.trans (sinceMono tt S16.size)
  have o18 := o16.keep tt
  have p18 := p16.keep tt
  have Ox18 := Ox16.keep tt
  have Qx18 := Qx16.keep tt
  have Oy18 := Oy16.keep tt
  have Qy18 := Qy16.keep tt
  have x18 := x16.keep tt
  have y18 := y16.keep tt
  have z18 := tt.size
  clear o16 p16 Ox16 Qx16 Oy16 Qy16 x16 y16 tt
  go_wp2
  go_ret
  exact ⟨rfl, S18⟩

end Go.Proofs.Ytdfcckifbbeoiaa
