import Derived.Test.YtdfcckifbbeoiaaOwnP3
import Derived.Test.YtdfcckifbbeoiaaG3P4
import Derived.Test.YtdfcckifbbeoiaaOwnP2
import Derived.Test.YtdfcckifbbeoiaaOwnP1
namespace Go.Proofs.Ytdfcckifbbeoiaa
open Go.RowKit

set_option maxHeartbeats 1600000 in
set_option maxRecDepth 100000 in
/-- l1Copy of a Rat whose lists are not nil: nor are the answer's. -/
theorem l1Copy_some (f : Bool) (x y : Addr) (ba oa n ca bb ob m cb : Nat) (X Y : Nat → Nat) (w : World) (hn : n ≤ 1048576) (hm : m ≤ 1048576) (_hnc : n ≤ ca) (_hmc : m ≤ cb) (hX : Limbs w (some x) ba oa n X) (hY : Limbs w (some y) bb ob m Y) :
    Calls Try.prog 97 #[.agg #[.bool f, .slice (some x) n ca, .slice (some y) m cb]] w fun e w' => ∃ g h c1 c2, e = .returned (.agg #[.bool f, .slice (some ⟨g, 0, none⟩) n c1, .slice (some ⟨h, 0, none⟩) m c2]) ∧ n ≤ c1 ∧ m ≤ c2 ∧
      Limbs w' (some ⟨g, 0, none⟩) g 0 n X ∧ Limbs w' (some ⟨h, 0, none⟩) h 0 m Y ∧ (0 < n → ∀ o, w'.frozen? ⟨g, o, none⟩ = false) ∧ (0 < m → ∀ o, w'.frozen? ⟨h, o, none⟩ = false) ∧ w.heap.size ≤ g ∧ g < h ∧ h < w'.heap.size ∧ w.Since w.heap.size w' := by
  obtain ⟨i0, hi, hz0, hz1, hz2⟩ := info_parts Try.info35
  have sA : w.Since w.heap.size ((w.alloc (.cells #[.bool f, .slice (some x) n ca, .slice (some y) m cb] 27)).alloc (.cells #[.bool false, .slice none 0 0, .slice none 0 0] 27)) := ((World.Since.refl _ _).alloc (Nat.le_refl _) _).alloc (by simp) _
  have oA : Box3 ((w.alloc (.cells #[.bool f, .slice (some x) n ca, .slice (some y) m cb] 27)).alloc (.cells #[.bool false, .slice none 0 0, .slice none 0 0] 27)) w.heap.size (.bool f) (.slice (some x) n ca) (.slice (some y) m cb) := (Box3.new w _ _ _ _).keep ((World.Since.refl _ _).alloc (Nat.le_refl _) _)
  have tB : ((w.alloc (.cells #[.bool f, .slice (some x) n ca, .slice (some y) m cb] 27)).alloc (.cells #[.bool false, .slice none 0 0, .slice none 0 0] 27)).Since ((w.alloc (.cells #[.bool f, .slice (some x) n ca, .slice (some y) m cb] 27)).alloc (.cells #[.bool false, .slice none 0 0, .slice none 0 0] 27)).heap.size (((w.alloc (.cells #[.bool f, .slice (some x) n ca, .slice (some y) m cb] 27)).alloc (.cells #[.bool false, .slice none 0 0, .slice none 0 0] 27)).alloc (.cells #[] 35)) := (World.Since.refl _ _).alloc (Nat.le_refl _) _
  have SB := sA.trans (sinceMono tB sA.size)
  have X1 := hX.keep SB
  have own1 := World.ownsRow_made (e := 35) (size := 1) ((w.alloc (.cells #[.bool f, .slice (some x) n ca, .slice (some y) m cb] 27)).alloc (.cells #[.bool false, .slice none 0 0, .slice none 0 0] 27)) #[] 0 (Nat.le_refl _) (by decide) rfl
  have zA : ((w.alloc (.cells #[.bool f, .slice (some x) n ca, .slice (some y) m cb] 27)).alloc (.cells #[.bool false, .slice none 0 0, .slice none 0 0] 27)).heap.size = w.heap.size + 1 + 1 := by simp
  have own0 := World.ownsRow_made (e := 35) (size := 1) ((w.alloc (.cells #[.bool f, .slice (some x) n ca, .slice (some y) m cb] 27)).alloc (.cells #[.bool false, .slice none 0 0, .slice none 0 0] 27)) #[] 0 (Nat.le_refl _) (by decide) rfl
  rw [zA] at own1
  have zA' := zA
  have rA : Box3 ((w.alloc (.cells #[.bool f, .slice (some x) n ca, .slice (some y) m cb] 27)).alloc (.cells #[.bool false, .slice none 0 0, .slice none 0 0] 27)) (w.heap.size + 1) (.bool false) (.slice none 0 0) (.slice none 0 0) := by
    have := Box3.new (w.alloc (.cells #[.bool f, .slice (some x) n ca, .slice (some y) m cb] 27)) (.bool false) (.slice none 0 0) (.slice none 0 0) 27
    simpa using this
  have HZA := hide zA'
  clear zA zA'
  go_enter Try.func97, Try.ntmps97
  go_wp2_with (at_builtin; refine wpList_append_own _ rfl _ _ 23 rfl (w.heap.size + 1 + 1) 35 i0 (.int .u32 0) 1 4 Try.underlying23 hi hz0 hz1 hz2 rfl (by decide) _ 0 [] rfl own1 x n ca (ll X n) rfl (by rw [ll_len]; omega) (limbs_news X1) (ll_one X n) (by unfold maxLen; omega) (by omega) (by simp) ?_)
  intro v1 w2 own2 grow2 nn2
  have tC : ((w.alloc (.cells #[.bool f, .slice (some x) n ca, .slice (some y) m cb] 27)).alloc (.cells #[.bool false, .slice none 0 0, .slice none 0 0] 27)).Since ((w.alloc (.cells #[.bool f, .slice (some x) n ca, .slice (some y) m cb] 27)).alloc (.cells #[.bool false, .slice none 0 0, .slice none 0 0] 27)).heap.size w2 := tB.grown grow2 (Nat.le_trans (Nat.le_refl _) tB.size) (fun k hk => by
    have := own0.lt k (by rw [HZA.out]; exact hk)
    exact this.1)
  have SC : w.Since w.heap.size w2 := sA.trans (sinceMono tC sA.size)
  have o2 := oA.keep tC
  have r2 := rA.keep tC
  have HN := hide nn2
  clear grow2 own1 nn2
  generalize ((w.alloc (.cells #[.bool f, .slice (some x) n ca, .slice (some y) m cb] 27)).alloc (.cells #[.bool false, .slice none 0 0, .slice none 0 0] 27)) = wA at *
  have tD : w2.Since w2.heap.size (w2.alloc (.cells #[] 35)) := (World.Since.refl _ _).alloc (Nat.le_refl _) _
  have SD := SC.trans (sinceMono tD SC.size)
  have Y1 := hY.keep SD
  have own3 := World.ownsRow_made (e := 35) (size := 1) w2 #[] 0 (Nat.le_refl _) (by decide) rfl
  have o3 := o2.keep tD
  have k2 := o3.c2
  go_wp2_with (at_builtin; refine wpList_append_own _ rfl _ _ 23 rfl w2.heap.size 35 i0 (.int .u32 0) 1 4 Try.underlying23 hi hz0 hz1 hz2 rfl (by decide) _ 0 [] rfl own3 y m cb (ll Y m) rfl (by rw [ll_len]; omega) (limbs_news Y1) (ll_one Y m) (by unfold maxLen; omega) (by omega) tD.size ?_)
  intro v3 w4 own4 grow4 nn4
  have tE : w2.Since w2.heap.size w4 := tD.grown grow4 tD.size (fun k hk => (own3.lt k hk).1)
  have SE := SC.trans (sinceMono tE SC.size)
  have o4 := o2.keep tE
  have r4 := r2.keep tE
  obtain ⟨g1, c1, rfl, m1, b1, l1, L1, F1⟩ := own_limbs_some own2 HN.out
  obtain ⟨g2, c2, rfl, m2, b2, l2, L2, F2⟩ := own_limbs_some own4 nn4
  clear grow4 own3 nn4 k2 o3
  have j0 := o4.c0
  have u0 := r4.c0
  have u1 := r4.c1
  have u2 := r4.c2
  have uf0 := r4.f 0
  have uf1 := r4.f 1
  have uf2 := r4.f 2
  go_wp2
  have zC := tC.size
  have zE := tE.size
  have rC := ((r4.set0 (.bool f)).set1 (.slice (some ⟨g1, 0, none⟩) n c1)).set2 (.slice (some ⟨g2, 0, none⟩) m c2)
  refine bodyPost_ret (results_box3 rfl _ _ _ _ _ _ rfl rC) rfl ?_
  have M : Marked w4 _ (w.heap.size + 1) := (((Marked.refl w4 _).setCell 0 (.bool f)).setCell 1 (.slice (some ⟨g1, 0, none⟩) n c1)).setCell 2 (.slice (some ⟨g2, 0, none⟩) m c2)
  have hz := HZA.out
  have zM := M.size
  refine ⟨g1, g2, c1, c2, rfl, m1, m2, (L1.keep tE).marked M (fun _ => by omega), L2.marked M (fun _ => by omega), fun _ o => ?_, fun _ o => ?_, by omega, by omega, by omega, SE.trans (M.since (by omega))⟩
  · rw [M.frozenO (a := ⟨g1, o, none⟩) (by show g1 ≠ _; omega), tE.frozen (a := ⟨g1, o, none⟩) l1]; exact F1 o
  · rw [M.frozenO (a := ⟨g2, o, none⟩) (by show g2 ≠ _; omega)]; exact F2 o


set_option maxHeartbeats 1600000 in
set_option maxRecDepth 100000 in
theorem l1Neg_any (f : Bool) (x y : Addr) (ba oa n ca bb ob m cb : Nat) (X Y : Nat → Nat) (w : World) (hn : n ≤ 1048576) (hm : m ≤ 1048576) (hnc : n ≤ ca) (hmc : m ≤ cb) (hX : Limbs w (some x) ba oa n X) (hY : Limbs w (some y) bb ob m Y) :
    Calls Try.prog 106 #[.agg #[.bool f, .slice (some x) n ca, .slice (some y) m cb]] w fun e w' => ∃ g h c1 c2, e = .returned (.agg #[.bool (!f && decide (0 < n)), .slice (some ⟨g, 0, none⟩) n c1, .slice (some ⟨h, 0, none⟩) m c2]) ∧ n ≤ c1 ∧ m ≤ c2 ∧
      Limbs w' (some ⟨g, 0, none⟩) g 0 n X ∧ Limbs w' (some ⟨h, 0, none⟩) h 0 m Y ∧ w.heap.size ≤ g ∧ g < h ∧ h < w'.heap.size ∧ w.Since w.heap.size w' := by
  have sA : w.Since w.heap.size ((w.alloc (.cells #[.bool f, .slice (some x) n ca, .slice (some y) m cb] 27)).alloc (.cells #[.bool false, .slice none 0 0, .slice none 0 0] 27)) := ((World.Since.refl _ _).alloc (Nat.le_refl _) _).alloc (by simp) _
  have oA : Box3 ((w.alloc (.cells #[.bool f, .slice (some x) n ca, .slice (some y) m cb] 27)).alloc (.cells #[.bool false, .slice none 0 0, .slice none 0 0] 27)) w.heap.size (.bool f) (.slice (some x) n ca) (.slice (some y) m cb) := (Box3.new w _ _ _ _).keep ((World.Since.refl _ _).alloc (Nat.le_refl _) _)
  have rA : Box3 ((w.alloc (.cells #[.bool f, .slice (some x) n ca, .slice (some y) m cb] 27)).alloc (.cells #[.bool false, .slice none 0 0, .slice none 0 0] 27)) (w.heap.size + 1) (.bool false) (.slice none 0 0) (.slice none 0 0) := by
    have := Box3.new (w.alloc (.cells #[.bool f, .slice (some x) n ca, .slice (some y) m cb] 27)) (.bool false) (.slice none 0 0) (.slice none 0 0) 27
    simpa using this
  go_enter Try.func106, Try.ntmps106
  go_wp2_with fail
  generalize ((w.alloc (.cells #[.bool f, .slice (some x) n ca, .slice (some y) m cb] 27)).alloc (.cells #[.bool false, .slice none 0 0, .slice none 0 0] 27)) = w1 at *
  refine (l1Copy_some f x y ba oa n ca bb ob m cb X Y w1 hn hm hnc hmc (hX.keep sA) (hY.keep sA)).mono ?_
  rintro e w2 ⟨g, h, c1, c2, rfl, m1, m2, L1, L2, -, -, b1, b2, b3, s2⟩
  have S2 : w.Since w.heap.size w2 := sA.trans (sinceMono s2 sA.size)
  have z1 := rA.lt
  have t3 : w2.Since w2.heap.size (w2.alloc (.cells #[.bool f, .slice (some ⟨g, 0, none⟩) n c1, .slice (some ⟨h, 0, none⟩) m c2] 27)) := (World.Since.refl _ _).alloc (Nat.le_refl _) _
  have q3 := Box3.new w2 (.bool f) (.slice (some ⟨g, 0, none⟩) n c1) (.slice (some ⟨h, 0, none⟩) m c2) 27
  have o3 := (oA.keep s2).keep t3
  have r3 := (rA.keep s2).keep t3
  have k0 := o3.c0
  have k1 := o3.c1
  have j0 := q3.c0
  have j1 := q3.c1
  have j2 := q3.c2
  have jf := q3.f 0
  have hne : w.heap.size ≠ w2.heap.size := by omega
  have hne2 : w.heap.size + 1 ≠ w2.heap.size := by omega
  have r2 := rA.keep s2
  cases f
  · by_cases hn0 : 0 < n
    · have hgt : (0 : Int) < (n : Int) := by omega
      have t4 : w2.Since w2.heap.size (w2.alloc (.cells #[.bool true, .slice (some ⟨g, 0, none⟩) n c1, .slice (some ⟨h, 0, none⟩) m c2] 27)) := (World.Since.refl _ _).alloc (Nat.le_refl _) _
      have q4 := Box3.new w2 (.bool true) (.slice (some ⟨g, 0, none⟩) n c1) (.slice (some ⟨h, 0, none⟩) m c2) 27
      have r4 := r2.keep t4
      have S4 := S2.trans (sinceMono t4 S2.size)
      have i0 := q4.c0
      have i1 := q4.c1
      have i2 := q4.c2
      have u0 := r4.c0
      have u1 := r4.c1
      have u2 := r4.c2
      have uf0 := r4.f 0
      have uf1 := r4.f 1
      have uf2 := r4.f 2
      go_wp2
      have rC := ((r4.set0 (.bool true)).set1 (.slice (some ⟨g, 0, none⟩) n c1)).set2 (.slice (some ⟨h, 0, none⟩) m c2)
      refine bodyPost_ret (results_box3 rfl _ _ _ _ _ _ rfl rC) rfl ?_
      have M5 : Marked (w2.alloc (.cells #[.bool true, .slice (some ⟨g, 0, none⟩) n c1, .slice (some ⟨h, 0, none⟩) m c2] 27)) _ (w.heap.size + 1) := (((Marked.refl (w2.alloc (.cells #[.bool true, .slice (some ⟨g, 0, none⟩) n c1, .slice (some ⟨h, 0, none⟩) m c2] 27)) _).setCell 0 (.bool true)).setCell 1 (.slice (some ⟨g, 0, none⟩) n c1)).setCell 2 (.slice (some ⟨h, 0, none⟩) m c2)
      have zM := M5.size
      have zq : w2.heap.size ≤ (w2.alloc (.cells #[.bool true, .slice (some ⟨g, 0, none⟩) n c1, .slice (some ⟨h, 0, none⟩) m c2] 27)).heap.size := t4.size
      exact ⟨g, h, c1, c2, by simp [hn0], m1, m2, (L1.keep t4).marked M5 (fun _ => by omega), (L2.keep t4).marked M5 (fun _ => by omega), by omega, by omega, by omega, S4.trans (M5.since (by omega))⟩
    · have hgt : ¬ (0 : Int) < (n : Int) := by omega
      have t4 : w2.Since w2.heap.size (w2.alloc (.cells #[.bool false, .slice (some ⟨g, 0, none⟩) n c1, .slice (some ⟨h, 0, none⟩) m c2] 27)) := (World.Since.refl _ _).alloc (Nat.le_refl _) _
      have q4 := Box3.new w2 (.bool false) (.slice (some ⟨g, 0, none⟩) n c1) (.slice (some ⟨h, 0, none⟩) m c2) 27
      have r4 := r2.keep t4
      have S4 := S2.trans (sinceMono t4 S2.size)
      have i0 := q4.c0
      have i1 := q4.c1
      have i2 := q4.c2
      have u0 := r4.c0
      have u1 := r4.c1
      have u2 := r4.c2
      have uf0 := r4.f 0
      have uf1 := r4.f 1
      have uf2 := r4.f 2
      go_wp2
      have rC := ((r4.set0 (.bool false)).set1 (.slice (some ⟨g, 0, none⟩) n c1)).set2 (.slice (some ⟨h, 0, none⟩) m c2)
      refine bodyPost_ret (results_box3 rfl _ _ _ _ _ _ rfl rC) rfl ?_
      have M5 : Marked (w2.alloc (.cells #[.bool false, .slice (some ⟨g, 0, none⟩) n c1, .slice (some ⟨h, 0, none⟩) m c2] 27)) _ (w.heap.size + 1) := (((Marked.refl (w2.alloc (.cells #[.bool false, .slice (some ⟨g, 0, none⟩) n c1, .slice (some ⟨h, 0, none⟩) m c2] 27)) _).setCell 0 (.bool false)).setCell 1 (.slice (some ⟨g, 0, none⟩) n c1)).setCell 2 (.slice (some ⟨h, 0, none⟩) m c2)
      have zM := M5.size
      have zq : w2.heap.size ≤ (w2.alloc (.cells #[.bool false, .slice (some ⟨g, 0, none⟩) n c1, .slice (some ⟨h, 0, none⟩) m c2] 27)).heap.size := t4.size
      exact ⟨g, h, c1, c2, by simp [hn0], m1, m2, (L1.keep t4).marked M5 (fun _ => by omega), (L2.keep t4).marked M5 (fun _ => by omega), by omega, by omega, by omega, S4.trans (M5.since (by omega))⟩
  · have t4 : w2.Since w2.heap.size (w2.alloc (.cells #[.bool false, .slice (some ⟨g, 0, none⟩) n c1, .slice (some ⟨h, 0, none⟩) m c2] 27)) := (World.Since.refl _ _).alloc (Nat.le_refl _) _
    have q4 := Box3.new w2 (.bool false) (.slice (some ⟨g, 0, none⟩) n c1) (.slice (some ⟨h, 0, none⟩) m c2) 27
    have r4 := r2.keep t4
    have S4 := S2.trans (sinceMono t4 S2.size)
    have i0 := q4.c0
    have i1 := q4.c1
    have i2 := q4.c2
    have u0 := r4.c0
    have u1 := r4.c1
    have u2 := r4.c2
    have uf0 := r4.f 0
    have uf1 := r4.f 1
    have uf2 := r4.f 2
    go_wp2
    have rC := ((r4.set0 (.bool false)).set1 (.slice (some ⟨g, 0, none⟩) n c1)).set2 (.slice (some ⟨h, 0, none⟩) m c2)
    refine bodyPost_ret (results_box3 rfl _ _ _ _ _ _ rfl rC) rfl ?_
    have M5 : Marked (w2.alloc (.cells #[.bool false, .slice (some ⟨g, 0, none⟩) n c1, .slice (some ⟨h, 0, none⟩) m c2] 27)) _ (w.heap.size + 1) := (((Marked.refl (w2.alloc (.cells #[.bool false, .slice (some ⟨g, 0, none⟩) n c1, .slice (some ⟨h, 0, none⟩) m c2] 27)) _).setCell 0 (.bool false)).setCell 1 (.slice (some ⟨g, 0, none⟩) n c1)).setCell 2 (.slice (some ⟨h, 0, none⟩) m c2)
    have zM := M5.size
    have zq : w2.heap.size ≤ (w2.alloc (.cells #[.bool false, .slice (some ⟨g, 0, none⟩) n c1, .slice (some ⟨h, 0, none⟩) m c2] 27)).heap.size := t4.size
    exact ⟨g, h, c1, c2, rfl, m1, m2, (L1.keep t4).marked M5 (fun _ => by omega), (L2.keep t4).marked M5 (fun _ => by omega), by omega, by omega, by omega, S4.trans (M5.since (by omega))⟩

end Go.Proofs.Ytdfcckifbbeoiaa

namespace Go.Proofs.Ytdfcckifbbeoiaa
open Go.RowKit

theorem sign_cmp (f f' : Bool) (x y n' q : Nat) (hf : f = true → 0 < x) (hf' : f' = true → 0 < y) (hy : 0 < n' ↔ 0 < y) (hq : q = 0 ↔ sumTop f (!f' && decide (0 < n')) x y = 0) :
    (if (q : Int) = 0 then (0 : Int) else if (sumNeg f (!f' && decide (0 < n')) x y && sumTop f (!f' && decide (0 < n')) x y != 0) = true then -1 else 1) = cmpR f f' x y := by
  have hd : decide (0 < n') = decide (0 < y) := by simp [hy]
  rw [hd] at hq ⊢
  clear hd hy
  have hq' : ((q : Int) = 0) ↔ sumTop f (!f' && decide (0 < y)) x y = 0 := by omega
  simp only [hq']
  clear hq hq'
  rcases Nat.lt_trichotomy x y with h1 | h1 | h1
  · cases f <;> cases f' <;> rcases Nat.eq_zero_or_pos y with h0 | h0 <;> simp_all [sumNeg, sumTop, cmpR, cmpN] <;> (try omega)
  · cases f <;> cases f' <;> rcases Nat.eq_zero_or_pos y with h0 | h0 <;> simp_all [sumNeg, sumTop, cmpR, cmpN] <;> (try omega)
  · have h2 : ¬ x < y := by omega
    have h3 : ¬ x - y = 0 := by omega
    have h6 : 0 < x := by omega
    have h7 : ¬ x = 0 := by omega
    clear hf
    cases f <;> cases f' <;> rcases Nat.eq_zero_or_pos y with h0 | h0 <;> simp [sumNeg, sumTop, cmpR, cmpN, h0, h1, h2, h3, h6, h7] <;> (try (have := hf' rfl; omega)) <;> (try omega)

set_option maxHeartbeats 800000 in
set_option maxRecDepth 100000 in
theorem l1Sign_any (f : Bool) (a b : Option Addr) (n ca m cb : Nat) (w : World) :
    Calls Try.prog 99 #[.agg #[.bool f, .slice a n ca, .slice b m cb]] w fun e w' => e = .returned (.int .i64 (if (n : Int) = 0 then (0 : Int) else if f = true then -1 else 1)) ∧ w.Since w.heap.size w' := by
  have sA : w.Since w.heap.size (w.alloc (.cells #[.bool f, .slice a n ca, .slice b m cb] 27)) := (World.Since.refl _ _).alloc (Nat.le_refl _) _
  by_cases h0 : n = 0
  · subst h0
    go_enter Try.func99, Try.ntmps99
    go_wp2
    go_ret
    exact ⟨rfl, sA⟩
  · have q1 : ((n : Int) == 0) = false := by simp; omega
    have q2 : ¬ ((n : Int) = 0) := by omega
    rw [if_neg q2]
    cases f
    · go_enter Try.func99, Try.ntmps99
      go_wp2
      go_ret
      exact ⟨rfl, sA⟩
    · go_enter Try.func99, Try.ntmps99
      go_wp2
      go_ret
      exact ⟨rfl, sA⟩

theorem ratOk_neg {f' : Bool} {X' Y' : Nat → Nat} {n' m' : Nat} (ok' : ratOkB f' X' n' Y' m' = true) : ratOkB (!f' && decide (0 < n')) X' n' Y' m' = true := by
  unfold ratOkB at *
  cases f' <;> rcases Nat.eq_zero_or_pos n' with h | h <;> simp_all <;> (try omega)

set_option maxHeartbeats 3200000 in
set_option maxRecDepth 100000 in
theorem l1Sub_any (f f' : Bool) (a b a' b' : Addr) (ba oa n ca bb ob m cb ba' oa' n' ca' bb' ob' m' cb' : Nat) (X Y X' Y' : Nat → Nat) (w : World) (hn : n + n' + m + m' ≤ 1048576)
    (R : RIn w (some a) (some b) ba oa n ca bb ob m cb X Y) (R' : RIn w (some a') (some b') ba' oa' n' ca' bb' ob' m' cb' X' Y') (ok : ratOkB f X n Y m = true) (ok' : ratOkB f' X' n' Y' m' = true) :
    Calls Try.prog 100 #[.agg #[.bool f, .slice (some a) n ca, .slice (some b) m cb], .agg #[.bool f', .slice (some a') n' ca', .slice (some b') m' cb']] w fun e w' => ∃ v, e = .returned v ∧
      RatV w' v (sumNeg f (!f' && decide (0 < n')) (lv X n * lv Y' m') (lv X' n' * lv Y m) && sumTop f (!f' && decide (0 < n')) (lv X n * lv Y' m') (lv X' n' * lv Y m) != 0) (sumTop f (!f' && decide (0 < n')) (lv X n * lv Y' m') (lv X' n' * lv Y m) / Nat.gcd (sumTop f (!f' && decide (0 < n')) (lv X n * lv Y' m') (lv X' n' * lv Y m)) (lv Y m * lv Y' m')) ((lv Y m * lv Y' m') / Nat.gcd (sumTop f (!f' && decide (0 < n')) (lv X n * lv Y' m') (lv X' n' * lv Y m)) (lv Y m * lv Y' m')) w.heap.size 4194304 ∧ w.Since w.heap.size w' := by
  have hne2 : w.heap.size + 1 + 1 ≠ w.heap.size := by omega
  have sA : w.Since w.heap.size (((w.alloc (.cells #[.bool f, .slice (some a) n ca, .slice (some b) m cb] 27)).alloc (.cells #[.bool f', .slice (some a') n' ca', .slice (some b') m' cb'] 27)).alloc (.cells #[.bool false, .slice none 0 0, .slice none 0 0] 27)) := (((World.Since.refl _ _).alloc (Nat.le_refl _) _).alloc (by simp) _).alloc (by simp; omega) _
  have zA : (((w.alloc (.cells #[.bool f, .slice (some a) n ca, .slice (some b) m cb] 27)).alloc (.cells #[.bool f', .slice (some a') n' ca', .slice (some b') m' cb'] 27)).alloc (.cells #[.bool false, .slice none 0 0, .slice none 0 0] 27)).heap.size = w.heap.size + 1 + 1 + 1 := by simp
  have oA : Box3 (((w.alloc (.cells #[.bool f, .slice (some a) n ca, .slice (some b) m cb] 27)).alloc (.cells #[.bool f', .slice (some a') n' ca', .slice (some b') m' cb'] 27)).alloc (.cells #[.bool false, .slice none 0 0, .slice none 0 0] 27)) w.heap.size (.bool f) (.slice (some a) n ca) (.slice (some b) m cb) := ((Box3.new w _ _ _ _).keep ((World.Since.refl _ _).alloc (Nat.le_refl _) _)).keep ((World.Since.refl _ _).alloc (Nat.le_refl _) _)
  have pA : Box3 (((w.alloc (.cells #[.bool f, .slice (some a) n ca, .slice (some b) m cb] 27)).alloc (.cells #[.bool f', .slice (some a') n' ca', .slice (some b') m' cb'] 27)).alloc (.cells #[.bool false, .slice none 0 0, .slice none 0 0] 27)) (w.heap.size + 1) (.bool f') (.slice (some a') n' ca') (.slice (some b') m' cb') := by
    have := (Box3.new (w.alloc (.cells #[.bool f, .slice (some a) n ca, .slice (some b) m cb] 27)) (.bool f') (.slice (some a') n' ca') (.slice (some b') m' cb') 27).keep ((World.Since.refl _ _).alloc (Nat.le_refl _) (.cells #[.bool false, .slice none 0 0, .slice none 0 0] 27))
    simpa using this
  have rA : Box3 (((w.alloc (.cells #[.bool f, .slice (some a) n ca, .slice (some b) m cb] 27)).alloc (.cells #[.bool f', .slice (some a') n' ca', .slice (some b') m' cb'] 27)).alloc (.cells #[.bool false, .slice none 0 0, .slice none 0 0] 27)) (w.heap.size + 1 + 1) (.bool false) (.slice none 0 0) (.slice none 0 0) := by
    have := Box3.new ((w.alloc (.cells #[.bool f, .slice (some a) n ca, .slice (some b) m cb] 27)).alloc (.cells #[.bool f', .slice (some a') n' ca', .slice (some b') m' cb'] 27)) (.bool false) (.slice none 0 0) (.slice none 0 0) 27
    simpa using this
  have m1 := R.m0
  have m1' := R'.m0
  obtain ⟨NN, hNN⟩ : ∃ z, z = (sumNeg f (!f' && decide (0 < n')) (lv X n * lv Y' m') (lv X' n' * lv Y m) && sumTop f (!f' && decide (0 < n')) (lv X n * lv Y' m') (lv X' n' * lv Y m) != 0) := ⟨_, rfl⟩
  have HNN := hide hNN
  clear hNN
  have J1 := l1Neg_any f' a' b' ba' oa' n' ca' bb' ob' m' cb' X' Y' (((w.alloc (.cells #[.bool f, .slice (some a) n ca, .slice (some b) m cb] 27)).alloc (.cells #[.bool f', .slice (some a') n' ca', .slice (some b') m' cb'] 27)).alloc (.cells #[.bool false, .slice none 0 0, .slice none 0 0] 27)).drew (by omega) (by omega) R'.nc R'.mc (R'.keep (since_drew sA)).LX (R'.keep (since_drew sA)).LY
  go_enter Try.func100, Try.ntmps100
  have k := And.intro oA.cells pA.cells
  go_wp2_with fail
  generalize (((w.alloc (.cells #[.bool f, .slice (some a) n ca, .slice (some b) m cb] 27)).alloc (.cells #[.bool f', .slice (some a') n' ca', .slice (some b') m' cb'] 27)).alloc (.cells #[.bool false, .slice none 0 0, .slice none 0 0] 27)) = w1 at *
  go_region_held3 (fun w' => w'.cell? ⟨w.heap.size, 0, none⟩ = some (.bool f) ∧ w'.cell? ⟨w.heap.size, 1, none⟩ = some (.slice (some a) n ca) ∧ w'.cell? ⟨w.heap.size, 2, none⟩ = some (.slice (some b) m cb) ∧ w'.cell? ⟨w.heap.size + 1, 0, none⟩ = some (.bool f') ∧ w'.cell? ⟨w.heap.size + 1, 1, none⟩ = some (.slice (some a') n' ca') ∧ w'.cell? ⟨w.heap.size + 1, 2, none⟩ = some (.slice (some b') m' cb')) (go_keep)
    (first
      | (go_at_call 106
         with_reducible refine J1.mono ?_
         rintro e w2 ⟨g, h, c1, c2, rfl, v1, v2, L1, L2, b1, b2, b3, s2⟩
         have S2 : w.Since w.heap.size w2 := (since_drew sA).trans (sinceMono s2 sA.size)
         have o2 := oA.drew.keep s2
         have p2 := pA.drew.keep s2
         have r2 := rA.drew.keep s2
         have kk := And.intro o2.cells p2.cells
         have R2 : RIn w2 (some ⟨g, 0, none⟩) (some ⟨h, 0, none⟩) g 0 n' c1 h 0 m' c2 X' Y' := ⟨v1, v2, fun h => (by cases h), fun h => (by cases h), L1, L2, R'.lX, R'.lY, R'.pX, R'.pY, R'.m0⟩
         have J2 := l1Add_any f (!f' && decide (0 < n')) a b ⟨g, 0, none⟩ ⟨h, 0, none⟩ ba oa n ca bb ob m cb g 0 n' c1 h 0 m' c2 X Y X' Y' w2 hn (R.keep S2) R2 ok (ratOk_neg ok')
         rw [← HNN.out] at J2)
      | (go_at_call 58
         with_reducible refine J2.mono ?_
         rintro e w6 ⟨v, rfl, ⟨x1, x2, g6, h6, rfl, N6, D6, y1, y2, y3⟩, s6⟩
         have N6' := N6
         have D6' := D6
         obtain ⟨a1, q1, d1, Y1, rfl, -⟩ := N6
         obtain ⟨a2, q2, d2, Y2, rfl, -⟩ := D6
         have kk := And.intro (o2.keep s6).cells (p2.keep s6).cells
         have rB := r2.keep s6
         have u0 := rB.c0
         have u1 := rB.c1
         have u2 := rB.c2
         have uf0 := rB.f 0
         have uf1 := rB.f 1
         have uf2 := rB.f 2))
  all_goals go_wp2
  all_goals
    have S6 : w.Since w.heap.size w6 := S2.trans (sinceMono s6 S2.size)
    have zr := r2.lt
    have rC := ((rB.set0 (.bool NN)).set1 (.slice a1 q1 d1)).set2 (.slice a2 q2 d2)
    refine bodyPost_ret (results_box3 rfl _ _ _ _ _ _ rfl rC) rfl ?_
    have M : Marked w6 _ (w.heap.size + 1 + 1) := (((Marked.refl w6 _).setCell 0 (.bool NN)).setCell 1 (.slice a1 q1 d1)).setCell 2 (.slice a2 q2 d2)
    exact ⟨_, rfl, ⟨_, _, g6, h6, by rw [HNN.out], N6'.marked M (by omega), D6'.marked M (by omega), by omega, by omega, y3⟩, S6.trans (M.since (by omega))⟩

end Go.Proofs.Ytdfcckifbbeoiaa

namespace Go.Proofs.Ytdfcckifbbeoiaa
open Go.RowKit

theorem rat_pos {f : Bool} {X Y : Nat → Nat} {n m : Nat} (ok : ratOkB f X n Y m = true) (e : f = true) (pX : 0 < n → X (n - 1) ≠ 0) : 0 < lv X n := by
  subst e
  unfold ratOkB at ok
  rcases Nat.eq_zero_or_pos (lv X n) with h | h
  · have := (lv_zero pX).2 h
    subst this
    simp at ok
  · exact h

set_option maxHeartbeats 3200000 in
set_option maxRecDepth 100000 in
theorem l1Cmp_any (f f' : Bool) (a b a' b' : Addr) (ba oa n ca bb ob m cb ba' oa' n' ca' bb' ob' m' cb' : Nat) (X Y X' Y' : Nat → Nat) (w : World) (hn : n + n' + m + m' ≤ 1048576)
    (R : RIn w (some a) (some b) ba oa n ca bb ob m cb X Y) (R' : RIn w (some a') (some b') ba' oa' n' ca' bb' ob' m' cb' X' Y') (ok : ratOkB f X n Y m = true) (ok' : ratOkB f' X' n' Y' m' = true) :
    Calls Try.prog 61 #[.agg #[.bool f, .slice (some a) n ca, .slice (some b) m cb], .agg #[.bool f', .slice (some a') n' ca', .slice (some b') m' cb']] w fun e w' => e = .returned (.int .i64 (cmpR f f' (lv X n * lv Y' m') (lv X' n' * lv Y m))) ∧ w.Since w.heap.size w' := by
  have sA : w.Since w.heap.size ((w.alloc (.cells #[.bool f, .slice (some a) n ca, .slice (some b) m cb] 27)).alloc (.cells #[.bool f', .slice (some a') n' ca', .slice (some b') m' cb'] 27)) := ((World.Since.refl _ _).alloc (Nat.le_refl _) _).alloc (by simp) _
  have zA : ((w.alloc (.cells #[.bool f, .slice (some a) n ca, .slice (some b) m cb] 27)).alloc (.cells #[.bool f', .slice (some a') n' ca', .slice (some b') m' cb'] 27)).heap.size = w.heap.size + 1 + 1 := by simp
  have oA : Box3 ((w.alloc (.cells #[.bool f, .slice (some a) n ca, .slice (some b) m cb] 27)).alloc (.cells #[.bool f', .slice (some a') n' ca', .slice (some b') m' cb'] 27)) w.heap.size (.bool f) (.slice (some a) n ca) (.slice (some b) m cb) := (Box3.new w _ _ _ _).keep ((World.Since.refl _ _).alloc (Nat.le_refl _) _)
  have pA : Box3 ((w.alloc (.cells #[.bool f, .slice (some a) n ca, .slice (some b) m cb] 27)).alloc (.cells #[.bool f', .slice (some a') n' ca', .slice (some b') m' cb'] 27)) (w.heap.size + 1) (.bool f') (.slice (some a') n' ca') (.slice (some b') m' cb') := by
    have := Box3.new (w.alloc (.cells #[.bool f, .slice (some a) n ca, .slice (some b) m cb] 27)) (.bool f') (.slice (some a') n' ca') (.slice (some b') m' cb') 27
    simpa using this
  have hX0 : f = true → 0 < lv X n * lv Y' m' := fun e => Nat.mul_pos (rat_pos ok e R.pX) R'.den
  have hX1 : f' = true → 0 < lv X' n' * lv Y m := fun e => Nat.mul_pos (rat_pos ok' e R'.pX) R.den
  have hX2 : 0 < n' ↔ 0 < lv X' n' * lv Y m := by
    have h1 := lv_zero R'.pX
    constructor
    · intro h; exact Nat.mul_pos (by omega) R.den
    · intro h
      rcases Nat.eq_zero_or_pos n' with e | e
      · rw [h1.1 e, Nat.zero_mul] at h; omega
      · exact e
  have hDD := Nat.mul_pos R.den R'.den
  obtain ⟨z, hz⟩ : ∃ z, z = cmpR f f' (lv X n * lv Y' m') (lv X' n' * lv Y m) := ⟨_, rfl⟩
  have HZ := hide hz
  clear hz
  have k := And.intro oA.cells pA.cells
  have J1 := l1Sub_any f f' a b a' b' ba oa n ca bb ob m cb ba' oa' n' ca' bb' ob' m' cb' X Y X' Y' ((w.alloc (.cells #[.bool f, .slice (some a) n ca, .slice (some b) m cb] 27)).alloc (.cells #[.bool f', .slice (some a') n' ca', .slice (some b') m' cb'] 27)) hn (R.keep sA) (R'.keep sA) ok ok'
  go_enter Try.func61, Try.ntmps61
  go_wp2_with fail
  generalize ((w.alloc (.cells #[.bool f, .slice (some a) n ca, .slice (some b) m cb] 27)).alloc (.cells #[.bool f', .slice (some a') n' ca', .slice (some b') m' cb'] 27)) = w1 at *
  refine J1.mono ?_
  rintro e w2 ⟨v, rfl, ⟨x1, x2, g6, h6, rfl, N6, D6, y1, y2, y3⟩, s2⟩
  have S2 : w.Since w.heap.size w2 := sA.trans (sinceMono s2 sA.size)
  obtain ⟨a1, q1, d1, Y1, rfl, -, -, -, -, -, -, tp, ev⟩ := N6
  obtain ⟨a2, q2, d2, Y2, rfl, -⟩ := D6
  have hq : q1 = 0 ↔ sumTop f (!f' && decide (0 < n')) (lv X n * lv Y' m') (lv X' n' * lv Y m) = 0 := (lv_zero tp).trans (by rw [ev]; exact div_gcd_zero hDD)
  have HC := hide (sign_cmp f f' _ _ n' q1 hX0 hX1 hX2 hq)
  have J2 := l1Sign_any (sumNeg f (!f' && decide (0 < n')) (lv X n * lv Y' m') (lv X' n' * lv Y m) && sumTop f (!f' && decide (0 < n')) (lv X n * lv Y' m') (lv X' n' * lv Y m) != 0) a1 a2 q1 d1 q2 d2 w2
  rw [HC.out, ← HZ.out] at J2
  clear J1 HC hq hX0 hX1 hX2 tp ev k
  go_wp2_with fail
  refine J2.mono ?_
  rintro e w3 ⟨rfl, s3⟩
  go_wp2
  go_ret
  exact ⟨ret_int HZ.out, S2.trans (sinceMono s3 S2.size)⟩

set_option maxHeartbeats 1600000 in
set_option maxRecDepth 100000 in
theorem specRatCmp_ok (f f' : Bool) (a b a' b' : Addr) (ba oa n ca bb ob m cb ba' oa' n' ca' bb' ob' m' cb' : Nat) (X Y X' Y' : Nat → Nat) (w : World) (hn : n + n' + m + m' ≤ 1048576)
    (R : RIn w (some a) (some b) ba oa n ca bb ob m cb X Y) (R' : RIn w (some a') (some b') ba' oa' n' ca' bb' ob' m' cb' X' Y') (ok : ratOkB f X n Y m = true) (ok' : ratOkB f' X' n' Y' m' = true) :
    Calls Try.prog 18 #[.agg #[.bool f, .slice (some a) n ca, .slice (some b) m cb], .agg #[.bool f', .slice (some a') n' ca', .slice (some b') m' cb']] w fun e w' => e = .returned (.int .i64 (cmpR f f' (lv X n * lv Y' m') (lv X' n' * lv Y m))) ∧ w.Since w.heap.size w' := by
  have sA : w.Since w.heap.size ((w.alloc (.cells #[.bool f, .slice (some a) n ca, .slice (some b) m cb] 27)).alloc (.cells #[.bool f', .slice (some a') n' ca', .slice (some b') m' cb'] 27)) := ((World.Since.refl _ _).alloc (Nat.le_refl _) _).alloc (by simp) _
  have zA : ((w.alloc (.cells #[.bool f, .slice (some a) n ca, .slice (some b) m cb] 27)).alloc (.cells #[.bool f', .slice (some a') n' ca', .slice (some b') m' cb'] 27)).heap.size = w.heap.size + 1 + 1 := by simp
  have oA : Box3 ((w.alloc (.cells #[.bool f, .slice (some a) n ca, .slice (some b) m cb] 27)).alloc (.cells #[.bool f', .slice (some a') n' ca', .slice (some b') m' cb'] 27)) w.heap.size (.bool f) (.slice (some a) n ca) (.slice (some b) m cb) := (Box3.new w _ _ _ _).keep ((World.Since.refl _ _).alloc (Nat.le_refl _) _)
  have pA : Box3 ((w.alloc (.cells #[.bool f, .slice (some a) n ca, .slice (some b) m cb] 27)).alloc (.cells #[.bool f', .slice (some a') n' ca', .slice (some b') m' cb'] 27)) (w.heap.size + 1) (.bool f') (.slice (some a') n' ca') (.slice (some b') m' cb') := by
    have := Box3.new (w.alloc (.cells #[.bool f, .slice (some a) n ca, .slice (some b) m cb] 27)) (.bool f') (.slice (some a') n' ca') (.slice (some b') m' cb') 27
    simpa using this
  have m1 := R.m0
  have m1' := R'.m0
  go_enter Try.func18, Try.ntmps18
  go_wp2_with fail
  generalize ((w.alloc (.cells #[.bool f, .slice (some a) n ca, .slice (some b) m cb] 27)).alloc (.cells #[.bool f', .slice (some a') n' ca', .slice (some b') m' cb'] 27)) = w1 at *
  have I1 := specRatOk_any f (some a) (some b) ba oa n ca bb ob m cb X Y w1 (by omega) (by omega) (R.keep sA).LX (R.keep sA).LY R.lX R.lY
  rw [ok] at I1
  refine I1.mono ?_
  rintro e w2 ⟨rfl, s2⟩
  have S2 : w.Since w.heap.size w2 := sA.trans (sinceMono s2 sA.size)
  have o2 := oA.keep s2
  have p2 := pA.keep s2
  have I2 := specRatOk_any f' (some a') (some b') ba' oa' n' ca' bb' ob' m' cb' X' Y' w2 (by omega) (by omega) (R'.keep S2).LX (R'.keep S2).LY R'.lX R'.lY
  rw [ok'] at I2
  clear I1 oA pA
  have k0 := p2.c0
  have k1 := p2.c1
  have k2 := p2.c2
  go_wp2_with fail
  refine I2.mono ?_
  rintro e w3 ⟨rfl, s3⟩
  have S3 : w.Since w.heap.size w3 := S2.trans (sinceMono s3 S2.size)
  have o3 := o2.keep s3
  have p3 := p2.keep s3
  clear I2 k0 k1 k2 o2 p2
  have k0 := p3.c0
  have k1 := p3.c1
  have k2 := p3.c2
  have j0 := o3.c0
  have j1 := o3.c1
  have j2 := o3.c2
  have J := l1Cmp_any f f' a b a' b' ba oa n ca bb ob m cb ba' oa' n' ca' bb' ob' m' cb' X Y X' Y' w3 hn (R.keep S3) (R'.keep S3) ok ok'
  obtain ⟨z, hz⟩ : ∃ z, z = cmpR f f' (lv X n * lv Y' m') (lv X' n' * lv Y m) := ⟨_, rfl⟩
  rw [← hz] at J
  have HZ := hide hz
  clear hz
  go_wp2_with fail
  refine J.mono ?_
  rintro e w4 ⟨rfl, s4⟩
  go_wp2
  go_ret
  exact ⟨ret_int HZ.out, S3.trans (sinceMono s4 S3.size)⟩

set_option maxHeartbeats 1600000 in
set_option maxRecDepth 100000 in
theorem specRatCmp_no (f f' : Bool) (a b a' b' : Option Addr) (ba oa n ca bb ob m cb ba' oa' n' ca' bb' ob' m' cb' : Nat) (X Y X' Y' : Nat → Nat) (w : World) (hn : n + n' + m + m' ≤ 1048576)
    (R : RRaw w a b ba oa n ca bb ob m cb X Y) (R' : RRaw w a' b' ba' oa' n' ca' bb' ob' m' cb' X' Y') (ok : ¬ (ratOkB f X n Y m = true ∧ ratOkB f' X' n' Y' m' = true)) :
    Calls Try.prog 18 #[.agg #[.bool f, .slice a n ca, .slice b m cb], .agg #[.bool f', .slice a' n' ca', .slice b' m' cb']] w fun e w' => e = .returned (.int .i64 2) ∧ w.Since w.heap.size w' := by
  have sA : w.Since w.heap.size ((w.alloc (.cells #[.bool f, .slice a n ca, .slice b m cb] 27)).alloc (.cells #[.bool f', .slice a' n' ca', .slice b' m' cb'] 27)) := ((World.Since.refl _ _).alloc (Nat.le_refl _) _).alloc (by simp) _
  have zA : ((w.alloc (.cells #[.bool f, .slice a n ca, .slice b m cb] 27)).alloc (.cells #[.bool f', .slice a' n' ca', .slice b' m' cb'] 27)).heap.size = w.heap.size + 1 + 1 := by simp
  have oA : Box3 ((w.alloc (.cells #[.bool f, .slice a n ca, .slice b m cb] 27)).alloc (.cells #[.bool f', .slice a' n' ca', .slice b' m' cb'] 27)) w.heap.size (.bool f) (.slice a n ca) (.slice b m cb) := (Box3.new w _ _ _ _).keep ((World.Since.refl _ _).alloc (Nat.le_refl _) _)
  have pA : Box3 ((w.alloc (.cells #[.bool f, .slice a n ca, .slice b m cb] 27)).alloc (.cells #[.bool f', .slice a' n' ca', .slice b' m' cb'] 27)) (w.heap.size + 1) (.bool f') (.slice a' n' ca') (.slice b' m' cb') := by
    have := Box3.new (w.alloc (.cells #[.bool f, .slice a n ca, .slice b m cb] 27)) (.bool f') (.slice a' n' ca') (.slice b' m' cb') 27
    simpa using this
  go_enter Try.func18, Try.ntmps18
  go_wp2_with fail
  generalize ((w.alloc (.cells #[.bool f, .slice a n ca, .slice b m cb] 27)).alloc (.cells #[.bool f', .slice a' n' ca', .slice b' m' cb'] 27)) = w1 at *
  have I1 := specRatOk_any f a b ba oa n ca bb ob m cb X Y w1 (by omega) (by omega) (R.keep sA).LX (R.keep sA).LY R.lX R.lY
  by_cases h1 : ratOkB f X n Y m = true
  · have h2 : ratOkB f' X' n' Y' m' = false := by
      cases e : ratOkB f' X' n' Y' m'
      · rfl
      · exact absurd ⟨h1, e⟩ ok
    rw [h1] at I1
    clear h1 ok
    refine I1.mono ?_
    rintro e w2 ⟨rfl, s2⟩
    have S2 : w.Since w.heap.size w2 := sA.trans (sinceMono s2 sA.size)
    have o2 := oA.keep s2
    have p2 := pA.keep s2
    have I2 := specRatOk_any f' a' b' ba' oa' n' ca' bb' ob' m' cb' X' Y' w2 (by omega) (by omega) (R'.keep S2).LX (R'.keep S2).LY R'.lX R'.lY
    rw [h2] at I2
    clear I1 oA pA
    have k0 := p2.c0
    have k1 := p2.c1
    have k2 := p2.c2
    go_wp2_with fail
    refine I2.mono ?_
    rintro e w3 ⟨rfl, s3⟩
    have S3 : w.Since w.heap.size w3 := S2.trans (sinceMono s3 S2.size)
    have o3 := o2.keep s3
    have p3 := p2.keep s3
    clear I2 k0 k1 k2 o2 p2
    go_wp2
    go_ret
    exact ⟨rfl, S3⟩
  · rw [show ratOkB f X n Y m = false by simpa using h1] at I1
    clear h1 ok
    refine I1.mono ?_
    rintro e w2 ⟨rfl, s2⟩
    go_wp2
    go_ret
    exact ⟨rfl, sA.trans (sinceMono s2 sA.size)⟩

end Go.Proofs.Ytdfcckifbbeoiaa

namespace Go.Proofs.Ytdfcckifbbeoiaa
open Go.RowKit

/-- A whole number as a Rat: its lists are not nil. -/
def WholeV (w : World) (v : Value) (N M : Nat) : Prop :=
  ∃ g n c h X Y, v = .agg #[.bool false, .slice (some ⟨g, 0, none⟩) n c, .slice (some ⟨h, 0, none⟩) 1 1] ∧ n ≤ c ∧ n ≤ M ∧ Limbs w (some ⟨g, 0, none⟩) g 0 n X ∧ (∀ j, j < n → X j < 4294967296) ∧ (0 < n → X (n - 1) ≠ 0) ∧ lv X n = N ∧ Limbs w (some ⟨h, 0, none⟩) h 0 1 Y ∧ Y 0 = 1

set_option maxHeartbeats 1600000 in
set_option maxRecDepth 100000 in
theorem lwWhole_any (a : Option Addr) (b n cap : Nat) (X : Nat → Nat) (w : World) (hn : n ≤ 1024) (hnc : n ≤ cap) (hX : Limbs w a b 0 n X) (lX : ∀ j, j < n → X j < 4294967296) :
    Calls Try.prog 13 #[.slice a n cap] w fun e w' => ∃ v, e = .returned v ∧ WholeV w' v (lv X n) n ∧ w.Since w.heap.size w' := by
  obtain ⟨i0, hi, hz0, hz1, hz2⟩ := info_parts Try.info35
  have sA : w.Since w.heap.size (w.alloc (.cells #[.bool false, .slice none 0 0, .slice none 0 0] 27)) := (World.Since.refl _ _).alloc (Nat.le_refl _) _
  have rA := Box3.new w (.bool false) (.slice none 0 0) (.slice none 0 0) 27
  have tB : (w.alloc (.cells #[.bool false, .slice none 0 0, .slice none 0 0] 27)).Since (w.alloc (.cells #[.bool false, .slice none 0 0, .slice none 0 0] 27)).heap.size ((w.alloc (.cells #[.bool false, .slice none 0 0, .slice none 0 0] 27)).alloc (.cells #[] 35)) := (World.Since.refl _ _).alloc (Nat.le_refl _) _
  have SB := sA.trans (sinceMono tB sA.size)
  have own1 := World.ownsRow_made (e := 35) (size := 1) (w.alloc (.cells #[.bool false, .slice none 0 0, .slice none 0 0] 27)) #[] 0 (Nat.le_refl _) (by decide) rfl
  have zA : (w.alloc (.cells #[.bool false, .slice none 0 0, .slice none 0 0] 27)).heap.size = w.heap.size + 1 := by simp
  rw [zA] at own1
  have HZA := hide zA
  clear zA
  have FIN : ∀ (v' : Value) (w2 : World) (k : Nat), tlen (nz X) k = tlen (nz X) n → (k = 0 ∨ nz X (k - 1) = true) → k ≤ n → v' ≠ .slice none 0 0 → w2.ownsRow (w.heap.size + 1) 35 1 v' k (ll X k) → Hid (∃ g c, v' = .slice (some ⟨g, 0, none⟩) k c ∧ k ≤ c ∧ g < w2.heap.size ∧ w.heap.size < g ∧ Limbs w2 (some ⟨g, 0, none⟩) g 0 k X ∧ (0 < k → X (k - 1) ≠ 0) ∧ lv X k = lv X n) := by
    intro v' w2 k ht hk hkn hv ho
    obtain ⟨g, c, rfl, h1, h2, h3, h4, -⟩ := own_limbs_some ho hv
    have e : k = tlen (nz X) k := by
      rcases hk with rfl | hk
      · rfl
      · cases k with
        | zero => rfl
        | succ k => rw [tlen_true (by omega) hk]
    refine ⟨g, c, rfl, h1, h3, by omega, h4, fun h0 => ?_, ?_⟩
    · rcases hk with rfl | hk
      · omega
      · simpa [nz] using hk
    · rw [e, ht, lv_tlen]
  go_enter Try.func13, Try.ntmps13
  go_wp2
  go_loop [3] (fun i => ∃ k : Nat, k ≤ n ∧ i = .int .i64 k ∧ Hid (tlen (nz X) k = tlen (nz X) n)) (fun i => (intOf i).toNat)
  case atStart => exact ⟨n, Nat.le_refl _, rfl, hide rfl⟩
  case round =>
    obtain ⟨k, hk, rfl, HT⟩ := hrel
    by_cases hlt : 0 < k
    · obtain ⟨rfl, hc⟩ := hX (k - 1) (by omega)
      have sA : w.Since w.heap.size (w.alloc (.cells #[.bool false, .slice none 0 0, .slice none 0 0] 27)) := (World.Since.refl _ _).alloc (Nat.le_refl _) _
      have hc' : (w.alloc (.cells #[.bool false, .slice none 0 0, .slice none 0 0] 27)).cell? ⟨b, k - 1, none⟩ = some (.int .u32 (X (k - 1))) := by have := (sA.cell (a := ⟨b, 0 + (k - 1), none⟩) (hX.lt (by omega))).trans hc; simpa using this
      by_cases hB : X (k - 1) = 0
      · rw [hB] at hc'
        have HB : Hid (nz X (k - 1) = false) := by simp [Hid, nz, hB]
        clear hB hc
        go_wp2
        go_round
        case rel => exact ⟨k - 1, by omega, by go_num, hide ((tlen_false hlt HB.out).trans HT.out)⟩
        case measure => simp [intOf]; omega
      · have HB : Hid (nz X (k - 1) = true) := by simp [Hid, nz, hB]
        have hne : ((X (k - 1) : Int) == 0) = false := by simp; omega
        clear hB hc
        have hXB := hX.keep SB
        go_wp2_with (at_builtin; refine wpList_append_own _ rfl _ _ 23 rfl (w.heap.size + 1) 35 i0 (.int .u32 0) 1 4 Try.underlying23 hi hz0 hz1 hz2 rfl (by decide) _ 0 [] rfl own1 ⟨b, 0, none⟩ k cap (ll X k) rfl (by rw [ll_len]; omega) (limbs_news (hXB.take hk)) (ll_one X k) (by unfold maxLen; omega) (by omega) (by simp) ?_)
        intro v' w2 hown' hgrow hnn
        have S2 : w.Since w.heap.size w2 := SB.grown hgrow SB.size (fun q hq => by have := (own1.lt q hq).1; omega)
        have r2 : Box3 w2 w.heap.size (.bool false) (.slice none 0 0) (.slice none 0 0) := (rA.keep tB).ofBlock (hgrow.block w.heap.size (rA.keep tB).lt (fun e => by have := (own1.lt _ e.symm).1; omega))
        obtain ⟨g, c, rfl, v1, v2, v3, L2, t2, e2⟩ := (FIN v' w2 k HT.out (Or.inr HB.out) hk hnn hown').out
        clear hgrow hown' hnn own1 FIN
        have t3 : w2.Since w2.heap.size (w2.alloc (.cells #[.int .u32 1] 35)) := (World.Since.refl _ _).alloc (Nat.le_refl _) _
        have r3 := r2.keep t3
        have u0 := r3.c0
        have u1 := r3.c1
        have u2 := r3.c2
        have uf0 := r3.f 0
        have uf1 := r3.f 1
        have uf2 := r3.f 2
        have o3 : Limbs (w2.alloc (.cells #[.int .u32 1] 35)) (some ⟨w2.heap.size, 0, none⟩) w2.heap.size 0 1 (fun _ => 1) := fun j hj => ⟨rfl, by rw [show 0 + j = 0 by omega]; exact World.cell?_alloc_new w2 _ _ 0⟩
        have E2 := hide e2
        clear e2
        go_wp2
        have rl := r2.lt
        have rC := ((r3.set0 (.bool false)).set1 (.slice (some ⟨g, 0, none⟩) k c)).set2 (.slice (some ⟨w2.heap.size, 0, none⟩) 1 1)
        refine bodyPost_ret (results_box3 rfl _ _ _ _ _ _ rfl rC) rfl ?_
        have M := (((Marked.refl (w2.alloc (.cells #[.int .u32 1] 35)) w.heap.size).setCell 0 (.bool false)).setCell 1 (.slice (some ⟨g, 0, none⟩) k c)).setCell 2 (.slice (some ⟨w2.heap.size, 0, none⟩) 1 1)
        exact ⟨_, rfl, ⟨g, k, c, w2.heap.size, X, fun _ => 1, rfl, v1, by omega, (L2.keep t3).marked M (fun _ => by omega), fun j hj => lX j (by omega), t2, E2.out, o3.marked M (fun _ => by omega), rfl⟩, (S2.trans (sinceMono t3 S2.size)).trans (M.since (Nat.le_refl _))⟩
    · have e : k = 0 := by omega
      subst e
      have sC : w.Since w.heap.size (((w.alloc (.cells #[.bool false, .slice (some ⟨w.heap.size + 1, 0, none⟩) 0 0, .slice (some ⟨w.heap.size + 1 + 1, 0, none⟩) 1 1] 27)).alloc (.cells #[] 35)).alloc (.cells #[.int .u32 1] 35)) := (((World.Since.refl _ _).alloc (Nat.le_refl _) _).alloc (by simp) _).alloc (by simp; omega) _
      have bC : Box3 (((w.alloc (.cells #[.bool false, .slice (some ⟨w.heap.size + 1, 0, none⟩) 0 0, .slice (some ⟨w.heap.size + 1 + 1, 0, none⟩) 1 1] 27)).alloc (.cells #[] 35)).alloc (.cells #[.int .u32 1] 35)) w.heap.size (.bool false) (.slice (some ⟨w.heap.size + 1, 0, none⟩) 0 0) (.slice (some ⟨w.heap.size + 1 + 1, 0, none⟩) 1 1) := ((Box3.new w _ _ _ _).keep ((World.Since.refl _ _).alloc (Nat.le_refl _) _)).keep ((World.Since.refl _ _).alloc (Nat.le_refl _) _)
      have oC : Limbs (((w.alloc (.cells #[.bool false, .slice (some ⟨w.heap.size + 1, 0, none⟩) 0 0, .slice (some ⟨w.heap.size + 1 + 1, 0, none⟩) 1 1] 27)).alloc (.cells #[] 35)).alloc (.cells #[.int .u32 1] 35)) (some ⟨w.heap.size + 1 + 1, 0, none⟩) (w.heap.size + 1 + 1) 0 1 (fun _ => 1) := fun j hj => ⟨rfl, by
        rw [show 0 + j = 0 by omega]
        have := World.cell?_alloc_new ((w.alloc (.cells #[.bool false, .slice (some ⟨w.heap.size + 1, 0, none⟩) 0 0, .slice (some ⟨w.heap.size + 1 + 1, 0, none⟩) 1 1] 27)).alloc (.cells #[] 35)) #[.int .u32 1] 35 0
        simpa using this⟩
      have hl : lv X n = 0 := by rw [← lv_tlen X n, ← HT.out]; rfl
      have HL := hide hl
      clear hl own1 FIN
      cases a with
      | some x =>
        go_wp2
        refine bodyPost_ret (results_box3 rfl _ _ _ _ _ _ rfl bC) rfl ?_
        exact ⟨_, rfl, ⟨w.heap.size + 1, 0, 0, w.heap.size + 1 + 1, X, fun _ => 1, rfl, Nat.le_refl _, Nat.zero_le _, fun j hj => absurd hj (by omega), fun j hj => absurd hj (by omega), fun h => absurd h (by omega), HL.out.symm, oC, rfl⟩, sC⟩
      | none =>
        go_wp2
        refine bodyPost_ret (results_box3 rfl _ _ _ _ _ _ rfl bC) rfl ?_
        exact ⟨_, rfl, ⟨w.heap.size + 1, 0, 0, w.heap.size + 1 + 1, X, fun _ => 1, rfl, Nat.le_refl _, Nat.zero_le _, fun j hj => absurd hj (by omega), fun j hj => absurd hj (by omega), fun h => absurd h (by omega), HL.out.symm, oC, rfl⟩, sC⟩

end Go.Proofs.Ytdfcckifbbeoiaa

namespace Go.Proofs.Ytdfcckifbbeoiaa
open Go.RowKit

set_option maxHeartbeats 1600000 in
set_option maxRecDepth 100000 in
/-- l1Same of two Rats that hold the same. -/
theorem l1Same_true (f : Bool) (a b a' b' : Option Addr) (g h g' h' n c m d c' d' : Nat) (X Y : Nat → Nat) (w : World) (hn : n ≤ 1048576) (hm : m ≤ 1048576) (hX : Limbs w a g 0 n X) (hY : Limbs w b h 0 m Y) (hX' : Limbs w a' g' 0 n X) (hY' : Limbs w b' h' 0 m Y) :
    Calls Try.prog 60 #[.agg #[.bool f, .slice a n c, .slice b m d], .agg #[.bool f, .slice a' n c', .slice b' m d']] w fun e w' => e = .returned (.bool true) ∧ w.Since w.heap.size w' := by
  have sA : w.Since w.heap.size ((w.alloc (.cells #[.bool f, .slice a n c, .slice b m d] 27)).alloc (.cells #[.bool f, .slice a' n c', .slice b' m d'] 27)) := ((World.Since.refl _ _).alloc (Nat.le_refl _) _).alloc (by simp) _
  have oA : Box3 ((w.alloc (.cells #[.bool f, .slice a n c, .slice b m d] 27)).alloc (.cells #[.bool f, .slice a' n c', .slice b' m d'] 27)) w.heap.size (.bool f) (.slice a n c) (.slice b m d) := (Box3.new w _ _ _ _).keep ((World.Since.refl _ _).alloc (Nat.le_refl _) _)
  have pA : Box3 ((w.alloc (.cells #[.bool f, .slice a n c, .slice b m d] 27)).alloc (.cells #[.bool f, .slice a' n c', .slice b' m d'] 27)) (w.heap.size + 1) (.bool f) (.slice a' n c') (.slice b' m d') := by
    have := Box3.new (w.alloc (.cells #[.bool f, .slice a n c, .slice b m d] 27)) (.bool f) (.slice a' n c') (.slice b' m d') 27
    simpa using this
  have kA := And.intro oA.cells pA.cells
  go_enter Try.func60, Try.ntmps60
  go_wp2
  generalize ((w.alloc (.cells #[.bool f, .slice a n c, .slice b m d] 27)).alloc (.cells #[.bool f, .slice a' n c', .slice b' m d'] 27)) = w1 at *
  go_loopw [5] (fun t wr => ∃ k : Nat, k ≤ n ∧ t = .int .i64 k ∧ Same w1 wr) (fun t _ => n - (intOf t).toNat)
  case atStart => exact ⟨0, Nat.zero_le _, rfl, Same.refl _⟩
  case round =>
    obtain ⟨k, hk, rfl, sm⟩ := hrel
    have q1 : wr.cell? ⟨w.heap.size, 1, none⟩ = some (.slice a n c) := by rw [sm.cell]; exact oA.c1
    have q2 : wr.cell? ⟨w.heap.size + 1, 1, none⟩ = some (.slice a' n c') := by rw [sm.cell]; exact pA.c1
    by_cases hlt : k < n
    · obtain ⟨rfl, x1⟩ := hX k hlt
      obtain ⟨rfl, x2⟩ := hX' k hlt
      have y1 := (sA.cell (a := ⟨_, _, none⟩) (World.block_lt_of_cell? _ _ x1)).trans x1
      have y2 := (sA.cell (a := ⟨_, _, none⟩) (World.block_lt_of_cell? _ _ x2)).trans x2
      rw [← sm.cell] at y1 y2
      rw [Nat.zero_add] at y1 y2
      have hlt' : (k : Int) < (n : Int) := by omega
      clear x1 x2
      go_wp2
      go_quiet (fail)
      go_wp2
      go_roundw
      case rel => exact ⟨k + 1, by omega, by go_num, sm.drewN _⟩
      case measure => simp [intOf]; omega
    · have q0 := q1
      have k1 := And.intro oA.cells pA.cells
      have q3 : wr.cell? ⟨w.heap.size, 2, none⟩ = some (.slice b m d) := by rw [sm.cell]; exact oA.c2
      go_wp2
      go_loopw [6] (fun t wr => ∃ k : Nat, k ≤ m ∧ t = .int .i64 k ∧ Same w1 wr) (fun t _ => m - (intOf t).toNat)
      case atStart => exact ⟨0, Nat.zero_le _, rfl, sm⟩
      case round =>
        obtain ⟨k, hk, rfl, sm⟩ := hrel
        have q1 : wr.cell? ⟨w.heap.size, 2, none⟩ = some (.slice b m d) := by rw [sm.cell]; exact oA.c2
        have q2 : wr.cell? ⟨w.heap.size + 1, 2, none⟩ = some (.slice b' m d') := by rw [sm.cell]; exact pA.c2
        by_cases hlt : k < m
        · obtain ⟨rfl, x1⟩ := hY k hlt
          obtain ⟨rfl, x2⟩ := hY' k hlt
          have y1 := (sA.cell (a := ⟨_, _, none⟩) (World.block_lt_of_cell? _ _ x1)).trans x1
          have y2 := (sA.cell (a := ⟨_, _, none⟩) (World.block_lt_of_cell? _ _ x2)).trans x2
          rw [← sm.cell] at y1 y2
          rw [Nat.zero_add] at y1 y2
          have hlt' : (k : Int) < (m : Int) := by omega
          clear x1 x2
          go_wp2
          go_quiet (fail)
          go_wp2
          go_roundw
          case rel => exact ⟨k + 1, by omega, by go_num, sm.drewN _⟩
          case measure => simp [intOf]; omega
        · go_wp2
          go_ret
          exact ⟨rfl, sA.trans (sinceMono (sm.since w1.heap.size) sA.size)⟩

set_option maxHeartbeats 800000 in
set_option maxRecDepth 100000 in
theorem same_true (f : Bool) (a b a' b' : Option Addr) (g h g' h' n c m d c' d' : Nat) (X Y : Nat → Nat) (w : World) (hn : n ≤ 1048576) (hm : m ≤ 1048576) (hX : Limbs w a g 0 n X) (hY : Limbs w b h 0 m Y) (hX' : Limbs w a' g' 0 n X) (hY' : Limbs w b' h' 0 m Y) :
    Calls Try.prog 17 #[.agg #[.bool f, .slice a n c, .slice b m d], .agg #[.bool f, .slice a' n c', .slice b' m d']] w fun e w' => e = .returned (.bool true) ∧ w.Since w.heap.size w' := by
  have sA : w.Since w.heap.size ((w.alloc (.cells #[.bool f, .slice a n c, .slice b m d] 27)).alloc (.cells #[.bool f, .slice a' n c', .slice b' m d'] 27)) := ((World.Since.refl _ _).alloc (Nat.le_refl _) _).alloc (by simp) _
  have oA : Box3 ((w.alloc (.cells #[.bool f, .slice a n c, .slice b m d] 27)).alloc (.cells #[.bool f, .slice a' n c', .slice b' m d'] 27)) w.heap.size (.bool f) (.slice a n c) (.slice b m d) := (Box3.new w _ _ _ _).keep ((World.Since.refl _ _).alloc (Nat.le_refl _) _)
  have pA : Box3 ((w.alloc (.cells #[.bool f, .slice a n c, .slice b m d] 27)).alloc (.cells #[.bool f, .slice a' n c', .slice b' m d'] 27)) (w.heap.size + 1) (.bool f) (.slice a' n c') (.slice b' m d') := by
    have := Box3.new (w.alloc (.cells #[.bool f, .slice a n c, .slice b m d] 27)) (.bool f) (.slice a' n c') (.slice b' m d') 27
    simpa using this
  have kA := And.intro oA.cells pA.cells
  go_enter Try.func17, Try.ntmps17
  go_wp2_with fail
  generalize ((w.alloc (.cells #[.bool f, .slice a n c, .slice b m d] 27)).alloc (.cells #[.bool f, .slice a' n c', .slice b' m d'] 27)) = w1 at *
  refine (l1Same_true f a b a' b' g h g' h' n c m d c' d' X Y w1 hn hm (hX.keep sA) (hY.keep sA) (hX'.keep sA) (hY'.keep sA)).mono ?_
  rintro e w2 ⟨rfl, s2⟩
  go_wp2
  go_ret
  exact ⟨rfl, sA.trans (sinceMono s2 sA.size)⟩

end Go.Proofs.Ytdfcckifbbeoiaa

namespace Go.Proofs.Ytdfcckifbbeoiaa
open Go.RowKit

theorem WholeV.keep {w w' : World} {v : Value} {N M : Nat} (h : WholeV w v N M) (s : w.Since w.heap.size w') : WholeV w' v N M := by
  obtain ⟨g, n, c, h', X, Y, h1, h2, h3, h4, h5, h6, h7, h8, h9⟩ := h
  exact ⟨g, n, c, h', X, Y, h1, h2, h3, h4.keep s, h5, h6, h7, h8.keep s, h9⟩

theorem cmp_mod {a b : Nat} (h : 0 < b) : cmpR false false (a % b) b = -1 := by
  have := Nat.mod_lt a h
  simp [cmpR, cmpN, this]
theorem lv_at1 {Y : Nat → Nat} (h : Y 0 = 1) : lv Y 1 = 1 := by simp [lv, h]
theorem whole_neg (x y : Nat) : (sumNeg false false x y && sumTop false false x y != 0) = false := by simp [sumNeg]
theorem whole_top (x y : Nat) : sumTop false false x y = x + y := by simp [sumTop]
theorem whole_in {w : World} {g n c h : Nat} {X Y : Nat → Nat} (h1 : n ≤ c) (L : Limbs w (some ⟨g, 0, none⟩) g 0 n X) (l : ∀ j, j < n → X j < 4294967296) (t : 0 < n → X (n - 1) ≠ 0) (M : Limbs w (some ⟨h, 0, none⟩) h 0 1 Y) (o : Y 0 = 1) :
    RIn w (some ⟨g, 0, none⟩) (some ⟨h, 0, none⟩) g 0 n c h 0 1 1 X Y ∧ ratOkB false X n Y 1 = true := by
  have p2 : 0 < 1 → Y (1 - 1) ≠ 0 := fun _ => by simp [o]
  refine ⟨⟨h1, Nat.le_refl _, fun h => (by cases h), fun h => (by cases h), L, M, l, fun j hj => by rw [show j = 0 by omega, o]; omega, t, p2, by omega⟩, ?_⟩
  unfold ratOkB
  rw [plainB_iff.2 t, plainB_iff.2 p2, lv_at1 o]
  simp

theorem gcd_quot {a b : Nat} (h : 0 < Nat.gcd a b) : Nat.gcd (a / Nat.gcd a b) (b / Nat.gcd a b) = 1 := by
  rw [Nat.gcd_div (Nat.gcd_dvd_left _ _) (Nat.gcd_dvd_right _ _)]; exact Nat.div_self h

theorem lv_one {X : Nat → Nat} {n : Nat} (lX : ∀ j, j < n → X j < 4294967296) (tX : 0 < n → X (n - 1) ≠ 0) (e : lv X n = 1) : n = 1 ∧ X 0 = 1 := by
  obtain ⟨rfl, h⟩ := lv_inj (X := X) (Y := fun _ => 1) (n := n) (m := 1) lX (fun _ _ => by omega) tX (fun _ => by simp) (e.trans (by simp [lv]))
  exact ⟨rfl, h 0 (by omega)⟩

set_option maxHeartbeats 800000 in
set_option maxRecDepth 100000 in
theorem divides_long (a : Option Addr) (n cap : Nat) (w : World) (hn : 1048576 < n) (hn' : n ≤ 9223372036854775807) :
    Calls Try.prog 3 #[.slice a n cap] w fun e w' => e = .returned (.bool true) ∧ w.Since w.heap.size w' := by
  have h : (1048576 : Int) < (n : Int) := by omega
  go_enter Try.func3, Try.ntmps3
  go_wp2
  go_ret
  exact ⟨rfl, World.Since.refl _ _⟩

set_option maxHeartbeats 6400000 in
set_option maxRecDepth 100000 in
theorem divides_law (a : Option Addr) (b off n cap : Nat) (X : Nat → Nat) (w : World) (hn : n ≤ 1048576) (hC : Code w a b off n X) (hw : 0 ≤ w.heap.size) (hT : Tab w) :
    Calls Try.prog 3 #[.slice a n cap] w fun e w' => e = .returned (.bool true) ∧ w.Since w.heap.size w' := by
  have hle : ¬ ((1048576 : Int) < (n : Int)) := by omega
  go_enter Try.func3, Try.ntmps3
  go_wp2_with fail
  refine (drawNatDivMod_any a b off n cap X w hn hC).mono ?_
  rintro e w1 ⟨v1, v2, rfl, ⟨aa, ga, na, ca, A, rfl, ka1, ka2, ka3, LA1, lA⟩, ⟨ab, gb, nb, cb, B, rfl, kb1, kb2, kb3, LB1, lB⟩, S1⟩
  clear hC hle
  go_wp2_with fail
  refine (lwWhole_any aa ga na ca A w1 (by omega) ka1 LA1 lA).mono ?_
  rintro e w2 ⟨v, rfl, ⟨g2, n2, c2, h2, X2, Y2, rfl, k21, k22, L2, l2, t2, e2, M2, o2⟩, s2⟩
  have S2 : w.Since w.heap.size w2 := S1.trans (sinceMono s2 S1.size)
  have LA2 := LA1.keep s2
  have LB2 := LB1.keep s2
  clear LA1 LB1 s2
  have s3 : w2.Since w2.heap.size (w2.alloc (.cells #[.bool false, .slice (some ⟨g2, 0, none⟩) n2 c2, .slice (some ⟨h2, 0, none⟩) 1 1] 27)) := (World.Since.refl _ _).alloc (Nat.le_refl _) _
  have B3 := Box3.new w2 (.bool false) (.slice (some ⟨g2, 0, none⟩) n2 c2) (.slice (some ⟨h2, 0, none⟩) 1 1) 27
  have S3 := S2.trans (sinceMono s3 S2.size)
  have LA3 := LA2.keep s3
  have LB3 := LB2.keep s3
  have L23 := L2.keep s3
  have M23 := M2.keep s3
  have z3 : w2.heap.size < (w2.alloc (.cells #[.bool false, .slice (some ⟨g2, 0, none⟩) n2 c2, .slice (some ⟨h2, 0, none⟩) 1 1] 27)).heap.size := B3.lt
  go_wp2_with fail
  generalize w2.alloc (.cells #[.bool false, .slice (some ⟨g2, 0, none⟩) n2 c2, .slice (some ⟨h2, 0, none⟩) 1 1] 27) = w3 at *
  generalize hc3 : w2.heap.size = p3 at *
  clear LA2 LB2 L2 M2 s3
  refine (lwWhole_any ab gb nb cb B w3 (by omega) kb1 LB3 lB).mono ?_
  rintro e w4 ⟨v, rfl, ⟨g4, n4, c4, h4, X4, Y4, rfl, k41, k42, L4, l4, t4, e4, M4, o4⟩, s4⟩
  have S4 : w.Since w.heap.size w4 := S3.trans (sinceMono s4 S3.size)
  have LA4 := LA3.keep s4
  have LB4 := LB3.keep s4
  have L24 := L23.keep s4
  have M24 := M23.keep s4
  have B4 := B3.keep s4
  clear LA3 LB3 L23 M23 B3 s4
  have s5 : w4.Since w4.heap.size (w4.alloc (.cells #[.bool false, .slice (some ⟨g4, 0, none⟩) n4 c4, .slice (some ⟨h4, 0, none⟩) 1 1] 27)) := (World.Since.refl _ _).alloc (Nat.le_refl _) _
  have E5 := Box3.new w4 (.bool false) (.slice (some ⟨g4, 0, none⟩) n4 c4) (.slice (some ⟨h4, 0, none⟩) 1 1) 27
  have S5 := S4.trans (sinceMono s5 S4.size)
  have LA5 := LA4.keep s5
  have LB5 := LB4.keep s5
  have L25 := L24.keep s5
  have M25 := M24.keep s5
  have L45 := L4.keep s5
  have M45 := M4.keep s5
  have B5 := B4.keep s5
  have hp34 := B4.lt
  go_wp2_with fail
  generalize w4.alloc (.cells #[.bool false, .slice (some ⟨g4, 0, none⟩) n4 c4, .slice (some ⟨h4, 0, none⟩) 1 1] 27) = w5 at *
  generalize hc5 : w4.heap.size = p5 at *
  clear LA4 LB4 L24 M24 L4 M4 B4 s5
  rcases Nat.eq_zero_or_pos (lv B nb) with hB | hB
  · refine (implNatDivMod_zero aa ab na ca gb 0 nb cb B w5 (by omega) kb1 LB5 hB).mono ?_
    rintro e w6 ⟨rfl, s6⟩
    have hn4 : n4 = 0 := (lv_zero t4).2 (e4.trans hB)
    subst hn4
    have S6 : w.Since w.heap.size w6 := S5.trans (sinceMono s6 S5.size)
    have LA6 := LA5.keep s6
    have LB6 := LB5.keep s6
    have B6 := B5.keep s6
    have E6 := E5.keep s6
    have i1 := E6.c1
    have i2 := B6.c1
    clear LA5 LB5 B5 E5 s6 L25 M25 L45 M45
    go_wp2_with fail
    refine (implNatGcd_any aa ab ga 0 na ca gb 0 nb cb A B w6 (Nat.zero_le _) (by omega) (by omega) ka1 kb1 ka3 kb3 LA6 LB6 lA lB (hT.stay hw S6)).mono ?_
    rintro e wG ⟨v, rfl, ⟨ag, gg, ng, cg, G, rfl, kg1, kg2, LG, kg3, -, lG, tG, eG⟩, sG⟩
    have SG : w.Since w.heap.size wG := S6.trans (sinceMono sG S6.size)
    have LAG := LA6.keep sG
    have LBG := LB6.keep sG
    have BG := B6.keep sG
    have EG := E6.keep sG
    have j1 := BG.c1
    have j2 := EG.c1
    clear sG
    by_cases z1 : n2 = 0
    · have x1 : lv A na = 0 := by rw [← e2, z1]; rfl
      rw [x1, hB, Nat.gcd_zero_left] at eG
      have x3 : ng = 0 := (lv_zero tG).2 eG
      subst z1 x3
      clear eG e2 e4 x1
      go_wp2
      go_ret
      exact ⟨rfl, SG⟩
    · have hpos : 0 < Nat.gcd (lv A na) (lv B nb) := Nat.gcd_pos_of_pos_left _ (by
        rcases Nat.eq_zero_or_pos (lv A na) with h | h
        · exact absurd ((lv_zero t2).2 (e2.trans h)) z1
        · exact h)
      have h2f : ((n2 : Int) == 0) = false := by simp; omega
      clear e2 e4 t2 t4 z1
      have hG0 : 0 < lv G ng := by rw [eG]; exact hpos
      have hng : 0 < ng := by
        rcases Nat.eq_zero_or_pos ng with h | h
        · subst h; simp [lv] at hG0
        · exact h
      have hng2 : ng ≤ 64 := by
        rcases Nat.eq_zero_or_pos (lv A na) with h | h
        · have := lv_len_le (X := G) (Y := B) (n := ng) (m := nb) lB tG (by rw [eG, h, Nat.gcd_zero_left]; exact Nat.le_refl _)
          omega
        · have := lv_len_le (X := G) (Y := A) (n := ng) (m := na) lA tG (by rw [eG]; exact Nat.gcd_le_left _ h)
          omega
      have JA := implNatDivMod_any aa ag ga na ca gg ng cg A G wG (by omega) (by omega) ka1 kg1 ka3 LAG LG lA lG hG0
      rw [eG, Nat.mod_eq_zero_of_dvd (Nat.gcd_dvd_left _ _)] at JA
      have HG := hide eG
      have HG0 := hide hG0
      have HP := hide hpos
      have hgf : ((ng : Int) == 0) = false := by simp; omega
      clear eG hG0 hpos
      go_wp2_with fail
      refine JA.mono ?_
      rintro e wH ⟨vp, vu, gp, gu, rfl, Np, Nu, kp1, kp2, -, sH⟩
      obtain ⟨ap, np, cp, Pp, rfl, q1, q2, q3, Lp, -, lp, tp, ep⟩ := Np
      obtain ⟨au, nu, cu, Pu, rfl, -, -, -, -, -, -, tu, eu⟩ := Nu
      have hu0 : nu = 0 := (lv_zero tu).2 eu
      subst hu0
      have SH : w.Since w.heap.size wH := SG.trans (sinceMono sH SG.size)
      have LBH := LBG.keep sH
      have LGH := LG.keep sH
      have JB := implNatDivMod_any ab ag gb nb cb gg ng cg B G wH (by omega) (by omega) kb1 kg1 kb3 LBH LGH lB lG HG0.out
      rw [HG.out, Nat.mod_eq_zero_of_dvd (Nat.gcd_dvd_right _ _)] at JB
      have Ep := hide ep
      clear JA ep eu tu sH
      go_wp2_with fail
      refine JB.mono ?_
      rintro e wI ⟨vs, vv, gs, gv, rfl, Ns, Nv, ks1, ks2, -, sI⟩
      obtain ⟨as1, ns, cs, Ps, rfl, r1, r2, r3, Ls, -, ls, ts, es⟩ := Ns
      obtain ⟨av, nv, cv, Pv, rfl, -, -, -, -, -, -, tv, ev⟩ := Nv
      have hv0 : nv = 0 := (lv_zero tv).2 ev
      subst hv0
      have SI : w.Since w.heap.size wI := SH.trans (sinceMono sI SH.size)
      have JC := implNatGcd_any ap as1 gp 0 np cp gs 0 ns cs Pp Ps wI (Nat.zero_le _) (by omega) (by omega) q1 r1 q3 r3 (Lp.keep sI) Ls lp ls (hT.stay hw SI)
      rw [Ep.out, es, gcd_quot HP.out] at JC
      clear JB es ev tv sI
      go_wp2_with fail
      refine JC.mono ?_
      rintro e wJ ⟨v, rfl, ⟨ao, go, no, co, O, rfl, ko1, ko2, LO, ko3, -, lO, tO, eO⟩, sJ⟩
      obtain ⟨hno, hO0⟩ := lv_one lO tO eO
      subst hno
      obtain ⟨rfl, cO⟩ := LO 0 (by omega)
      rw [hO0, Nat.zero_add] at cO
      have SJ : w.Since w.heap.size wJ := SI.trans (sinceMono sJ SI.size)
      clear JC eO LO
      go_wp2
      go_ret
      exact ⟨rfl, SJ⟩
  · refine (implNatDivMod_any aa ab ga na ca gb nb cb A B w5 (by omega) (by omega) ka1 kb1 ka3 LA5 LB5 lA lB hB).mono ?_
    rintro e w6 ⟨vq, vr, gq, gr, rfl, Nq, Nr, k61, k62, -, s6⟩
    obtain ⟨aq, mq, cq, Q, rfl, kq1, kq2, kq3, Lq6, -, lq, tq, eq⟩ := Nq
    obtain ⟨ar, mr, cr, Rr, rfl, kr1, kr2, kr3, Lr6, -, lr, tr, er⟩ := Nr
    have hn4 : 0 < n4 := by
      rcases Nat.eq_zero_or_pos n4 with h | h
      · rw [h] at e4; simp [lv] at e4; omega
      · exact h
    have h4g : (0 : Int) < (n4 : Int) := by omega
    have h4f : ((n4 : Int) == 0) = false := by simp; omega
    have S6 : w.Since w.heap.size w6 := S5.trans (sinceMono s6 S5.size)
    have LA6 := LA5.keep s6
    have LB6 := LB5.keep s6
    have B6 := B5.keep s6
    have E6 := E5.keep s6
    have L26 := L25.keep s6
    have M26 := M25.keep s6
    have L46 := L45.keep s6
    have M46 := M45.keep s6
    have i1 := E6.c1
    have EQ := hide eq
    have ER := hide er
    have E2 := hide e2
    have E4 := hide e4
    have HB := hide hB
    clear LA5 LB5 B5 E5 s6 L25 M25 L45 M45 eq er e2 e4 hB
    go_wp2_with fail
    refine (implNatMul_any aq ab gq 0 mq cq gb 0 nb cb Q B w6 (by omega) (by omega) kq1 kb1 Lq6 LB6 lq lB).mono ?_
    rintro e w7 ⟨v, rfl, ⟨am, gm, mm, cm, Pm, rfl, km1, km2, Lm7, km3, -, lm, tm, em⟩, s7⟩
    have S7 : w.Since w.heap.size w7 := S6.trans (sinceMono s7 S6.size)
    have EM := hide em
    clear em
    go_wp2_with fail
    refine (lwWhole_any am gm mm cm Pm w7 (by omega) km1 Lm7 lm).mono ?_
    rintro e w8 ⟨v, rfl, ⟨g8, n8, c8, h8, X8, Y8, rfl, k81, k82, L8, l8, t8, e8, M8, o8⟩, s8⟩
    have S8 : w.Since w.heap.size w8 := S7.trans (sinceMono s8 S7.size)
    have Lr8 := (Lr6.keep s7).keep s8
    have E8' := hide e8
    clear e8
    go_wp2_with fail
    refine (lwWhole_any ar gr mr cr Rr w8 (by omega) kr1 Lr8 lr).mono ?_
    rintro e w9 ⟨v, rfl, ⟨g9, n9, c9, h9, X9, Y9, rfl, k91, k92, L9, l9, t9, e9, M9, o9⟩, s9⟩
    have S9 : w.Since w.heap.size w9 := S8.trans (sinceMono s9 S8.size)
    have R8 := whole_in k81 (L8.keep s9) l8 t8 (M8.keep s9) o8
    have R9 := whole_in k91 L9 l9 t9 M9 o9
    have JA := specRatAdd_ok false false ⟨g8, 0, none⟩ ⟨h8, 0, none⟩ ⟨g9, 0, none⟩ ⟨h9, 0, none⟩ g8 0 n8 c8 h8 0 1 1 g9 0 n9 c9 h9 0 1 1 X8 Y8 X9 Y9 w9 (by omega) R8.1 R9.1 R8.2 R9.2
    rw [lv_at1 o8, lv_at1 o9, E8'.out, e9, EM.out, EQ.out, ER.out, whole_neg, whole_top, Nat.mul_one, Nat.mul_one, Nat.mul_one, Nat.gcd_one_right, Nat.div_one, Nat.div_one, Nat.div_add_mod'] at JA
    clear R8 R9 e9 L8 M8 L9 M9
    go_wp2_with fail
    refine JA.mono ?_
    rintro e wA ⟨v, rfl, ⟨x1, x2, gA, hA, rfl, NA, DA, -, -, -⟩, sA⟩
    have SA : w.Since w.heap.size wA := S9.trans (sinceMono sA S9.size)
    obtain ⟨aA, qA, cA, YA, rfl, -, -, -, LNA, -, lNA, tNA, eNA⟩ := NA
    obtain ⟨aD, qD, cD, YD, rfl, -, -, -, LDA, -, lDA, tDA, eDA⟩ := DA
    obtain ⟨rfl, hY2⟩ := lv_inj lNA l2 tNA t2 (eNA.trans E2.out.symm)
    obtain ⟨rfl, hD0⟩ := lv_one lDA tDA eDA
    have sB := ((s7.trans (sinceMono s8 s7.size)).trans (sinceMono s9 (Nat.le_trans s7.size s8.size))).trans (sinceMono sA (Nat.le_trans s7.size (Nat.le_trans s8.size s9.size)))
    have LAA := LA6.keep sB
    have LBA := LB6.keep sB
    have BA := B6.keep sB
    have EA := E6.keep sB
    have L2A := (L26.keep sB).congr (fun j hj => (hY2 j hj).symm)
    have M2A := (M26.keep sB).congr (Y := YD) (fun j hj => by rw [show j = 0 by omega, o2, hD0])
    have L4A := L46.keep sB
    have M4A := M46.keep sB
    have LrA := Lr6.keep sB
    clear JA eNA eDA LA6 LB6 B6 E6 L26 M26 L46 M46 Lr6 Lr8 sB s7 s8 s9 sA Lm7 Lq6 i1
    have tK : wA.Since wA.heap.size (wA.alloc (.cells #[.bool false, .slice aA qA cA, .slice aD 1 cD] 27)) := (World.Since.refl _ _).alloc (Nat.le_refl _) _
    have KK := Box3.new wA (.bool false) (.slice aA qA cA) (.slice aD 1 cD) 27
    have SK := SA.trans (sinceMono tK SA.size)
    have LAK := LAA.keep tK
    have LBK := LBA.keep tK
    have BK := BA.keep tK
    have EK := EA.keep tK
    have L2K := L2A.keep tK
    have M2K := M2A.keep tK
    have L4K := L4A.keep tK
    have M4K := M4A.keep tK
    have LrK := LrA.keep tK
    have LNK := LNA.keep tK
    have LDK := LDA.keep tK
    go_wp2_with fail
    generalize (wA.alloc (.cells #[.bool false, .slice aA qA cA, .slice aD 1 cD] 27)) = wK at *
    generalize hpK : wA.heap.size = pK at *
    clear LAA LBA BA EA L2A M2A L4A M4A LrA LNA LDA tK hpK
    have kc := And.intro KK.cells (And.intro BK.cells EK.cells)
    have J1 := same_true false aA aD (some ⟨g2, 0, none⟩) (some ⟨h2, 0, none⟩) gA hA g2 h2 qA cA 1 cD c2 1 YA YD wK.drew (by omega) (by omega) LNK LDK L2K M2K
    go_region_held3 (fun w' => w'.cell? ⟨pK, 0, none⟩ = some (.bool false) ∧ w'.cell? ⟨pK, 1, none⟩ = some (.slice aA qA cA) ∧ w'.cell? ⟨pK, 2, none⟩ = some (.slice aD 1 cD) ∧ w'.cell? ⟨p3, 0, none⟩ = some (.bool false) ∧ w'.cell? ⟨p3, 1, none⟩ = some (.slice (some ⟨g2, 0, none⟩) qA c2) ∧ w'.cell? ⟨p3, 2, none⟩ = some (.slice (some ⟨h2, 0, none⟩) 1 1) ∧ w'.cell? ⟨p5, 0, none⟩ = some (.bool false) ∧ w'.cell? ⟨p5, 1, none⟩ = some (.slice (some ⟨g4, 0, none⟩) n4 c4) ∧ w'.cell? ⟨p5, 2, none⟩ = some (.slice (some ⟨h4, 0, none⟩) 1 1)) (go_keep)
      (first
        | (go_at_call 17
           with_reducible refine J1.mono ?_
           rintro e wL ⟨rfl, sL⟩
           have SL : w.Since w.heap.size wL := (since_drew SK).trans (sinceMono sL SK.size)
           have KL := KK.drew.keep sL
           have BL := BK.drew.keep sL
           have EL := EK.drew.keep sL
           have kl := And.intro KL.cells (And.intro BL.cells EL.cells)
           have LAL : Limbs wL aa ga 0 na A := Limbs.keep (w := wK.drew) LAK sL
           have LBL : Limbs wL ab gb 0 nb B := Limbs.keep (w := wK.drew) LBK sL
           have L4L : Limbs wL (some ⟨g4, 0, none⟩) g4 0 n4 X4 := Limbs.keep (w := wK.drew) L4K sL
           have M4L : Limbs wL (some ⟨h4, 0, none⟩) h4 0 1 Y4 := Limbs.keep (w := wK.drew) M4K sL
           have LrL : Limbs wL ar gr 0 mr Rr := Limbs.keep (w := wK.drew) LrK sL
           have J2 := lwWhole_any ar gr mr cr Rr wL (by omega) kr1 LrL lr)
        | (go_at_call 13
           with_reducible refine J2.mono ?_
           rintro e wM ⟨v, rfl, ⟨gM, nM, cM, hM, XM, YM, rfl, kM1, kM2, LM, lM, tM, eM, MM, oM⟩, sM⟩
           have SM : w.Since w.heap.size wM := SL.trans (sinceMono sM SL.size)
           have KM := KL.keep sM
           have BM := BL.keep sM
           have EM2 := EL.keep sM
           have km := And.intro KM.cells (And.intro BM.cells EM2.cells)
           have LAM := LAL.keep sM
           have LBM := LBL.keep sM
           have RM := whole_in kM1 LM lM tM MM oM
           have R4 := whole_in k41 (L4L.keep sM) l4 t4 (M4L.keep sM) o4
           have J3 := specRatCmp_ok false false ⟨gM, 0, none⟩ ⟨hM, 0, none⟩ ⟨g4, 0, none⟩ ⟨h4, 0, none⟩ gM 0 nM cM hM 0 1 1 g4 0 n4 c4 h4 0 1 1 XM YM X4 Y4 wM (by omega) RM.1 R4.1 RM.2 R4.2
           rw [lv_at1 oM, lv_at1 o4, eM, E4.out, ER.out, Nat.mul_one, Nat.mul_one, cmp_mod HB.out] at J3)
        | (go_at_call 18
           with_reducible refine J3.mono ?_
           rintro e wN ⟨rfl, sN⟩
           have SN : w.Since w.heap.size wN := SM.trans (sinceMono sN SM.size)
           have KN := KM.keep sN
           have BN := BM.keep sN
           have EN := EM2.keep sN
           have kn := And.intro KN.cells (And.intro BN.cells EN.cells)
           have LAN := LAM.keep sN
           have LBN := LBM.keep sN))
    clear J1 J2 J3 SL SM KL BL EL KM BM EM2 kl km LAL LBL L4L M4L LrL LAM LBM sL sM sN kc kn KK BK EK LAK LBK L2K M2K L4K M4K LrK LNK LDK RM R4 LM MM eM
    go_wp2_with fail
    refine (implNatGcd_any aa ab ga 0 na ca gb 0 nb cb A B wN (Nat.zero_le _) (by omega) (by omega) ka1 kb1 ka3 kb3 LAN LBN lA lB (hT.stay hw SN)).mono ?_
    rintro e wG ⟨v, rfl, ⟨ag, gg, ng, cg, G, rfl, kg1, kg2, LG, kg3, -, lG, tG, eG⟩, sG⟩
    have SG : w.Since w.heap.size wG := SN.trans (sinceMono sG SN.size)
    have LAG := LAN.keep sG
    have LBG := LBN.keep sG
    have BG := BN.keep sG
    have EG := EN.keep sG
    have j1 := BG.c1
    have j2 := EG.c1
    clear sG
    have hpos : 0 < Nat.gcd (lv A na) (lv B nb) := Nat.gcd_pos_of_pos_right _ HB.out
    have hG0 : 0 < lv G ng := by rw [eG]; exact hpos
    have hng : 0 < ng := by
      rcases Nat.eq_zero_or_pos ng with h | h
      · subst h; simp [lv] at hG0
      · exact h
    have hng2 : ng ≤ 64 := by
      rcases Nat.eq_zero_or_pos (lv A na) with h | h
      · have := lv_len_le (X := G) (Y := B) (n := ng) (m := nb) lB tG (by rw [eG, h, Nat.gcd_zero_left]; exact Nat.le_refl _)
        omega
      · have := lv_len_le (X := G) (Y := A) (n := ng) (m := na) lA tG (by rw [eG]; exact Nat.gcd_le_left _ h)
        omega
    have JA := implNatDivMod_any aa ag ga na ca gg ng cg A G wG (by omega) (by omega) ka1 kg1 ka3 LAG LG lA lG hG0
    rw [eG, Nat.mod_eq_zero_of_dvd (Nat.gcd_dvd_left _ _)] at JA
    have HG := hide eG
    have HG0 := hide hG0
    have HP := hide hpos
    have hgf : ((ng : Int) == 0) = false := by simp; omega
    clear eG hG0 hpos
    rcases Nat.eq_zero_or_pos qA with hq0 | hq0
    · subst hq0
      go_wp2_with fail
      refine JA.mono ?_
      rintro e wH ⟨vp, vu, gp, gu, rfl, Np, Nu, kp1, kp2, -, sH⟩
      obtain ⟨ap, np, cp, Pp, rfl, q1, q2, q3, Lp, -, lp, tp, ep⟩ := Np
      obtain ⟨au, nu, cu, Pu, rfl, -, -, -, -, -, -, tu, eu⟩ := Nu
      have hu0 : nu = 0 := (lv_zero tu).2 eu
      subst hu0
      have SH : w.Since w.heap.size wH := SG.trans (sinceMono sH SG.size)
      have LBH := LBG.keep sH
      have LGH := LG.keep sH
      have JB := implNatDivMod_any ab ag gb nb cb gg ng cg B G wH (by omega) (by omega) kb1 kg1 kb3 LBH LGH lB lG HG0.out
      rw [HG.out, Nat.mod_eq_zero_of_dvd (Nat.gcd_dvd_right _ _)] at JB
      have Ep := hide ep
      clear JA ep eu tu sH
      go_wp2_with fail
      refine JB.mono ?_
      rintro e wI ⟨vs, vv, gs, gv, rfl, Ns, Nv, ks1, ks2, -, sI⟩
      obtain ⟨as1, ns, cs, Ps, rfl, r1, r2, r3, Ls, -, ls, ts, es⟩ := Ns
      obtain ⟨av, nv, cv, Pv, rfl, -, -, -, -, -, -, tv, ev⟩ := Nv
      have hv0 : nv = 0 := (lv_zero tv).2 ev
      subst hv0
      have SI : w.Since w.heap.size wI := SH.trans (sinceMono sI SH.size)
      have JC := implNatGcd_any ap as1 gp 0 np cp gs 0 ns cs Pp Ps wI (Nat.zero_le _) (by omega) (by omega) q1 r1 q3 r3 (Lp.keep sI) Ls lp ls (hT.stay hw SI)
      rw [Ep.out, es, gcd_quot HP.out] at JC
      clear JB es ev tv sI
      go_wp2_with fail
      refine JC.mono ?_
      rintro e wJ ⟨v, rfl, ⟨ao, go, no, co, O, rfl, ko1, ko2, LO, ko3, -, lO, tO, eO⟩, sJ⟩
      obtain ⟨hno, hO0⟩ := lv_one lO tO eO
      subst hno
      obtain ⟨rfl, cO⟩ := LO 0 (by omega)
      rw [hO0, Nat.zero_add] at cO
      have SJ : w.Since w.heap.size wJ := SI.trans (sinceMono sJ SI.size)
      clear JC eO LO
      go_wp2
      go_ret
      exact ⟨rfl, SJ⟩
    · have h2f : ((qA : Int) == 0) = false := by simp; omega
      go_wp2_with fail
      refine JA.mono ?_
      rintro e wH ⟨vp, vu, gp, gu, rfl, Np, Nu, kp1, kp2, -, sH⟩
      obtain ⟨ap, np, cp, Pp, rfl, q1, q2, q3, Lp, -, lp, tp, ep⟩ := Np
      obtain ⟨au, nu, cu, Pu, rfl, -, -, -, -, -, -, tu, eu⟩ := Nu
      have hu0 : nu = 0 := (lv_zero tu).2 eu
      subst hu0
      have SH : w.Since w.heap.size wH := SG.trans (sinceMono sH SG.size)
      have LBH := LBG.keep sH
      have LGH := LG.keep sH
      have JB := implNatDivMod_any ab ag gb nb cb gg ng cg B G wH (by omega) (by omega) kb1 kg1 kb3 LBH LGH lB lG HG0.out
      rw [HG.out, Nat.mod_eq_zero_of_dvd (Nat.gcd_dvd_right _ _)] at JB
      have Ep := hide ep
      clear JA ep eu tu sH
      go_wp2_with fail
      refine JB.mono ?_
      rintro e wI ⟨vs, vv, gs, gv, rfl, Ns, Nv, ks1, ks2, -, sI⟩
      obtain ⟨as1, ns, cs, Ps, rfl, r1, r2, r3, Ls, -, ls, ts, es⟩ := Ns
      obtain ⟨av, nv, cv, Pv, rfl, -, -, -, -, -, -, tv, ev⟩ := Nv
      have hv0 : nv = 0 := (lv_zero tv).2 ev
      subst hv0
      have SI : w.Since w.heap.size wI := SH.trans (sinceMono sI SH.size)
      have JC := implNatGcd_any ap as1 gp 0 np cp gs 0 ns cs Pp Ps wI (Nat.zero_le _) (by omega) (by omega) q1 r1 q3 r3 (Lp.keep sI) Ls lp ls (hT.stay hw SI)
      rw [Ep.out, es, gcd_quot HP.out] at JC
      clear JB es ev tv sI
      go_wp2_with fail
      refine JC.mono ?_
      rintro e wJ ⟨v, rfl, ⟨ao, go, no, co, O, rfl, ko1, ko2, LO, ko3, -, lO, tO, eO⟩, sJ⟩
      obtain ⟨hno, hO0⟩ := lv_one lO tO eO
      subst hno
      obtain ⟨rfl, cO⟩ := LO 0 (by omega)
      rw [hO0, Nat.zero_add] at cO
      have SJ : w.Since w.heap.size wJ := SI.trans (sinceMono sJ SI.size)
      clear JC eO LO
      go_wp2
      go_ret
      exact ⟨rfl, SJ⟩


end Go.Proofs.Ytdfcckifbbeoiaa
