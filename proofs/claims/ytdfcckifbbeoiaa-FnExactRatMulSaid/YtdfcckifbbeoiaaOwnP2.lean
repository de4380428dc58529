import Derived.Test.YtdfcckifbbeoiaaG2P5
import Derived.Test.YtdfcckifbbeoiaaG2P3
namespace Go.Proofs.Ytdfcckifbbeoiaa
open Go.RowKit

set_option maxHeartbeats 1600000 in
set_option maxRecDepth 100000 in
/-- spec.RatMul where both are valid. -/
theorem specRatMul_ok (f f' : Bool) (a b a' b' : Option Addr) (ba oa n ca bb ob m cb ba' oa' n' ca' bb' ob' m' cb' : Nat) (X Y X' Y' : Nat → Nat) (w : World) (hn : n + n' + m + m' ≤ 1048576)
    (R : RIn w a b ba oa n ca bb ob m cb X Y) (R' : RIn w a' b' ba' oa' n' ca' bb' ob' m' cb' X' Y') (ok : ratOkB f X n Y m = true) (ok' : ratOkB f' X' n' Y' m' = true) :
    Calls Try.prog 39 #[.agg #[.bool f, .slice a n ca, .slice b m cb], .agg #[.bool f', .slice a' n' ca', .slice b' m' cb']] w fun e w' => ∃ v, e = .returned v ∧
      RatV w' v ((f != f') && lv X n * lv X' n' != 0) (lv X n * lv X' n' / Nat.gcd (lv X n * lv X' n') (lv Y m * lv Y' m')) (lv Y m * lv Y' m' / Nat.gcd (lv X n * lv X' n') (lv Y m * lv Y' m')) w.heap.size 4194304 ∧ w.Since w.heap.size w' := by
  have sA : w.Since w.heap.size (((w.alloc (.cells #[.bool f, .slice a n ca, .slice b m cb] 27)).alloc (.cells #[.bool f', .slice a' n' ca', .slice b' m' cb'] 27)).alloc (.cells #[.bool false, .slice none 0 0, .slice none 0 0] 27)) := (((World.Since.refl _ _).alloc (Nat.le_refl _) _).alloc (by simp) _).alloc (by simp; omega) _
  have zA : (((w.alloc (.cells #[.bool f, .slice a n ca, .slice b m cb] 27)).alloc (.cells #[.bool f', .slice a' n' ca', .slice b' m' cb'] 27)).alloc (.cells #[.bool false, .slice none 0 0, .slice none 0 0] 27)).heap.size = w.heap.size + 1 + 1 + 1 := by simp
  have oA : Box3 (((w.alloc (.cells #[.bool f, .slice a n ca, .slice b m cb] 27)).alloc (.cells #[.bool f', .slice a' n' ca', .slice b' m' cb'] 27)).alloc (.cells #[.bool false, .slice none 0 0, .slice none 0 0] 27)) w.heap.size (.bool f) (.slice a n ca) (.slice b m cb) := ((Box3.new w _ _ _ _).keep ((World.Since.refl _ _).alloc (Nat.le_refl _) _)).keep ((World.Since.refl _ _).alloc (Nat.le_refl _) _)
  have pA : Box3 (((w.alloc (.cells #[.bool f, .slice a n ca, .slice b m cb] 27)).alloc (.cells #[.bool f', .slice a' n' ca', .slice b' m' cb'] 27)).alloc (.cells #[.bool false, .slice none 0 0, .slice none 0 0] 27)) (w.heap.size + 1) (.bool f') (.slice a' n' ca') (.slice b' m' cb') := by
    have := (Box3.new (w.alloc (.cells #[.bool f, .slice a n ca, .slice b m cb] 27)) (.bool f') (.slice a' n' ca') (.slice b' m' cb') 27).keep ((World.Since.refl _ _).alloc (Nat.le_refl _) (.cells #[.bool false, .slice none 0 0, .slice none 0 0] 27))
    simpa using this
  have rA : Box3 (((w.alloc (.cells #[.bool f, .slice a n ca, .slice b m cb] 27)).alloc (.cells #[.bool f', .slice a' n' ca', .slice b' m' cb'] 27)).alloc (.cells #[.bool false, .slice none 0 0, .slice none 0 0] 27)) (w.heap.size + 1 + 1) (.bool false) (.slice none 0 0) (.slice none 0 0) := by
    have := Box3.new ((w.alloc (.cells #[.bool f, .slice a n ca, .slice b m cb] 27)).alloc (.cells #[.bool f', .slice a' n' ca', .slice b' m' cb'] 27)) (.bool false) (.slice none 0 0) (.slice none 0 0) 27
    simpa using this
  have m1 := R.m0
  have m1' := R'.m0
  go_enter Try.func39, Try.ntmps39
  go_wp2_with fail
  generalize (((w.alloc (.cells #[.bool f, .slice a n ca, .slice b m cb] 27)).alloc (.cells #[.bool f', .slice a' n' ca', .slice b' m' cb'] 27)).alloc (.cells #[.bool false, .slice none 0 0, .slice none 0 0] 27)) = w1 at *
  have RA := R.keep sA
  have RA' := R'.keep sA
  have I1 := specRatOk_any f a b ba oa n ca bb ob m cb X Y w1 (by omega) (by omega) RA.LX RA.LY R.lX R.lY
  rw [ok] at I1
  refine I1.mono ?_
  rintro e w2 ⟨rfl, s2⟩
  have o2 := oA.keep s2
  have p2 := pA.keep s2
  have r2 := rA.keep s2
  have S2 : w.Since w.heap.size w2 := sA.trans (sinceMono s2 sA.size)
  have z2 := s2.size
  have RB' := RA'.keep s2
  have I2 := specRatOk_any f' a' b' ba' oa' n' ca' bb' ob' m' cb' X' Y' w2 (by omega) (by omega) RB'.LX RB'.LY R'.lX R'.lY
  rw [ok'] at I2
  clear I1 oA pA rA
  have k0 := p2.c0
  have k1 := p2.c1
  have k2 := p2.c2
  go_wp2_with fail
  refine I2.mono ?_
  rintro e w3 ⟨rfl, s3⟩
  have S3 : w.Since w.heap.size w3 := S2.trans (sinceMono s3 S2.size)
  have z3 := s3.size
  have o3 := o2.keep s3
  have p3 := p2.keep s3
  have r3 := r2.keep s3
  clear I2 k0 k1 k2 o2 p2 r2
  have k0 := p3.c0
  have k1 := p3.c1
  have k2 := p3.c2
  have j0 := o3.c0
  have j1 := o3.c1
  have j2 := o3.c2
  have JP := l1Mul_any f f' a b a' b' ba oa n ca bb ob m cb ba' oa' n' ca' bb' ob' m' cb' X Y X' Y' w3 hn (R.keep S3) (R'.keep S3)
  go_wp2_with fail
  refine JP.mono ?_
  rintro e w6 ⟨v, rfl, ⟨x1, x2, g6, h6, rfl, N6, D6, y1, y2, y3⟩, s6⟩
  have rB := r3.keep s6
  have N6' := N6
  have D6' := D6
  obtain ⟨a1, q1, c1, Y1, rfl, -⟩ := N6
  obtain ⟨a2, q2, c2, Y2, rfl, -⟩ := D6
  have S6 : w.Since w.heap.size w6 := S3.trans (sinceMono s6 S3.size)
  have u0 := rB.c0
  have u1 := rB.c1
  have u2 := rB.c2
  have uf0 := rB.f 0
  have uf1 := rB.f 1
  have uf2 := rB.f 2
  obtain ⟨neg, hneg⟩ : ∃ neg, (f != f' && lv X n * lv X' n' != 0) = neg := ⟨_, rfl⟩
  rw [hneg]
  have hneg := hide hneg
  clear JP
  go_wp2
  have rC := ((rB.set0 (.bool neg)).set1 (.slice a1 q1 c1)).set2 (.slice a2 q2 c2)
  refine bodyPost_ret (results_box3 rfl _ _ _ _ _ _ rfl rC) rfl ?_
  have M : Marked w6 _ (w.heap.size + 1 + 1) := (((Marked.refl w6 _).setCell 0 (.bool neg)).setCell 1 (.slice a1 q1 c1)).setCell 2 (.slice a2 q2 c2)
  exact ⟨_, rfl, ⟨_, _, g6, h6, by rw [hneg.out], N6'.marked M (by omega), D6'.marked M (by omega), by omega, by omega, y3⟩, S6.trans (M.since (by omega))⟩

set_option maxHeartbeats 1600000 in
set_option maxRecDepth 100000 in
/-- spec.RatMul where one is not valid. -/
theorem specRatMul_no (f f' : Bool) (a b a' b' : Option Addr) (ba oa n ca bb ob m cb ba' oa' n' ca' bb' ob' m' cb' : Nat) (X Y X' Y' : Nat → Nat) (w : World) (hn : n + n' + m + m' ≤ 1048576)
    (R : RRaw w a b ba oa n ca bb ob m cb X Y) (R' : RRaw w a' b' ba' oa' n' ca' bb' ob' m' cb' X' Y') (ok : ¬ (ratOkB f X n Y m = true ∧ ratOkB f' X' n' Y' m' = true)) :
    Calls Try.prog 39 #[.agg #[.bool f, .slice a n ca, .slice b m cb], .agg #[.bool f', .slice a' n' ca', .slice b' m' cb']] w fun e w' => ∃ v, e = .returned v ∧ RatV w' v false 0 1 w.heap.size 4194304 ∧ w.Since w.heap.size w' := by
  have sA : w.Since w.heap.size (((w.alloc (.cells #[.bool f, .slice a n ca, .slice b m cb] 27)).alloc (.cells #[.bool f', .slice a' n' ca', .slice b' m' cb'] 27)).alloc (.cells #[.bool false, .slice none 0 0, .slice none 0 0] 27)) := (((World.Since.refl _ _).alloc (Nat.le_refl _) _).alloc (by simp) _).alloc (by simp; omega) _
  have zA : (((w.alloc (.cells #[.bool f, .slice a n ca, .slice b m cb] 27)).alloc (.cells #[.bool f', .slice a' n' ca', .slice b' m' cb'] 27)).alloc (.cells #[.bool false, .slice none 0 0, .slice none 0 0] 27)).heap.size = w.heap.size + 1 + 1 + 1 := by simp
  have pA : Box3 (((w.alloc (.cells #[.bool f, .slice a n ca, .slice b m cb] 27)).alloc (.cells #[.bool f', .slice a' n' ca', .slice b' m' cb'] 27)).alloc (.cells #[.bool false, .slice none 0 0, .slice none 0 0] 27)) (w.heap.size + 1) (.bool f') (.slice a' n' ca') (.slice b' m' cb') := by
    have := (Box3.new (w.alloc (.cells #[.bool f, .slice a n ca, .slice b m cb] 27)) (.bool f') (.slice a' n' ca') (.slice b' m' cb') 27).keep ((World.Since.refl _ _).alloc (Nat.le_refl _) (.cells #[.bool false, .slice none 0 0, .slice none 0 0] 27))
    simpa using this
  have rA : Box3 (((w.alloc (.cells #[.bool f, .slice a n ca, .slice b m cb] 27)).alloc (.cells #[.bool f', .slice a' n' ca', .slice b' m' cb'] 27)).alloc (.cells #[.bool false, .slice none 0 0, .slice none 0 0] 27)) (w.heap.size + 1 + 1) (.bool false) (.slice none 0 0) (.slice none 0 0) := by
    have := Box3.new ((w.alloc (.cells #[.bool f, .slice a n ca, .slice b m cb] 27)).alloc (.cells #[.bool f', .slice a' n' ca', .slice b' m' cb'] 27)) (.bool false) (.slice none 0 0) (.slice none 0 0) 27
    simpa using this
  go_enter Try.func39, Try.ntmps39
  go_wp2_with fail
  generalize (((w.alloc (.cells #[.bool f, .slice a n ca, .slice b m cb] 27)).alloc (.cells #[.bool f', .slice a' n' ca', .slice b' m' cb'] 27)).alloc (.cells #[.bool false, .slice none 0 0, .slice none 0 0] 27)) = w1 at *
  have RA := R.keep sA
  have RA' := R'.keep sA
  have I1 := specRatOk_any f a b ba oa n ca bb ob m cb X Y w1 (by omega) (by omega) RA.LX RA.LY R.lX R.lY
  by_cases h1 : ratOkB f X n Y m = true
  · have h2 : ratOkB f' X' n' Y' m' = false := by
      cases e : ratOkB f' X' n' Y' m'
      · rfl
      · exact absurd ⟨h1, e⟩ ok
    rw [h1] at I1
    clear h1 ok
    refine I1.mono ?_
    rintro e w2 ⟨rfl, s2⟩
    have p2 := pA.keep s2
    have r2 := rA.keep s2
    have S2 : w.Since w.heap.size w2 := sA.trans (sinceMono s2 sA.size)
    have z2 := s2.size
    have RB' := RA'.keep s2
    have I2 := specRatOk_any f' a' b' ba' oa' n' ca' bb' ob' m' cb' X' Y' w2 (by omega) (by omega) RB'.LX RB'.LY R'.lX R'.lY
    rw [h2] at I2
    clear I1 pA rA h2
    have k0 := p2.c0
    have k1 := p2.c1
    have k2 := p2.c2
    go_wp2_with fail
    refine I2.mono ?_
    rintro e w3 ⟨rfl, s3⟩
    have S3 : w.Since w.heap.size w3 := S2.trans (sinceMono s3 S2.size)
    have z3 := s3.size
    have r3 := r2.keep s3
    clear I2 k0 k1 k2 p2 r2
    go_wp2_with fail
    refine (l1Zero_any w3).mono ?_
    rintro e w6 ⟨v, rfl, ⟨x1, x2, g6, h6, rfl, N6, D6, y1, y2, y3⟩, s6⟩
    have rB := r3.keep s6
    have N6' := N6
    have D6' := D6
    obtain ⟨a1, q1, c1, Y1, rfl, -⟩ := N6
    obtain ⟨a2, q2, c2, Y2, rfl, -⟩ := D6
    have S6 : w.Since w.heap.size w6 := S3.trans (sinceMono s6 S3.size)
    have u0 := rB.c0
    have u1 := rB.c1
    have u2 := rB.c2
    have uf0 := rB.f 0
    have uf1 := rB.f 1
    have uf2 := rB.f 2
    go_wp2
    have rC := ((rB.set0 (.bool false)).set1 (.slice a1 q1 c1)).set2 (.slice a2 q2 c2)
    refine bodyPost_ret (results_box3 rfl _ _ _ _ _ _ rfl rC) rfl ?_
    have M : Marked w6 _ (w.heap.size + 1 + 1) := (((Marked.refl w6 _).setCell 0 (.bool false)).setCell 1 (.slice a1 q1 c1)).setCell 2 (.slice a2 q2 c2)
    exact ⟨_, rfl, ⟨_, _, g6, h6, rfl, N6'.marked M (by omega), D6'.marked M (by omega), by omega, by omega, y3⟩, S6.trans (M.since (by omega))⟩
  · have h1' : ratOkB f X n Y m = false := by simpa using h1
    rw [h1'] at I1
    clear h1 h1' ok
    refine I1.mono ?_
    rintro e w3 ⟨rfl, s3⟩
    have S3 : w.Since w.heap.size w3 := sA.trans (sinceMono s3 sA.size)
    have z3 := s3.size
    have z2 : w1.heap.size ≤ w1.heap.size := Nat.le_refl _
    have r3 := rA.keep s3
    clear I1 pA rA
    go_wp2_with fail
    refine (l1Zero_any w3).mono ?_
    rintro e w6 ⟨v, rfl, ⟨x1, x2, g6, h6, rfl, N6, D6, y1, y2, y3⟩, s6⟩
    have rB := r3.keep s6
    have N6' := N6
    have D6' := D6
    obtain ⟨a1, q1, c1, Y1, rfl, -⟩ := N6
    obtain ⟨a2, q2, c2, Y2, rfl, -⟩ := D6
    have S6 : w.Since w.heap.size w6 := S3.trans (sinceMono s6 S3.size)
    have u0 := rB.c0
    have u1 := rB.c1
    have u2 := rB.c2
    have uf0 := rB.f 0
    have uf1 := rB.f 1
    have uf2 := rB.f 2
    go_wp2
    have rC := ((rB.set0 (.bool false)).set1 (.slice a1 q1 c1)).set2 (.slice a2 q2 c2)
    refine bodyPost_ret (results_box3 rfl _ _ _ _ _ _ rfl rC) rfl ?_
    have M : Marked w6 _ (w.heap.size + 1 + 1) := (((Marked.refl w6 _).setCell 0 (.bool false)).setCell 1 (.slice a1 q1 c1)).setCell 2 (.slice a2 q2 c2)
    exact ⟨_, rfl, ⟨_, _, g6, h6, rfl, N6'.marked M (by omega), D6'.marked M (by omega), by omega, by omega, y3⟩, S6.trans (M.since (by omega))⟩

end Go.Proofs.Ytdfcckifbbeoiaa

namespace Go.Proofs.Ytdfcckifbbeoiaa
open Go.RowKit

/-- The two functions give one answer. -/
theorem ratMul_both (f f' : Bool) (n m n' m' : Nat) (X Y X' Y' : Nat → Nat) (hn : n + n' + m + m' ≤ 1048576) : ∃ NEG N D,
    (∀ (a b a' b' : Option Addr) (ba oa ca bb ob cb ba' oa' ca' bb' ob' cb' : Nat) (w : World), RRaw w a b ba oa n ca bb ob m cb X Y → RRaw w a' b' ba' oa' n' ca' bb' ob' m' cb' X' Y' →
      Calls Try.prog 39 #[.agg #[.bool f, .slice a n ca, .slice b m cb], .agg #[.bool f', .slice a' n' ca', .slice b' m' cb']] w fun e w' => ∃ v, e = .returned v ∧ RatV w' v NEG N D w.heap.size 4194304 ∧ w.Since w.heap.size w') ∧
    (∀ (a b a' b' : Option Addr) (ba oa ca bb ob cb ba' oa' ca' bb' ob' cb' : Nat) (w : World), 0 ≤ w.heap.size → Tab w → RRaw w a b ba oa n ca bb ob m cb X Y → RRaw w a' b' ba' oa' n' ca' bb' ob' m' cb' X' Y' →
      Calls Try.prog 24 #[.agg #[.bool f, .slice a n ca, .slice b m cb], .agg #[.bool f', .slice a' n' ca', .slice b' m' cb']] w fun e w' => ∃ v, e = .returned v ∧ RatV w' v NEG N D w.heap.size 4194304 ∧ w.Since w.heap.size w') := by
  by_cases ok : ratOkB f X n Y m = true ∧ ratOkB f' X' n' Y' m' = true
  · exact ⟨_, _, _, fun a b a' b' ba oa ca bb ob cb ba' oa' ca' bb' ob' cb' w R R' => specRatMul_ok f f' a b a' b' ba oa n ca bb ob m cb ba' oa' n' ca' bb' ob' m' cb' X Y X' Y' w hn (R.ok ok.1) (R'.ok ok.2) ok.1 ok.2,
      fun a b a' b' ba oa ca bb ob cb ba' oa' ca' bb' ob' cb' w hw hT R R' => (implRatMul_ok f f' a b a' b' ba oa n ca bb ob m cb ba' oa' n' ca' bb' ob' m' cb' X Y X' Y' w hw hT (by omega) (by omega) (R.ok ok.1) (R'.ok ok.2) ok.1 ok.2).mono fun e w' ⟨v, h1, h2, h3⟩ => ⟨v, h1, h2.more (by omega), h3⟩⟩
  · exact ⟨_, _, _, fun a b a' b' ba oa ca bb ob cb ba' oa' ca' bb' ob' cb' w R R' => specRatMul_no f f' a b a' b' ba oa n ca bb ob m cb ba' oa' n' ca' bb' ob' m' cb' X Y X' Y' w hn R R' ok,
      fun a b a' b' ba oa ca bb ob cb ba' oa' ca' bb' ob' cb' w hw hT R R' => implRatMul_no f f' a b a' b' ba oa n ca bb ob m cb ba' oa' n' ca' bb' ob' m' cb' X Y X' Y' w hw hT (by omega) (by omega) R R' ok⟩

set_option maxHeartbeats 6400000 in
set_option maxRecDepth 100000 in
theorem ratMul_law (f f' : Bool) (a b a' b' : Option Addr) (ba oa n ca bb ob m cb ba' oa' n' ca' bb' ob' m' cb' : Nat) (X Y X' Y' : Nat → Nat) (w : World) (hn : n + m + n' + m' ≤ 1048576) (hX : Limbs w a ba oa n X) (hY : Limbs w b bb ob m Y) (hX' : Limbs w a' ba' oa' n' X') (hY' : Limbs w b' bb' ob' m' Y')
    (lX : ∀ j, j < n → X j < 4294967296) (lY : ∀ j, j < m → Y j < 4294967296) (lX' : ∀ j, j < n' → X' j < 4294967296) (lY' : ∀ j, j < m' → Y' j < 4294967296) (hw : 0 ≤ w.heap.size) (hT : Tab w) :
    Calls Try.prog 8 #[.agg #[.bool f, .slice a n ca, .slice b m cb], .agg #[.bool f', .slice a' n' ca', .slice b' m' cb']] w fun e w' => e = .returned (.bool true) ∧ w.Since w.heap.size w' := by
  obtain ⟨NEG, N, D, HS, HI⟩ := ratMul_both f f' n m n' m' X Y X' Y' (by omega)
  have sA : w.Since w.heap.size ((w.alloc (.cells #[.bool f, .slice a n ca, .slice b m cb] 48)).alloc (.cells #[.bool f', .slice a' n' ca', .slice b' m' cb'] 48)) := ((World.Since.refl _ _).alloc (Nat.le_refl _) _).alloc (by simp) _
  have zA : ((w.alloc (.cells #[.bool f, .slice a n ca, .slice b m cb] 48)).alloc (.cells #[.bool f', .slice a' n' ca', .slice b' m' cb'] 48)).heap.size = w.heap.size + 1 + 1 := by simp
  have oA : Box3 ((w.alloc (.cells #[.bool f, .slice a n ca, .slice b m cb] 48)).alloc (.cells #[.bool f', .slice a' n' ca', .slice b' m' cb'] 48)) w.heap.size (.bool f) (.slice a n ca) (.slice b m cb) := (Box3.new w _ _ _ _).keep ((World.Since.refl _ _).alloc (Nat.le_refl _) _)
  have pA : Box3 ((w.alloc (.cells #[.bool f, .slice a n ca, .slice b m cb] 48)).alloc (.cells #[.bool f', .slice a' n' ca', .slice b' m' cb'] 48)) (w.heap.size + 1) (.bool f') (.slice a' n' ca') (.slice b' m' cb') := by
    have := Box3.new (w.alloc (.cells #[.bool f, .slice a n ca, .slice b m cb] 48)) (.bool f') (.slice a' n' ca') (.slice b' m' cb') 48
    simpa using this
  go_enter Try.func8, Try.ntmps8
  go_wp2_with fail
  generalize ((w.alloc (.cells #[.bool f, .slice a n ca, .slice b m cb] 48)).alloc (.cells #[.bool f', .slice a' n' ca', .slice b' m' cb'] 48)) = w1 at *
  refine (szRat_ok f a b n ca m cb 1048576 w1 (by omega) (by omega)).mono ?_
  rintro e w2 ⟨rfl, s2⟩
  have S2 : w.Since w.heap.size w2 := sA.trans (sinceMono s2 sA.size)
  have o2 := oA.keep s2
  have p2 := pA.keep s2
  have z2 := s2.size
  clear oA pA s2
  have hl : ¬ (((1048576 - n - m : Nat) : Int) < 0) := by omega
  have k0 := p2.c0
  have k1 := p2.c1
  have k2 := p2.c2
  go_wp2_with fail
  refine (szRat_ok f' a' b' n' ca' m' cb' (1048576 - n - m) w2 (by omega) (by omega)).mono ?_
  rintro e w3 ⟨rfl, s3⟩
  have S3 : w.Since w.heap.size w3 := S2.trans (sinceMono s3 S2.size)
  have o3 := o2.keep s3
  have p3 := p2.keep s3
  have z3 := s3.size
  have hl2 : ¬ (((1048576 - n - m - n' - m' : Nat) : Int) < 0) := by omega
  clear k0 k1 k2 o2 p2 s3
  have k := And.intro o3.cells p3.cells
  go_wp2_with fail
  have SD : w.Since w.heap.size w3.drew := since_drew S3
  have SE : w.Since w.heap.size (w3.alloc (.cells #[.bool false, .slice none 0 0, .slice none 0 0] 27)).drew := since_drew (S3.trans (sinceMono ((World.Since.refl _ _).alloc (Nat.le_refl _) _) S3.size))
  have J1 := toRat_any f a b ba oa n ca bb ob m cb X Y w3.drew (by omega) (by omega) (hX.keep SD) (hY.keep SD)
  have J1b := toRat_any f a b ba oa n ca bb ob m cb X Y (w3.alloc (.cells #[.bool false, .slice none 0 0, .slice none 0 0] 27)).drew (by omega) (by omega) (hX.keep SE) (hY.keep SE)
  have ol := o3.lt
  have pl := p3.lt
  have nb1 : w3.heap.size ≠ w.heap.size := by omega
  have nb2 : w3.heap.size ≠ w.heap.size + 1 := by omega
  have zb : (w3.alloc (.cells #[.bool false, .slice none 0 0, .slice none 0 0] 27)).drew.heap.size = w3.heap.size + 1 := by show (w3.alloc (.cells #[.bool false, .slice none 0 0, .slice none 0 0] 27)).heap.size = _; simp
  have oE := ((o3.keep ((World.Since.refl _ _).alloc (Nat.le_refl _) (.cells #[.bool false, .slice none 0 0, .slice none 0 0] 27))).drew)
  have pE := ((p3.keep ((World.Since.refl _ _).alloc (Nat.le_refl _) (.cells #[.bool false, .slice none 0 0, .slice none 0 0] 27))).drew)
  have yE := (Box3.new w3 (.bool false) (.slice none 0 0) (.slice none 0 0) 27).drew
  go_region_held3 (fun w' => w'.cell? ⟨w.heap.size, 0, none⟩ = some (.bool f) ∧ w'.cell? ⟨w.heap.size, 1, none⟩ = some (.slice a n ca) ∧ w'.cell? ⟨w.heap.size, 2, none⟩ = some (.slice b m cb) ∧ w'.cell? ⟨w.heap.size + 1, 0, none⟩ = some (.bool f') ∧ w'.cell? ⟨w.heap.size + 1, 1, none⟩ = some (.slice a' n' ca') ∧ w'.cell? ⟨w.heap.size + 1, 2, none⟩ = some (.slice b' m' cb')) (go_keep)
    (first
      | (go_at_call 35
         with_reducible refine J1.mono ?_
         rintro e v4 ⟨gx4, hx4, rfl, s4, b41, b42, b43, LX4, LY4, FX4, FY4⟩
         have S4 : w.Since w.heap.size v4 := SD.trans (sinceMono s4 SD.size)
         have o4 := (o3.drew).keep s4
         have p4 := (p3.drew).keep s4
         have kk4 := And.intro o4.cells p4.cells
         have z4 := s4.size
         have O4 : Own v4 gx4 n X := ⟨LX4, FX4, by omega⟩
         have Q4 : Own v4 hx4 m Y := ⟨LY4, FY4, b43⟩
         have zz4 : w3.heap.size ≤ v4.heap.size := by exact z4
         have ne14 : v4.heap.size ≠ w.heap.size := by omega
         have ne24 : v4.heap.size ≠ w.heap.size + 1 := by omega
         have T4 := S4.trans (sinceMono ((World.Since.refl _ _).alloc (Nat.le_refl _) (.cells #[.bool false, .slice none 0 0, .slice none 0 0] 27)) S4.size)
         have J2 := toRat_any f' a' b' ba' oa' n' ca' bb' ob' m' cb' X' Y' v4 (by omega) (by omega) (hX'.keep S4) (hY'.keep S4)
         have J2b := toRat_any f' a' b' ba' oa' n' ca' bb' ob' m' cb' X' Y' (v4.alloc (.cells #[.bool false, .slice none 0 0, .slice none 0 0] 27)) (by omega) (by omega) (hX'.keep T4) (hY'.keep T4))
      | (go_at_call 35
         with_reducible refine J1b.mono ?_
         rintro e v4 ⟨gx4, hx4, rfl, s4, b41, b42, b43, LX4, LY4, FX4, FY4⟩
         have S4 : w.Since w.heap.size v4 := SE.trans (sinceMono s4 SE.size)
         have o4 := (oE).keep s4
         have p4 := (pE).keep s4
         have kk4 := And.intro o4.cells p4.cells
         have z4 := s4.size
         have y4 := yE.keep s4
         have O4 : Own v4 gx4 n X := ⟨LX4, FX4, by omega⟩
         have Q4 : Own v4 hx4 m Y := ⟨LY4, FY4, b43⟩
         have zz4 : w3.heap.size ≤ v4.heap.size := by omega
         have ne14 : v4.heap.size ≠ w.heap.size := by omega
         have ne24 : v4.heap.size ≠ w.heap.size + 1 := by omega
         have T4 := S4.trans (sinceMono ((World.Since.refl _ _).alloc (Nat.le_refl _) (.cells #[.bool false, .slice none 0 0, .slice none 0 0] 27)) S4.size)
         have J2 := toRat_any f' a' b' ba' oa' n' ca' bb' ob' m' cb' X' Y' v4 (by omega) (by omega) (hX'.keep S4) (hY'.keep S4)
         have J2b := toRat_any f' a' b' ba' oa' n' ca' bb' ob' m' cb' X' Y' (v4.alloc (.cells #[.bool false, .slice none 0 0, .slice none 0 0] 27)) (by omega) (by omega) (hX'.keep T4) (hY'.keep T4))
      | (go_at_call 35
         have yq := y4
         with_reducible refine J2.mono ?_
         rintro e v5 ⟨gx5, hx5, rfl, s5, b51, b52, b53, LX5, LY5, FX5, FY5⟩
         have t4 : v4.Since v4.heap.size v5 := s5
         have y5 := yq.keep s5
         have S5 : w.Since w.heap.size v5 := S4.trans (sinceMono t4 S4.size)
         have o5 := o4.keep t4
         have p5 := p4.keep t4
         have kk5 := And.intro o5.cells p5.cells
         have z5 := t4.size
         have O5 := O4.keep t4
         have Q5 := Q4.keep t4
         have O5' : Own v5 gx5 n' X' := ⟨LX5, FX5, by omega⟩
         have Q5' : Own v5 hx5 m' Y' := ⟨LY5, FY5, b53⟩
         have ne15 : v5.heap.size ≠ w.heap.size := by omega
         have ne25 : v5.heap.size ≠ w.heap.size + 1 := by omega
         have t5 : v5.Since v5.heap.size (v5.alloc (.cells #[.bool false, .slice none 0 0, .slice none 0 0] 27)) := (World.Since.refl _ _).alloc (Nat.le_refl _) _
         have J3 := HS _ _ _ _ _ _ _ _ _ _ _ _ _ _ _ _ v5 (raw_own O5 Q5 lX lY) (raw_own O5' Q5' lX' lY')
         have J3b := HS _ _ _ _ _ _ _ _ _ _ _ _ _ _ _ _ (v5.alloc (.cells #[.bool false, .slice none 0 0, .slice none 0 0] 27)) (raw_own (O5.keep t5) (Q5.keep t5) lX lY) (raw_own (O5'.keep t5) (Q5'.keep t5) lX' lY'))
      | (go_at_call 35
         with_reducible refine J2.mono ?_
         rintro e v5 ⟨gx5, hx5, rfl, s5, b51, b52, b53, LX5, LY5, FX5, FY5⟩
         have t4 : v4.Since v4.heap.size v5 := s5
         have S5 : w.Since w.heap.size v5 := S4.trans (sinceMono t4 S4.size)
         have o5 := o4.keep t4
         have p5 := p4.keep t4
         have kk5 := And.intro o5.cells p5.cells
         have z5 := t4.size
         have O5 := O4.keep t4
         have Q5 := Q4.keep t4
         have O5' : Own v5 gx5 n' X' := ⟨LX5, FX5, by omega⟩
         have Q5' : Own v5 hx5 m' Y' := ⟨LY5, FY5, b53⟩
         have ne15 : v5.heap.size ≠ w.heap.size := by omega
         have ne25 : v5.heap.size ≠ w.heap.size + 1 := by omega
         have t5 : v5.Since v5.heap.size (v5.alloc (.cells #[.bool false, .slice none 0 0, .slice none 0 0] 27)) := (World.Since.refl _ _).alloc (Nat.le_refl _) _
         have J3 := HS _ _ _ _ _ _ _ _ _ _ _ _ _ _ _ _ v5 (raw_own O5 Q5 lX lY) (raw_own O5' Q5' lX' lY')
         have J3b := HS _ _ _ _ _ _ _ _ _ _ _ _ _ _ _ _ (v5.alloc (.cells #[.bool false, .slice none 0 0, .slice none 0 0] 27)) (raw_own (O5.keep t5) (Q5.keep t5) lX lY) (raw_own (O5'.keep t5) (Q5'.keep t5) lX' lY'))
      | (go_at_call 35
         with_reducible refine J2b.mono ?_
         rintro e v5 ⟨gx5, hx5, rfl, s5, b51, b52, b53, LX5, LY5, FX5, FY5⟩
         have t4 : v4.Since v4.heap.size v5 := ((World.Since.refl _ _).alloc (Nat.le_refl _) (.cells #[.bool false, .slice none 0 0, .slice none 0 0] 27)).trans (sinceMono s5 (by simp))
         have y5 := (Box3.new v4 (.bool false) (.slice none 0 0) (.slice none 0 0) 27).keep s5
         have S5 : w.Since w.heap.size v5 := S4.trans (sinceMono t4 S4.size)
         have o5 := o4.keep t4
         have p5 := p4.keep t4
         have kk5 := And.intro o5.cells p5.cells
         have z5 := t4.size
         have O5 := O4.keep t4
         have Q5 := Q4.keep t4
         have O5' : Own v5 gx5 n' X' := ⟨LX5, FX5, by omega⟩
         have Q5' : Own v5 hx5 m' Y' := ⟨LY5, FY5, b53⟩
         have ne15 : v5.heap.size ≠ w.heap.size := by omega
         have ne25 : v5.heap.size ≠ w.heap.size + 1 := by omega
         have t5 : v5.Since v5.heap.size (v5.alloc (.cells #[.bool false, .slice none 0 0, .slice none 0 0] 27)) := (World.Since.refl _ _).alloc (Nat.le_refl _) _
         have J3 := HS _ _ _ _ _ _ _ _ _ _ _ _ _ _ _ _ v5 (raw_own O5 Q5 lX lY) (raw_own O5' Q5' lX' lY')
         have J3b := HS _ _ _ _ _ _ _ _ _ _ _ _ _ _ _ _ (v5.alloc (.cells #[.bool false, .slice none 0 0, .slice none 0 0] 27)) (raw_own (O5.keep t5) (Q5.keep t5) lX lY) (raw_own (O5'.keep t5) (Q5'.keep t5) lX' lY'))
      | (go_at_call 39
         have yq := y5
         with_reducible refine J3.mono ?_
         rintro e v6 ⟨v, rfl, ⟨x1, x2, g6, h6, rfl, N6, D6, r61, r62, r63⟩, s6⟩
         have t6 : v5.Since v5.heap.size v6 := s6
         have rr : v5.heap.size ≤ g6 ∧ v5.heap.size ≤ h6 := ⟨r61, r62⟩
         have y6 := yq.keep s6
         have S6 : w.Since w.heap.size v6 := S5.trans (sinceMono t6 S5.size)
         have o6 := o5.keep t6
         have p6 := p5.keep t6
         have kk6 := And.intro o6.cells p6.cells
         have z6 := t6.size
         have N6' := N6
         have D6' := D6
         obtain ⟨a1, q1, c1, Y1, rfl, -⟩ := N6
         obtain ⟨a2, q2, c2, Y2, rfl, -⟩ := D6
         have ne16 : v6.heap.size ≠ w.heap.size := by omega
         have ne26 : v6.heap.size ≠ w.heap.size + 1 := by omega
         have u0 := y6.c0
         have u1 := y6.c1
         have u2 := y6.c2
         have uf0 := y6.f 0
         have uf1 := y6.f 1
         have uf2 := y6.f 2)
      | (go_at_call 39
         with_reducible refine J3.mono ?_
         rintro e v6 ⟨v, rfl, ⟨x1, x2, g6, h6, rfl, N6, D6, r61, r62, r63⟩, s6⟩
         have t6 : v5.Since v5.heap.size v6 := s6
         have rr : v5.heap.size ≤ g6 ∧ v5.heap.size ≤ h6 := ⟨r61, r62⟩
         have S6 : w.Since w.heap.size v6 := S5.trans (sinceMono t6 S5.size)
         have o6 := o5.keep t6
         have p6 := p5.keep t6
         have kk6 := And.intro o6.cells p6.cells
         have z6 := t6.size
         have N6' := N6
         have D6' := D6
         obtain ⟨a1, q1, c1, Y1, rfl, -⟩ := N6
         obtain ⟨a2, q2, c2, Y2, rfl, -⟩ := D6
         have ne16 : v6.heap.size ≠ w.heap.size := by omega
         have ne26 : v6.heap.size ≠ w.heap.size + 1 := by omega)
      | (go_at_call 39
         with_reducible refine J3b.mono ?_
         rintro e v6 ⟨v, rfl, ⟨x1, x2, g6, h6, rfl, N6, D6, r61, r62, r63⟩, s6⟩
         have t6 : v5.Since v5.heap.size v6 := t5.trans (sinceMono s6 t5.size)
         have y6 := (Box3.new v5 (.bool false) (.slice none 0 0) (.slice none 0 0) 27).keep s6
         have rr : v5.heap.size ≤ g6 ∧ v5.heap.size ≤ h6 := ⟨Nat.le_trans t5.size r61, Nat.le_trans t5.size r62⟩
         have S6 : w.Since w.heap.size v6 := S5.trans (sinceMono t6 S5.size)
         have o6 := o5.keep t6
         have p6 := p5.keep t6
         have kk6 := And.intro o6.cells p6.cells
         have z6 := t6.size
         have N6' := N6
         have D6' := D6
         obtain ⟨a1, q1, c1, Y1, rfl, -⟩ := N6
         obtain ⟨a2, q2, c2, Y2, rfl, -⟩ := D6
         have ne16 : v6.heap.size ≠ w.heap.size := by omega
         have ne26 : v6.heap.size ≠ w.heap.size + 1 := by omega
         have u0 := y6.c0
         have u1 := y6.c1
         have u2 := y6.c2
         have uf0 := y6.f 0
         have uf1 := y6.f 1
         have uf2 := y6.f 2))
  all_goals
    first
    | (with_reducible show Exit.then _ _ Exit.normal _ (v6.alloc (.cells #[.bool NEG, .slice a1 q1 c1, .slice a2 q2 c2] 27))
       have t7 : v6.Since v6.heap.size (v6.alloc (.cells #[.bool NEG, .slice a1 q1 c1, .slice a2 q2 c2] 27)) := (World.Since.refl _ _).alloc (Nat.le_refl _) _
       have B7 := Box3.new v6 (.bool NEG) (.slice a1 q1 c1) (.slice a2 q2 c2) 27
       have S7 := S6.trans (sinceMono t7 S6.size)
       have o7 := o6.keep t7
       have p7 := p6.keep t7
       have N7 := N6'.keep t7
       have D7 := D6'.keep t7
       have hc0 : w.heap.size + 2 ≤ v6.heap.size := by omega
       clear t7
       generalize v6.alloc (.cells #[.bool NEG, .slice a1 q1 c1, .slice a2 q2 c2] 27) = v7 at *
       generalize v6.heap.size = c0 at *)
    | (with_reducible show Exit.then _ _ Exit.normal _ (((v6.setCell ⟨w3.heap.size, 0, none⟩ (.bool NEG)).setCell ⟨w3.heap.size, 1, none⟩ (.slice a1 q1 c1)).setCell ⟨w3.heap.size, 2, none⟩ (.slice a2 q2 c2))
       have M7 : Marked v6 (((v6.setCell ⟨w3.heap.size, 0, none⟩ (.bool NEG)).setCell ⟨w3.heap.size, 1, none⟩ (.slice a1 q1 c1)).setCell ⟨w3.heap.size, 2, none⟩ (.slice a2 q2 c2)) w3.heap.size := (((Marked.refl v6 _).setCell 0 (.bool NEG)).setCell 1 (.slice a1 q1 c1)).setCell 2 (.slice a2 q2 c2)
       have B7 := ((y6.set0 (.bool NEG)).set1 (.slice a1 q1 c1)).set2 (.slice a2 q2 c2)
       have hlt := y6.lt
       have S7 := S6.trans (M7.since (show w.heap.size ≤ w3.heap.size by omega))
       have o7 := o6.marked M7 (by omega)
       have p7 := p6.marked M7 (by omega)
       have r7 : w3.heap.size < v5.heap.size := y5.lt
       have N7 := N6'.marked M7 (by omega)
       have D7 := D6'.marked M7 (by omega)
       have hc0 : w.heap.size + 2 ≤ w3.heap.size := by omega
       have z7 := M7.size
       clear M7 y6 u0 u1 u2 uf0 uf1 uf2
       generalize ((v6.setCell ⟨w3.heap.size, 0, none⟩ (.bool NEG)).setCell ⟨w3.heap.size, 1, none⟩ (.slice a1 q1 c1)).setCell ⟨w3.heap.size, 2, none⟩ (.slice a2 q2 c2) = v7 at *
       generalize w3.heap.size = c0 at *)
    | (with_reducible show Exit.then _ _ Exit.normal _ (((v6.setCell ⟨v4.heap.size, 0, none⟩ (.bool NEG)).setCell ⟨v4.heap.size, 1, none⟩ (.slice a1 q1 c1)).setCell ⟨v4.heap.size, 2, none⟩ (.slice a2 q2 c2))
       have M7 : Marked v6 (((v6.setCell ⟨v4.heap.size, 0, none⟩ (.bool NEG)).setCell ⟨v4.heap.size, 1, none⟩ (.slice a1 q1 c1)).setCell ⟨v4.heap.size, 2, none⟩ (.slice a2 q2 c2)) v4.heap.size := (((Marked.refl v6 _).setCell 0 (.bool NEG)).setCell 1 (.slice a1 q1 c1)).setCell 2 (.slice a2 q2 c2)
       have B7 := ((y6.set0 (.bool NEG)).set1 (.slice a1 q1 c1)).set2 (.slice a2 q2 c2)
       have hlt := y6.lt
       have S7 := S6.trans (M7.since (show w.heap.size ≤ v4.heap.size by omega))
       have o7 := o6.marked M7 (by omega)
       have p7 := p6.marked M7 (by omega)
       have r7 : v4.heap.size < v5.heap.size := y5.lt
       have N7 := N6'.marked M7 (by omega)
       have D7 := D6'.marked M7 (by omega)
       have hc0 : w.heap.size + 2 ≤ v4.heap.size := by omega
       have z7 := M7.size
       clear M7 y6 u0 u1 u2 uf0 uf1 uf2
       generalize ((v6.setCell ⟨v4.heap.size, 0, none⟩ (.bool NEG)).setCell ⟨v4.heap.size, 1, none⟩ (.slice a1 q1 c1)).setCell ⟨v4.heap.size, 2, none⟩ (.slice a2 q2 c2) = v7 at *
       generalize v4.heap.size = c0 at *)
    | (with_reducible show Exit.then _ _ Exit.normal _ (((v6.setCell ⟨v5.heap.size, 0, none⟩ (.bool NEG)).setCell ⟨v5.heap.size, 1, none⟩ (.slice a1 q1 c1)).setCell ⟨v5.heap.size, 2, none⟩ (.slice a2 q2 c2))
       have M7 : Marked v6 (((v6.setCell ⟨v5.heap.size, 0, none⟩ (.bool NEG)).setCell ⟨v5.heap.size, 1, none⟩ (.slice a1 q1 c1)).setCell ⟨v5.heap.size, 2, none⟩ (.slice a2 q2 c2)) v5.heap.size := (((Marked.refl v6 _).setCell 0 (.bool NEG)).setCell 1 (.slice a1 q1 c1)).setCell 2 (.slice a2 q2 c2)
       have B7 := ((y6.set0 (.bool NEG)).set1 (.slice a1 q1 c1)).set2 (.slice a2 q2 c2)
       have hlt := y6.lt
       have S7 := S6.trans (M7.since (show w.heap.size ≤ v5.heap.size by omega))
       have o7 := o6.marked M7 (by omega)
       have p7 := p6.marked M7 (by omega)
       have r7 : v5.heap.size < g6 ∧ v5.heap.size < h6 := by simp at r61 r62; omega
       have N7 := N6'.marked M7 (by omega)
       have D7 := D6'.marked M7 (by omega)
       have hc0 : w.heap.size + 2 ≤ v5.heap.size := by omega
       have z7 := M7.size
       clear M7 y6 u0 u1 u2 uf0 uf1 uf2
       generalize ((v6.setCell ⟨v5.heap.size, 0, none⟩ (.bool NEG)).setCell ⟨v5.heap.size, 1, none⟩ (.slice a1 q1 c1)).setCell ⟨v5.heap.size, 2, none⟩ (.slice a2 q2 c2) = v7 at *
       generalize v5.heap.size = c0 at *)
  all_goals
    try clear sA
    try clear zA
    try clear S2
    try clear z2
    try clear S3
    try clear o3
    try clear p3
    try clear z3
    try clear k
    try clear hl
    try clear hl2
    try clear SD
    try clear SE
    try clear J1
    try clear J1b
    try clear nb1
    try clear nb2
    try clear ol
    try clear pl
    try clear zb
    try clear oE
    try clear pE
    try clear yE
    try clear s4
    try clear b41
    try clear b42
    try clear b43
    try clear LX4
    try clear LY4
    try clear FX4
    try clear FY4
    try clear S4
    try clear o4
    try clear p4
    try clear kk4
    try clear z4
    try clear O4
    try clear Q4
    try clear zz4
    try clear ne14
    try clear ne24
    try clear T4
    try clear J2
    try clear J2b
    try clear y4
    try clear s5
    try clear b51
    try clear b52
    try clear b53
    try clear LX5
    try clear LY5
    try clear FX5
    try clear FY5
    try clear t4
    try clear y5
    try clear S5
    try clear o5
    try clear p5
    try clear kk5
    try clear z5
    try clear O5
    try clear Q5
    try clear O5'
    try clear Q5'
    try clear ne15
    try clear ne25
    try clear t5
    try clear J3
    try clear J3b
    try clear s6
    try clear r61
    try clear r62
    try clear r63
    try clear t6
    try clear y6
    try clear rr
    try clear S6
    try clear o6
    try clear p6
    try clear kk6
    try clear z6
    try clear N6'
    try clear D6'
    try clear ne16
    try clear ne26
    try clear u0
    try clear u1
    try clear u2
    try clear uf0
    try clear uf1
    try clear uf2
    try clear hlt
    try clear r7
    try clear HS
    try clear yq
    have g6l : 0 < q1 → g6 < v7.heap.size := by obtain ⟨_, _, _, L, _⟩ := nat_lim N7; exact L.lt
    have h6l : 0 < q2 → h6 < v7.heap.size := by obtain ⟨_, _, _, L, _⟩ := nat_lim D7; exact L.lt
    have c0l := B7.lt
    have z7 := S7.size
    have k0 := o7.c0
    have k1 := o7.c1
    have k2 := o7.c2
    go_wp2_with fail
    refine (toRat_any f a b ba oa n ca bb ob m cb X Y v7 (by omega) (by omega) (hX.keep S7) (hY.keep S7)).mono ?_
    rintro e v8 ⟨gx, hx, rfl, s8, b81, b82, b83, LX8, LY8, FX8, FY8⟩
    have S8 : w.Since w.heap.size v8 := S7.trans (sinceMono s8 S7.size)
    have o8 := o7.keep s8
    have p8 := p7.keep s8
    have B8 := B7.keep s8
    have N8 := N7.keep s8
    have D8 := D7.keep s8
    have Ox8 : Own v8 gx n X := ⟨LX8, FX8, by omega⟩
    have Qx8 : Own v8 hx m Y := ⟨LY8, FY8, b83⟩
    have z8 := s8.size
    have b7 := B7.lt
    clear k0 k1 k2 o7 p7 B7 N7 D7 LX8 LY8 FX8 FY8 s8
    have t9 : v8.Since v8.heap.size (v8.alloc (.cells #[.bool f, .slice (some ⟨gx, 0, none⟩) n n, .slice (some ⟨hx, 0, none⟩) m m] 27)) := (World.Since.refl _ _).alloc (Nat.le_refl _) _
    have x9 := Box3.new v8 (.bool f) (.slice (some ⟨gx, 0, none⟩) n n) (.slice (some ⟨hx, 0, none⟩) m m) 27
    have S9 := S8.trans (sinceMono t9 S8.size)
    have o9 := o8.keep t9
    have p9 := p8.keep t9
    have B9 := B8.keep t9
    have N9 := N8.keep t9
    have D9 := D8.keep t9
    have Ox9 := Ox8.keep t9
    have Qx9 := Qx8.keep t9
    have k0 := p9.c0
    have k1 := p9.c1
    have k2 := p9.c2
    go_wp2_with fail
    clear k0 k1 k2 o8 p8 B8 N8 D8 Ox8 Qx8 t9
    generalize v8.alloc (.cells #[.bool f, .slice (some ⟨gx, 0, none⟩) n n, .slice (some ⟨hx, 0, none⟩) m m] 27) = v9 at *
    generalize hcx : v8.heap.size = cx at *
    refine (toRat_any f' a' b' ba' oa' n' ca' bb' ob' m' cb' X' Y' v9 (by omega) (by omega) (hX'.keep S9) (hY'.keep S9)).mono ?_
    rintro e v10 ⟨gy, hy, rfl, s10, b101, b102, b103, LX10, LY10, FX10, FY10⟩
    have S10 : w.Since w.heap.size v10 := S9.trans (sinceMono s10 S9.size)
    have o10 := o9.keep s10
    have p10 := p9.keep s10
    have B10 := B9.keep s10
    have N10 := N9.keep s10
    have D10 := D9.keep s10
    have Ox10 := Ox9.keep s10
    have Qx10 := Qx9.keep s10
    have x10 := x9.keep s10
    have Oy10 : Own v10 gy n' X' := ⟨LX10, FX10, by omega⟩
    have Qy10 : Own v10 hy m' Y' := ⟨LY10, FY10, b103⟩
    have z10 := s10.size
    have x9l := x9.lt
    clear o9 p9 B9 N9 D9 Ox9 Qx9 x9 LX10 LY10 FX10 FY10 s10
    have t11 : v10.Since v10.heap.size (v10.alloc (.cells #[.bool f', .slice (some ⟨gy, 0, none⟩) n' n', .slice (some ⟨hy, 0, none⟩) m' m'] 27)) := (World.Since.refl _ _).alloc (Nat.le_refl _) _
    have y11 := Box3.new v10 (.bool f') (.slice (some ⟨gy, 0, none⟩) n' n') (.slice (some ⟨hy, 0, none⟩) m' m') 27
    have S11 := S10.trans (sinceMono t11 S10.size)
    have o11 := o10.keep t11
    have p11 := p10.keep t11
    have B11 := B10.keep t11
    have N11 := N10.keep t11
    have D11 := D10.keep t11
    have Ox11 := Ox10.keep t11
    have Qx11 := Qx10.keep t11
    have Oy11 := Oy10.keep t11
    have Qy11 := Qy10.keep t11
    have x11 := x10.keep t11
    have k0 := x11.c0
    have k1 := x11.c1
    have k2 := x11.c2
    have j0 := y11.c0
    have j1 := y11.c1
    have j2 := y11.c2
    go_wp2_with fail
    clear k0 k1 k2 j0 j1 j2 o10 p10 B10 N10 D10 Ox10 Qx10 Oy10 Qy10 x10 t11
    generalize v10.alloc (.cells #[.bool f', .slice (some ⟨gy, 0, none⟩) n' n', .slice (some ⟨hy, 0, none⟩) m' m'] 27) = v11 at *
    generalize hcy : v10.heap.size = cy at *
    refine (HI _ _ _ _ _ _ _ _ _ _ _ _ _ _ _ _ v11 (Nat.zero_le _) (hT.stay hw S11) (raw_own Ox11 Qx11 lX lY) (raw_own Oy11 Qy11 lX' lY')).mono ?_
    rintro e v12 ⟨v, rfl, ⟨x1, x2, gg, hg, rfl, U12, V12, e121, e122, e123⟩, s12⟩
    have S12 : w.Since w.heap.size v12 := S11.trans (sinceMono s12 S11.size)
    have o12 := o11.keep s12
    have p12 := p11.keep s12
    have B12 := B11.keep s12
    have N12 := N11.keep s12
    have D12 := D11.keep s12
    have Ox12 := Ox11.keep s12
    have Qx12 := Qx11.keep s12
    have Oy12 := Oy11.keep s12
    have Qy12 := Qy11.keep s12
    have x12 := x11.keep s12
    have y12 := y11.keep s12
    have U := U12
    have V := V12
    obtain ⟨a3, q3, c3, Y3, rfl, -⟩ := U12
    obtain ⟨a4, q4, c4, Y4, rfl, -⟩ := V12
    have z12 := s12.size
    have y11l := y11.lt
    clear o11 p11 B11 N11 D11 Ox11 Qx11 Oy11 Qy11 x11 y11 s12
    obtain ⟨Y1, n11, n12, L1, F1, l1, p1, e1⟩ := nat_lim N12
    obtain ⟨Y2, n21, n22, L2, F2, l2, p2, e2⟩ := nat_lim D12
    obtain ⟨Y3, n31, n32, L3, F3, l3, p3, e3⟩ := nat_lim U
    obtain ⟨Y4, n41, n42, L4, F4, l4, p4, e4⟩ := nat_lim V
    obtain ⟨rfl, eY1⟩ := lv_inj l3 l1 p3 p1 (e3.trans e1.symm)
    obtain ⟨rfl, eY2⟩ := lv_inj l4 l2 p4 p2 (e4.trans e2.symm)
    have L3 := L3.congr eY1
    have L4 := L4.congr eY2
    have HQ := hide (And.intro l1 (And.intro p1 (And.intro e1 (And.intro l2 (And.intro p2 e2)))))
    clear l1 p1 e1 l2 p2 e2 l3 p3 e3 l4 p4 e4 eY1 eY2 N12 D12 U V
    have t13 : v12.Since v12.heap.size (v12.alloc (.cells #[.bool NEG, .slice a3 q3 c3, .slice a4 q4 c4] 27)) := (World.Since.refl _ _).alloc (Nat.le_refl _) _
    have G13 := Box3.new v12 (.bool NEG) (.slice a3 q3 c3) (.slice a4 q4 c4) 27
    have S13 := S12.trans (sinceMono t13 S12.size)
    have o13 := o12.keep t13
    have p13 := p12.keep t13
    have B13 := B12.keep t13
    have Ox13 := Ox12.keep t13
    have Qx13 := Qx12.keep t13
    have Oy13 := Oy12.keep t13
    have Qy13 := Qy12.keep t13
    have x13 := x12.keep t13
    have y13 := y12.keep t13
    have L113 := L1.keep t13
    have L213 := L2.keep t13
    have L3' := L3.keep t13
    have L4' := L4.keep t13
    have F313 : 0 < q3 → ∀ o, (v12.alloc (.cells #[.bool NEG, .slice a3 q3 c3, .slice a4 q4 c4] 27)).frozen? ⟨gg, o, none⟩ = false := fun h0 o => by rw [t13.frozen (a := ⟨gg, o, none⟩) (L3.lt h0)]; exact F3 h0 o
    have F413 : 0 < q4 → ∀ o, (v12.alloc (.cells #[.bool NEG, .slice a3 q3 c3, .slice a4 q4 c4] 27)).frozen? ⟨hg, o, none⟩ = false := fun h0 o => by rw [t13.frozen (a := ⟨hg, o, none⟩) (L4.lt h0)]; exact F4 h0 o
    have L313 := L3'
    have L413 := L4'
    have ggl : 0 < q3 → gg < v12.heap.size := L3.lt
    have hgl : 0 < q4 → hg < v12.heap.size := L4.lt
    clear L3' L4' L1 L2 L3 L4
    have k0 := G13.c0
    have k1 := G13.c1
    have k2 := G13.c2
    have j0 := B13.c0
    have j1 := B13.c1
    have j2 := B13.c2
    go_wp2_with fail
    clear k0 k1 k2 j0 j1 j2 o12 p12 B12 Ox12 Qx12 Oy12 Qy12 x12 y12 t13 F1 F2
    generalize v12.alloc (.cells #[.bool NEG, .slice a3 q3 c3, .slice a4 q4 c4] 27) = v13 at *
    generalize hcg : v12.heap.size = cg at *
    refine (eqRat_true NEG a3 a1 a4 a2 gg 0 g6 0 q3 c3 c1 hg 0 h6 0 q4 c4 c2 Y1 Y2 v13 (by omega) (by omega) L313 L113 L413 L213).mono ?_
    rintro e v14 ⟨rfl, s14⟩
    have S14 : w.Since w.heap.size v14 := S13.trans (sinceMono s14 S13.size)
    have o14 := o13.keep s14
    have p14 := p13.keep s14
    have B14 := B13.keep s14
    have Ox14 := Ox13.keep s14
    have Qx14 := Qx13.keep s14
    have Oy14 := Oy13.keep s14
    have Qy14 := Qy13.keep s14
    have x14 := x13.keep s14
    have y14 := y13.keep s14
    have G14 := G13.keep s14
    have L114 := L113.keep s14
    have L214 := L213.keep s14
    have L314 := L313.keep s14
    have L414 := L413.keep s14
    have F314 : 0 < q3 → ∀ o, v14.frozen? ⟨gg, o, none⟩ = false := fun h0 o => by rw [s14.frozen (a := ⟨gg, o, none⟩) (L313.lt h0)]; exact F313 h0 o
    have F414 : 0 < q4 → ∀ o, v14.frozen? ⟨hg, o, none⟩ = false := fun h0 o => by rw [s14.frozen (a := ⟨hg, o, none⟩) (L413.lt h0)]; exact F413 h0 o
    have z14 := s14.size
    clear o13 p13 B13 Ox13 Qx13 Oy13 Qy13 x13 y13 G13 L113 L213 L313 L413 F313 F413 s14
    have kA := And.intro o14.cells x14.cells
    have J1 := toRat_any f a b ba oa n ca bb ob m cb X Y v14.drew (by omega) (by omega) (hX.keep (since_drew S14)) (hY.keep (since_drew S14))
    go_wp2_with fail
    go_region_held3 (fun w' => w'.cell? ⟨w.heap.size, 0, none⟩ = some (.bool f) ∧ w'.cell? ⟨w.heap.size, 1, none⟩ = some (.slice a n ca) ∧ w'.cell? ⟨w.heap.size, 2, none⟩ = some (.slice b m cb) ∧ w'.cell? ⟨cx, 0, none⟩ = some (.bool f) ∧ w'.cell? ⟨cx, 1, none⟩ = some (.slice (some ⟨gx, 0, none⟩) n n) ∧ w'.cell? ⟨cx, 2, none⟩ = some (.slice (some ⟨hx, 0, none⟩) m m)) (go_keep)
      (first
        | (go_at_call 35
           with_reducible refine J1.mono ?_
           rintro e v15 ⟨gt, ht, rfl, sm, bm1, bm2, bm3, LXm, LYm, -, -⟩
           have J2 := eqRat_true f _ _ _ _ gx 0 gt 0 n n n hx 0 ht 0 m m m X Y v15 (by omega) (by omega) ((Ox14.L.drew).keep sm) LXm ((Qx14.L.drew).keep sm) LYm
           have kB := And.intro (o14.drew.keep sm).cells (x14.drew.keep sm).cells)
        | (go_at_call 36
           with_reducible refine J2.mono ?_
           rintro e v16 ⟨rfl, sn⟩
           have tt : v14.drew.Since v14.drew.heap.size v16 := sm.trans (sinceMono sn sm.size)
           have kC := And.intro (o14.drew.keep tt).cells (x14.drew.keep tt).cells))
    have tt : v14.Since v14.heap.size v16 := ⟨tt.os, tt.tape, tt.output, tt.size, tt.block⟩
    clear kA kB kC J1 J2 sm sn LXm LYm bm1 bm2 bm3
    have S16 : w.Since w.heap.size v16 := S14.trans (sinceMono tt S14.size)
    have o16 := o14.keep tt
    have p16 := p14.keep tt
    have B16 := B14.keep tt
    have Ox16 := Ox14.keep tt
    have Qx16 := Qx14.keep tt
    have Oy16 := Oy14.keep tt
    have Qy16 := Qy14.keep tt
    have x16 := x14.keep tt
    have y16 := y14.keep tt
    have G16 := G14.keep tt
    have L116 := L114.keep tt
    have L216 := L214.keep tt
    have L316 := L314.keep tt
    have L416 := L414.keep tt
    have F316 : 0 < q3 → ∀ o, v16.frozen? ⟨gg, o, none⟩ = false := fun h0 o => by rw [tt.frozen (a := ⟨gg, o, none⟩) (L314.lt h0)]; exact F314 h0 o
    have F416 : 0 < q4 → ∀ o, v16.frozen? ⟨hg, o, none⟩ = false := fun h0 o => by rw [tt.frozen (a := ⟨hg, o, none⟩) (L414.lt h0)]; exact F414 h0 o
    have z16 := tt.size
    clear o14 p14 B14 Ox14 Qx14 Oy14 Qy14 x14 y14 G14 L114 L214 L314 L414 F314 F414 tt
    have kA := And.intro p16.cells y16.cells
    have J1 := toRat_any f' a' b' ba' oa' n' ca' bb' ob' m' cb' X' Y' v16.drew (by omega) (by omega) (hX'.keep (since_drew S16)) (hY'.keep (since_drew S16))
    go_wp2_with fail
    go_region_held3 (fun w' => w'.cell? ⟨w.heap.size + 1, 0, none⟩ = some (.bool f') ∧ w'.cell? ⟨w.heap.size + 1, 1, none⟩ = some (.slice a' n' ca') ∧ w'.cell? ⟨w.heap.size + 1, 2, none⟩ = some (.slice b' m' cb') ∧ w'.cell? ⟨cy, 0, none⟩ = some (.bool f') ∧ w'.cell? ⟨cy, 1, none⟩ = some (.slice (some ⟨gy, 0, none⟩) n' n') ∧ w'.cell? ⟨cy, 2, none⟩ = some (.slice (some ⟨hy, 0, none⟩) m' m')) (go_keep)
      (first
        | (go_at_call 35
           with_reducible refine J1.mono ?_
           rintro e v17 ⟨gt, ht, rfl, sm, bm1, bm2, bm3, LXm, LYm, -, -⟩
           have J2 := eqRat_true f' _ _ _ _ gy 0 gt 0 n' n' n' hy 0 ht 0 m' m' m' X' Y' v17 (by omega) (by omega) ((Oy16.L.drew).keep sm) LXm ((Qy16.L.drew).keep sm) LYm
           have kB := And.intro (p16.drew.keep sm).cells (y16.drew.keep sm).cells)
        | (go_at_call 36
           with_reducible refine J2.mono ?_
           rintro e v18 ⟨rfl, sn⟩
           have tt : v16.drew.Since v16.drew.heap.size v18 := sm.trans (sinceMono sn sm.size)
           have kC := And.intro (p16.drew.keep tt).cells (y16.drew.keep tt).cells))
    have tt : v16.Since v16.heap.size v18 := ⟨tt.os, tt.tape, tt.output, tt.size, tt.block⟩
    clear kA kB kC J1 J2 sm sn LXm LYm bm1 bm2 bm3
    have S18 : w.Since w.heap.size v18 := S16.trans (sinceMono tt S16.size)
    have o18 := o16.keep tt
    have p18 := p16.keep tt
    have B18 := B16.keep tt
    have Ox18 := Ox16.keep tt
    have Qx18 := Qx16.keep tt
    have Oy18 := Oy16.keep tt
    have Qy18 := Qy16.keep tt
    have x18 := x16.keep tt
    have y18 := y16.keep tt
    have G18 := G16.keep tt
    have L118 := L116.keep tt
    have L218 := L216.keep tt
    have L318 := L316.keep tt
    have L418 := L416.keep tt
    have F318 : 0 < q3 → ∀ o, v18.frozen? ⟨gg, o, none⟩ = false := fun h0 o => by rw [tt.frozen (a := ⟨gg, o, none⟩) (L316.lt h0)]; exact F316 h0 o
    have F418 : 0 < q4 → ∀ o, v18.frozen? ⟨hg, o, none⟩ = false := fun h0 o => by rw [tt.frozen (a := ⟨hg, o, none⟩) (L416.lt h0)]; exact F416 h0 o
    have z18 := tt.size
    clear o16 p16 B16 Ox16 Qx16 Oy16 Qy16 x16 y16 G16 L116 L216 L316 L416 F316 F416 tt
    have k0 := x18.c0
    have k1 := x18.c1
    have k2 := x18.c2
    go_wp2_with fail
    refine (markRat_any f _ _ gx hx n n m m X Y 1 v18 (by omega) (by omega) (by omega) Ox18.L Qx18.L (by omega) (fun _ => Ox18.F) (fun _ => Qx18.F)).mono ?_
    rintro e v19 ⟨rfl, K19, -, -⟩
    clear k0 k1 k2
    have S19 : w.Since w.heap.size v19 := S18.trans (K19.since S18.size (fun _ => by omega) (fun _ => by omega))
    have o19 := o18.ofBlock (K19.block w.heap.size o18.lt (fun _ => by omega) (fun _ => by omega))
    have p19 := p18.ofBlock (K19.block (w.heap.size + 1) p18.lt (fun _ => by omega) (fun _ => by omega))
    have B19 := B18.ofBlock (K19.block c0 B18.lt (fun _ => by omega) (fun _ => by omega))
    have y19 := y18.ofBlock (K19.block cy y18.lt (fun _ => by omega) (fun _ => by omega))
    have G19 := G18.ofBlock (K19.block cg G18.lt (fun _ => by omega) (fun _ => by omega))
    have Oy19 := Oy18.ofBlock (K19.block gy Oy18.lt (fun _ => by omega) (fun _ => by omega)) K19.size
    have Qy19 := Qy18.ofBlock (K19.block hy Qy18.lt (fun _ => by omega) (fun _ => by omega)) K19.size
    have L119 := L118.ofBlock (fun h0 => K19.block g6 (L118.lt h0) (fun _ => by have := g6l h0; omega) (fun _ => by have := g6l h0; omega))
    have L219 := L218.ofBlock (fun h0 => K19.block h6 (L218.lt h0) (fun _ => by have := h6l h0; omega) (fun _ => by have := h6l h0; omega))
    have L319 := L318.ofBlock (fun h0 => K19.block gg (L318.lt h0) (fun _ => by have := ggl h0; omega) (fun _ => by have := ggl h0; omega))
    have L419 := L418.ofBlock (fun h0 => K19.block hg (L418.lt h0) (fun _ => by have := hgl h0; omega) (fun _ => by have := hgl h0; omega))
    have F319 : 0 < q3 → ∀ o, v19.frozen? ⟨gg, o, none⟩ = false := fun h0 o => (World.frozen?_of_block (w := v18) (a := ⟨gg, o, none⟩) (K19.block gg (L318.lt h0) (fun _ => by omega) (fun _ => by omega))).trans (F318 h0 o)
    have F419 : 0 < q4 → ∀ o, v19.frozen? ⟨hg, o, none⟩ = false := fun h0 o => (World.frozen?_of_block (w := v18) (a := ⟨hg, o, none⟩) (K19.block hg (L418.lt h0) (fun _ => by omega) (fun _ => by omega))).trans (F418 h0 o)
    have z19 := K19.size
    clear o18 p18 B18 y18 G18 x18 Ox18 Qx18 Oy18 Qy18 L118 L218 L318 L418 F318 F418 K19
    have k0 := y19.c0
    have k1 := y19.c1
    have k2 := y19.c2
    go_wp2_with fail
    refine (markRat_any f' _ _ gy hy n' n' m' m' X' Y' (1 + n + m) v19 (by omega) (by omega) (by omega) Oy19.L Qy19.L (by omega) (fun _ => Oy19.F) (fun _ => Qy19.F)).mono ?_
    rintro e v20 ⟨rfl, K20, -, -⟩
    clear k0 k1 k2
    have S20 : w.Since w.heap.size v20 := S19.trans (K20.since S19.size (fun _ => by omega) (fun _ => by omega))
    have o20 := o19.ofBlock (K20.block w.heap.size o19.lt (fun _ => by omega) (fun _ => by omega))
    have p20 := p19.ofBlock (K20.block (w.heap.size + 1) p19.lt (fun _ => by omega) (fun _ => by omega))
    have B20 := B19.ofBlock (K20.block c0 B19.lt (fun _ => by omega) (fun _ => by omega))
    have G20 := G19.ofBlock (K20.block cg G19.lt (fun _ => by omega) (fun _ => by omega))
    have L120 := L119.ofBlock (fun h0 => K20.block g6 (L119.lt h0) (fun _ => by have := g6l h0; omega) (fun _ => by have := g6l h0; omega))
    have L220 := L219.ofBlock (fun h0 => K20.block h6 (L219.lt h0) (fun _ => by have := h6l h0; omega) (fun _ => by have := h6l h0; omega))
    have L320 := L319.ofBlock (fun h0 => K20.block gg (L319.lt h0) (fun _ => by have := ggl h0; omega) (fun _ => by have := ggl h0; omega))
    have L420 := L419.ofBlock (fun h0 => K20.block hg (L419.lt h0) (fun _ => by have := hgl h0; omega) (fun _ => by have := hgl h0; omega))
    have F320 : 0 < q3 → ∀ o, v20.frozen? ⟨gg, o, none⟩ = false := fun h0 o => (World.frozen?_of_block (w := v19) (a := ⟨gg, o, none⟩) (K20.block gg (L319.lt h0) (fun _ => by omega) (fun _ => by omega))).trans (F319 h0 o)
    have F420 : 0 < q4 → ∀ o, v20.frozen? ⟨hg, o, none⟩ = false := fun h0 o => (World.frozen?_of_block (w := v19) (a := ⟨hg, o, none⟩) (K20.block hg (L419.lt h0) (fun _ => by omega) (fun _ => by omega))).trans (F419 h0 o)
    have z20 := K20.size
    clear o19 p19 B19 y19 G19 Oy19 Qy19 L119 L219 L319 L419 F319 F419 K20
    have hk : ¬ (((1 + n + m + n' + m' : Nat) : Int) < 0) := by omega
    have k0 := G20.c0
    have k1 := G20.c1
    have k2 := G20.c2
    have j0 := B20.c0
    have j1 := B20.c1
    have j2 := B20.c2
    go_wp2_with fail
    refine (eqRat_true NEG a3 a1 a4 a2 gg 0 g6 0 q3 c3 c1 hg 0 h6 0 q4 c4 c2 Y1 Y2 v20 (by omega) (by omega) L320 L120 L420 L220).mono ?_
    rintro e v21 ⟨rfl, s21⟩
    clear k0 k1 k2 j0 j1 j2
    have S21 : w.Since w.heap.size v21 := S20.trans (sinceMono s21 S20.size)
    have o21 := o20.keep s21
    have p21 := p20.keep s21
    have B21 := B20.keep s21
    have G21 := G20.keep s21
    have L121 := L120.keep s21
    have L221 := L220.keep s21
    have L321 := L320.keep s21
    have L421 := L420.keep s21
    have F321 : 0 < q3 → ∀ o, v21.frozen? ⟨gg, o, none⟩ = false := fun h0 o => by rw [s21.frozen (a := ⟨gg, o, none⟩) (L320.lt h0)]; exact F320 h0 o
    have F421 : 0 < q4 → ∀ o, v21.frozen? ⟨hg, o, none⟩ = false := fun h0 o => by rw [s21.frozen (a := ⟨hg, o, none⟩) (L420.lt h0)]; exact F420 h0 o
    have z21 := s21.size
    clear o20 p20 B20 G20 L120 L220 L320 L420 F320 F420 s21
    have k0 := G21.c0
    have k1 := G21.c1
    have k2 := G21.c2
    go_wp2_with fail
    refine (markRat_any NEG a3 a4 gg hg q3 c3 q4 c4 Y1 Y2 1 v21 (by omega) (by omega) (by omega) L321 L421 e123 F321 F421).mono ?_
    rintro e v22 ⟨rfl, K22, X322, X422⟩
    clear k0 k1 k2
    have S22 : w.Since w.heap.size v22 := S21.trans (K22.since S21.size (fun _ => by omega) (fun _ => by omega))
    have o22 := o21.ofBlock (K22.block w.heap.size o21.lt (fun h0 => by have := ggl h0; omega) (fun h0 => by have := hgl h0; omega))
    have p22 := p21.ofBlock (K22.block (w.heap.size + 1) p21.lt (fun h0 => by have := ggl h0; omega) (fun h0 => by have := hgl h0; omega))
    have B22 := B21.ofBlock (K22.block c0 B21.lt (fun h0 => by have := ggl h0; omega) (fun h0 => by have := hgl h0; omega))
    have G22 := G21.ofBlock (K22.block cg G21.lt (fun h0 => by have := ggl h0; omega) (fun h0 => by have := hgl h0; omega))
    have L122 := L121.ofBlock (fun h0 => K22.block g6 (L121.lt h0) (fun _ => by have := g6l h0; omega) (fun _ => by have := g6l h0; omega))
    have L222 := L221.ofBlock (fun h0 => K22.block h6 (L221.lt h0) (fun _ => by have := h6l h0; omega) (fun _ => by have := h6l h0; omega))
    have z22 := K22.size
    clear o21 p21 B21 G21 L121 L221 L321 L421 F321 F421 K22
    have k0 := G22.c0
    have k1 := G22.c1
    have k2 := G22.c2
    go_wp2_with fail
    refine (heldRat_any NEG a3 a4 gg hg q3 c3 q4 c4 1 v22 (by omega) (by omega) (by omega) X322 X422).mono ?_
    rintro e v23 ⟨rfl, s23⟩
    clear k0 k1 k2 X322 X422
    have S23 : w.Since w.heap.size v23 := S22.trans (sinceMono s23 S22.size)
    have o23 := o22.keep s23
    have p23 := p22.keep s23
    have B23 := B22.keep s23
    have L123 := L122.keep s23
    have L223 := L222.keep s23
    have z23 := s23.size
    clear o22 p22 B22 G22 L122 L222 s23
    have hk2 : ¬ (((1 + q3 + q4 : Nat) : Int) < 0) := by omega
    have kk := And.intro o23.cells p23.cells
    go_wp2_with fail
    try clear HS
    try clear hcx
    try clear hcy
    try clear hcg
    try clear b81
    try clear b82
    try clear b83
    try clear z8
    try clear b7
    try clear x9l
    try clear b101
    try clear b102
    try clear b103
    try clear z10
    try clear y11l
    try clear e121
    try clear e122
    try clear e123
    try clear z12
    try clear g6l
    try clear h6l
    try clear ggl
    try clear hgl
    try clear c0l
    try clear z7
    try clear hc0
    try clear S7
    try clear S8
    try clear S9
    try clear S10
    try clear S11
    try clear S12
    try clear S13
    try clear S14
    try clear S16
    try clear S18
    try clear S19
    try clear S20
    try clear S21
    try clear S22
    try clear z14
    try clear z16
    try clear z18
    try clear z19
    try clear z20
    try clear z21
    try clear z22
    try clear z23
    try clear n11
    try clear n21
    try clear n31
    try clear n41
    try clear hk
    try clear hk2
    have SD : w.Since w.heap.size v23.drew := since_drew S23
    have SE : w.Since w.heap.size (v23.alloc (.cells #[.bool false, .slice none 0 0, .slice none 0 0] 27)).drew := since_drew (S23.trans (sinceMono ((World.Since.refl _ _).alloc (Nat.le_refl _) _) S23.size))
    have J1 := toRat_any f a b ba oa n ca bb ob m cb X Y v23.drew (by omega) (by omega) (hX.keep SD) (hY.keep SD)
    have J1b := toRat_any f a b ba oa n ca bb ob m cb X Y (v23.alloc (.cells #[.bool false, .slice none 0 0, .slice none 0 0] 27)).drew (by omega) (by omega) (hX.keep SE) (hY.keep SE)
    have ol := o23.lt
    have pl := p23.lt
    have nb1 : v23.heap.size ≠ w.heap.size := by omega
    have nb2 : v23.heap.size ≠ w.heap.size + 1 := by omega
    have zb : (v23.alloc (.cells #[.bool false, .slice none 0 0, .slice none 0 0] 27)).drew.heap.size = v23.heap.size + 1 := by show (v23.alloc (.cells #[.bool false, .slice none 0 0, .slice none 0 0] 27)).heap.size = _; simp
    have oE := ((o23.keep ((World.Since.refl _ _).alloc (Nat.le_refl _) (.cells #[.bool false, .slice none 0 0, .slice none 0 0] 27))).drew)
    have pE := ((p23.keep ((World.Since.refl _ _).alloc (Nat.le_refl _) (.cells #[.bool false, .slice none 0 0, .slice none 0 0] 27))).drew)
    have B23E := ((B23.keep ((World.Since.refl _ _).alloc (Nat.le_refl _) (.cells #[.bool false, .slice none 0 0, .slice none 0 0] 27))).drew)
    have L123E := ((L123.keep ((World.Since.refl _ _).alloc (Nat.le_refl _) (.cells #[.bool false, .slice none 0 0, .slice none 0 0] 27))).drew)
    have L223E := ((L223.keep ((World.Since.refl _ _).alloc (Nat.le_refl _) (.cells #[.bool false, .slice none 0 0, .slice none 0 0] 27))).drew)
    have yEE := (Box3.new v23 (.bool false) (.slice none 0 0) (.slice none 0 0) 27).drew
    go_region_held3 (fun w' => w'.cell? ⟨w.heap.size, 0, none⟩ = some (.bool f) ∧ w'.cell? ⟨w.heap.size, 1, none⟩ = some (.slice a n ca) ∧ w'.cell? ⟨w.heap.size, 2, none⟩ = some (.slice b m cb) ∧ w'.cell? ⟨w.heap.size + 1, 0, none⟩ = some (.bool f') ∧ w'.cell? ⟨w.heap.size + 1, 1, none⟩ = some (.slice a' n' ca') ∧ w'.cell? ⟨w.heap.size + 1, 2, none⟩ = some (.slice b' m' cb')) (go_keep)
      (first
        | (go_at_call 35
           with_reducible refine J1.mono ?_
           rintro e h4v ⟨gx4, hx4, rfl, s4h, b41, b42, b43, LX4, LY4, FX4, FY4⟩
           have S4h : w.Since w.heap.size h4v := SD.trans (sinceMono s4h SD.size)
           have o4h := (o23.drew).keep s4h
           have p4h := (p23.drew).keep s4h
           have kk4 := And.intro o4h.cells p4h.cells
           have z4h := s4h.size
           have B234 := (B23.drew).keep s4h
           have L1234 := (L123.drew).keep s4h
           have L2234 := (L223.drew).keep s4h
           have O4h : Own h4v gx4 n X := ⟨LX4, FX4, by omega⟩
           have Q4h : Own h4v hx4 m Y := ⟨LY4, FY4, b43⟩
           have zz4 : v23.heap.size ≤ h4v.heap.size := by exact z4h
           have ne14 : h4v.heap.size ≠ w.heap.size := by omega
           have ne24 : h4v.heap.size ≠ w.heap.size + 1 := by omega
           have T4h := S4h.trans (sinceMono ((World.Since.refl _ _).alloc (Nat.le_refl _) (.cells #[.bool false, .slice none 0 0, .slice none 0 0] 27)) S4h.size)
           have J2 := toRat_any f' a' b' ba' oa' n' ca' bb' ob' m' cb' X' Y' h4v (by omega) (by omega) (hX'.keep S4h) (hY'.keep S4h)
           have J2b := toRat_any f' a' b' ba' oa' n' ca' bb' ob' m' cb' X' Y' (h4v.alloc (.cells #[.bool false, .slice none 0 0, .slice none 0 0] 27)) (by omega) (by omega) (hX'.keep T4h) (hY'.keep T4h))
        | (go_at_call 35
           with_reducible refine J1b.mono ?_
           rintro e h4v ⟨gx4, hx4, rfl, s4h, b41, b42, b43, LX4, LY4, FX4, FY4⟩
           have S4h : w.Since w.heap.size h4v := SE.trans (sinceMono s4h SE.size)
           have o4h := (oE).keep s4h
           have p4h := (pE).keep s4h
           have kk4 := And.intro o4h.cells p4h.cells
           have z4h := s4h.size
           have B234 := (B23E).keep s4h
           have L1234 := (L123E).keep s4h
           have L2234 := (L223E).keep s4h
           have yy4 := yEE.keep s4h
           have O4h : Own h4v gx4 n X := ⟨LX4, FX4, by omega⟩
           have Q4h : Own h4v hx4 m Y := ⟨LY4, FY4, b43⟩
           have zz4 : v23.heap.size ≤ h4v.heap.size := by omega
           have ne14 : h4v.heap.size ≠ w.heap.size := by omega
           have ne24 : h4v.heap.size ≠ w.heap.size + 1 := by omega
           have T4h := S4h.trans (sinceMono ((World.Since.refl _ _).alloc (Nat.le_refl _) (.cells #[.bool false, .slice none 0 0, .slice none 0 0] 27)) S4h.size)
           have J2 := toRat_any f' a' b' ba' oa' n' ca' bb' ob' m' cb' X' Y' h4v (by omega) (by omega) (hX'.keep S4h) (hY'.keep S4h)
           have J2b := toRat_any f' a' b' ba' oa' n' ca' bb' ob' m' cb' X' Y' (h4v.alloc (.cells #[.bool false, .slice none 0 0, .slice none 0 0] 27)) (by omega) (by omega) (hX'.keep T4h) (hY'.keep T4h))
        | (go_at_call 35
           have yqq := yy4
           with_reducible refine J2.mono ?_
           rintro e h5v ⟨gx5, hx5, rfl, s5h, b51, b52, b53, LX5, LY5, FX5, FY5⟩
           have t4h : h4v.Since h4v.heap.size h5v := s5h
           have yy5 := yqq.keep s5h
           have S5h : w.Since w.heap.size h5v := S4h.trans (sinceMono t4h S4h.size)
           have o5h := o4h.keep t4h
           have p5h := p4h.keep t4h
           have kk5 := And.intro o5h.cells p5h.cells
           have z5h := t4h.size
           have B235 := B234.keep t4h
           have L1235 := L1234.keep t4h
           have L2235 := L2234.keep t4h
           have O5h := O4h.keep t4h
           have Q5h := Q4h.keep t4h
           have O5h' : Own h5v gx5 n' X' := ⟨LX5, FX5, by omega⟩
           have Q5h' : Own h5v hx5 m' Y' := ⟨LY5, FY5, b53⟩
           have ne15 : h5v.heap.size ≠ w.heap.size := by omega
           have ne25 : h5v.heap.size ≠ w.heap.size + 1 := by omega
           have t5h : h5v.Since h5v.heap.size (h5v.alloc (.cells #[.bool false, .slice none 0 0, .slice none 0 0] 27)) := (World.Since.refl _ _).alloc (Nat.le_refl _) _
           have S5b := S5h.trans (sinceMono t5h S5h.size)
           have J3 := HI _ _ _ _ _ _ _ _ _ _ _ _ _ _ _ _ h5v (Nat.zero_le _) (hT.stay hw S5h) (raw_own O5h Q5h lX lY) (raw_own O5h' Q5h' lX' lY')
           have J3b := HI _ _ _ _ _ _ _ _ _ _ _ _ _ _ _ _ (h5v.alloc (.cells #[.bool false, .slice none 0 0, .slice none 0 0] 27)) (Nat.zero_le _) (hT.stay hw S5b) (raw_own (O5h.keep t5h) (Q5h.keep t5h) lX lY) (raw_own (O5h'.keep t5h) (Q5h'.keep t5h) lX' lY'))
        | (go_at_call 35
           with_reducible refine J2.mono ?_
           rintro e h5v ⟨gx5, hx5, rfl, s5h, b51, b52, b53, LX5, LY5, FX5, FY5⟩
           have t4h : h4v.Since h4v.heap.size h5v := s5h
           have S5h : w.Since w.heap.size h5v := S4h.trans (sinceMono t4h S4h.size)
           have o5h := o4h.keep t4h
           have p5h := p4h.keep t4h
           have kk5 := And.intro o5h.cells p5h.cells
           have z5h := t4h.size
           have B235 := B234.keep t4h
           have L1235 := L1234.keep t4h
           have L2235 := L2234.keep t4h
           have O5h := O4h.keep t4h
           have Q5h := Q4h.keep t4h
           have O5h' : Own h5v gx5 n' X' := ⟨LX5, FX5, by omega⟩
           have Q5h' : Own h5v hx5 m' Y' := ⟨LY5, FY5, b53⟩
           have ne15 : h5v.heap.size ≠ w.heap.size := by omega
           have ne25 : h5v.heap.size ≠ w.heap.size + 1 := by omega
           have t5h : h5v.Since h5v.heap.size (h5v.alloc (.cells #[.bool false, .slice none 0 0, .slice none 0 0] 27)) := (World.Since.refl _ _).alloc (Nat.le_refl _) _
           have S5b := S5h.trans (sinceMono t5h S5h.size)
           have J3 := HI _ _ _ _ _ _ _ _ _ _ _ _ _ _ _ _ h5v (Nat.zero_le _) (hT.stay hw S5h) (raw_own O5h Q5h lX lY) (raw_own O5h' Q5h' lX' lY')
           have J3b := HI _ _ _ _ _ _ _ _ _ _ _ _ _ _ _ _ (h5v.alloc (.cells #[.bool false, .slice none 0 0, .slice none 0 0] 27)) (Nat.zero_le _) (hT.stay hw S5b) (raw_own (O5h.keep t5h) (Q5h.keep t5h) lX lY) (raw_own (O5h'.keep t5h) (Q5h'.keep t5h) lX' lY'))
        | (go_at_call 35
           with_reducible refine J2b.mono ?_
           rintro e h5v ⟨gx5, hx5, rfl, s5h, b51, b52, b53, LX5, LY5, FX5, FY5⟩
           have t4h : h4v.Since h4v.heap.size h5v := ((World.Since.refl _ _).alloc (Nat.le_refl _) (.cells #[.bool false, .slice none 0 0, .slice none 0 0] 27)).trans (sinceMono s5h (by simp))
           have yy5 := (Box3.new h4v (.bool false) (.slice none 0 0) (.slice none 0 0) 27).keep s5h
           have S5h : w.Since w.heap.size h5v := S4h.trans (sinceMono t4h S4h.size)
           have o5h := o4h.keep t4h
           have p5h := p4h.keep t4h
           have kk5 := And.intro o5h.cells p5h.cells
           have z5h := t4h.size
           have B235 := B234.keep t4h
           have L1235 := L1234.keep t4h
           have L2235 := L2234.keep t4h
           have O5h := O4h.keep t4h
           have Q5h := Q4h.keep t4h
           have O5h' : Own h5v gx5 n' X' := ⟨LX5, FX5, by omega⟩
           have Q5h' : Own h5v hx5 m' Y' := ⟨LY5, FY5, b53⟩
           have ne15 : h5v.heap.size ≠ w.heap.size := by omega
           have ne25 : h5v.heap.size ≠ w.heap.size + 1 := by omega
           have t5h : h5v.Since h5v.heap.size (h5v.alloc (.cells #[.bool false, .slice none 0 0, .slice none 0 0] 27)) := (World.Since.refl _ _).alloc (Nat.le_refl _) _
           have S5b := S5h.trans (sinceMono t5h S5h.size)
           have J3 := HI _ _ _ _ _ _ _ _ _ _ _ _ _ _ _ _ h5v (Nat.zero_le _) (hT.stay hw S5h) (raw_own O5h Q5h lX lY) (raw_own O5h' Q5h' lX' lY')
           have J3b := HI _ _ _ _ _ _ _ _ _ _ _ _ _ _ _ _ (h5v.alloc (.cells #[.bool false, .slice none 0 0, .slice none 0 0] 27)) (Nat.zero_le _) (hT.stay hw S5b) (raw_own (O5h.keep t5h) (Q5h.keep t5h) lX lY) (raw_own (O5h'.keep t5h) (Q5h'.keep t5h) lX' lY'))
        | (go_at_call 24
           have yqq := yy5
           with_reducible refine J3.mono ?_
           rintro e h6v ⟨v, rfl, ⟨x1, x2, g9, h9, rfl, N6h, D6h, r61, r62, r63⟩, s6h⟩
           have t6h : h5v.Since h5v.heap.size h6v := s6h
           have rr : h5v.heap.size ≤ g9 ∧ h5v.heap.size ≤ h9 := ⟨r61, r62⟩
           have yy6 := yqq.keep s6h
           have S6h : w.Since w.heap.size h6v := S5h.trans (sinceMono t6h S5h.size)
           have o6h := o5h.keep t6h
           have p6h := p5h.keep t6h
           have kk6 := And.intro o6h.cells p6h.cells
           have z6h := t6h.size
           have B236 := B235.keep t6h
           have L1236 := L1235.keep t6h
           have L2236 := L2235.keep t6h
           have N6h' := N6h
           have D6h' := D6h
           obtain ⟨a5, q5, c5, Y5, rfl, -⟩ := N6h
           obtain ⟨a6, q6, c6, Y6, rfl, -⟩ := D6h
           have ne16 : h6v.heap.size ≠ w.heap.size := by omega
           have ne26 : h6v.heap.size ≠ w.heap.size + 1 := by omega
           have u0 := yy6.c0
           have u1 := yy6.c1
           have u2 := yy6.c2
           have uf0 := yy6.f 0
           have uf1 := yy6.f 1
           have uf2 := yy6.f 2)
        | (go_at_call 24
           with_reducible refine J3.mono ?_
           rintro e h6v ⟨v, rfl, ⟨x1, x2, g9, h9, rfl, N6h, D6h, r61, r62, r63⟩, s6h⟩
           have t6h : h5v.Since h5v.heap.size h6v := s6h
           have rr : h5v.heap.size ≤ g9 ∧ h5v.heap.size ≤ h9 := ⟨r61, r62⟩
           have S6h : w.Since w.heap.size h6v := S5h.trans (sinceMono t6h S5h.size)
           have o6h := o5h.keep t6h
           have p6h := p5h.keep t6h
           have kk6 := And.intro o6h.cells p6h.cells
           have z6h := t6h.size
           have B236 := B235.keep t6h
           have L1236 := L1235.keep t6h
           have L2236 := L2235.keep t6h
           have N6h' := N6h
           have D6h' := D6h
           obtain ⟨a5, q5, c5, Y5, rfl, -⟩ := N6h
           obtain ⟨a6, q6, c6, Y6, rfl, -⟩ := D6h
           have ne16 : h6v.heap.size ≠ w.heap.size := by omega
           have ne26 : h6v.heap.size ≠ w.heap.size + 1 := by omega)
        | (go_at_call 24
           with_reducible refine J3b.mono ?_
           rintro e h6v ⟨v, rfl, ⟨x1, x2, g9, h9, rfl, N6h, D6h, r61, r62, r63⟩, s6h⟩
           have t6h : h5v.Since h5v.heap.size h6v := t5h.trans (sinceMono s6h t5h.size)
           have yy6 := (Box3.new h5v (.bool false) (.slice none 0 0) (.slice none 0 0) 27).keep s6h
           have rr : h5v.heap.size ≤ g9 ∧ h5v.heap.size ≤ h9 := ⟨Nat.le_trans t5h.size r61, Nat.le_trans t5h.size r62⟩
           have S6h : w.Since w.heap.size h6v := S5h.trans (sinceMono t6h S5h.size)
           have o6h := o5h.keep t6h
           have p6h := p5h.keep t6h
           have kk6 := And.intro o6h.cells p6h.cells
           have z6h := t6h.size
           have B236 := B235.keep t6h
           have L1236 := L1235.keep t6h
           have L2236 := L2235.keep t6h
           have N6h' := N6h
           have D6h' := D6h
           obtain ⟨a5, q5, c5, Y5, rfl, -⟩ := N6h
           obtain ⟨a6, q6, c6, Y6, rfl, -⟩ := D6h
           have ne16 : h6v.heap.size ≠ w.heap.size := by omega
           have ne26 : h6v.heap.size ≠ w.heap.size + 1 := by omega
           have u0 := yy6.c0
           have u1 := yy6.c1
           have u2 := yy6.c2
           have uf0 := yy6.f 0
           have uf1 := yy6.f 1
           have uf2 := yy6.f 2))
    all_goals
      first
      | (with_reducible show Exit.then _ _ Exit.normal _ (h6v.alloc (.cells #[.bool NEG, .slice a5 q5 c5, .slice a6 q6 c6] 27))
         have t7 : h6v.Since h6v.heap.size (h6v.alloc (.cells #[.bool NEG, .slice a5 q5 c5, .slice a6 q6 c6] 27)) := (World.Since.refl _ _).alloc (Nat.le_refl _) _
         have H24 := Box3.new h6v (.bool NEG) (.slice a5 q5 c5) (.slice a6 q6 c6) 27
         have S24 := S6h.trans (sinceMono t7 S6h.size)
         have N24 := N6h'.keep t7
         have D24 := D6h'.keep t7
         have B24 := B236.keep t7
         have L124 := L1236.keep t7
         have L224 := L2236.keep t7
         generalize h6v.alloc (.cells #[.bool NEG, .slice a5 q5 c5, .slice a6 q6 c6] 27) = v24 at *
         generalize h6v.heap.size = c5h at *)
      | (with_reducible show Exit.then _ _ Exit.normal _ (((h6v.setCell ⟨v23.heap.size, 0, none⟩ (.bool NEG)).setCell ⟨v23.heap.size, 1, none⟩ (.slice a5 q5 c5)).setCell ⟨v23.heap.size, 2, none⟩ (.slice a6 q6 c6))
         have M7 : Marked h6v (((h6v.setCell ⟨v23.heap.size, 0, none⟩ (.bool NEG)).setCell ⟨v23.heap.size, 1, none⟩ (.slice a5 q5 c5)).setCell ⟨v23.heap.size, 2, none⟩ (.slice a6 q6 c6)) v23.heap.size := (((Marked.refl h6v _).setCell 0 (.bool NEG)).setCell 1 (.slice a5 q5 c5)).setCell 2 (.slice a6 q6 c6)
         have H24 := ((yy6.set0 (.bool NEG)).set1 (.slice a5 q5 c5)).set2 (.slice a6 q6 c6)
         have S24 := S6h.trans (M7.since (show w.heap.size ≤ v23.heap.size by omega))
         have r7 : v23.heap.size < h5v.heap.size := yy5.lt
         have N24 := N6h'.marked M7 (by omega)
         have D24 := D6h'.marked M7 (by omega)
         have bl := B23.lt
         have B24 := B236.marked M7 (by omega)
         have L124 := L1236.marked M7 (fun h0 => by have := L123.lt h0; omega)
         have L224 := L2236.marked M7 (fun h0 => by have := L223.lt h0; omega)
         generalize ((h6v.setCell ⟨v23.heap.size, 0, none⟩ (.bool NEG)).setCell ⟨v23.heap.size, 1, none⟩ (.slice a5 q5 c5)).setCell ⟨v23.heap.size, 2, none⟩ (.slice a6 q6 c6) = v24 at *
         generalize v23.heap.size = c5h at *)
      | (with_reducible show Exit.then _ _ Exit.normal _ (((h6v.setCell ⟨h4v.heap.size, 0, none⟩ (.bool NEG)).setCell ⟨h4v.heap.size, 1, none⟩ (.slice a5 q5 c5)).setCell ⟨h4v.heap.size, 2, none⟩ (.slice a6 q6 c6))
         have M7 : Marked h6v (((h6v.setCell ⟨h4v.heap.size, 0, none⟩ (.bool NEG)).setCell ⟨h4v.heap.size, 1, none⟩ (.slice a5 q5 c5)).setCell ⟨h4v.heap.size, 2, none⟩ (.slice a6 q6 c6)) h4v.heap.size := (((Marked.refl h6v _).setCell 0 (.bool NEG)).setCell 1 (.slice a5 q5 c5)).setCell 2 (.slice a6 q6 c6)
         have H24 := ((yy6.set0 (.bool NEG)).set1 (.slice a5 q5 c5)).set2 (.slice a6 q6 c6)
         have S24 := S6h.trans (M7.since (show w.heap.size ≤ h4v.heap.size by omega))
         have r7 : h4v.heap.size < h5v.heap.size := yy5.lt
         have N24 := N6h'.marked M7 (by omega)
         have D24 := D6h'.marked M7 (by omega)
         have bl := B23.lt
         have B24 := B236.marked M7 (by omega)
         have L124 := L1236.marked M7 (fun h0 => by have := L123.lt h0; omega)
         have L224 := L2236.marked M7 (fun h0 => by have := L223.lt h0; omega)
         generalize ((h6v.setCell ⟨h4v.heap.size, 0, none⟩ (.bool NEG)).setCell ⟨h4v.heap.size, 1, none⟩ (.slice a5 q5 c5)).setCell ⟨h4v.heap.size, 2, none⟩ (.slice a6 q6 c6) = v24 at *
         generalize h4v.heap.size = c5h at *)
      | (with_reducible show Exit.then _ _ Exit.normal _ (((h6v.setCell ⟨h5v.heap.size, 0, none⟩ (.bool NEG)).setCell ⟨h5v.heap.size, 1, none⟩ (.slice a5 q5 c5)).setCell ⟨h5v.heap.size, 2, none⟩ (.slice a6 q6 c6))
         have M7 : Marked h6v (((h6v.setCell ⟨h5v.heap.size, 0, none⟩ (.bool NEG)).setCell ⟨h5v.heap.size, 1, none⟩ (.slice a5 q5 c5)).setCell ⟨h5v.heap.size, 2, none⟩ (.slice a6 q6 c6)) h5v.heap.size := (((Marked.refl h6v _).setCell 0 (.bool NEG)).setCell 1 (.slice a5 q5 c5)).setCell 2 (.slice a6 q6 c6)
         have H24 := ((yy6.set0 (.bool NEG)).set1 (.slice a5 q5 c5)).set2 (.slice a6 q6 c6)
         have S24 := S6h.trans (M7.since (show w.heap.size ≤ h5v.heap.size by omega))
         have r7 : h5v.heap.size < g9 ∧ h5v.heap.size < h9 := by simp at r61 r62; omega
         have N24 := N6h'.marked M7 (by omega)
         have D24 := D6h'.marked M7 (by omega)
         have bl := B23.lt
         have B24 := B236.marked M7 (by omega)
         have L124 := L1236.marked M7 (fun h0 => by have := L123.lt h0; omega)
         have L224 := L2236.marked M7 (fun h0 => by have := L223.lt h0; omega)
         generalize ((h6v.setCell ⟨h5v.heap.size, 0, none⟩ (.bool NEG)).setCell ⟨h5v.heap.size, 1, none⟩ (.slice a5 q5 c5)).setCell ⟨h5v.heap.size, 2, none⟩ (.slice a6 q6 c6) = v24 at *
         generalize h5v.heap.size = c5h at *)
    all_goals
      obtain ⟨Y5, n51, n52, L5, F5, l5, p5, e5⟩ := nat_lim N24
      obtain ⟨Y6, n61, n62, L6, F6, l6, p6, e6⟩ := nat_lim D24
      obtain ⟨rfl, eY5⟩ := lv_inj l5 HQ.out.1 p5 HQ.out.2.1 (e5.trans HQ.out.2.2.1.symm)
      obtain ⟨rfl, eY6⟩ := lv_inj l6 HQ.out.2.2.2.1 p6 HQ.out.2.2.2.2.1 (e6.trans HQ.out.2.2.2.2.2.symm)
      have L5 := L5.congr eY5
      have L6 := L6.congr eY6
      clear l5 p5 e5 l6 p6 e6 eY5 eY6 HQ
      have k0 := H24.c0
      have k1 := H24.c1
      have k2 := H24.c2
      have j0 := B24.c0
      have j1 := B24.c1
      have j2 := B24.c2
      go_wp2_with fail
      refine (eqRat_true NEG a5 a1 a6 a2 g9 0 g6 0 q5 c5 c1 h9 0 h6 0 q6 c6 c2 Y1 Y2 v24 (by omega) (by omega) L5 L124 L6 L224).mono ?_
      rintro e v25 ⟨rfl, s25⟩
      go_wp2
      go_ret
      exact ⟨rfl, S24.trans (sinceMono s25 S24.size)⟩

end Go.Proofs.Ytdfcckifbbeoiaa
