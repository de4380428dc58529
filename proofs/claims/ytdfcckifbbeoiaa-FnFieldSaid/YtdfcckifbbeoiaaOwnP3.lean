import Derived.Test.YtdfcckifbbeoiaaOwnP2
import Derived.Test.YtdfcckifbbeoiaaG2P4
namespace Go.Proofs.Ytdfcckifbbeoiaa
open Go.RowKit

/-- The order of two fractions. -/
def cmpR (f f' : Bool) (x y : Nat) : Int := if f = f' then (if f then cmpN y x else cmpN x y) else if f then -1 else 1

theorem fracCmp_any (c : Nat) (f f' : Bool) (a b a' b' : Option Addr) (ba oa n ca bb ob m cb ba' oa' n' ca' bb' ob' m' cb' : Nat) (X Y X' Y' : Nat → Nat) (w : World) (hn : n + n' + m + m' ≤ 1048576)
    (hX : Limbs w a ba oa n X) (hY : Limbs w b bb ob m Y) (hX' : Limbs w a' ba' oa' n' X') (hY' : Limbs w b' bb' ob' m' Y') (hXl : ∀ j, j < n → X j < 4294967296) (hYl : ∀ j, j < m → Y j < 4294967296) (hXl' : ∀ j, j < n' → X' j < 4294967296) (hYl' : ∀ j, j < m' → Y' j < 4294967296)
    (B : Box4 w c (.bool f) (.slice a n ca) (.slice b m cb) (.slice none 0 0)) :
    Calls Try.prog 113 #[.pointer (some ⟨c, 0, none⟩), .agg #[.bool f', .slice a' n' ca', .slice b' m' cb', .slice none 0 0]] w fun e w' => e = .returned (.int .i64 (cmpR f f' (lv X n * lv Y' m') (lv X' n' * lv Y m))) ∧ w.Since w.heap.size w' := by
  by_cases hff : f = f'
  · subst hff
    rw [show cmpR f f (lv X n * lv Y' m') (lv X' n' * lv Y m) = if f then cmpN (lv X' n' * lv Y m) (lv X n * lv Y' m') else cmpN (lv X n * lv Y' m') (lv X' n' * lv Y m) by simp [cmpR]]
    exact fracCmp_same c f a b a' b' ba oa n ca bb ob m cb ba' oa' n' ca' bb' ob' m' cb' X Y X' Y' w hn hX hY hX' hY' hXl hYl hXl' hYl' B
  · rw [show cmpR f f' (lv X n * lv Y' m') (lv X' n' * lv Y m) = if f then -1 else 1 by simp [cmpR, hff]]
    exact fracCmp_sign c f f' a b a' b' n ca m cb n' ca' m' cb' w B hff

set_option maxHeartbeats 1600000 in
set_option maxRecDepth 100000 in
theorem orderOf_any (f f' : Bool) (a b a' b' : Option Addr) (ba oa n ca bb ob m cb ba' oa' n' ca' bb' ob' m' cb' : Nat) (X Y X' Y' : Nat → Nat) (w : World) (hn : n + n' + m + m' ≤ 1048576)
    (R : RIn w a b ba oa n ca bb ob m cb X Y) (R' : RIn w a' b' ba' oa' n' ca' bb' ob' m' cb' X' Y') :
    Calls Try.prog 75 #[.agg #[.bool f, .slice a n ca, .slice b m cb], .agg #[.bool f', .slice a' n' ca', .slice b' m' cb']] w fun e w' => e = .returned (.int .i64 (cmpR f f' (lv X n * lv Y' m') (lv X' n' * lv Y m))) ∧ w.Since w.heap.size w' := by
  have sA : w.Since w.heap.size ((w.alloc (.cells #[.bool f, .slice a n ca, .slice b m cb] 27)).alloc (.cells #[.bool f', .slice a' n' ca', .slice b' m' cb'] 27)) := ((World.Since.refl _ _).alloc (Nat.le_refl _) _).alloc (by simp) _
  have zA : ((w.alloc (.cells #[.bool f, .slice a n ca, .slice b m cb] 27)).alloc (.cells #[.bool f', .slice a' n' ca', .slice b' m' cb'] 27)).heap.size = w.heap.size + 1 + 1 := by simp
  have oA : Box3 ((w.alloc (.cells #[.bool f, .slice a n ca, .slice b m cb] 27)).alloc (.cells #[.bool f', .slice a' n' ca', .slice b' m' cb'] 27)) w.heap.size (.bool f) (.slice a n ca) (.slice b m cb) := (Box3.new w _ _ _ _).keep ((World.Since.refl _ _).alloc (Nat.le_refl _) _)
  have pA : Box3 ((w.alloc (.cells #[.bool f, .slice a n ca, .slice b m cb] 27)).alloc (.cells #[.bool f', .slice a' n' ca', .slice b' m' cb'] 27)) (w.heap.size + 1) (.bool f') (.slice a' n' ca') (.slice b' m' cb') := by
    have := Box3.new (w.alloc (.cells #[.bool f, .slice a n ca, .slice b m cb] 27)) (.bool f') (.slice a' n' ca') (.slice b' m' cb') 27
    simpa using this
  have m1 := R.m0
  have m1' := R'.m0
  go_enter Try.func75, Try.ntmps75
  go_wp2_with fail
  generalize ((w.alloc (.cells #[.bool f, .slice a n ca, .slice b m cb] 27)).alloc (.cells #[.bool f', .slice a' n' ca', .slice b' m' cb'] 27)) = w1 at *
  refine (fractionOf_any f a b ba oa n ca bb ob m cb X Y w1 (by omega) (by omega) R.nc R.mc (R.keep sA).LX (R.keep sA).LY R.pX R.pY).mono ?_
  rintro e w2 ⟨rfl, s2⟩
  have S2 : w.Since w.heap.size w2 := sA.trans (sinceMono s2 sA.size)
  have z2 := s2.size
  have p2 := pA.keep s2
  clear pA oA s2
  have t3 : w2.Since w2.heap.size (w2.alloc (.cells #[.bool f, .slice a n ca, .slice b m cb, .slice none 0 0] 90)) := (World.Since.refl _ _).alloc (Nat.le_refl _) _
  have c3 := Box4.new w2 (.bool f) (.slice a n ca) (.slice b m cb) (.slice none 0 0) 90
  have p3 := p2.keep t3
  have S3 : w.Since w.heap.size (w2.alloc (.cells #[.bool f, .slice a n ca, .slice b m cb, .slice none 0 0] 90)) := S2.trans (sinceMono t3 S2.size)
  have k0 := p3.c0
  have k1 := p3.c1
  have k2 := p3.c2
  go_wp2_with fail
  generalize w2.alloc (.cells #[.bool f, .slice a n ca, .slice b m cb, .slice none 0 0] 90) = w3 at *
  refine (fractionOf_any f' a' b' ba' oa' n' ca' bb' ob' m' cb' X' Y' w3 (by omega) (by omega) R'.nc R'.mc (R'.keep S3).LX (R'.keep S3).LY R'.pX R'.pY).mono ?_
  rintro e w4 ⟨rfl, s4⟩
  have S4 : w.Since w.heap.size w4 := S3.trans (sinceMono s4 S3.size)
  have c4 := c3.keep s4
  have R4 := R.keep S4
  have R4' := R'.keep S4
  clear k0 k1 k2 p3 p2 c3 s4
  have J := fracCmp_any w2.heap.size f f' a b a' b' ba oa n ca bb ob m cb ba' oa' n' ca' bb' ob' m' cb' X Y X' Y' w4 hn R4.LX R4.LY R4'.LX R4'.LY R.lX R.lY R'.lX R'.lY c4
  obtain ⟨z, hz⟩ : ∃ z, z = cmpR f f' (lv X n * lv Y' m') (lv X' n' * lv Y m) := ⟨_, rfl⟩
  rw [← hz] at J
  have HZ := hide hz
  clear hz
  go_wp2_with fail
  refine J.mono ?_
  rintro e w5 ⟨rfl, s5⟩
  go_wp2
  go_ret
  exact ⟨ret_int HZ.out, S4.trans (sinceMono s5 S4.size)⟩

set_option maxHeartbeats 1600000 in
set_option maxRecDepth 100000 in
theorem implRatCmp_ok (f f' : Bool) (a b a' b' : Option Addr) (ba oa n ca bb ob m cb ba' oa' n' ca' bb' ob' m' cb' : Nat) (X Y X' Y' : Nat → Nat) (w : World) (hw : 0 ≤ w.heap.size) (hT : Tab w) (hn : n + n' + m + m' ≤ 1048576)
    (R : RIn w a b ba oa n ca bb ob m cb X Y) (R' : RIn w a' b' ba' oa' n' ca' bb' ob' m' cb' X' Y') (ok : ratOkB f X n Y m = true) (ok' : ratOkB f' X' n' Y' m' = true) :
    Calls Try.prog 26 #[.agg #[.bool f, .slice a n ca, .slice b m cb], .agg #[.bool f', .slice a' n' ca', .slice b' m' cb']] w fun e w' => e = .returned (.int .i64 (cmpR f f' (lv X n * lv Y' m') (lv X' n' * lv Y m))) ∧ w.Since w.heap.size w' := by
  have sA : w.Since w.heap.size ((w.alloc (.cells #[.bool f, .slice a n ca, .slice b m cb] 27)).alloc (.cells #[.bool f', .slice a' n' ca', .slice b' m' cb'] 27)) := ((World.Since.refl _ _).alloc (Nat.le_refl _) _).alloc (by simp) _
  have zA : ((w.alloc (.cells #[.bool f, .slice a n ca, .slice b m cb] 27)).alloc (.cells #[.bool f', .slice a' n' ca', .slice b' m' cb'] 27)).heap.size = w.heap.size + 1 + 1 := by simp
  have oA : Box3 ((w.alloc (.cells #[.bool f, .slice a n ca, .slice b m cb] 27)).alloc (.cells #[.bool f', .slice a' n' ca', .slice b' m' cb'] 27)) w.heap.size (.bool f) (.slice a n ca) (.slice b m cb) := (Box3.new w _ _ _ _).keep ((World.Since.refl _ _).alloc (Nat.le_refl _) _)
  have pA : Box3 ((w.alloc (.cells #[.bool f, .slice a n ca, .slice b m cb] 27)).alloc (.cells #[.bool f', .slice a' n' ca', .slice b' m' cb'] 27)) (w.heap.size + 1) (.bool f') (.slice a' n' ca') (.slice b' m' cb') := by
    have := Box3.new (w.alloc (.cells #[.bool f, .slice a n ca, .slice b m cb] 27)) (.bool f') (.slice a' n' ca') (.slice b' m' cb') 27
    simpa using this
  have m1 := R.m0
  have m1' := R'.m0
  go_enter Try.func26, Try.ntmps26
  go_wp2_with fail
  generalize ((w.alloc (.cells #[.bool f, .slice a n ca, .slice b m cb] 27)).alloc (.cells #[.bool f', .slice a' n' ca', .slice b' m' cb'] 27)) = w1 at *
  have I1 := implRatOk_any f a b ba oa n ca bb ob m cb X Y w1 (Nat.zero_le _) (by omega) (by omega) R.nc R.mc R.ac R.bc (R.keep sA).LX (R.keep sA).LY R.lX R.lY (hT.stay hw sA)
  rw [ok] at I1
  refine I1.mono ?_
  rintro e w2 ⟨rfl, s2⟩
  have S2 : w.Since w.heap.size w2 := sA.trans (sinceMono s2 sA.size)
  have o2 := oA.keep s2
  have p2 := pA.keep s2
  have I2 := implRatOk_any f' a' b' ba' oa' n' ca' bb' ob' m' cb' X' Y' w2 (Nat.zero_le _) (by omega) (by omega) R'.nc R'.mc R'.ac R'.bc (R'.keep S2).LX (R'.keep S2).LY R'.lX R'.lY (hT.stay hw S2)
  rw [ok'] at I2
  clear I1 oA pA
  have k0 := p2.c0
  have k1 := p2.c1
  have k2 := p2.c2
  go_wp2_with fail
  refine I2.mono ?_
  rintro e w3 ⟨rfl, s3⟩
  have S3 : w.Since w.heap.size w3 := S2.trans (sinceMono s3 S2.size)
  have o3 := o2.keep s3
  have p3 := p2.keep s3
  clear I2 k0 k1 k2 o2 p2
  have k0 := p3.c0
  have k1 := p3.c1
  have k2 := p3.c2
  have j0 := o3.c0
  have j1 := o3.c1
  have j2 := o3.c2
  have J := orderOf_any f f' a b a' b' ba oa n ca bb ob m cb ba' oa' n' ca' bb' ob' m' cb' X Y X' Y' w3 hn (R.keep S3) (R'.keep S3)
  obtain ⟨z, hz⟩ : ∃ z, z = cmpR f f' (lv X n * lv Y' m') (lv X' n' * lv Y m) := ⟨_, rfl⟩
  rw [← hz] at J
  have HZ := hide hz
  clear hz
  go_wp2_with fail
  refine J.mono ?_
  rintro e w4 ⟨rfl, s4⟩
  go_wp2
  go_ret
  exact ⟨ret_int HZ.out, S3.trans (sinceMono s4 S3.size)⟩

set_option maxHeartbeats 1600000 in
set_option maxRecDepth 100000 in
theorem implRatCmp_no (f f' : Bool) (a b a' b' : Option Addr) (ba oa n ca bb ob m cb ba' oa' n' ca' bb' ob' m' cb' : Nat) (X Y X' Y' : Nat → Nat) (w : World) (hw : 0 ≤ w.heap.size) (hT : Tab w) (hn : n + n' + m + m' ≤ 1048576)
    (R : RRaw w a b ba oa n ca bb ob m cb X Y) (R' : RRaw w a' b' ba' oa' n' ca' bb' ob' m' cb' X' Y') (ok : ¬ (ratOkB f X n Y m = true ∧ ratOkB f' X' n' Y' m' = true)) :
    Calls Try.prog 26 #[.agg #[.bool f, .slice a n ca, .slice b m cb], .agg #[.bool f', .slice a' n' ca', .slice b' m' cb']] w fun e w' => e = .returned (.int .i64 2) ∧ w.Since w.heap.size w' := by
  have sA : w.Since w.heap.size ((w.alloc (.cells #[.bool f, .slice a n ca, .slice b m cb] 27)).alloc (.cells #[.bool f', .slice a' n' ca', .slice b' m' cb'] 27)) := ((World.Since.refl _ _).alloc (Nat.le_refl _) _).alloc (by simp) _
  have zA : ((w.alloc (.cells #[.bool f, .slice a n ca, .slice b m cb] 27)).alloc (.cells #[.bool f', .slice a' n' ca', .slice b' m' cb'] 27)).heap.size = w.heap.size + 1 + 1 := by simp
  have oA : Box3 ((w.alloc (.cells #[.bool f, .slice a n ca, .slice b m cb] 27)).alloc (.cells #[.bool f', .slice a' n' ca', .slice b' m' cb'] 27)) w.heap.size (.bool f) (.slice a n ca) (.slice b m cb) := (Box3.new w _ _ _ _).keep ((World.Since.refl _ _).alloc (Nat.le_refl _) _)
  have pA : Box3 ((w.alloc (.cells #[.bool f, .slice a n ca, .slice b m cb] 27)).alloc (.cells #[.bool f', .slice a' n' ca', .slice b' m' cb'] 27)) (w.heap.size + 1) (.bool f') (.slice a' n' ca') (.slice b' m' cb') := by
    have := Box3.new (w.alloc (.cells #[.bool f, .slice a n ca, .slice b m cb] 27)) (.bool f') (.slice a' n' ca') (.slice b' m' cb') 27
    simpa using this
  go_enter Try.func26, Try.ntmps26
  go_wp2_with fail
  generalize ((w.alloc (.cells #[.bool f, .slice a n ca, .slice b m cb] 27)).alloc (.cells #[.bool f', .slice a' n' ca', .slice b' m' cb'] 27)) = w1 at *
  have I1 := implRatOk_any f a b ba oa n ca bb ob m cb X Y w1 (Nat.zero_le _) (by omega) (by omega) R.nc R.mc R.ac R.bc (R.keep sA).LX (R.keep sA).LY R.lX R.lY (hT.stay hw sA)
  by_cases h1 : ratOkB f X n Y m = true
  · have h2 : ratOkB f' X' n' Y' m' = false := by
      cases e : ratOkB f' X' n' Y' m'
      · rfl
      · exact absurd ⟨h1, e⟩ ok
    rw [h1] at I1
    clear h1 ok
    refine I1.mono ?_
    rintro e w2 ⟨rfl, s2⟩
    have S2 : w.Since w.heap.size w2 := sA.trans (sinceMono s2 sA.size)
    have o2 := oA.keep s2
    have p2 := pA.keep s2
    have I2 := implRatOk_any f' a' b' ba' oa' n' ca' bb' ob' m' cb' X' Y' w2 (Nat.zero_le _) (by omega) (by omega) R'.nc R'.mc R'.ac R'.bc (R'.keep S2).LX (R'.keep S2).LY R'.lX R'.lY (hT.stay hw S2)
    rw [h2] at I2
    clear I1 oA pA
    have k0 := p2.c0
    have k1 := p2.c1
    have k2 := p2.c2
    go_wp2_with fail
    refine I2.mono ?_
    rintro e w3 ⟨rfl, s3⟩
    have S3 : w.Since w.heap.size w3 := S2.trans (sinceMono s3 S2.size)
    have o3 := o2.keep s3
    have p3 := p2.keep s3
    clear I2 k0 k1 k2 o2 p2
    go_wp2
    go_ret
    exact ⟨rfl, S3⟩
  · rw [show ratOkB f X n Y m = false by simpa using h1] at I1
    clear h1 ok
    refine I1.mono ?_
    rintro e w2 ⟨rfl, s2⟩
    go_wp2
    go_ret
    exact ⟨rfl, sA.trans (sinceMono s2 sA.size)⟩

end Go.Proofs.Ytdfcckifbbeoiaa
