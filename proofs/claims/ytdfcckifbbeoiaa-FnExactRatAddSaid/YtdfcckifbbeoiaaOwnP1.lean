import Derived.Test.YtdfcckifbbeoiaaG2P3
namespace Go.Proofs.Ytdfcckifbbeoiaa
open Go.RowKit

set_option maxHeartbeats 800000 in
set_option maxRecDepth 100000 in
theorem ratAdd_long (f f' : Bool) (a b a' b' : Option Addr) (n ca m cb n' ca' m' cb' : Nat) (w : World) (hn : 1048576 < n + m + n' + m') (h1 : n ≤ 9223372036854775807) (h2 : m ≤ 9223372036854775807) (h3 : n' ≤ 9223372036854775807) (h4 : m' ≤ 9223372036854775807) :
    Calls Try.prog 7 #[.agg #[.bool f, .slice a n ca, .slice b m cb], .agg #[.bool f', .slice a' n' ca', .slice b' m' cb']] w fun e w' => e = .returned (.bool true) ∧ w.Since w.heap.size w' := by
  have sA : w.Since w.heap.size ((w.alloc (.cells #[.bool f, .slice a n ca, .slice b m cb] 48)).alloc (.cells #[.bool f', .slice a' n' ca', .slice b' m' cb'] 48)) := ((World.Since.refl _ _).alloc (Nat.le_refl _) _).alloc (by simp) _
  have pA : Box3 ((w.alloc (.cells #[.bool f, .slice a n ca, .slice b m cb] 48)).alloc (.cells #[.bool f', .slice a' n' ca', .slice b' m' cb'] 48)) (w.heap.size + 1) (.bool f') (.slice a' n' ca') (.slice b' m' cb') := by
    have := Box3.new (w.alloc (.cells #[.bool f, .slice a n ca, .slice b m cb] 48)) (.bool f') (.slice a' n' ca') (.slice b' m' cb') 48
    simpa using this
  by_cases h : 1048576 < n + m
  · go_enter Try.func7, Try.ntmps7
    go_wp2_with fail
    refine (szRat_no f a b n ca m cb 1048576 _ (by omega) h h1 h2).mono ?_
    rintro e w1 ⟨rfl, s1⟩
    go_wp2
    go_ret
    exact ⟨rfl, sA.trans (sinceMono s1 sA.size)⟩
  · go_enter Try.func7, Try.ntmps7
    go_wp2_with fail
    generalize ((w.alloc (.cells #[.bool f, .slice a n ca, .slice b m cb] 48)).alloc (.cells #[.bool f', .slice a' n' ca', .slice b' m' cb'] 48)) = w1 at *
    refine (szRat_ok f a b n ca m cb 1048576 w1 (by omega) (by omega)).mono ?_
    rintro e w2 ⟨rfl, s2⟩
    have S2 : w.Since w.heap.size w2 := sA.trans (sinceMono s2 sA.size)
    have p2 := pA.keep s2
    clear pA s2
    have hl : ¬ (((1048576 - n - m : Nat) : Int) < 0) := by omega
    have k0 := p2.c0
    have k1 := p2.c1
    have k2 := p2.c2
    go_wp2_with fail
    refine (szRat_no f' a' b' n' ca' m' cb' (1048576 - n - m) w2 (by omega) (by omega) h3 h4).mono ?_
    rintro e w3 ⟨rfl, s3⟩
    go_wp2
    go_ret
    exact ⟨rfl, S2.trans (sinceMono s3 S2.size)⟩

end Go.Proofs.Ytdfcckifbbeoiaa
