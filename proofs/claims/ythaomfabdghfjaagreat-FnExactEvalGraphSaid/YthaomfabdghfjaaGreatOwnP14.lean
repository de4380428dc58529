import Derived.Test.YthaomfabdghfjaaGreatOwnP13
set_option maxHeartbeats 6400000
set_option maxRecDepth 100000
namespace Go.Proofs.YthaomfabdghfjaaGreat
open Go.RowKit
theorem eqNode_true (d : xq1) (a1 a1' : Option Addr) (lo k1 lo' k1' : Nat) (w : World) (hd : d.size <= 1048576) (H : NodL w lo d a1 k1) (H' : NodL w lo' d a1' k1') :
 Calls Tryz.prog 96 #[.agg #[.int .i64 d.op, .int .i64 d.a, .int .i64 d.b, .int .i64 d.k, .int .i64 d.s, .slice a1 d.nv k1], .agg #[.int .i64 d.op, .int .i64 d.a, .int .i64 d.b, .int .i64 d.k, .int .i64 d.s, .slice a1' d.nv k1']] w fun e w' => e = .returned (.bool true) /\ w.Since w.heap.size w' := by
 have ts := hd; unfold xq1.size at ts; obtain ⟨wA, eA⟩ : ∃ wA : World, wA = (w.alloc (.cells #[.int .i64 d.op, .int .i64 d.a, .int .i64 d.b, .int .i64 d.k, .int .i64 d.s, .slice a1 d.nv k1] 84)).alloc (.cells #[.int .i64 d.op, .int .i64 d.a, .int .i64 d.b, .int .i64 d.k, .int .i64 d.s, .slice a1' d.nv k1'] 84) := ⟨_, rfl⟩; have sA : w.Since w.heap.size wA := by rw [eA]; exact ((World.Since.refl _ _).alloc (Nat.le_refl _) _).alloc (by simp) _
 obtain ⟨b1, o1, -, W1⟩ := (H.keep sA).LV; obtain ⟨b2, o2, -, W2⟩ := (H'.keep sA).LV; have J1 := yw2 a1 a1' lo b1 o1 k1 lo' b2 o2 k1' d.nv d.V wA (by omega) (by omega) W1 W2; have EA := hide eA; clear eA; go_enter Tryz.func96, Tryz.ntmps96; go_wp2_with fail; rw [<- EA.out]; refine J1.mono ?_; rintro e w1 ⟨rfl, s1⟩; clear J1 EA; go_wp2; go_ret; exact ⟨rfl, sA.trans (sM s1 sA.size)⟩
theorem eqNodeS_true (a a' : Option Addr) (lo b off cap lo' b' off' cap' n : Nat) (A : Nat -> xq1) (w : World) (hn : n <= 1048576) (hs : szN A n <= 1048576) (H : Nods w lo a b off n A) (H' : Nods w lo' a' b' off' n A) :
 Calls Tryz.prog 55 #[.slice a n cap, .slice a' n cap'] w fun e w' => e = .returned (.bool true) /\ w.Since w.heap.size w' := by
 go_enter Tryz.func55, Tryz.ntmps55; go_wp2
 go_loopw [5] (fun i wr => ∃ k : Nat, k <= n /\ i = .int .i64 k /\ w.Since w.heap.size wr) (fun i _ => n - (intOf i).toNat)
 case atStart => exact ⟨0, Nat.zero_le _, rfl, World.Since.refl _ _⟩
 case round =>
  obtain ⟨k, hk, rfl, s⟩ := hrel
  by_cases hlt : k < n
  . obtain ⟨rfl, a1, k1, M⟩ := H k hlt
    obtain ⟨rfl, a1', k1', M'⟩ := H' k hlt; have sd : w.Since w.heap.size wr.drew := ⟨s.os, s.tape, s.output, s.size, s.block⟩; have N := M.keep s; have N' := M'.keep s; have g0 := N.c0; have g0' := N'.c0; have g1 := N.c1; have g1' := N'.c1; have g2 := N.c2; have g2' := N'.c2; have g3 := N.c3; have g3' := N'.c3; have g4 := N.c4; have g4' := N'.c4; have g5 := N.c5; have g5' := N'.c5; have hsz := szN_at (A := A) hlt; have hz : (k : Int) < (n : Int) := by omega
    have J1 := eqNode_true (A k) a1 a1' lo k1 lo' k1' wr.drew (by omega) (M.L.keep sd) (M'.L.keep sd); clear N N'; go_wp2_with fail
    go_region_held3 (fun w' => w'.cell? ⟨b, off + k * 6, none⟩ = some (.int .i64 (A k).op) /\ w'.cell? ⟨b, off + k * 6 + 1, none⟩ = some (.int .i64 (A k).a) /\ w'.cell? ⟨b, off + k * 6 + 2, none⟩ = some (.int .i64 (A k).b) /\ w'.cell? ⟨b, off + k * 6 + 3, none⟩ = some (.int .i64 (A k).k) /\ w'.cell? ⟨b, off + k * 6 + 4, none⟩ = some (.int .i64 (A k).s) /\ w'.cell? ⟨b, off + k * 6 + 5, none⟩ = some (.slice a1 (A k).nv k1) /\
     w'.cell? ⟨b', off' + k * 6, none⟩ = some (.int .i64 (A k).op) /\ w'.cell? ⟨b', off' + k * 6 + 1, none⟩ = some (.int .i64 (A k).a) /\ w'.cell? ⟨b', off' + k * 6 + 2, none⟩ = some (.int .i64 (A k).b) /\ w'.cell? ⟨b', off' + k * 6 + 3, none⟩ = some (.int .i64 (A k).k) /\ w'.cell? ⟨b', off' + k * 6 + 4, none⟩ = some (.int .i64 (A k).s) /\ w'.cell? ⟨b', off' + k * 6 + 5, none⟩ = some (.slice a1' (A k).nv k1')) (go_keep)
     (first
       | (go_at_call 96
          with_reducible refine J1.mono ?_
          rintro e w1 ⟨rfl, s1⟩; have S1 := sd.trans (sM s1 sd.size); have i0 := (M.keep S1).c0; have i0' := (M'.keep S1).c0; have i1 := (M.keep S1).c1; have i1' := (M'.keep S1).c1; have i2 := (M.keep S1).c2; have i2' := (M'.keep S1).c2; have i3 := (M.keep S1).c3; have i3' := (M'.keep S1).c3; have i4 := (M.keep S1).c4; have i4' := (M'.keep S1).c4; have i5 := (M.keep S1).c5; have i5' := (M'.keep S1).c5))
    all_goals go_wp2
    all_goals go_roundw
    case rel => exact ⟨k + 1, by omega, by go_num, S1⟩
    case measure => simp [intOf]; omega
  . go_wp2
    go_ret; exact ⟨rfl, s⟩
theorem eqGraph_true (g : xq8) (aL aH aN aL' aH' aN' : Option Addr) (lo kL kH kN lo' kL' kH' kN' : Nat) (w : World) (hd : g.size <= 1048576) (H : GraL w lo g aL aH aN kL kH kN) (H' : GraL w lo' g aL' aH' aN' kL' kH' kN') :
 Calls Tryz.prog 22 #[.agg #[.int .i64 g.inn, .int .i64 g.rounds, .slice aL g.nl kL, .slice aH g.nh kH, .slice aN g.nn kN, .int .i64 g.out], .agg #[.int .i64 g.inn, .int .i64 g.rounds, .slice aL' g.nl kL', .slice aH' g.nh kH', .slice aN' g.nn kN', .int .i64 g.out]] w fun e w' => e = .returned (.bool true) /\ w.Since w.heap.size w' := by
 have ts := hd; unfold xq8.size at ts; obtain ⟨wA, eA⟩ : ∃ wA : World, wA = (w.alloc (.cells #[.int .i64 g.inn, .int .i64 g.rounds, .slice aL g.nl kL, .slice aH g.nh kH, .slice aN g.nn kN, .int .i64 g.out] 50)).alloc (.cells #[.int .i64 g.inn, .int .i64 g.rounds, .slice aL' g.nl kL', .slice aH' g.nh kH', .slice aN' g.nn kN', .int .i64 g.out] 50) := ⟨_, rfl⟩; have sA : w.Since w.heap.size wA := by rw [eA]; exact ((World.Since.refl _ _).alloc (Nat.le_refl _) _).alloc (by simp) _
 have bA : Box6 wA w.heap.size (.int .i64 g.inn) (.int .i64 g.rounds) (.slice aL g.nl kL) (.slice aH g.nh kH) (.slice aN g.nn kN) (.int .i64 g.out) := by rw [eA]; exact (Box6.new w _ _ _ _ _ _ _).keep ((World.Since.refl _ _).alloc (Nat.le_refl _) _)
 have cA : Box6 wA (w.heap.size + 1) (.int .i64 g.inn) (.int .i64 g.rounds) (.slice aL' g.nl kL') (.slice aH' g.nh kH') (.slice aN' g.nn kN') (.int .i64 g.out) := by
  rw [eA]; have := Box6.new (w.alloc (.cells #[.int .i64 g.inn, .int .i64 g.rounds, .slice aL g.nl kL, .slice aH g.nh kH, .slice aN g.nn kN, .int .i64 g.out] 50)) (.int .i64 g.inn) (.int .i64 g.rounds) (.slice aL' g.nl kL') (.slice aH' g.nh kH') (.slice aN' g.nn kN') (.int .i64 g.out) 50
  simpa using this
 obtain ⟨b1, o1, -, W1⟩ := (H.keep sA).LL; obtain ⟨b2, o2, -, W2⟩ := (H'.keep sA).LL; obtain ⟨b3, o3, -, B1⟩ := (H.keep sA).LH; obtain ⟨b4, o4, -, B2⟩ := (H'.keep sA).LH; obtain ⟨b5, o5, -, N1⟩ := (H.keep sA).LN; obtain ⟨b6, o6, -, N2⟩ := (H'.keep sA).LN; have J1 := yw2 aL aL' lo b1 o1 kL lo' b2 o2 kL' g.nl g.Lo wA (by omega) (by omega) W1 W2; have EA := hide eA; clear eA; go_enter Tryz.func22, Tryz.ntmps22; go_wp2_with fail; rw [<- EA.out]; refine J1.mono ?_; rintro e w1 ⟨rfl, s1⟩; have J2 := yw2 aH aH' lo b3 o3 kH lo' b4 o4 kH' g.nh g.Hi w1 (by omega) (by omega) (B1.keep s1) (B2.keep s1); have X1 := bA.keep s1; have X2 := cA.keep s1; have q1 := X1.c3; have q2 := X2.c3; clear J1 EA bA cA; go_wp2_with fail; refine J2.mono ?_; rintro e w2 ⟨rfl, s2⟩; have u2 := s1.trans (sM s2 s1.size); have J3 := eqNodeS_true aN aN' lo b5 o5 kN lo' b6 o6 kN' g.nn g.N w2 (by omega) (by omega) (N1.keep u2) (N2.keep u2); have Y1 := X1.keep s2; have Y2 := X2.keep s2; have r1 := Y1.c4; have r2 := Y2.c4; clear J2 q1 q2 X1 X2; go_wp2_with fail; refine J3.mono ?_; rintro e w3 ⟨rfl, s3⟩; have p1 := (Y1.keep s3).c5; have p2 := (Y2.keep s3).c5; clear J3 r1 r2 Y1 Y2; go_wp2; go_ret; exact ⟨rfl, sA.trans (sM (u2.trans (sM s3 u2.size)) sA.size)⟩
end Go.Proofs.YthaomfabdghfjaaGreat
