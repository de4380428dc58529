import Derived.Test.YtdfcckifbbeoiaaOwnP6
import Derived.Test.YtdfcckifbbeoiaaOwnP5
namespace Go.Proofs.Ytdfcckifbbeoiaa
open Go.RowKit

set_option maxHeartbeats 1600000 in
set_option maxRecDepth 100000 in
/-- l1Same of two Rats that hold the same. -/
theorem l1Same_off (f : Bool) (a b a' b' : Option Addr) (g oa h ob g' oa' h' ob' n c m d c' d' : Nat) (X Y : Nat → Nat) (w : World) (hn : n ≤ 1048576) (hm : m ≤ 1048576) (hX : Limbs w a g oa n X) (hY : Limbs w b h ob m Y) (hX' : Limbs w a' g' oa' n X) (hY' : Limbs w b' h' ob' m Y) :
    Calls Try.prog 60 #[.agg #[.bool f, .slice a n c, .slice b m d], .agg #[.bool f, .slice a' n c', .slice b' m d']] w fun e w' => e = .returned (.bool true) ∧ w.Since w.heap.size w' := by
  have sA : w.Since w.heap.size ((w.alloc (.cells #[.bool f, .slice a n c, .slice b m d] 27)).alloc (.cells #[.bool f, .slice a' n c', .slice b' m d'] 27)) := ((World.Since.refl _ _).alloc (Nat.le_refl _) _).alloc (by simp) _
  have oA : Box3 ((w.alloc (.cells #[.bool f, .slice a n c, .slice b m d] 27)).alloc (.cells #[.bool f, .slice a' n c', .slice b' m d'] 27)) w.heap.size (.bool f) (.slice a n c) (.slice b m d) := (Box3.new w _ _ _ _).keep ((World.Since.refl _ _).alloc (Nat.le_refl _) _)
  have pA : Box3 ((w.alloc (.cells #[.bool f, .slice a n c, .slice b m d] 27)).alloc (.cells #[.bool f, .slice a' n c', .slice b' m d'] 27)) (w.heap.size + 1) (.bool f) (.slice a' n c') (.slice b' m d') := by
    have := Box3.new (w.alloc (.cells #[.bool f, .slice a n c, .slice b m d] 27)) (.bool f) (.slice a' n c') (.slice b' m d') 27
    simpa using this
  have kA := And.intro oA.cells pA.cells
  go_enter Try.func60, Try.ntmps60
  go_wp2
  generalize ((w.alloc (.cells #[.bool f, .slice a n c, .slice b m d] 27)).alloc (.cells #[.bool f, .slice a' n c', .slice b' m d'] 27)) = w1 at *
  go_loopw [5] (fun t wr => ∃ k : Nat, k ≤ n ∧ t = .int .i64 k ∧ Same w1 wr) (fun t _ => n - (intOf t).toNat)
  case atStart => exact ⟨0, Nat.zero_le _, rfl, Same.refl _⟩
  case round =>
    obtain ⟨k, hk, rfl, sm⟩ := hrel
    have q1 : wr.cell? ⟨w.heap.size, 1, none⟩ = some (.slice a n c) := by rw [sm.cell]; exact oA.c1
    have q2 : wr.cell? ⟨w.heap.size + 1, 1, none⟩ = some (.slice a' n c') := by rw [sm.cell]; exact pA.c1
    by_cases hlt : k < n
    · obtain ⟨rfl, x1⟩ := hX k hlt
      obtain ⟨rfl, x2⟩ := hX' k hlt
      have y1 := (sA.cell (a := ⟨_, _, none⟩) (World.block_lt_of_cell? _ _ x1)).trans x1
      have y2 := (sA.cell (a := ⟨_, _, none⟩) (World.block_lt_of_cell? _ _ x2)).trans x2
      rw [← sm.cell] at y1 y2
      have hlt' : (k : Int) < (n : Int) := by omega
      clear x1 x2
      go_wp2
      go_quiet (fail)
      go_wp2
      go_roundw
      case rel => exact ⟨k + 1, by omega, by go_num, sm.drewN _⟩
      case measure => simp [intOf]; omega
    · have q0 := q1
      have k1 := And.intro oA.cells pA.cells
      have q3 : wr.cell? ⟨w.heap.size, 2, none⟩ = some (.slice b m d) := by rw [sm.cell]; exact oA.c2
      go_wp2
      go_loopw [6] (fun t wr => ∃ k : Nat, k ≤ m ∧ t = .int .i64 k ∧ Same w1 wr) (fun t _ => m - (intOf t).toNat)
      case atStart => exact ⟨0, Nat.zero_le _, rfl, sm⟩
      case round =>
        obtain ⟨k, hk, rfl, sm⟩ := hrel
        have q1 : wr.cell? ⟨w.heap.size, 2, none⟩ = some (.slice b m d) := by rw [sm.cell]; exact oA.c2
        have q2 : wr.cell? ⟨w.heap.size + 1, 2, none⟩ = some (.slice b' m d') := by rw [sm.cell]; exact pA.c2
        by_cases hlt : k < m
        · obtain ⟨rfl, x1⟩ := hY k hlt
          obtain ⟨rfl, x2⟩ := hY' k hlt
          have y1 := (sA.cell (a := ⟨_, _, none⟩) (World.block_lt_of_cell? _ _ x1)).trans x1
          have y2 := (sA.cell (a := ⟨_, _, none⟩) (World.block_lt_of_cell? _ _ x2)).trans x2
          rw [← sm.cell] at y1 y2
          have hlt' : (k : Int) < (m : Int) := by omega
          clear x1 x2
          go_wp2
          go_quiet (fail)
          go_wp2
          go_roundw
          case rel => exact ⟨k + 1, by omega, by go_num, sm.drewN _⟩
          case measure => simp [intOf]; omega
        · go_wp2
          go_ret
          exact ⟨rfl, sA.trans (sinceMono (sm.since w1.heap.size) sA.size)⟩

set_option maxHeartbeats 800000 in
set_option maxRecDepth 100000 in
theorem same_off (f : Bool) (a b a' b' : Option Addr) (g oa h ob g' oa' h' ob' n c m d c' d' : Nat) (X Y : Nat → Nat) (w : World) (hn : n ≤ 1048576) (hm : m ≤ 1048576) (hX : Limbs w a g oa n X) (hY : Limbs w b h ob m Y) (hX' : Limbs w a' g' oa' n X) (hY' : Limbs w b' h' ob' m Y) :
    Calls Try.prog 17 #[.agg #[.bool f, .slice a n c, .slice b m d], .agg #[.bool f, .slice a' n c', .slice b' m d']] w fun e w' => e = .returned (.bool true) ∧ w.Since w.heap.size w' := by
  have sA : w.Since w.heap.size ((w.alloc (.cells #[.bool f, .slice a n c, .slice b m d] 27)).alloc (.cells #[.bool f, .slice a' n c', .slice b' m d'] 27)) := ((World.Since.refl _ _).alloc (Nat.le_refl _) _).alloc (by simp) _
  have oA : Box3 ((w.alloc (.cells #[.bool f, .slice a n c, .slice b m d] 27)).alloc (.cells #[.bool f, .slice a' n c', .slice b' m d'] 27)) w.heap.size (.bool f) (.slice a n c) (.slice b m d) := (Box3.new w _ _ _ _).keep ((World.Since.refl _ _).alloc (Nat.le_refl _) _)
  have pA : Box3 ((w.alloc (.cells #[.bool f, .slice a n c, .slice b m d] 27)).alloc (.cells #[.bool f, .slice a' n c', .slice b' m d'] 27)) (w.heap.size + 1) (.bool f) (.slice a' n c') (.slice b' m d') := by
    have := Box3.new (w.alloc (.cells #[.bool f, .slice a n c, .slice b m d] 27)) (.bool f) (.slice a' n c') (.slice b' m d') 27
    simpa using this
  have kA := And.intro oA.cells pA.cells
  go_enter Try.func17, Try.ntmps17
  go_wp2_with fail
  generalize ((w.alloc (.cells #[.bool f, .slice a n c, .slice b m d] 27)).alloc (.cells #[.bool f, .slice a' n c', .slice b' m d'] 27)) = w1 at *
  refine (l1Same_off f a b a' b' g oa h ob g' oa' h' ob' n c m d c' d' X Y w1 hn hm (hX.keep sA) (hY.keep sA) (hX'.keep sA) (hY'.keep sA)).mono ?_
  rintro e w2 ⟨rfl, s2⟩
  go_wp2
  go_ret
  exact ⟨rfl, sA.trans (sinceMono s2 sA.size)⟩

set_option maxHeartbeats 800000 in
set_option maxRecDepth 100000 in
theorem lwZero_any (w : World) : Calls Try.prog 27 #[] w fun e w' => ∃ v, e = .returned v ∧ RatV w' v false 0 1 w.heap.size 4194304 ∧ w.Since w.heap.size w' := by
  have sA : w.Since w.heap.size (((w.alloc (.cells #[.bool false, .slice (some ⟨w.heap.size + 1, 0, none⟩) 0 0, .slice (some ⟨w.heap.size + 1 + 1, 0, none⟩) 1 1] 27)).alloc (.cells #[] 35)).alloc (.cells #[.int .u32 1] 35)) :=
    (((World.Since.refl _ _).alloc (Nat.le_refl _) _).alloc (by simp) _).alloc (by simp; omega) _
  have bA : Box3 (((w.alloc (.cells #[.bool false, .slice (some ⟨w.heap.size + 1, 0, none⟩) 0 0, .slice (some ⟨w.heap.size + 1 + 1, 0, none⟩) 1 1] 27)).alloc (.cells #[] 35)).alloc (.cells #[.int .u32 1] 35)) w.heap.size (.bool false) (.slice (some ⟨w.heap.size + 1, 0, none⟩) 0 0) (.slice (some ⟨w.heap.size + 1 + 1, 0, none⟩) 1 1) :=
    ((Box3.new w _ _ _ _).keep ((World.Since.refl _ _).alloc (Nat.le_refl _) _)).keep ((World.Since.refl _ _).alloc (Nat.le_refl _) _)
  have n1 := natAt_one ((w.alloc (.cells #[.bool false, .slice (some ⟨w.heap.size + 1, 0, none⟩) 0 0, .slice (some ⟨w.heap.size + 1 + 1, 0, none⟩) 1 1] 27)).alloc (.cells #[] 35))
  rw [show ((w.alloc (.cells #[.bool false, .slice (some ⟨w.heap.size + 1, 0, none⟩) 0 0, .slice (some ⟨w.heap.size + 1 + 1, 0, none⟩) 1 1] 27)).alloc (.cells #[] 35)).heap.size = w.heap.size + 1 + 1 by simp] at n1
  go_enter Try.func27, Try.ntmps27
  go_wp2
  refine bodyPost_ret (results_box3 rfl _ _ _ _ _ _ rfl bA) rfl ?_
  exact ⟨_, rfl, ⟨_, _, w.heap.size + 1, w.heap.size + 1 + 1, rfl, natAt_empty _ _ _ _ _, n1, by omega, by omega, by omega⟩, sA⟩


/-- A Rat in a box. -/
structure BR (w : World) (c : Nat) (x y z : Value) (q : Rat) : Prop where
  box : Box3 w c x y z
  rd : RatR w (.agg #[x, y, z]) q

theorem BR.keep {w w' : World} {c : Nat} {x y z : Value} {q : Rat} (h : BR w c x y z q) (s : w.Since w.heap.size w') : BR w' c x y z q := ⟨h.box.keep s, h.rd.keep s⟩
theorem BR.cells {w : World} {c : Nat} {x y z : Value} {q : Rat} (h : BR w c x y z q) : w.cell? ⟨c, 0, none⟩ = some x ∧ w.cell? ⟨c, 1, none⟩ = some y ∧ w.cell? ⟨c, 2, none⟩ = some z := h.box.cells

theorem same_q {v v' : Value} {q : Rat} {k : Nat} {w : World} (hq : Qb q k) (hk : k ≤ 1048576) (R : RatR w v q) (R' : RatR w v' q) :
    Calls Try.prog 17 #[v, v'] w fun e w' => e = .returned (.bool true) ∧ w.Since w.heap.size w' := by
  obtain ⟨a, n, ca, b, m, cb, ba, oa, bb, ob, X, Y, rfl, R, x1, x2⟩ := R
  obtain ⟨a', n', ca', b', m', cb', ba', oa', bb', ob', X', Y', rfl, R', y1, y2⟩ := R'
  have n1 := lv_lim R.pX (by rw [x1]; exact hq.1)
  have n2 := lv_lim R.pY (by rw [x2]; exact hq.2)
  obtain ⟨rfl, eX⟩ := lv_inj R'.lX R.lX R'.pX R.pX (y1.trans x1.symm)
  obtain ⟨rfl, eY⟩ := lv_inj R'.lY R.lY R'.pY R.pY (y2.trans x2.symm)
  exact same_off (qn q) a b a' b' ba oa bb ob ba' oa' bb' ob' _ ca _ cb ca' cb' X Y w (by omega) (by omega) R.LX R.LY (R'.LX.congr eX) (R'.LY.congr eY)

theorem lwZero_q (w : World) : Calls Try.prog 27 #[] w fun e w' => ∃ v, e = .returned v ∧ RatR w' v 0 ∧ w.Since w.heap.size w' :=
  (lwZero_any w).mono fun _ _ ⟨v, h1, h2, h3⟩ => ⟨v, h1, RatV.read (q := 0) h2, h3⟩

end Go.Proofs.Ytdfcckifbbeoiaa

namespace Go.Proofs.Ytdfcckifbbeoiaa
open Go.RowKit

theorem qcmp_add (p q : Rat) : qcmp (p + q) p = qcmp q 0 := by
  have e : ∀ x y : Rat, (p + x < p + y ↔ x < y) := fun x y => Rat.add_lt_add_left
  have h0 : p + 0 = p := Rat.add_zero p
  have h1 := e q 0
  have h2 := e 0 q
  rw [h0] at h1 h2
  unfold qcmp
  simp only [h1, h2]

theorem qcmp_ne {q : Rat} (h : q ≠ 0) : ¬ qcmp q 0 = 0 := by
  unfold qcmp
  by_cases h1 : q < 0
  · simp [h1]
  · by_cases h2 : 0 < q
    · simp [h1, h2]
    · exact absurd (Rat.le_antisymm (Rat.not_lt.1 h2) (Rat.not_lt.1 h1)) h

theorem implRatDiv_q0 {v v' : Value} {p q : Rat} {k l : Nat} {w : World} (hw : 0 ≤ w.heap.size) (hT : Tab w) (hp : Qb p k) (hq : Qb q l) (hk : 2 * k + 2 * l ≤ 1048576) (h0 : q.num.natAbs = 0) (R : RatR w v p) (R' : RatR w v' q) :
    Calls Try.prog 28 #[v, v'] w fun e w' => ∃ u, e = .returned (.tuple #[u, .bool false]) ∧ RatV w' u false 0 1 w.heap.size 4194304 ∧ w.Since w.heap.size w' := by
  obtain ⟨a, n, ca, b, m, cb, ba, oa, bb, ob, X, Y, rfl, R, x1, x2⟩ := R
  obtain ⟨a', n', ca', b', m', cb', ba', oa', bb', ob', X', Y', rfl, R', y1, y2⟩ := R'
  have n1 := lv_lim R.pX (by rw [x1]; exact hp.1)
  have n2 := lv_lim R.pY (by rw [x2]; exact hp.2)
  have n3 := lv_lim R'.pX (by rw [y1]; exact hq.1)
  have n4 := lv_lim R'.pY (by rw [y2]; exact hq.2)
  have n5 : n' = 0 := (lv_zero R'.pX).2 (by rw [y1]; exact h0)
  exact implRatDiv_zero (qn p) (qn q) a b a' b' ba oa n ca bb ob m cb ba' oa' n' ca' bb' ob' m' cb' X Y X' Y' w hw hT (by omega) ⟨R.nc, R.mc, R.ac, R.bc, R.LX, R.LY, R.lX, R.lY⟩ ⟨R'.nc, R'.mc, R'.ac, R'.bc, R'.LX, R'.LY, R'.lX, R'.lY⟩ (R.ok x1 x2) (R'.ok y1 y2) (hide n5)

theorem RatR.form {w : World} {v : Value} {q : Rat} (h : RatR w v q) : ∃ f a n ca b m cb, v = .agg #[.bool f, .slice a n ca, .slice b m cb] := by
  obtain ⟨a, n, ca, b, m, cb, ba, oa, bb, ob, X, Y, h1, -⟩ := h
  exact ⟨_, a, n, ca, b, m, cb, h1⟩

set_option maxHeartbeats 12800000 in
set_option maxRecDepth 100000 in
theorem field_law (a a' : Option Addr) (b off n cap b' off' n' cap' : Nat) (X X' : Nat → Nat) (w : World) (hn : n ≤ 1048576) (hn' : n' ≤ 1048576) (hC : Code w a b off n X) (hC' : Code w a' b' off' n' X') (hw : 0 ≤ w.heap.size) (hT : Tab w) :
    Calls Try.prog 4 #[.slice a n cap, .slice a' n' cap'] w fun e w' => e = .returned (.bool true) ∧ w.Since w.heap.size w' := by
  have h1 : ¬ (1048576 : Int) < (n : Int) := by omega
  have h2 : ¬ (1048576 : Int) < (n' : Int) := by omega
  go_enter Try.func4, Try.ntmps4
  go_wp2_with fail
  refine (drawRatAdd_any a b off n cap X w hn hC).mono ?_
  rintro e w1 ⟨v1, v2, rfl, ⟨fa, aa, na, ca, ba, ma, da, ga, ha, XA, YA, rfl, RA, ka1, ka2, -, -⟩, ⟨fb, ab, nb, cb, bb, mb, db, gb, hb, XB, YB, rfl, RB, kb1, kb2, -, -⟩, s1⟩
  have t2 : w1.Since w1.heap.size ((w1.alloc (.cells #[.bool fa, .slice aa na ca, .slice ba ma da] 27)).alloc (.cells #[.bool fb, .slice ab nb cb, .slice bb mb db] 27)) := ((World.Since.refl _ _).alloc (Nat.le_refl _) _).alloc (by simp) _
  have BA2 : Box3 ((w1.alloc (.cells #[.bool fa, .slice aa na ca, .slice ba ma da] 27)).alloc (.cells #[.bool fb, .slice ab nb cb, .slice bb mb db] 27)) w1.heap.size (.bool fa) (.slice aa na ca) (.slice ba ma da) := (Box3.new w1 _ _ _ _).keep ((World.Since.refl _ _).alloc (Nat.le_refl _) _)
  have BB2 : Box3 ((w1.alloc (.cells #[.bool fa, .slice aa na ca, .slice ba ma da] 27)).alloc (.cells #[.bool fb, .slice ab nb cb, .slice bb mb db] 27)) (w1.heap.size + 1) (.bool fb) (.slice ab nb cb) (.slice bb mb db) := by
    have := Box3.new (w1.alloc (.cells #[.bool fa, .slice aa na ca, .slice ba ma da] 27)) (.bool fb) (.slice ab nb cb) (.slice bb mb db) 27
    simpa using this
  have S2 := s1.trans (sinceMono t2 s1.size)
  have RA2 := RA.keep t2
  have RB2 := RB.keep t2
  go_wp2_with fail
  generalize ((w1.alloc (.cells #[.bool fa, .slice aa na ca, .slice ba ma da] 27)).alloc (.cells #[.bool fb, .slice ab nb cb, .slice bb mb db] 27)) = w2 at *
  generalize hcA : w1.heap.size = cA at *
  clear RA RB t2
  refine (drawRatText_any a' b' off' n' cap' X' w2 hn' (hC'.keep S2)).mono ?_
  rintro e w3 ⟨v3, rfl, ⟨fc, ac, nc, cc, bc, mc, dc, gc, hc, XC, YC, rfl, RC, kc1, kc2, -, -⟩, s3⟩
  have t4 : w3.Since w3.heap.size (w3.alloc (.cells #[.bool fc, .slice ac nc cc, .slice bc mc dc] 27)) := (World.Since.refl _ _).alloc (Nat.le_refl _) _
  have BC4 := Box3.new w3 (.bool fc) (.slice ac nc cc) (.slice bc mc dc) 27
  have s4 : w2.Since w2.heap.size (w3.alloc (.cells #[.bool fc, .slice ac nc cc, .slice bc mc dc] 27)) := s3.trans (sinceMono t4 s3.size)
  have BA4 := BA2.keep s4
  have BB4 := BB2.keep s4
  have RA4 := RA2.keep s4
  have RB4 := RB2.keep s4
  have RC4 := RC.keep t4
  have S4 := S2.trans (sinceMono s4 S2.size)
  have z2 := s3.size
  have bbl := BB2.lt
  clear BA2 BB2 RA2 RB2 RC t4 s4 S2
  have e0 := BA4.c0
  have e1 := BA4.c1
  have e2 := BA4.c2
  go_wp2_with fail
  clear e0 e1 e2
  generalize (w3.alloc (.cells #[.bool fc, .slice ac nc cc, .slice bc mc dc] 27)) = w4 at *
  generalize hcC : w3.heap.size = cC at *
  have J := specRatOk_any fa aa ba ga 0 na ca ha 0 ma da XA YA w4 (by omega) (by omega) RA4.LX RA4.LY RA4.lX RA4.lY
  by_cases okA' : ratOkB fa XA na YA ma = false
  · rw [okA'] at J
    refine J.mono ?_
    rintro e w5 ⟨rfl, s5⟩
    go_wp2
    go_ret
    exact ⟨rfl, S4.trans (sinceMono s5 S4.size)⟩
  have okA : ratOkB fa XA na YA ma = true := by simpa using okA'
  clear okA'
  rw [okA] at J
  refine J.mono ?_
  rintro e w5 ⟨rfl, s5⟩
  have BA5 := BA4.keep s5
  have RA5 := RA4.keep s5
  have BB5 := BB4.keep s5
  have RB5 := RB4.keep s5
  have BC5 := BC4.keep s5
  have RC5 := RC4.keep s5
  have S5 := S4.trans (sinceMono s5 S4.size)
  clear J BA4 BB4 BC4 RA4 RB4 RC4
  clear s5
  have e0 := BB5.c0
  have e1 := BB5.c1
  have e2 := BB5.c2
  go_wp2_with fail
  clear e0 e1 e2
  have J := specRatOk_any fb ab bb gb 0 nb cb hb 0 mb db XB YB w5 (by omega) (by omega) RB5.LX RB5.LY RB5.lX RB5.lY
  by_cases okB' : ratOkB fb XB nb YB mb = false
  · rw [okB'] at J
    refine J.mono ?_
    rintro e w6 ⟨rfl, s6⟩
    go_wp2
    go_ret
    exact ⟨rfl, S5.trans (sinceMono s6 S5.size)⟩
  have okB : ratOkB fb XB nb YB mb = true := by simpa using okB'
  clear okB'
  rw [okB] at J
  refine J.mono ?_
  rintro e w6 ⟨rfl, s6⟩
  have BA6 := BA5.keep s6
  have RA6 := RA5.keep s6
  have BB6 := BB5.keep s6
  have RB6 := RB5.keep s6
  have BC6 := BC5.keep s6
  have RC6 := RC5.keep s6
  have S6 := S5.trans (sinceMono s6 S5.size)
  clear J BA5 BB5 BC5 RA5 RB5 RC5
  clear s6
  have e0 := BC6.c0
  have e1 := BC6.c1
  have e2 := BC6.c2
  go_wp2_with fail
  clear e0 e1 e2
  have J := specRatOk_any fc ac bc gc 0 nc cc hc 0 mc dc XC YC w6 (by omega) (by omega) RC6.LX RC6.LY RC6.lX RC6.lY
  by_cases okC' : ratOkB fc XC nc YC mc = false
  · rw [okC'] at J
    refine J.mono ?_
    rintro e w7 ⟨rfl, s7⟩
    go_wp2
    go_ret
    exact ⟨rfl, S6.trans (sinceMono s7 S6.size)⟩
  have okC : ratOkB fc XC nc YC mc = true := by simpa using okC'
  clear okC'
  rw [okC] at J
  refine J.mono ?_
  rintro e w7 ⟨rfl, s7⟩
  have BA7 := BA6.keep s7
  have RA7 := RA6.keep s7
  have BB7 := BB6.keep s7
  have RB7 := RB6.keep s7
  have BC7 := BC6.keep s7
  have RC7 := RC6.keep s7
  have S7 := S6.trans (sinceMono s7 S6.size)
  clear J BA6 BB6 BC6 RA6 RB6 RC6
  clear s7
  obtain ⟨qa, hqa, ea1, ea2⟩ := rat_of_ok (RA7.ok okA) okA
  have Ha : Qb qa 32 := ⟨by rw [ea1]; exact lv_pow RA7.lX ka1, by rw [ea2]; exact lv_pow RA7.lY ka2⟩
  have AA7 : BR w7 cA (.bool fa) (.slice aa na ca) (.slice ba ma da) qa := ⟨BA7, hqa⟩
  clear hqa ea1 ea2 BA7 RA7 okA ka1 ka2
  obtain ⟨qb, hqb, eb1, eb2⟩ := rat_of_ok (RB7.ok okB) okB
  have Hb : Qb qb 32 := ⟨by rw [eb1]; exact lv_pow RB7.lX kb1, by rw [eb2]; exact lv_pow RB7.lY kb2⟩
  have AB7 : BR w7 (cA + 1) (.bool fb) (.slice ab nb cb) (.slice bb mb db) qb := ⟨BB7, hqb⟩
  clear hqb eb1 eb2 BB7 RB7 okB kb1 kb2
  obtain ⟨qc, hqc, ec1, ec2⟩ := rat_of_ok (RC7.ok okC) okC
  have Hc : Qb qc 32 := ⟨by rw [ec1]; exact lv_pow RC7.lX kc1, by rw [ec2]; exact lv_pow RC7.lY kc2⟩
  have AC7 : BR w7 cC (.bool fc) (.slice ac nc cc) (.slice bc mc dc) qc := ⟨BC7, hqc⟩
  clear hqc ec1 ec2 BC7 RC7 okC kc1 kc2
  have eA0 := AA7.box.c0
  have eA1 := AA7.box.c1
  have eA2 := AA7.box.c2
  have eB0 := AB7.box.c0
  have eB1 := AB7.box.c1
  have eB2 := AB7.box.c2
  go_wp2_with fail
  clear eA0 eA1 eA2 eB0 eB1 eB2
  refine (implRatAdd_q (Nat.zero_le _) (hT.stay hw S7) Ha Hb (by omega) AA7.rd AB7.rd).mono ?_
  rintro e w8 ⟨v, rfl, HV, s8⟩
  have HR := HV.read
  clear HV
  obtain ⟨fu, au, nu, cu, bu, mu, du, rfl⟩ := HR.form
  have t9 : w8.Since w8.heap.size (w8.alloc (.cells #[.bool fu, .slice au nu cu, .slice bu mu du] 27)) := (World.Since.refl _ _).alloc (Nat.le_refl _) _
  have s9 : w7.Since w7.heap.size (w8.alloc (.cells #[.bool fu, .slice au nu cu, .slice bu mu du] 27)) := s8.trans (sinceMono t9 s8.size)
  have AA9 := AA7.keep s9
  have AB9 := AB7.keep s9
  have AC9 := AC7.keep s9
  have S9 := S7.trans (sinceMono s9 S7.size)
  clear AA7 AB7 AC7
  have AS9 : BR (w8.alloc (.cells #[.bool fu, .slice au nu cu, .slice bu mu du] 27)) w8.heap.size (.bool fu) (.slice au nu cu) (.slice bu mu du) (qa + qb) := ⟨Box3.new w8 _ _ _ _, HR.keep t9⟩
  clear HR t9 s9 s8
  have eA0 := AA9.box.c0
  have eA1 := AA9.box.c1
  have eA2 := AA9.box.c2
  have eB0 := AB9.box.c0
  have eB1 := AB9.box.c1
  have eB2 := AB9.box.c2
  go_wp2_with fail
  generalize (w8.alloc (.cells #[.bool fu, .slice au nu cu, .slice bu mu du] 27)) = w9 at *
  generalize hcS : w8.heap.size = cS at *
  clear eA0 eA1 eA2 eB0 eB1 eB2
  refine (implRatMul_q (Nat.zero_le _) (hT.stay hw S9) Ha Hb (by omega) AA9.rd AB9.rd).mono ?_
  rintro e w10 ⟨v, rfl, HV, s10⟩
  have HR := HV.read
  clear HV
  obtain ⟨fp, ap, np, cp, bp, mp, dp, rfl⟩ := HR.form
  have t11 : w10.Since w10.heap.size (w10.alloc (.cells #[.bool fp, .slice ap np cp, .slice bp mp dp] 27)) := (World.Since.refl _ _).alloc (Nat.le_refl _) _
  have s11 : w9.Since w9.heap.size (w10.alloc (.cells #[.bool fp, .slice ap np cp, .slice bp mp dp] 27)) := s10.trans (sinceMono t11 s10.size)
  have AA11 := AA9.keep s11
  have AB11 := AB9.keep s11
  have AC11 := AC9.keep s11
  have AS11 := AS9.keep s11
  have S11 := S9.trans (sinceMono s11 S9.size)
  clear AA9 AB9 AC9 AS9
  have AP11 : BR (w10.alloc (.cells #[.bool fp, .slice ap np cp, .slice bp mp dp] 27)) w10.heap.size (.bool fp) (.slice ap np cp) (.slice bp mp dp) (qa * qb) := ⟨Box3.new w10 _ _ _ _, HR.keep t11⟩
  clear HR t11 s11 s10
  have Hs := Ha.add Hb
  have Hp := Ha.mul Hb
  have eS0 := AS11.box.c0
  have eS1 := AS11.box.c1
  have eS2 := AS11.box.c2
  go_wp2_with fail
  clear eS0 eS1 eS2
  generalize (w10.alloc (.cells #[.bool fp, .slice ap np cp, .slice bp mp dp] 27)) = w11 at *
  generalize hcP : w10.heap.size = cP at *
  refine (specRatOk_q Hs (by omega) AS11.rd).mono ?_
  rintro e w12 ⟨rfl, s12⟩
  have AA12 := AA11.keep s12
  have AB12 := AB11.keep s12
  have AC12 := AC11.keep s12
  have AS12 := AS11.keep s12
  have AP12 := AP11.keep s12
  have S12 := S11.trans (sinceMono s12 S11.size)
  clear AA11 AB11 AC11 AS11 AP11
  clear s12
  have eP0 := AP12.box.c0
  have eP1 := AP12.box.c1
  have eP2 := AP12.box.c2
  go_wp2_with fail
  clear eP0 eP1 eP2
  refine (specRatOk_q Hp (by omega) AP12.rd).mono ?_
  rintro e w13 ⟨rfl, s13⟩
  have AA13 := AA12.keep s13
  have AB13 := AB12.keep s13
  have AC13 := AC12.keep s13
  have AS13 := AS12.keep s13
  have AP13 := AP12.keep s13
  have S13 := S12.trans (sinceMono s13 S12.size)
  clear AA12 AB12 AC12 AS12 AP12
  clear s13
  have eS0 := AS13.box.c0
  have eS1 := AS13.box.c1
  have eS2 := AS13.box.c2
  go_wp2_with fail
  clear eS0 eS1 eS2
  refine (implRatOk_q (Nat.zero_le _) (hT.stay hw S13) Hs (by omega) AS13.rd).mono ?_
  rintro e w14 ⟨rfl, s14⟩
  have AA14 := AA13.keep s14
  have AB14 := AB13.keep s14
  have AC14 := AC13.keep s14
  have AS14 := AS13.keep s14
  have AP14 := AP13.keep s14
  have S14 := S13.trans (sinceMono s14 S13.size)
  clear AA13 AB13 AC13 AS13 AP13
  clear s14
  have eP0 := AP14.box.c0
  have eP1 := AP14.box.c1
  have eP2 := AP14.box.c2
  go_wp2_with fail
  clear eP0 eP1 eP2
  refine (implRatOk_q (Nat.zero_le _) (hT.stay hw S14) Hp (by omega) AP14.rd).mono ?_
  rintro e w15 ⟨rfl, s15⟩
  have AA15 := AA14.keep s15
  have AB15 := AB14.keep s15
  have AC15 := AC14.keep s15
  have AS15 := AS14.keep s15
  have AP15 := AP14.keep s15
  have S15 := S14.trans (sinceMono s15 S14.size)
  clear AA14 AB14 AC14 AS14 AP14
  clear s15
  have AAd0 := AA15.keep (since_drew (World.Since.refl _ _))
  have ABd0 := AB15.keep (since_drew (World.Since.refl _ _))
  have ACd0 := AC15.keep (since_drew (World.Since.refl _ _))
  have ASd0 := AS15.keep (since_drew (World.Since.refl _ _))
  have APd0 := AP15.keep (since_drew (World.Since.refl _ _))
  have Sd0 : w.Since w.heap.size w15.drew := since_drew S15
  have kk := And.intro AA15.cells (And.intro AB15.cells (And.intro AS15.cells AP15.cells))
  have J1 := implRatAdd_q (Nat.zero_le _) (hT.stay hw Sd0) Hb Ha (by omega) ABd0.rd AAd0.rd
  go_wp2_with fail
  go_region_held3 (fun w' => w'.cell? ⟨cA, 0, none⟩ = some (.bool fa) ∧ w'.cell? ⟨cA, 1, none⟩ = some (.slice aa na ca) ∧ w'.cell? ⟨cA, 2, none⟩ = some (.slice ba ma da) ∧ w'.cell? ⟨cA + 1, 0, none⟩ = some (.bool fb) ∧ w'.cell? ⟨cA + 1, 1, none⟩ = some (.slice ab nb cb) ∧ w'.cell? ⟨cA + 1, 2, none⟩ = some (.slice bb mb db) ∧ w'.cell? ⟨cS, 0, none⟩ = some (.bool fu) ∧ w'.cell? ⟨cS, 1, none⟩ = some (.slice au nu cu) ∧ w'.cell? ⟨cS, 2, none⟩ = some (.slice bu mu du) ∧ w'.cell? ⟨cP, 0, none⟩ = some (.bool fp) ∧ w'.cell? ⟨cP, 1, none⟩ = some (.slice ap np cp) ∧ w'.cell? ⟨cP, 2, none⟩ = some (.slice bp mp dp)) (go_keep)
    (first
     | (go_at_call 23
        first
        | (with_reducible refine J1.mono ?_
           rintro e x15_1 ⟨v1, rfl, HV1, sd1⟩
           have HR1 := HV1.read
           clear HV1
           have AAd1 := AAd0.keep sd1
           have ABd1 := ABd0.keep sd1
           have ACd1 := ACd0.keep sd1
           have ASd1 := ASd0.keep sd1
           have APd1 := APd0.keep sd1
           have Sd1 := Sd0.trans (sinceMono sd1 Sd0.size)
           have kk := And.intro AAd1.cells (And.intro ABd1.cells (And.intro ASd1.cells APd1.cells))
           have J2 := same_q Hs (by omega) ASd1.rd (by rw [Rat.add_comm]; exact HR1)))
     | (go_at_call 17
        first
        | (with_reducible refine J2.mono ?_
           rintro e x15_2 ⟨rfl, sd2⟩
           have AAd2 := AAd1.keep sd2
           have ABd2 := ABd1.keep sd2
           have ACd2 := ACd1.keep sd2
           have ASd2 := ASd1.keep sd2
           have APd2 := APd1.keep sd2
           have Sd2 := Sd1.trans (sinceMono sd2 Sd1.size)
           have HR1 := HR1.keep sd2
           have kk := And.intro AAd2.cells (And.intro ABd2.cells (And.intro ASd2.cells APd2.cells))
           have J3 := implRatMul_q (Nat.zero_le _) (hT.stay hw Sd2) Hb Ha (by omega) ABd2.rd AAd2.rd)
        | (with_reducible refine J4.mono ?_
           rintro e w16 ⟨rfl, sd4⟩
           have AAd4 := AAd3.keep sd4
           have ABd4 := ABd3.keep sd4
           have ACd4 := ACd3.keep sd4
           have ASd4 := ASd3.keep sd4
           have APd4 := APd3.keep sd4
           have Sd4 := Sd3.trans (sinceMono sd4 Sd3.size)
           have HR1 := HR1.keep sd4
           have HR3 := HR3.keep sd4
           have kk := And.intro AAd4.cells (And.intro ABd4.cells (And.intro ASd4.cells APd4.cells))))
     | (go_at_call 24
        first
        | (with_reducible refine J3.mono ?_
           rintro e x15_3 ⟨v3, rfl, HV3, sd3⟩
           have HR3 := HV3.read
           clear HV3
           have AAd3 := AAd2.keep sd3
           have ABd3 := ABd2.keep sd3
           have ACd3 := ACd2.keep sd3
           have ASd3 := ASd2.keep sd3
           have APd3 := APd2.keep sd3
           have Sd3 := Sd2.trans (sinceMono sd3 Sd2.size)
           have HR1 := HR1.keep sd3
           have kk := And.intro AAd3.cells (And.intro ABd3.cells (And.intro ASd3.cells APd3.cells))
           have J4 := same_q Hp (by omega) APd3.rd (by rw [Rat.mul_comm]; exact HR3))))
  have AA16 := AAd4
  have AB16 := ABd4
  have AC16 := ACd4
  have AS16 := ASd4
  have AP16 := APd4
  have S16 := Sd4
  clear kk AAd0 AAd1 AAd2 AAd3 AAd4 ABd0 ABd1 ABd2 ABd3 ABd4 ACd0 ACd1 ACd2 ACd3 ACd4 ASd0 ASd1 ASd2 ASd3 ASd4 APd0 APd1 APd2 APd3 APd4 Sd0 Sd1 Sd2 Sd3 Sd4 J1 J2 J3 J4 HR1 HR3 AA15 AB15 AC15 AS15 AP15
  have AAd0 := AA16.keep (since_drew (World.Since.refl _ _))
  have ABd0 := AB16.keep (since_drew (World.Since.refl _ _))
  have ACd0 := AC16.keep (since_drew (World.Since.refl _ _))
  have ASd0 := AS16.keep (since_drew (World.Since.refl _ _))
  have APd0 := AP16.keep (since_drew (World.Since.refl _ _))
  have Sd0 : w.Since w.heap.size w16.drew := since_drew S16
  have kk := And.intro AA16.cells (And.intro AB16.cells (And.intro AC16.cells AS16.cells))
  have J1 := implRatAdd_q (Nat.zero_le _) (hT.stay hw Sd0) Hs Hc (by omega) ASd0.rd ACd0.rd
  go_wp2_with fail
  go_region_held3 (fun w' => w'.cell? ⟨cA, 0, none⟩ = some (.bool fa) ∧ w'.cell? ⟨cA, 1, none⟩ = some (.slice aa na ca) ∧ w'.cell? ⟨cA, 2, none⟩ = some (.slice ba ma da) ∧ w'.cell? ⟨cA + 1, 0, none⟩ = some (.bool fb) ∧ w'.cell? ⟨cA + 1, 1, none⟩ = some (.slice ab nb cb) ∧ w'.cell? ⟨cA + 1, 2, none⟩ = some (.slice bb mb db) ∧ w'.cell? ⟨cC, 0, none⟩ = some (.bool fc) ∧ w'.cell? ⟨cC, 1, none⟩ = some (.slice ac nc cc) ∧ w'.cell? ⟨cC, 2, none⟩ = some (.slice bc mc dc) ∧ w'.cell? ⟨cS, 0, none⟩ = some (.bool fu) ∧ w'.cell? ⟨cS, 1, none⟩ = some (.slice au nu cu) ∧ w'.cell? ⟨cS, 2, none⟩ = some (.slice bu mu du)) (go_keep)
    (first
     | (go_at_call 23
        first
        | (with_reducible refine J1.mono ?_
           rintro e x16_1 ⟨v1, rfl, HV1, sd1⟩
           have HR1 := HV1.read
           clear HV1
           have AAd1 := AAd0.keep sd1
           have ABd1 := ABd0.keep sd1
           have ACd1 := ACd0.keep sd1
           have ASd1 := ASd0.keep sd1
           have APd1 := APd0.keep sd1
           have Sd1 := Sd0.trans (sinceMono sd1 Sd0.size)
           have kk := And.intro AAd1.cells (And.intro ABd1.cells (And.intro ACd1.cells ASd1.cells))
           have J2 := implRatAdd_q (Nat.zero_le _) (hT.stay hw Sd1) Hb Hc (by omega) ABd1.rd ACd1.rd)
        | (with_reducible refine J2.mono ?_
           rintro e x16_2 ⟨v2, rfl, HV2, sd2⟩
           have HR2 := HV2.read
           clear HV2
           have AAd2 := AAd1.keep sd2
           have ABd2 := ABd1.keep sd2
           have ACd2 := ACd1.keep sd2
           have ASd2 := ASd1.keep sd2
           have APd2 := APd1.keep sd2
           have Sd2 := Sd1.trans (sinceMono sd2 Sd1.size)
           have HR1 := HR1.keep sd2
           have kk := And.intro AAd2.cells (And.intro ABd2.cells (And.intro ACd2.cells ASd2.cells))
           have J3 := implRatAdd_q (Nat.zero_le _) (hT.stay hw Sd2) Ha (Hb.add Hc) (by omega) AAd2.rd HR2)
        | (with_reducible refine J3.mono ?_
           rintro e x16_3 ⟨v3, rfl, HV3, sd3⟩
           have HR3 := HV3.read
           clear HV3
           have AAd3 := AAd2.keep sd3
           have ABd3 := ABd2.keep sd3
           have ACd3 := ACd2.keep sd3
           have ASd3 := ASd2.keep sd3
           have APd3 := APd2.keep sd3
           have Sd3 := Sd2.trans (sinceMono sd3 Sd2.size)
           have HR1 := HR1.keep sd3
           have HR2 := HR2.keep sd3
           have kk := And.intro AAd3.cells (And.intro ABd3.cells (And.intro ACd3.cells ASd3.cells))
           have J4 := same_q (Hs.add Hc) (by omega) HR1 (by rw [Rat.add_assoc]; exact HR3)))
     | (go_at_call 17
        first
        | (with_reducible refine J4.mono ?_
           rintro e w17 ⟨rfl, sd4⟩
           have AAd4 := AAd3.keep sd4
           have ABd4 := ABd3.keep sd4
           have ACd4 := ACd3.keep sd4
           have ASd4 := ASd3.keep sd4
           have APd4 := APd3.keep sd4
           have Sd4 := Sd3.trans (sinceMono sd4 Sd3.size)
           have HR1 := HR1.keep sd4
           have HR2 := HR2.keep sd4
           have HR3 := HR3.keep sd4
           have kk := And.intro AAd4.cells (And.intro ABd4.cells (And.intro ACd4.cells ASd4.cells)))))
  have AA17 := AAd4
  have AB17 := ABd4
  have AC17 := ACd4
  have AS17 := ASd4
  have AP17 := APd4
  have S17 := Sd4
  clear kk AAd0 AAd1 AAd2 AAd3 AAd4 ABd0 ABd1 ABd2 ABd3 ABd4 ACd0 ACd1 ACd2 ACd3 ACd4 ASd0 ASd1 ASd2 ASd3 ASd4 APd0 APd1 APd2 APd3 APd4 Sd0 Sd1 Sd2 Sd3 Sd4 J1 J2 J3 J4 HR1 HR2 HR3 AA16 AB16 AC16 AS16 AP16
  have AAd0 := AA17.keep (since_drew (World.Since.refl _ _))
  have ABd0 := AB17.keep (since_drew (World.Since.refl _ _))
  have ACd0 := AC17.keep (since_drew (World.Since.refl _ _))
  have ASd0 := AS17.keep (since_drew (World.Since.refl _ _))
  have APd0 := AP17.keep (since_drew (World.Since.refl _ _))
  have Sd0 : w.Since w.heap.size w17.drew := since_drew S17
  have kk := And.intro AA17.cells (And.intro AB17.cells (And.intro AC17.cells AP17.cells))
  have J1 := implRatMul_q (Nat.zero_le _) (hT.stay hw Sd0) Hp Hc (by omega) APd0.rd ACd0.rd
  go_wp2_with fail
  go_region_held3 (fun w' => w'.cell? ⟨cA, 0, none⟩ = some (.bool fa) ∧ w'.cell? ⟨cA, 1, none⟩ = some (.slice aa na ca) ∧ w'.cell? ⟨cA, 2, none⟩ = some (.slice ba ma da) ∧ w'.cell? ⟨cA + 1, 0, none⟩ = some (.bool fb) ∧ w'.cell? ⟨cA + 1, 1, none⟩ = some (.slice ab nb cb) ∧ w'.cell? ⟨cA + 1, 2, none⟩ = some (.slice bb mb db) ∧ w'.cell? ⟨cC, 0, none⟩ = some (.bool fc) ∧ w'.cell? ⟨cC, 1, none⟩ = some (.slice ac nc cc) ∧ w'.cell? ⟨cC, 2, none⟩ = some (.slice bc mc dc) ∧ w'.cell? ⟨cP, 0, none⟩ = some (.bool fp) ∧ w'.cell? ⟨cP, 1, none⟩ = some (.slice ap np cp) ∧ w'.cell? ⟨cP, 2, none⟩ = some (.slice bp mp dp)) (go_keep)
    (first
     | (go_at_call 24
        first
        | (with_reducible refine J1.mono ?_
           rintro e x17_1 ⟨v1, rfl, HV1, sd1⟩
           have HR1 := HV1.read
           clear HV1
           have AAd1 := AAd0.keep sd1
           have ABd1 := ABd0.keep sd1
           have ACd1 := ACd0.keep sd1
           have ASd1 := ASd0.keep sd1
           have APd1 := APd0.keep sd1
           have Sd1 := Sd0.trans (sinceMono sd1 Sd0.size)
           have kk := And.intro AAd1.cells (And.intro ABd1.cells (And.intro ACd1.cells APd1.cells))
           have J2 := implRatMul_q (Nat.zero_le _) (hT.stay hw Sd1) Hb Hc (by omega) ABd1.rd ACd1.rd)
        | (with_reducible refine J2.mono ?_
           rintro e x17_2 ⟨v2, rfl, HV2, sd2⟩
           have HR2 := HV2.read
           clear HV2
           have AAd2 := AAd1.keep sd2
           have ABd2 := ABd1.keep sd2
           have ACd2 := ACd1.keep sd2
           have ASd2 := ASd1.keep sd2
           have APd2 := APd1.keep sd2
           have Sd2 := Sd1.trans (sinceMono sd2 Sd1.size)
           have HR1 := HR1.keep sd2
           have kk := And.intro AAd2.cells (And.intro ABd2.cells (And.intro ACd2.cells APd2.cells))
           have J3 := implRatMul_q (Nat.zero_le _) (hT.stay hw Sd2) Ha (Hb.mul Hc) (by omega) AAd2.rd HR2)
        | (with_reducible refine J3.mono ?_
           rintro e x17_3 ⟨v3, rfl, HV3, sd3⟩
           have HR3 := HV3.read
           clear HV3
           have AAd3 := AAd2.keep sd3
           have ABd3 := ABd2.keep sd3
           have ACd3 := ACd2.keep sd3
           have ASd3 := ASd2.keep sd3
           have APd3 := APd2.keep sd3
           have Sd3 := Sd2.trans (sinceMono sd3 Sd2.size)
           have HR1 := HR1.keep sd3
           have HR2 := HR2.keep sd3
           have kk := And.intro AAd3.cells (And.intro ABd3.cells (And.intro ACd3.cells APd3.cells))
           have J4 := same_q (Hp.mul Hc) (by omega) HR1 (by rw [Rat.mul_assoc]; exact HR3)))
     | (go_at_call 17
        first
        | (with_reducible refine J4.mono ?_
           rintro e w18 ⟨rfl, sd4⟩
           have AAd4 := AAd3.keep sd4
           have ABd4 := ABd3.keep sd4
           have ACd4 := ACd3.keep sd4
           have ASd4 := ASd3.keep sd4
           have APd4 := APd3.keep sd4
           have Sd4 := Sd3.trans (sinceMono sd4 Sd3.size)
           have HR1 := HR1.keep sd4
           have HR2 := HR2.keep sd4
           have HR3 := HR3.keep sd4
           have kk := And.intro AAd4.cells (And.intro ABd4.cells (And.intro ACd4.cells APd4.cells)))))
  have AA18 := AAd4
  have AB18 := ABd4
  have AC18 := ACd4
  have AS18 := ASd4
  have AP18 := APd4
  have S18 := Sd4
  clear kk AAd0 AAd1 AAd2 AAd3 AAd4 ABd0 ABd1 ABd2 ABd3 ABd4 ACd0 ACd1 ACd2 ACd3 ACd4 ASd0 ASd1 ASd2 ASd3 ASd4 APd0 APd1 APd2 APd3 APd4 Sd0 Sd1 Sd2 Sd3 Sd4 J1 J2 J3 J4 HR1 HR2 HR3 AA17 AB17 AC17 AS17 AP17
  have AAd0 := AA18.keep (since_drew (World.Since.refl _ _))
  have ABd0 := AB18.keep (since_drew (World.Since.refl _ _))
  have ACd0 := AC18.keep (since_drew (World.Since.refl _ _))
  have ASd0 := AS18.keep (since_drew (World.Since.refl _ _))
  have APd0 := AP18.keep (since_drew (World.Since.refl _ _))
  have Sd0 : w.Since w.heap.size w18.drew := since_drew S18
  have kk := And.intro AA18.cells (And.intro AB18.cells (And.intro AC18.cells AS18.cells))
  have J1 := implRatMul_q (Nat.zero_le _) (hT.stay hw Sd0) Hs Hc (by omega) ASd0.rd ACd0.rd
  go_wp2_with fail
  go_region_held3 (fun w' => w'.cell? ⟨cA, 0, none⟩ = some (.bool fa) ∧ w'.cell? ⟨cA, 1, none⟩ = some (.slice aa na ca) ∧ w'.cell? ⟨cA, 2, none⟩ = some (.slice ba ma da) ∧ w'.cell? ⟨cA + 1, 0, none⟩ = some (.bool fb) ∧ w'.cell? ⟨cA + 1, 1, none⟩ = some (.slice ab nb cb) ∧ w'.cell? ⟨cA + 1, 2, none⟩ = some (.slice bb mb db) ∧ w'.cell? ⟨cC, 0, none⟩ = some (.bool fc) ∧ w'.cell? ⟨cC, 1, none⟩ = some (.slice ac nc cc) ∧ w'.cell? ⟨cC, 2, none⟩ = some (.slice bc mc dc) ∧ w'.cell? ⟨cS, 0, none⟩ = some (.bool fu) ∧ w'.cell? ⟨cS, 1, none⟩ = some (.slice au nu cu) ∧ w'.cell? ⟨cS, 2, none⟩ = some (.slice bu mu du)) (go_keep)
    (first
     | (go_at_call 24
        first
        | (with_reducible refine J1.mono ?_
           rintro e x18_1 ⟨v1, rfl, HV1, sd1⟩
           have HR1 := HV1.read
           clear HV1
           have AAd1 := AAd0.keep sd1
           have ABd1 := ABd0.keep sd1
           have ACd1 := ACd0.keep sd1
           have ASd1 := ASd0.keep sd1
           have APd1 := APd0.keep sd1
           have Sd1 := Sd0.trans (sinceMono sd1 Sd0.size)
           have kk := And.intro AAd1.cells (And.intro ABd1.cells (And.intro ACd1.cells ASd1.cells))
           have J2 := implRatMul_q (Nat.zero_le _) (hT.stay hw Sd1) Ha Hc (by omega) AAd1.rd ACd1.rd)
        | (with_reducible refine J2.mono ?_
           rintro e x18_2 ⟨v2, rfl, HV2, sd2⟩
           have HR2 := HV2.read
           clear HV2
           have AAd2 := AAd1.keep sd2
           have ABd2 := ABd1.keep sd2
           have ACd2 := ACd1.keep sd2
           have ASd2 := ASd1.keep sd2
           have APd2 := APd1.keep sd2
           have Sd2 := Sd1.trans (sinceMono sd2 Sd1.size)
           have HR1 := HR1.keep sd2
           have kk := And.intro AAd2.cells (And.intro ABd2.cells (And.intro ACd2.cells ASd2.cells))
           have J3 := implRatMul_q (Nat.zero_le _) (hT.stay hw Sd2) Hb Hc (by omega) ABd2.rd ACd2.rd)
        | (with_reducible refine J3.mono ?_
           rintro e x18_3 ⟨v3, rfl, HV3, sd3⟩
           have HR3 := HV3.read
           clear HV3
           have AAd3 := AAd2.keep sd3
           have ABd3 := ABd2.keep sd3
           have ACd3 := ACd2.keep sd3
           have ASd3 := ASd2.keep sd3
           have APd3 := APd2.keep sd3
           have Sd3 := Sd2.trans (sinceMono sd3 Sd2.size)
           have HR1 := HR1.keep sd3
           have HR2 := HR2.keep sd3
           have kk := And.intro AAd3.cells (And.intro ABd3.cells (And.intro ACd3.cells ASd3.cells))
           have J4 := implRatAdd_q (Nat.zero_le _) (hT.stay hw Sd3) (Ha.mul Hc) (Hb.mul Hc) (by omega) HR2 HR3))
     | (go_at_call 23
        first
        | (with_reducible refine J4.mono ?_
           rintro e x18_4 ⟨v4, rfl, HV4, sd4⟩
           have HR4 := HV4.read
           clear HV4
           have AAd4 := AAd3.keep sd4
           have ABd4 := ABd3.keep sd4
           have ACd4 := ACd3.keep sd4
           have ASd4 := ASd3.keep sd4
           have APd4 := APd3.keep sd4
           have Sd4 := Sd3.trans (sinceMono sd4 Sd3.size)
           have HR1 := HR1.keep sd4
           have HR2 := HR2.keep sd4
           have HR3 := HR3.keep sd4
           have kk := And.intro AAd4.cells (And.intro ABd4.cells (And.intro ACd4.cells ASd4.cells))
           have J5 := same_q (Hs.mul Hc) (by omega) HR1 (by rw [Rat.add_mul]; exact HR4)))
     | (go_at_call 17
        first
        | (with_reducible refine J5.mono ?_
           rintro e w19 ⟨rfl, sd5⟩
           have AAd5 := AAd4.keep sd5
           have ABd5 := ABd4.keep sd5
           have ACd5 := ACd4.keep sd5
           have ASd5 := ASd4.keep sd5
           have APd5 := APd4.keep sd5
           have Sd5 := Sd4.trans (sinceMono sd5 Sd4.size)
           have HR1 := HR1.keep sd5
           have HR2 := HR2.keep sd5
           have HR3 := HR3.keep sd5
           have HR4 := HR4.keep sd5
           have kk := And.intro AAd5.cells (And.intro ABd5.cells (And.intro ACd5.cells ASd5.cells)))))
  have AA19 := AAd5
  have AB19 := ABd5
  have AC19 := ACd5
  have AS19 := ASd5
  have AP19 := APd5
  have S19 := Sd5
  clear kk AAd0 AAd1 AAd2 AAd3 AAd4 AAd5 ABd0 ABd1 ABd2 ABd3 ABd4 ABd5 ACd0 ACd1 ACd2 ACd3 ACd4 ACd5 ASd0 ASd1 ASd2 ASd3 ASd4 ASd5 APd0 APd1 APd2 APd3 APd4 APd5 Sd0 Sd1 Sd2 Sd3 Sd4 Sd5 J1 J2 J3 J4 J5 HR1 HR2 HR3 HR4 AA18 AB18 AC18 AS18 AP18
  obtain ⟨z, hz⟩ : ∃ z, z = qcmp qb 0 := ⟨_, rfl⟩
  have HZ := hide hz
  clear hz
  have H0 : Qb 0 1 := ⟨by decide, by decide⟩
  have hzz : (z == z) = true := by simp
  have AAd0 := AA19.keep (since_drew (World.Since.refl _ _))
  have ABd0 := AB19.keep (since_drew (World.Since.refl _ _))
  have ACd0 := AC19.keep (since_drew (World.Since.refl _ _))
  have ASd0 := AS19.keep (since_drew (World.Since.refl _ _))
  have APd0 := AP19.keep (since_drew (World.Since.refl _ _))
  have Sd0 : w.Since w.heap.size w19.drew := since_drew S19
  have kk := And.intro AA19.cells (And.intro AB19.cells AS19.cells)
  have J1 := implRatCmp_q (Nat.zero_le _) (hT.stay hw Sd0) Hs Ha (by omega) ASd0.rd AAd0.rd
  rw [qcmp_add, ← HZ.out] at J1
  go_wp2_with fail
  go_region_held3 (fun w' => w'.cell? ⟨cA, 0, none⟩ = some (.bool fa) ∧ w'.cell? ⟨cA, 1, none⟩ = some (.slice aa na ca) ∧ w'.cell? ⟨cA, 2, none⟩ = some (.slice ba ma da) ∧ w'.cell? ⟨cA + 1, 0, none⟩ = some (.bool fb) ∧ w'.cell? ⟨cA + 1, 1, none⟩ = some (.slice ab nb cb) ∧ w'.cell? ⟨cA + 1, 2, none⟩ = some (.slice bb mb db) ∧ w'.cell? ⟨cS, 0, none⟩ = some (.bool fu) ∧ w'.cell? ⟨cS, 1, none⟩ = some (.slice au nu cu) ∧ w'.cell? ⟨cS, 2, none⟩ = some (.slice bu mu du)) (go_keep)
    (first
     | (go_at_call 26
        first
        | (with_reducible refine J1.mono ?_
           rintro e x19_1 ⟨rfl, sd1⟩
           have AAd1 := AAd0.keep sd1
           have ABd1 := ABd0.keep sd1
           have ACd1 := ACd0.keep sd1
           have ASd1 := ASd0.keep sd1
           have APd1 := APd0.keep sd1
           have Sd1 := Sd0.trans (sinceMono sd1 Sd0.size)
           have kk := And.intro AAd1.cells (And.intro ABd1.cells ASd1.cells)
           have J2 := lwZero_q x19_1))
     | (go_at_call 27
        first
        | (with_reducible refine J2.mono ?_
           rintro e x19_2 ⟨v2, rfl, HR2, sd2⟩
           have AAd2 := AAd1.keep sd2
           have ABd2 := ABd1.keep sd2
           have ACd2 := ACd1.keep sd2
           have ASd2 := ASd1.keep sd2
           have APd2 := APd1.keep sd2
           have Sd2 := Sd1.trans (sinceMono sd2 Sd1.size)
           have kk := And.intro AAd2.cells (And.intro ABd2.cells ASd2.cells)
           have J3 := specRatCmp_q Hb H0 (by omega) ABd2.rd HR2
           rw [← HZ.out] at J3))
     | (go_at_call 18
        first
        | (with_reducible refine J3.mono ?_
           rintro e w20 ⟨rfl, sd3⟩
           have AAd3 := AAd2.keep sd3
           have ABd3 := ABd2.keep sd3
           have ACd3 := ACd2.keep sd3
           have ASd3 := ASd2.keep sd3
           have APd3 := APd2.keep sd3
           have Sd3 := Sd2.trans (sinceMono sd3 Sd2.size)
           have HR2 := HR2.keep sd3
           have kk := And.intro AAd3.cells (And.intro ABd3.cells ASd3.cells))))
  have AA20 := AAd3
  have AB20 := ABd3
  have AC20 := ACd3
  have AS20 := ASd3
  have AP20 := APd3
  have S20 := Sd3
  clear kk AAd0 AAd1 AAd2 AAd3 ABd0 ABd1 ABd2 ABd3 ACd0 ACd1 ACd2 ACd3 ASd0 ASd1 ASd2 ASd3 APd0 APd1 APd2 APd3 Sd0 Sd1 Sd2 Sd3 J1 J2 J3 HR2 AA19 AB19 AC19 AS19 AP19
  by_cases h0 : qb.num.natAbs = 0
  · have hcz : qcmp qb 0 = 0 := by
      have : qb = 0 := Rat.num_eq_zero.1 (by omega)
      rw [this]
      decide
    have eA0 := AA20.box.c0
    have eA1 := AA20.box.c1
    have eA2 := AA20.box.c2
    have eB0 := AB20.box.c0
    have eB1 := AB20.box.c1
    have eB2 := AB20.box.c2
    go_wp2_with fail
    clear eA0 eA1 eA2 eB0 eB1 eB2
    refine (implRatDiv_q0 (Nat.zero_le _) (hT.stay hw S20) Ha Hb (by omega) h0 AA20.rd AB20.rd).mono ?_
    rintro e w21 ⟨v, rfl, HV, s21⟩
    have HR := RatV.read (q := 0) HV
    clear HV
    obtain ⟨fq, aq, nq, cq, bq, mq, dq, rfl⟩ := HR.form
    have t22 : w21.Since w21.heap.size (w21.alloc (.cells #[.bool fq, .slice aq nq cq, .slice bq mq dq] 27)) := (World.Since.refl _ _).alloc (Nat.le_refl _) _
    have s22 : w20.Since w20.heap.size (w21.alloc (.cells #[.bool fq, .slice aq nq cq, .slice bq mq dq] 27)) := s21.trans (sinceMono t22 s21.size)
    have AA22 := AA20.keep s22
    have AB22 := AB20.keep s22
    have AC22 := AC20.keep s22
    have AS22 := AS20.keep s22
    have AP22 := AP20.keep s22
    have S22 := S20.trans (sinceMono s22 S20.size)
    clear AA20 AB20 AC20 AS20 AP20
    have AQ22 : BR (w21.alloc (.cells #[.bool fq, .slice aq nq cq, .slice bq mq dq] 27)) w21.heap.size (.bool fq) (.slice aq nq cq) (.slice bq mq dq) (0) := ⟨Box3.new w21 _ _ _ _, HR.keep t22⟩
    clear HR t22 s22 s21
    go_wp2_with fail
    generalize (w21.alloc (.cells #[.bool fq, .slice aq nq cq, .slice bq mq dq] 27)) = w22 at *
    generalize hcQ : w21.heap.size = cQ at *
    have AAd0 := AA22.keep (since_drew (World.Since.refl _ _))
    have ABd0 := AB22.keep (since_drew (World.Since.refl _ _))
    have ACd0 := AC22.keep (since_drew (World.Since.refl _ _))
    have ASd0 := AS22.keep (since_drew (World.Since.refl _ _))
    have APd0 := AP22.keep (since_drew (World.Since.refl _ _))
    have AQd0 := AQ22.keep (since_drew (World.Since.refl _ _))
    have Sd0 : w.Since w.heap.size w22.drew := since_drew S22
    have kk := And.intro AB22.cells AQ22.cells
    have J1 := lwZero_q w22.drew
    go_region_held3 (fun w' => w'.cell? ⟨cA + 1, 0, none⟩ = some (.bool fb) ∧ w'.cell? ⟨cA + 1, 1, none⟩ = some (.slice ab nb cb) ∧ w'.cell? ⟨cA + 1, 2, none⟩ = some (.slice bb mb db) ∧ w'.cell? ⟨cQ, 0, none⟩ = some (.bool fq) ∧ w'.cell? ⟨cQ, 1, none⟩ = some (.slice aq nq cq) ∧ w'.cell? ⟨cQ, 2, none⟩ = some (.slice bq mq dq)) (go_keep)
      (first
       | (go_at_call 27
          first
          | (with_reducible refine J1.mono ?_
             rintro e x22_1 ⟨v1, rfl, HR1, sd1⟩
             have AAd1 := AAd0.keep sd1
             have ABd1 := ABd0.keep sd1
             have ACd1 := ACd0.keep sd1
             have ASd1 := ASd0.keep sd1
             have APd1 := APd0.keep sd1
             have AQd1 := AQd0.keep sd1
             have Sd1 := Sd0.trans (sinceMono sd1 Sd0.size)
             have kk := And.intro ABd1.cells AQd1.cells
             have J2 := specRatCmp_q Hb H0 (by omega) ABd1.rd HR1
             rw [hcz] at J2))
       | (go_at_call 18
          first
          | (with_reducible refine J2.mono ?_
             rintro e w23 ⟨rfl, sd2⟩
             have AAd2 := AAd1.keep sd2
             have ABd2 := ABd1.keep sd2
             have ACd2 := ACd1.keep sd2
             have ASd2 := ASd1.keep sd2
             have APd2 := APd1.keep sd2
             have AQd2 := AQd1.keep sd2
             have Sd2 := Sd1.trans (sinceMono sd2 Sd1.size)
             have HR1 := HR1.keep sd2
             have kk := And.intro ABd2.cells AQd2.cells)))
    have AA23 := AAd2
    have AB23 := ABd2
    have AC23 := ACd2
    have AS23 := ASd2
    have AP23 := APd2
    have AQ23 := AQd2
    have S23 := Sd2
    clear kk AAd0 AAd1 AAd2 ABd0 ABd1 ABd2 ACd0 ACd1 ACd2 ASd0 ASd1 ASd2 APd0 APd1 APd2 AQd0 AQd1 AQd2 Sd0 Sd1 Sd2 J1 J2 HR1 AA22 AB22 AC22 AS22 AP22 AQ22
    have kk := And.intro AA23.cells (And.intro AB23.cells AQ23.cells)
    go_wp2
    go_quiet (fail)
    all_goals
      go_wp2
      go_ret
      exact ⟨rfl, ⟨S23.os, S23.tape, S23.output, S23.size, S23.block⟩⟩
  · have hq0 : qb ≠ 0 := fun e => h0 (by rw [e]; rfl)
    have hcz : ¬ z = 0 := by rw [HZ.out]; exact qcmp_ne hq0
    have hcz' : (z == 0) = false := by simpa using hcz
    have hcz2 : (z != 0) = true := by simpa using hcz
    have hcz3 : (!(z != 0)) = false := by rw [hcz2]; rfl
    have eA0 := AA20.box.c0
    have eA1 := AA20.box.c1
    have eA2 := AA20.box.c2
    have eB0 := AB20.box.c0
    have eB1 := AB20.box.c1
    have eB2 := AB20.box.c2
    go_wp2_with fail
    clear eA0 eA1 eA2 eB0 eB1 eB2
    refine (implRatDiv_q (Nat.zero_le _) (hT.stay hw S20) Ha Hb (by omega) h0 AA20.rd AB20.rd).mono ?_
    rintro e w21 ⟨v, rfl, HV, s21⟩
    have HR := HV.read
    clear HV
    obtain ⟨fq, aq, nq, cq, bq, mq, dq, rfl⟩ := HR.form
    have t22 : w21.Since w21.heap.size (w21.alloc (.cells #[.bool fq, .slice aq nq cq, .slice bq mq dq] 27)) := (World.Since.refl _ _).alloc (Nat.le_refl _) _
    have s22 : w20.Since w20.heap.size (w21.alloc (.cells #[.bool fq, .slice aq nq cq, .slice bq mq dq] 27)) := s21.trans (sinceMono t22 s21.size)
    have AA22 := AA20.keep s22
    have AB22 := AB20.keep s22
    have AC22 := AC20.keep s22
    have AS22 := AS20.keep s22
    have AP22 := AP20.keep s22
    have S22 := S20.trans (sinceMono s22 S20.size)
    clear AA20 AB20 AC20 AS20 AP20
    have AQ22 : BR (w21.alloc (.cells #[.bool fq, .slice aq nq cq, .slice bq mq dq] 27)) w21.heap.size (.bool fq) (.slice aq nq cq) (.slice bq mq dq) (qa / qb) := ⟨Box3.new w21 _ _ _ _, HR.keep t22⟩
    clear HR t22 s22 s21
    go_wp2_with fail
    generalize (w21.alloc (.cells #[.bool fq, .slice aq nq cq, .slice bq mq dq] 27)) = w22 at *
    generalize hcQ : w21.heap.size = cQ at *
    have AAd0 := AA22.keep (since_drew (World.Since.refl _ _))
    have ABd0 := AB22.keep (since_drew (World.Since.refl _ _))
    have ACd0 := AC22.keep (since_drew (World.Since.refl _ _))
    have ASd0 := AS22.keep (since_drew (World.Since.refl _ _))
    have APd0 := AP22.keep (since_drew (World.Since.refl _ _))
    have AQd0 := AQ22.keep (since_drew (World.Since.refl _ _))
    have Sd0 : w.Since w.heap.size w22.drew := since_drew S22
    have kk := And.intro AB22.cells AQ22.cells
    have J1 := lwZero_q w22.drew
    go_region_held3 (fun w' => w'.cell? ⟨cA + 1, 0, none⟩ = some (.bool fb) ∧ w'.cell? ⟨cA + 1, 1, none⟩ = some (.slice ab nb cb) ∧ w'.cell? ⟨cA + 1, 2, none⟩ = some (.slice bb mb db) ∧ w'.cell? ⟨cQ, 0, none⟩ = some (.bool fq) ∧ w'.cell? ⟨cQ, 1, none⟩ = some (.slice aq nq cq) ∧ w'.cell? ⟨cQ, 2, none⟩ = some (.slice bq mq dq)) (go_keep)
      (first
       | (go_at_call 27
          first
          | (with_reducible refine J1.mono ?_
             rintro e x22_1 ⟨v1, rfl, HR1, sd1⟩
             have AAd1 := AAd0.keep sd1
             have ABd1 := ABd0.keep sd1
             have ACd1 := ACd0.keep sd1
             have ASd1 := ASd0.keep sd1
             have APd1 := APd0.keep sd1
             have AQd1 := AQd0.keep sd1
             have Sd1 := Sd0.trans (sinceMono sd1 Sd0.size)
             have kk := And.intro ABd1.cells AQd1.cells
             have J2 := specRatCmp_q Hb H0 (by omega) ABd1.rd HR1
             rw [← HZ.out] at J2))
       | (go_at_call 18
          first
          | (with_reducible refine J2.mono ?_
             rintro e w23 ⟨rfl, sd2⟩
             have AAd2 := AAd1.keep sd2
             have ABd2 := ABd1.keep sd2
             have ACd2 := ACd1.keep sd2
             have ASd2 := ASd1.keep sd2
             have APd2 := APd1.keep sd2
             have AQd2 := AQd1.keep sd2
             have Sd2 := Sd1.trans (sinceMono sd2 Sd1.size)
             have HR1 := HR1.keep sd2
             have kk := And.intro ABd2.cells AQd2.cells)))
    have AA23 := AAd2
    have AB23 := ABd2
    have AC23 := ACd2
    have AS23 := ASd2
    have AP23 := APd2
    have AQ23 := AQd2
    have S23 := Sd2
    clear kk AAd0 AAd1 AAd2 ABd0 ABd1 ABd2 ACd0 ACd1 ACd2 ASd0 ASd1 ASd2 APd0 APd1 APd2 AQd0 AQd1 AQd2 Sd0 Sd1 Sd2 J1 J2 HR1 AA22 AB22 AC22 AS22 AP22 AQ22
    have AAd0 := AA23.keep (since_drew (World.Since.refl _ _))
    have ABd0 := AB23.keep (since_drew (World.Since.refl _ _))
    have ACd0 := AC23.keep (since_drew (World.Since.refl _ _))
    have ASd0 := AS23.keep (since_drew (World.Since.refl _ _))
    have APd0 := AP23.keep (since_drew (World.Since.refl _ _))
    have AQd0 := AQ23.keep (since_drew (World.Since.refl _ _))
    have Sd0 : w.Since w.heap.size w23.drew := since_drew S23
    have kk := And.intro AA23.cells (And.intro AB23.cells AQ23.cells)
    have J1 := implRatMul_q (Nat.zero_le _) (hT.stay hw Sd0) (Ha.div Hb h0) Hb (by omega) AQd0.rd ABd0.rd
    go_wp2
    go_region_held3 (fun w' => w'.cell? ⟨cA, 0, none⟩ = some (.bool fa) ∧ w'.cell? ⟨cA, 1, none⟩ = some (.slice aa na ca) ∧ w'.cell? ⟨cA, 2, none⟩ = some (.slice ba ma da) ∧ w'.cell? ⟨cA + 1, 0, none⟩ = some (.bool fb) ∧ w'.cell? ⟨cA + 1, 1, none⟩ = some (.slice ab nb cb) ∧ w'.cell? ⟨cA + 1, 2, none⟩ = some (.slice bb mb db) ∧ w'.cell? ⟨cQ, 0, none⟩ = some (.bool fq) ∧ w'.cell? ⟨cQ, 1, none⟩ = some (.slice aq nq cq) ∧ w'.cell? ⟨cQ, 2, none⟩ = some (.slice bq mq dq)) (go_keep)
      (first
       | (go_at_call 24
          first
          | (with_reducible refine J1.mono ?_
             rintro e x23_1 ⟨v1, rfl, HV1, sd1⟩
             have HR1 := HV1.read
             clear HV1
             have AAd1 := AAd0.keep sd1
             have ABd1 := ABd0.keep sd1
             have ACd1 := ACd0.keep sd1
             have ASd1 := ASd0.keep sd1
             have APd1 := APd0.keep sd1
             have AQd1 := AQd0.keep sd1
             have Sd1 := Sd0.trans (sinceMono sd1 Sd0.size)
             have kk := And.intro AAd1.cells (And.intro ABd1.cells AQd1.cells)
             have J2 := same_q Ha (by omega) (by rw [← Rat.div_mul_cancel (a := qa) hq0]; exact HR1) AAd1.rd))
       | (go_at_call 17
          first
          | (with_reducible refine J2.mono ?_
             rintro e w24 ⟨rfl, sd2⟩
             have AAd2 := AAd1.keep sd2
             have ABd2 := ABd1.keep sd2
             have ACd2 := ACd1.keep sd2
             have ASd2 := ASd1.keep sd2
             have APd2 := APd1.keep sd2
             have AQd2 := AQd1.keep sd2
             have Sd2 := Sd1.trans (sinceMono sd2 Sd1.size)
             have HR1 := HR1.keep sd2
             have kk := And.intro AAd2.cells (And.intro ABd2.cells AQd2.cells))))
    have AA24 := AAd2
    have AB24 := ABd2
    have AC24 := ACd2
    have AS24 := ASd2
    have AP24 := APd2
    have AQ24 := AQd2
    have S24 := Sd2
    clear kk AAd0 AAd1 AAd2 ABd0 ABd1 ABd2 ACd0 ACd1 ACd2 ASd0 ASd1 ASd2 APd0 APd1 APd2 AQd0 AQd1 AQd2 Sd0 Sd1 Sd2 J1 J2 HR1 AA23 AB23 AC23 AS23 AP23 AQ23
    go_wp2
    go_ret
    exact ⟨rfl, S24⟩

end Go.Proofs.Ytdfcckifbbeoiaa

namespace Go.Proofs.Ytdfcckifbbeoiaa
open Go.RowKit

set_option maxHeartbeats 800000 in
set_option maxRecDepth 100000 in
theorem field_long (a a' : Option Addr) (n cap m cap' : Nat) (w : World) (hn : n ≤ 9223372036854775807) (hm : m ≤ 9223372036854775807) (h : 1048576 < n ∨ 1048576 < m) :
    Calls Try.prog 4 #[.slice a n cap, .slice a' m cap'] w fun e w' => e = .returned (.bool true) ∧ w.Since w.heap.size w' := by
  by_cases h1 : 1048576 < n
  · have e1 : (1048576 : Int) < (n : Int) := by omega
    go_enter Try.func4, Try.ntmps4
    go_wp2
    go_ret
    exact ⟨rfl, World.Since.refl _ _⟩
  · have e1 : ¬ (1048576 : Int) < (n : Int) := by omega
    have e2 : (1048576 : Int) < (m : Int) := by omega
    go_enter Try.func4, Try.ntmps4
    go_wp2
    go_ret
    exact ⟨rfl, World.Since.refl _ _⟩

end Go.Proofs.Ytdfcckifbbeoiaa
