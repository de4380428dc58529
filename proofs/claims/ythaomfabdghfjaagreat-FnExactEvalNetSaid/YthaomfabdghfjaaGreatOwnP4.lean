import Derived.Test.YthaomfabdghfjaaGreatOwnP1
import Derived.Test.YthaomfabdghfjaaGreatOwnP3
import Derived.Test.YthaomfabdghfjaaGreatG1P3
import Derived.Deep.RegionHeld3
namespace Go.Proofs.YthaomfabdghfjaaGreat
open Go.RowKit

set_option maxHeartbeats 800000 in
set_option maxRecDepth 100000 in
theorem szU_ok (a : Option Addr) (n cap L : Nat) (w : World) (hL : L ≤ 16777216) (hn : n ≤ L) :
    Calls Tryz.prog 62 #[.slice a n cap, .int .i64 L] w fun e w' => e = .returned (.int .i64 ((L - n : Nat) : Int)) ∧ w' = w := by
  have h : (L : Int) - n = ((L - n : Nat) : Int) := by omega
  have H := hide h
  clear h
  go_enter Tryz.func62, Tryz.ntmps62
  go_wp2
  go_ret
  exact ⟨ret_int H.out, rfl⟩

set_option maxHeartbeats 800000 in
set_option maxRecDepth 100000 in
theorem szU_no (a : Option Addr) (n cap L : Nat) (w : World) (hL : L ≤ 16777216) (hn : L < n) (hm : n ≤ 9223372036854775807) :
    Calls Tryz.prog 62 #[.slice a n cap, .int .i64 L] w fun e w' => e = .returned (.int .i64 (-1)) ∧ w' = w := by
  go_enter Tryz.func62, Tryz.ntmps62
  go_wp2
  go_ret
  exact ⟨rfl, rfl⟩

set_option maxHeartbeats 800000 in
set_option maxRecDepth 100000 in
theorem szRat_ok (neg : Bool) (a b : Option Addr) (n ca m cb L : Nat) (w : World) (hL : L ≤ 16777216) (hn : n + m ≤ L) :
    Calls Tryz.prog 29 #[.agg #[.bool neg, .slice a n ca, .slice b m cb], .int .i64 L] w fun e w' => e = .returned (.int .i64 ((L - n - m : Nat) : Int)) ∧ w.Since w.heap.size w' := by
  have sA : w.Since w.heap.size (w.alloc (.cells #[.bool neg, .slice a n ca, .slice b m cb] 63)) := (World.Since.refl _ _).alloc (Nat.le_refl _) _
  go_enter Tryz.func29, Tryz.ntmps29
  go_wp2_with fail
  refine (szU_ok a n ca L _ hL (by omega)).mono ?_
  rintro e w1 ⟨rfl, rfl⟩
  go_wp2_with fail
  refine (szU_ok b m cb (L - n) _ (by omega) (by omega)).mono ?_
  rintro e w1 ⟨rfl, rfl⟩
  go_wp2
  go_ret
  exact ⟨rfl, sA⟩

set_option maxHeartbeats 800000 in
set_option maxRecDepth 100000 in
theorem szRat_no (neg : Bool) (a b : Option Addr) (n ca m cb L : Nat) (w : World) (hL : L ≤ 16777216) (hn : L < n + m) (hn1 : n ≤ 9223372036854775807) (hm : m ≤ 9223372036854775807) :
    Calls Tryz.prog 29 #[.agg #[.bool neg, .slice a n ca, .slice b m cb], .int .i64 L] w fun e w' => e = .returned (.int .i64 (-1)) ∧ w.Since w.heap.size w' := by
  have sA : w.Since w.heap.size (w.alloc (.cells #[.bool neg, .slice a n ca, .slice b m cb] 63)) := (World.Since.refl _ _).alloc (Nat.le_refl _) _
  by_cases h : L < n
  · go_enter Tryz.func29, Tryz.ntmps29
    go_wp2_with fail
    refine (szU_no a n ca L _ hL h hn1).mono ?_
    rintro e w1 ⟨rfl, rfl⟩
    go_wp2
    go_ret
    exact ⟨rfl, sA⟩
  · go_enter Tryz.func29, Tryz.ntmps29
    go_wp2_with fail
    refine (szU_ok a n ca L _ hL (by omega)).mono ?_
    rintro e w1 ⟨rfl, rfl⟩
    go_wp2_with fail
    refine (szU_no b m cb (L - n) _ (by omega) (by omega) hm).mono ?_
    rintro e w1 ⟨rfl, rfl⟩
    go_wp2
    go_ret
    exact ⟨rfl, sA⟩

set_option maxHeartbeats 1600000 in
set_option maxRecDepth 100000 in
theorem toRat_any (neg : Bool) (a b : Option Addr) (ba oa n ca bb ob m cb : Nat) (X Y : Nat → Nat) (w : World) (hn : n ≤ 16777216) (hm : m ≤ 16777216) (hX : Limbs w a ba oa n X) (hY : Limbs w b bb ob m Y) :
    Calls Tryz.prog 34 #[.agg #[.bool neg, .slice a n ca, .slice b m cb]] w fun e w' => ∃ g h, e = .returned (.agg #[.bool neg, .slice (some ⟨g, 0, none⟩) n n, .slice (some ⟨h, 0, none⟩) m m]) ∧ w.Since w.heap.size w' ∧ w.heap.size ≤ g ∧ g < h ∧
      h < w'.heap.size ∧ Limbs w' (some ⟨g, 0, none⟩) g 0 n X ∧ Limbs w' (some ⟨h, 0, none⟩) h 0 m Y ∧ (∀ o, w'.frozen? ⟨g, o, none⟩ = false) ∧ (∀ o, w'.frozen? ⟨h, o, none⟩ = false) := by
  have sA : w.Since w.heap.size (((w.alloc (.cells #[.bool neg, .slice a n ca, .slice b m cb] 63)).alloc (.cells #[.bool false, .slice none 0 0, .slice none 0 0] 70)).alloc (.cells #[.bool neg, .slice none 0 0, .slice none 0 0] 70)) :=
    (((World.Since.refl _ _).alloc (Nat.le_refl _) _).alloc (by simp) _).alloc (by simp; omega) _
  have zA : (((w.alloc (.cells #[.bool neg, .slice a n ca, .slice b m cb] 63)).alloc (.cells #[.bool false, .slice none 0 0, .slice none 0 0] 70)).alloc (.cells #[.bool neg, .slice none 0 0, .slice none 0 0] 70)).heap.size = w.heap.size + 1 + 1 + 1 := by simp
  have bA : Box3 (((w.alloc (.cells #[.bool neg, .slice a n ca, .slice b m cb] 63)).alloc (.cells #[.bool false, .slice none 0 0, .slice none 0 0] 70)).alloc (.cells #[.bool neg, .slice none 0 0, .slice none 0 0] 70)) w.heap.size (.bool neg) (.slice a n ca) (.slice b m cb) := ((Box3.new w _ _ _ _).keep ((World.Since.refl _ _).alloc (Nat.le_refl _) _)).keep ((World.Since.refl _ _).alloc (Nat.le_refl _) _)
  have rA : Box3 (((w.alloc (.cells #[.bool neg, .slice a n ca, .slice b m cb] 63)).alloc (.cells #[.bool false, .slice none 0 0, .slice none 0 0] 70)).alloc (.cells #[.bool neg, .slice none 0 0, .slice none 0 0] 70)) (w.heap.size + 1) (.bool false) (.slice none 0 0) (.slice none 0 0) := by
    have := (Box3.new (w.alloc (.cells #[.bool neg, .slice a n ca, .slice b m cb] 63)) (.bool false) (.slice none 0 0) (.slice none 0 0) 70).keep ((World.Since.refl _ _).alloc (Nat.le_refl _) (.cells #[.bool neg, .slice none 0 0, .slice none 0 0] 70))
    simpa using this
  have oA : Box3 (((w.alloc (.cells #[.bool neg, .slice a n ca, .slice b m cb] 63)).alloc (.cells #[.bool false, .slice none 0 0, .slice none 0 0] 70)).alloc (.cells #[.bool neg, .slice none 0 0, .slice none 0 0] 70)) (w.heap.size + 1 + 1) (.bool neg) (.slice none 0 0) (.slice none 0 0) := by
    have := Box3.new ((w.alloc (.cells #[.bool neg, .slice a n ca, .slice b m cb] 63)).alloc (.cells #[.bool false, .slice none 0 0, .slice none 0 0] 70)) (.bool neg) (.slice none 0 0) (.slice none 0 0) 70
    simpa using this
  go_enter Tryz.func34, Tryz.ntmps34
  go_wp2_with fail
  generalize (((w.alloc (.cells #[.bool neg, .slice a n ca, .slice b m cb] 63)).alloc (.cells #[.bool false, .slice none 0 0, .slice none 0 0] 70)).alloc (.cells #[.bool neg, .slice none 0 0, .slice none 0 0] 70)) = wA at *
  refine (to_any a ba oa n ca X wA hn (hX.keep sA)).mono ?_
  rintro e w1 ⟨rfl, s1, r1⟩
  have z1 := s1.size
  have b1 := bA.keep s1
  have q1 := rA.keep s1
  have o1 := oA.keep s1
  have S1 : w.Since w.heap.size w1 := sA.trans (sinceMono s1 sA.size)
  have L1 := limbs_row r1
  have F1 : ∀ o, w1.frozen? ⟨wA.heap.size, o, none⟩ = false := fun o => r1.frozen o
  have t1 : wA.heap.size < w1.heap.size := r1.lt
  rw [zA] at L1 F1 t1
  clear r1 bA rA oA
  have k1 := b1.c2
  have k2 := o1.c1
  have k3 := o1.f 1
  go_wp2_with fail
  clear k1 k2 k3
  have M2 : Marked w1 (w1.setCell ⟨w.heap.size + 1 + 1, 1, none⟩ (.slice (some ⟨w.heap.size + 1 + 1 + 1, 0, none⟩) n n)) (w.heap.size + 1 + 1) := (Marked.refl w1 _).setCell _ _
  have o2 := o1.set1 (.slice (some ⟨w.heap.size + 1 + 1 + 1, 0, none⟩) n n)
  have q2 := q1.marked M2 (by omega)
  have S2 : w.Since w.heap.size (w1.setCell ⟨w.heap.size + 1 + 1, 1, none⟩ (.slice (some ⟨w.heap.size + 1 + 1 + 1, 0, none⟩) n n)) := S1.trans (M2.since (by omega))
  have L2 := L1.marked M2 (fun _ => by omega)
  have F2 : ∀ o, (w1.setCell ⟨w.heap.size + 1 + 1, 1, none⟩ (.slice (some ⟨w.heap.size + 1 + 1 + 1, 0, none⟩) n n)).frozen? ⟨w.heap.size + 1 + 1 + 1, o, none⟩ = false := fun o => by rw [M2.frozenO (a := ⟨w.heap.size + 1 + 1 + 1, o, none⟩) (by show w.heap.size + 1 + 1 + 1 ≠ _; omega)]; exact F1 o
  have z2 := M2.size
  generalize w1.setCell ⟨w.heap.size + 1 + 1, 1, none⟩ (.slice (some ⟨w.heap.size + 1 + 1 + 1, 0, none⟩) n n) = w2 at *
  refine (to_any b bb ob m cb Y w2 hm (hY.keep S2)).mono ?_
  rintro e w3 ⟨rfl, s3, r3⟩
  have z3 := s3.size
  have q3 := q2.keep s3
  have o3 := o2.keep s3
  have S3 : w.Since w.heap.size w3 := S2.trans (sinceMono s3 S2.size)
  have L3 := L2.keep s3
  have F3 : ∀ o, w3.frozen? ⟨w.heap.size + 1 + 1 + 1, o, none⟩ = false := fun o => by rw [s3.frozen (a := ⟨w.heap.size + 1 + 1 + 1, o, none⟩) (by show w.heap.size + 1 + 1 + 1 < _; omega)]; exact F2 o
  have K3 := limbs_row r3
  have G3 : ∀ o, w3.frozen? ⟨w2.heap.size, o, none⟩ = false := fun o => r3.frozen o
  have t3 : w2.heap.size < w3.heap.size := r3.lt
  clear r3 L1 L2 F1 F2 b1 q1 o1 q2 o2
  have q30 := q3.c0
  have q31 := q3.c1
  have q32 := q3.c2
  have q3f0 := q3.f 0
  have q3f1 := q3.f 1
  have q3f2 := q3.f 2
  have o30 := o3.c0
  have o31 := o3.c1
  have o32 := o3.c2
  have o3f2 := o3.f 2
  have M4 : Marked w3 (w3.setCell ⟨w.heap.size + 1 + 1, 2, none⟩ (.slice (some ⟨w1.heap.size, 0, none⟩) m m)) (w.heap.size + 1 + 1) := (Marked.refl w3 _).setCell _ _
  rw [z2] at K3 G3 t3
  go_wp2
  have q4 := (((q3.marked M4 (by omega)).set0 (.bool neg)).set1 (.slice (some ⟨w.heap.size + 1 + 1 + 1, 0, none⟩) n n)).set2 (.slice (some ⟨w1.heap.size, 0, none⟩) m m)
  refine bodyPost_ret (results_box3 rfl _ _ _ _ _ _ rfl q4) rfl ?_
  have M5 : Marked (w3.setCell ⟨w.heap.size + 1 + 1, 2, none⟩ (.slice (some ⟨w1.heap.size, 0, none⟩) m m)) _ (w.heap.size + 1) := (((Marked.refl _ _).setCell 0 (.bool neg)).setCell 1 (.slice (some ⟨w.heap.size + 1 + 1 + 1, 0, none⟩) n n)).setCell 2 (.slice (some ⟨w1.heap.size, 0, none⟩) m m)
  refine ⟨w.heap.size + 1 + 1 + 1, w1.heap.size, rfl, (S3.trans (M4.since (by omega))).trans (M5.since (by omega)), by omega, by omega, by rw [M5.size, M4.size]; omega,
    (L3.marked M4 (fun _ => by omega)).marked M5 (fun _ => by omega), (K3.marked M4 (fun _ => by omega)).marked M5 (fun _ => by omega), fun o => ?_, fun o => ?_⟩
  · rw [M5.frozenO (a := ⟨w.heap.size + 1 + 1 + 1, o, none⟩) (by show w.heap.size + 1 + 1 + 1 ≠ _; omega), M4.frozenO (a := ⟨w.heap.size + 1 + 1 + 1, o, none⟩) (by show w.heap.size + 1 + 1 + 1 ≠ _; omega)]; exact F3 o
  · rw [M5.frozenO (a := ⟨w1.heap.size, o, none⟩) (by show w1.heap.size ≠ _; omega), M4.frozenO (a := ⟨w1.heap.size, o, none⟩) (by show w1.heap.size ≠ _; omega)]; exact G3 o

set_option maxHeartbeats 800000 in
set_option maxRecDepth 100000 in
/-- eqRat at two Rats of the same fields. -/
theorem eqRat_true (neg : Bool) (a a' b b' : Option Addr) (ba oa ba' oa' n ca ca' bb ob bb' ob' m cb cb' : Nat) (X Y : Nat → Nat) (w : World) (hn : n ≤ 67108864) (hm : m ≤ 67108864)
    (hX : Limbs w a ba oa n X) (hX' : Limbs w a' ba' oa' n X) (hY : Limbs w b bb ob m Y) (hY' : Limbs w b' bb' ob' m Y) :
    Calls Tryz.prog 40 #[.agg #[.bool neg, .slice a n ca, .slice b m cb], .agg #[.bool neg, .slice a' n ca', .slice b' m cb']] w fun e w' => e = .returned (.bool true) ∧ w.Since w.heap.size w' := by
  have sA : w.Since w.heap.size ((w.alloc (.cells #[.bool neg, .slice a n ca, .slice b m cb] 70)).alloc (.cells #[.bool neg, .slice a' n ca', .slice b' m cb'] 70)) := ((World.Since.refl _ _).alloc (Nat.le_refl _) _).alloc (by simp) _
  have bA : Box3 ((w.alloc (.cells #[.bool neg, .slice a n ca, .slice b m cb] 70)).alloc (.cells #[.bool neg, .slice a' n ca', .slice b' m cb'] 70)) w.heap.size (.bool neg) (.slice a n ca) (.slice b m cb) := (Box3.new w _ _ _ _).keep ((World.Since.refl _ _).alloc (Nat.le_refl _) _)
  have cA : Box3 ((w.alloc (.cells #[.bool neg, .slice a n ca, .slice b m cb] 70)).alloc (.cells #[.bool neg, .slice a' n ca', .slice b' m cb'] 70)) (w.heap.size + 1) (.bool neg) (.slice a' n ca') (.slice b' m cb') := by
    have := Box3.new (w.alloc (.cells #[.bool neg, .slice a n ca, .slice b m cb] 70)) (.bool neg) (.slice a' n ca') (.slice b' m cb') 70
    simpa using this
  go_enter Tryz.func40, Tryz.ntmps40
  go_wp2_with fail
  generalize ((w.alloc (.cells #[.bool neg, .slice a n ca, .slice b m cb] 70)).alloc (.cells #[.bool neg, .slice a' n ca', .slice b' m cb'] 70)) = wA at *
  refine (eq_true a a' ba oa ba' oa' n ca ca' X wA hn (hX.keep sA) (hX'.keep sA)).mono ?_
  rintro e w1 ⟨rfl, s1⟩
  have S1 := s1.since wA.heap.size
  have k1 := (bA.keep S1).c2
  have k2 := (cA.keep S1).c2
  go_wp2_with fail
  refine (eq_true b b' bb ob bb' ob' m cb cb' Y w1 hm ((hY.keep sA).keep S1) ((hY'.keep sA).keep S1)).mono ?_
  rintro e w2 ⟨rfl, s2⟩
  go_wp2
  go_ret
  exact ⟨rfl, (sA.trans (sinceMono S1 sA.size)).trans (s2.since _)⟩

end Go.Proofs.YthaomfabdghfjaaGreat

namespace Go.Proofs.YthaomfabdghfjaaGreat
open Go.RowKit

/-- What a Rat holds. -/
structure RatD where
  neg : Bool
  n : Nat
  X : Nat → Nat
  m : Nat
  Y : Nat → Nat

def RatD.nul : RatD := ⟨false, 0, fun _ => 0, 0, fun _ => 0⟩

def RatD.ok (r : RatD) : Bool := ratOkB r.neg r.X r.n r.Y r.m

/-- Two slices that hold a Rat's lists, in blocks from lo on. -/
structure RatL (w : World) (lo : Nat) (r : RatD) (a b : Option Addr) (ca cb : Nat) : Prop where
  nc : r.n ≤ ca
  mc : r.m ≤ cb
  ac : a = none → ca = 0
  bc : b = none → cb = 0
  LX : ∃ ba oa, (0 < r.n → lo ≤ ba) ∧ Limbs w a ba oa r.n r.X
  LY : ∃ bb ob, (0 < r.m → lo ≤ bb) ∧ Limbs w b bb ob r.m r.Y
  lX : ∀ j, j < r.n → r.X j < 4294967296
  lY : ∀ j, j < r.m → r.Y j < 4294967296
  n63 : r.n ≤ 9223372036854775807
  m63 : r.m ≤ 9223372036854775807

section
variable {w w' : World} {lo lo' b off n c : Nat} {r : RatD} {a a1 a2 : Option Addr} {k1 k2 : Nat} {R : Nat → RatD}

theorem RatL.keep (h : RatL w lo r a1 a2 k1 k2) (s : w.Since w.heap.size w') : RatL w' lo r a1 a2 k1 k2 := by
  obtain ⟨ba, oa, l1, LX⟩ := h.LX
  obtain ⟨bb, ob, l2, LY⟩ := h.LY
  exact ⟨h.nc, h.mc, h.ac, h.bc, ⟨ba, oa, l1, LX.keep s⟩, ⟨bb, ob, l2, LY.keep s⟩, h.lX, h.lY, h.n63, h.m63⟩

theorem RatL.down (h : RatL w lo r a1 a2 k1 k2) (hl : lo' ≤ lo) : RatL w lo' r a1 a2 k1 k2 := by
  obtain ⟨ba, oa, l1, LX⟩ := h.LX
  obtain ⟨bb, ob, l2, LY⟩ := h.LY
  exact ⟨h.nc, h.mc, h.ac, h.bc, ⟨ba, oa, fun h => Nat.le_trans hl (l1 h), LX⟩, ⟨bb, ob, fun h => Nat.le_trans hl (l2 h), LY⟩, h.lX, h.lY, h.n63, h.m63⟩

theorem RatL.marked (h : RatL w lo r a1 a2 k1 k2) (s : Marked w w' c) (hc : c < lo) : RatL w' lo r a1 a2 k1 k2 := by
  obtain ⟨ba, oa, l1, LX⟩ := h.LX
  obtain ⟨bb, ob, l2, LY⟩ := h.LY
  exact ⟨h.nc, h.mc, h.ac, h.bc, ⟨ba, oa, l1, LX.marked s (fun h => by have := l1 h; omega)⟩, ⟨bb, ob, l2, LY.marked s (fun h => by have := l2 h; omega)⟩, h.lX, h.lY, h.n63, h.m63⟩

/-- A Rat that lies in memory. -/
structure RatM (w : World) (lo b off : Nat) (r : RatD) (a1 a2 : Option Addr) (k1 k2 : Nat) : Prop where
  c0 : w.cell? ⟨b, off, none⟩ = some (.bool r.neg)
  c1 : w.cell? ⟨b, off + 1, none⟩ = some (.slice a1 r.n k1)
  c2 : w.cell? ⟨b, off + 2, none⟩ = some (.slice a2 r.m k2)
  L : RatL w lo r a1 a2 k1 k2

theorem RatM.lt (h : RatM w lo b off r a1 a2 k1 k2) : b < w.heap.size := World.block_lt_of_cell? _ _ h.c0
theorem RatM.keep (h : RatM w lo b off r a1 a2 k1 k2) (s : w.Since w.heap.size w') : RatM w' lo b off r a1 a2 k1 k2 :=
  ⟨(s.cell (a := ⟨b, off, none⟩) h.lt).trans h.c0, (s.cell (a := ⟨b, off + 1, none⟩) h.lt).trans h.c1, (s.cell (a := ⟨b, off + 2, none⟩) h.lt).trans h.c2, h.L.keep s⟩
theorem RatM.down (h : RatM w lo b off r a1 a2 k1 k2) (hl : lo' ≤ lo) : RatM w lo' b off r a1 a2 k1 k2 := ⟨h.c0, h.c1, h.c2, h.L.down hl⟩
theorem RatM.marked (h : RatM w lo b off r a1 a2 k1 k2) (s : Marked w w' c) (hc : c < lo) (hb : b ≠ c) : RatM w' lo b off r a1 a2 k1 k2 :=
  ⟨(s.cell (a := ⟨b, off, none⟩) hb).trans h.c0, (s.cell (a := ⟨b, off + 1, none⟩) hb).trans h.c1, (s.cell (a := ⟨b, off + 2, none⟩) hb).trans h.c2, h.L.marked s hc⟩

/-- A slice of Rats. -/
def Rats (w : World) (lo : Nat) (a : Option Addr) (b off n : Nat) (R : Nat → RatD) : Prop :=
  ∀ i, i < n → a = some ⟨b, off, none⟩ ∧ ∃ a1 a2 k1 k2, RatM w lo b (off + i * 3) (R i) a1 a2 k1 k2

theorem Rats.keep (h : Rats w lo a b off n R) (s : w.Since w.heap.size w') : Rats w' lo a b off n R := fun i hi => by
  obtain ⟨h1, a1, a2, k1, k2, h2⟩ := h i hi
  exact ⟨h1, a1, a2, k1, k2, h2.keep s⟩
theorem Rats.down (h : Rats w lo a b off n R) (hl : lo' ≤ lo) : Rats w lo' a b off n R := fun i hi => by
  obtain ⟨h1, a1, a2, k1, k2, h2⟩ := h i hi
  exact ⟨h1, a1, a2, k1, k2, h2.down hl⟩
theorem Rats.marked (h : Rats w lo a b off n R) (s : Marked w w' c) (hc : c < lo) (hb : 0 < n → b ≠ c) : Rats w' lo a b off n R := fun i hi => by
  obtain ⟨h1, a1, a2, k1, k2, h2⟩ := h i hi
  exact ⟨h1, a1, a2, k1, k2, h2.marked s hc (hb (by omega))⟩
end

/-- How much a list of Rats counts. -/
def szR (R : Nat → RatD) : Nat → Nat
  | 0 => 0
  | n + 1 => szR R n + ((R n).n + (R n).m)

theorem szR_succ (R : Nat → RatD) (n : Nat) : szR R (n + 1) = szR R n + ((R n).n + (R n).m) := rfl

theorem szR_mono {R : Nat → RatD} {k n : Nat} (h : k ≤ n) : szR R k ≤ szR R n := by
  induction n with
  | zero => simp at h; subst h; exact Nat.le_refl _
  | succ n ih =>
    rcases Nat.lt_or_ge n k with h1 | h1
    · have : k = n + 1 := by omega
      subst this; exact Nat.le_refl _
    · have := ih h1
      rw [szR_succ]
      omega

theorem szR_at {R : Nat → RatD} {k n : Nat} (h : k < n) : (R k).n + (R k).m ≤ szR R n := by
  have := szR_mono (R := R) (show k + 1 ≤ n from h)
  rw [szR_succ] at this
  omega

/-- All are valid. -/
def RatsOk (R : Nat → RatD) (n : Nat) : Prop := ∀ i, i < n → (R i).ok = true

/-- What an affine map holds. -/
structure AffD where
  rows : Int
  cols : Int
  nw : Nat
  W : Nat → RatD
  nb : Nat
  B : Nat → RatD

def AffD.nul : AffD := ⟨0, 0, 0, fun _ => RatD.nul, 0, fun _ => RatD.nul⟩

def AffD.size (d : AffD) : Nat := d.nw + szR d.W d.nw + (d.nb + szR d.B d.nb)

/-- Two slices that hold an affine map's lists, in blocks from lo on. -/
structure AffL (w : World) (lo : Nat) (d : AffD) (a b : Option Addr) (ca cb : Nat) : Prop where
  nc : d.nw ≤ ca
  mc : d.nb ≤ cb
  LW : ∃ ba oa, (0 < d.nw → lo ≤ ba) ∧ Rats w lo a ba oa d.nw d.W
  LB : ∃ bb ob, (0 < d.nb → lo ≤ bb) ∧ Rats w lo b bb ob d.nb d.B
  r0 : -9223372036854775808 ≤ d.rows
  r1 : d.rows ≤ 9223372036854775807
  q0 : -9223372036854775808 ≤ d.cols
  q1 : d.cols ≤ 9223372036854775807
  n63 : d.nw ≤ 9223372036854775807
  m63 : d.nb ≤ 9223372036854775807

section
variable {w w' : World} {lo lo' b off n c : Nat} {d : AffD} {a a1 a2 : Option Addr} {k1 k2 : Nat} {A : Nat → AffD}

theorem AffL.keep (h : AffL w lo d a1 a2 k1 k2) (s : w.Since w.heap.size w') : AffL w' lo d a1 a2 k1 k2 := by
  obtain ⟨ba, oa, l1, LW⟩ := h.LW
  obtain ⟨bb, ob, l2, LB⟩ := h.LB
  exact ⟨h.nc, h.mc, ⟨ba, oa, l1, LW.keep s⟩, ⟨bb, ob, l2, LB.keep s⟩, h.r0, h.r1, h.q0, h.q1, h.n63, h.m63⟩
theorem AffL.down (h : AffL w lo d a1 a2 k1 k2) (hl : lo' ≤ lo) : AffL w lo' d a1 a2 k1 k2 := by
  obtain ⟨ba, oa, l1, LW⟩ := h.LW
  obtain ⟨bb, ob, l2, LB⟩ := h.LB
  exact ⟨h.nc, h.mc, ⟨ba, oa, fun h => Nat.le_trans hl (l1 h), LW.down hl⟩, ⟨bb, ob, fun h => Nat.le_trans hl (l2 h), LB.down hl⟩, h.r0, h.r1, h.q0, h.q1, h.n63, h.m63⟩
theorem AffL.marked (h : AffL w lo d a1 a2 k1 k2) (s : Marked w w' c) (hc : c < lo) : AffL w' lo d a1 a2 k1 k2 := by
  obtain ⟨ba, oa, l1, LW⟩ := h.LW
  obtain ⟨bb, ob, l2, LB⟩ := h.LB
  exact ⟨h.nc, h.mc, ⟨ba, oa, l1, LW.marked s hc (fun h => by have := l1 h; omega)⟩, ⟨bb, ob, l2, LB.marked s hc (fun h => by have := l2 h; omega)⟩, h.r0, h.r1, h.q0, h.q1, h.n63, h.m63⟩

/-- An affine map that lies in memory. -/
structure AffM (w : World) (lo b off : Nat) (d : AffD) (a1 a2 : Option Addr) (k1 k2 : Nat) : Prop where
  c0 : w.cell? ⟨b, off, none⟩ = some (.int .i64 d.rows)
  c1 : w.cell? ⟨b, off + 1, none⟩ = some (.int .i64 d.cols)
  c2 : w.cell? ⟨b, off + 2, none⟩ = some (.slice a1 d.nw k1)
  c3 : w.cell? ⟨b, off + 3, none⟩ = some (.slice a2 d.nb k2)
  L : AffL w lo d a1 a2 k1 k2

theorem AffM.lt (h : AffM w lo b off d a1 a2 k1 k2) : b < w.heap.size := World.block_lt_of_cell? _ _ h.c0
theorem AffM.keep (h : AffM w lo b off d a1 a2 k1 k2) (s : w.Since w.heap.size w') : AffM w' lo b off d a1 a2 k1 k2 :=
  ⟨(s.cell (a := ⟨b, off, none⟩) h.lt).trans h.c0, (s.cell (a := ⟨b, off + 1, none⟩) h.lt).trans h.c1, (s.cell (a := ⟨b, off + 2, none⟩) h.lt).trans h.c2, (s.cell (a := ⟨b, off + 3, none⟩) h.lt).trans h.c3, h.L.keep s⟩
theorem AffM.down (h : AffM w lo b off d a1 a2 k1 k2) (hl : lo' ≤ lo) : AffM w lo' b off d a1 a2 k1 k2 := ⟨h.c0, h.c1, h.c2, h.c3, h.L.down hl⟩

/-- A slice of affine maps. -/
def Affs (w : World) (lo : Nat) (a : Option Addr) (b off n : Nat) (A : Nat → AffD) : Prop :=
  ∀ i, i < n → a = some ⟨b, off, none⟩ ∧ ∃ a1 a2 k1 k2, AffM w lo b (off + i * 4) (A i) a1 a2 k1 k2

theorem Affs.keep (h : Affs w lo a b off n A) (s : w.Since w.heap.size w') : Affs w' lo a b off n A := fun i hi => by
  obtain ⟨h1, a1, a2, k1, k2, h2⟩ := h i hi
  exact ⟨h1, a1, a2, k1, k2, h2.keep s⟩
theorem Affs.down (h : Affs w lo a b off n A) (hl : lo' ≤ lo) : Affs w lo' a b off n A := fun i hi => by
  obtain ⟨h1, a1, a2, k1, k2, h2⟩ := h i hi
  exact ⟨h1, a1, a2, k1, k2, h2.down hl⟩
end

/-- How much a list of affine maps counts. -/
def szA (A : Nat → AffD) : Nat → Nat
  | 0 => 0
  | n + 1 => szA A n + (A n).size

theorem szA_succ (A : Nat → AffD) (n : Nat) : szA A (n + 1) = szA A n + (A n).size := rfl

theorem szA_mono {A : Nat → AffD} {k n : Nat} (h : k ≤ n) : szA A k ≤ szA A n := by
  induction n with
  | zero => simp at h; subst h; exact Nat.le_refl _
  | succ n ih =>
    rcases Nat.lt_or_ge n k with h1 | h1
    · have : k = n + 1 := by omega
      subst this; exact Nat.le_refl _
    · have := ih h1
      rw [szA_succ]
      omega

theorem szA_at {A : Nat → AffD} {k n : Nat} (h : k < n) : (A k).size ≤ szA A n := by
  have := szA_mono (A := A) (show k + 1 ≤ n from h)
  rw [szA_succ] at this
  omega

end Go.Proofs.YthaomfabdghfjaaGreat

namespace Go.Proofs.YthaomfabdghfjaaGreat
open Go.RowKit

/-- What a count leaves. -/
def szl (L t : Nat) : Int := if t ≤ L then ((L - t : Nat) : Int) else -1

theorem szl_ok {L t : Nat} (h : t ≤ L) : szl L t = ((L - t : Nat) : Int) := by simp [szl, h]
theorem szl_no {L t : Nat} (h : L < t) : szl L t = -1 := by simp [szl]; omega

set_option maxHeartbeats 1600000 in
set_option maxRecDepth 100000 in
theorem szRatS_any (a : Option Addr) (lo b off n cap L : Nat) (R : Nat → RatD) (w : World) (hL : L ≤ 16777216) (hn : n ≤ 9223372036854775807) (H : Rats w lo a b off n R) :
    Calls Tryz.prog 7 #[.slice a n cap, .int .i64 L] w fun e w' => e = .returned (.int .i64 (szl L (n + szR R n))) ∧ w.Since w.heap.size w' := by
  by_cases h : L < n
  · rw [szl_no (show L < n + szR R n by omega)]
    go_enter Tryz.func7, Tryz.ntmps7
    go_wp2
    go_ret
    exact ⟨rfl, World.Since.refl _ _⟩
  have h1 : (L : Int) - n = ((L - n : Nat) : Int) := by omega
  have H1 := hide h1
  clear h1
  go_enter Tryz.func7, Tryz.ntmps7
  go_wp2
  go_loopw [1, 5] (fun q i wr => ∃ k : Nat, k ≤ n ∧ i = .int .i64 k ∧ n + szR R k ≤ L ∧ q = .int .i64 ((L - n - szR R k : Nat) : Int) ∧ w.Since w.heap.size wr) (fun _ i _ => n - (intOf i).toNat)
  case atStart => exact ⟨0, Nat.zero_le _, rfl, by unfold szR; omega, by simp only [szR, Nat.sub_zero]; rw [← H1.out], World.Since.refl _ _⟩
  case round =>
    obtain ⟨k, hk, rfl, hs, rfl, s⟩ := hrel
    by_cases hlt : k < n
    · obtain ⟨rfl, a1, a2, k1, k2, M⟩ := H k hlt
      have M' := M.keep s
      have g0 := M'.c0
      have g1 := M'.c1
      have g2 := M'.c2
      have hz : (k : Int) < (n : Int) := by omega
      have e1 := szR_succ R k
      by_cases hf : n + szR R (k + 1) ≤ L
      · have H2 := hide e1
        clear e1
        go_wp2_with fail
        refine (szRat_ok (R k).neg a1 a2 (R k).n k1 (R k).m k2 (L - n - szR R k) wr (by omega) (by have := H2.out; omega)).mono ?_
        rintro e w1 ⟨rfl, s1⟩
        go_wp2
        go_roundw
        case rel => exact ⟨k + 1, by omega, by go_num, hf, by rw [H2.out]; congr 2; omega, s.trans (sinceMono s1 s.size)⟩
        case measure => simp [intOf]; omega
      · have hx := szR_mono (R := R) (show k + 1 ≤ n from hlt)
        have HZ := hide (szl_no (show L < n + szR R n by omega)).symm
        have H2 := hide e1
        clear e1
        go_wp2_with fail
        refine (szRat_no (R k).neg a1 a2 (R k).n k1 (R k).m k2 (L - n - szR R k) wr (by omega) (by have := H2.out; omega) M.L.n63 M.L.m63).mono ?_
        rintro e w1 ⟨rfl, s1⟩
        go_wp2
        go_ret
        exact ⟨ret_int HZ.out, s.trans (sinceMono s1 s.size)⟩
    · have e : k = n := by omega
      subst e
      go_wp2
      go_ret
      exact ⟨ret_int (by rw [szl_ok hs]; congr 1; omega), s⟩

end Go.Proofs.YthaomfabdghfjaaGreat

namespace Go.Proofs.YthaomfabdghfjaaGreat
open Go.RowKit

theorem szl_two {L s t : Nat} (h : s ≤ L) : szl (L - s) t = szl L (s + t) := by
  unfold szl
  by_cases h2 : t ≤ L - s
  · rw [if_pos h2, if_pos (by omega)]; congr 1; omega
  · rw [if_neg h2, if_neg (by omega)]

/-- The value of an affine map. -/
def affV (d : AffD) (a1 a2 : Option Addr) (k1 k2 : Nat) : Value := .agg #[.int .i64 d.rows, .int .i64 d.cols, .slice a1 d.nw k1, .slice a2 d.nb k2]

set_option maxHeartbeats 1600000 in
set_option maxRecDepth 100000 in
theorem szAffine_any (d : AffD) (a1 a2 : Option Addr) (lo k1 k2 L : Nat) (w : World) (hL : L ≤ 16777216) (H : AffL w lo d a1 a2 k1 k2) :
    Calls Tryz.prog 61 #[.agg #[.int .i64 d.rows, .int .i64 d.cols, .slice a1 d.nw k1, .slice a2 d.nb k2], .int .i64 L] w fun e w' => e = .returned (.int .i64 (szl L d.size)) ∧ w.Since w.heap.size w' := by
  have sA : w.Since w.heap.size (w.alloc (.cells #[.int .i64 d.rows, .int .i64 d.cols, .slice a1 d.nw k1, .slice a2 d.nb k2] 103)) := (World.Since.refl _ _).alloc (Nat.le_refl _) _
  have bA := Box4.new w (.int .i64 d.rows) (.int .i64 d.cols) (.slice a1 d.nw k1) (.slice a2 d.nb k2) 103
  have HA := H.keep sA
  obtain ⟨ba, oa, -, LW⟩ := HA.LW
  obtain ⟨bb, ob, -, LB⟩ := HA.LB
  have n63 := H.n63
  have m63 := H.m63
  by_cases h : d.nw + szR d.W d.nw ≤ L
  · have E := hide (szl_two (t := d.nb + szR d.B d.nb) h)
    have J1 := szRatS_any a1 lo ba oa d.nw k1 L d.W _ hL n63 LW
    rw [szl_ok h] at J1
    go_enter Tryz.func61, Tryz.ntmps61
    go_wp2_with fail
    generalize w.alloc (.cells #[.int .i64 d.rows, .int .i64 d.cols, .slice a1 d.nw k1, .slice a2 d.nb k2] 103) = wA at *
    refine J1.mono ?_
    rintro e w1 ⟨rfl, s1⟩
    have B1 := bA.keep s1
    have q2 := B1.c2
    have q3 := B1.c3
    have J2 := szRatS_any a2 lo bb ob d.nb k2 (L - (d.nw + szR d.W d.nw)) d.B w1 (by omega) m63 (LB.keep s1)
    clear J1
    by_cases h2 : d.nb + szR d.B d.nb ≤ L - (d.nw + szR d.W d.nw)
    · have E2 := hide (szl_ok h2)
      rw [szl_ok h2] at J2
      go_wp2_with fail
      refine J2.mono ?_
      rintro e w2 ⟨rfl, s2⟩
      go_wp2
      go_ret
      exact ⟨ret_int (by rw [← E2.out, E.out]; rfl), sA.trans (sinceMono (s1.trans (sinceMono s2 s1.size)) sA.size)⟩
    · have E2 := hide (szl_no (show L - (d.nw + szR d.W d.nw) < d.nb + szR d.B d.nb by omega))
      rw [E2.out] at J2
      go_wp2_with fail
      refine J2.mono ?_
      rintro e w2 ⟨rfl, s2⟩
      go_wp2
      go_ret
      exact ⟨ret_int (by rw [← E2.out, E.out]; rfl), sA.trans (sinceMono (s1.trans (sinceMono s2 s1.size)) sA.size)⟩
  · have J1 := szRatS_any a1 lo ba oa d.nw k1 L d.W _ hL n63 LW
    rw [szl_no (show L < d.nw + szR d.W d.nw by omega)] at J1
    have E := hide (szl_no (show L < d.size by unfold AffD.size; omega))
    go_enter Tryz.func61, Tryz.ntmps61
    go_wp2_with fail
    refine J1.mono ?_
    rintro e w1 ⟨rfl, s1⟩
    go_wp2
    go_ret
    exact ⟨ret_int E.out.symm, sA.trans (sinceMono s1 sA.size)⟩

set_option maxHeartbeats 1600000 in
set_option maxRecDepth 100000 in
theorem szAffineS_any (a : Option Addr) (lo b off n cap L : Nat) (A : Nat → AffD) (w : World) (hL : L ≤ 16777216) (hn : n ≤ 9223372036854775807) (H : Affs w lo a b off n A) :
    Calls Tryz.prog 28 #[.slice a n cap, .int .i64 L] w fun e w' => e = .returned (.int .i64 (szl L (n + szA A n))) ∧ w.Since w.heap.size w' := by
  by_cases h : L < n
  · rw [szl_no (show L < n + szA A n by omega)]
    go_enter Tryz.func28, Tryz.ntmps28
    go_wp2
    go_ret
    exact ⟨rfl, World.Since.refl _ _⟩
  have h1 : (L : Int) - n = ((L - n : Nat) : Int) := by omega
  have H1 := hide h1
  clear h1
  go_enter Tryz.func28, Tryz.ntmps28
  go_wp2
  go_loopw [1, 5] (fun q i wr => ∃ k : Nat, k ≤ n ∧ i = .int .i64 k ∧ n + szA A k ≤ L ∧ q = .int .i64 ((L - n - szA A k : Nat) : Int) ∧ w.Since w.heap.size wr) (fun _ i _ => n - (intOf i).toNat)
  case atStart => exact ⟨0, Nat.zero_le _, rfl, by unfold szA; omega, by simp only [szA, Nat.sub_zero]; rw [← H1.out], World.Since.refl _ _⟩
  case round =>
    obtain ⟨k, hk, rfl, hs, rfl, s⟩ := hrel
    by_cases hlt : k < n
    · obtain ⟨rfl, a1, a2, k1, k2, M⟩ := H k hlt
      have M' := M.keep s
      have g0 := M'.c0
      have g1 := M'.c1
      have g2 := M'.c2
      have g3 := M'.c3
      have hz : (k : Int) < (n : Int) := by omega
      have e1 := szA_succ A k
      have J1 := szAffine_any (A k) a1 a2 lo k1 k2 (L - n - szA A k) wr (by omega) M'.L
      by_cases hf : n + szA A (k + 1) ≤ L
      · have hf' : (A k).size ≤ L - n - szA A k := by omega
        rw [szl_ok hf'] at J1
        have H2 := hide e1
        clear e1
        go_wp2_with fail
        refine J1.mono ?_
        rintro e w1 ⟨rfl, s1⟩
        go_wp2
        go_roundw
        case rel => exact ⟨k + 1, by omega, by go_num, hf, by rw [H2.out]; congr 2; omega, s.trans (sinceMono s1 s.size)⟩
        case measure => simp [intOf]; omega
      · have hx := szA_mono (A := A) (show k + 1 ≤ n from hlt)
        have HZ := hide (szl_no (show L < n + szA A n by omega)).symm
        rw [szl_no (show L - n - szA A k < (A k).size by omega)] at J1
        clear e1
        go_wp2_with fail
        refine J1.mono ?_
        rintro e w1 ⟨rfl, s1⟩
        go_wp2
        go_ret
        exact ⟨ret_int HZ.out, s.trans (sinceMono s1 s.size)⟩
    · have e : k = n := by omega
      subst e
      go_wp2
      go_ret
      exact ⟨ret_int (by rw [szl_ok hs]; congr 1; omega), s⟩

set_option maxHeartbeats 1600000 in
set_option maxRecDepth 100000 in
theorem szNet_any (a : Option Addr) (lo b off n cap L : Nat) (A : Nat → AffD) (w : World) (hL : L ≤ 16777216) (hn : n ≤ 9223372036854775807) (H : Affs w lo a b off n A) :
    Calls Tryz.prog 6 #[.agg #[.slice a n cap], .int .i64 L] w fun e w' => e = .returned (.int .i64 (szl L (n + szA A n))) ∧ w.Since w.heap.size w' := by
  have sA : w.Since w.heap.size (w.alloc (.cells #[.slice a n cap] 24)) := (World.Since.refl _ _).alloc (Nat.le_refl _) _
  have J1 := szAffineS_any a lo b off n cap L A _ hL hn (H.keep sA)
  by_cases h : n + szA A n ≤ L
  · have E := hide (szl_ok h)
    rw [E.out] at J1 ⊢
    go_enter Tryz.func6, Tryz.ntmps6
    go_wp2_with fail
    refine J1.mono ?_
    rintro e w1 ⟨rfl, s1⟩
    go_wp2
    go_ret
    exact ⟨rfl, sA.trans (sinceMono s1 sA.size)⟩
  · have E := hide (szl_no (show L < n + szA A n by omega))
    rw [E.out] at J1 ⊢
    go_enter Tryz.func6, Tryz.ntmps6
    go_wp2_with fail
    refine J1.mono ?_
    rintro e w1 ⟨rfl, s1⟩
    go_wp2
    go_ret
    exact ⟨rfl, sA.trans (sinceMono s1 sA.size)⟩

end Go.Proofs.YthaomfabdghfjaaGreat

namespace Go.Proofs.YthaomfabdghfjaaGreat
open Go.RowKit

set_option maxHeartbeats 1600000 in
set_option maxRecDepth 100000 in
theorem l1AllOk_any (a : Option Addr) (lo b off n cap : Nat) (R : Nat → RatD) (w : World) (hn : n ≤ 16777216) (hs : szR R n ≤ 16777216) (H : Rats w lo a b off n R) :
    Calls Tryz.prog 31 #[.slice a n cap] w fun e w' => ∃ r : Bool, e = .returned (.bool r) ∧ (r = true ↔ RatsOk R n) ∧ w.Since w.heap.size w' := by
  go_enter Tryz.func31, Tryz.ntmps31
  go_wp2
  go_loopw [3] (fun i wr => ∃ k : Nat, k ≤ n ∧ i = .int .i64 k ∧ w.Since w.heap.size wr ∧ RatsOk R k) (fun i _ => n - (intOf i).toNat)
  case atStart => exact ⟨0, Nat.zero_le _, rfl, World.Since.refl _ _, fun i hi => absurd hi (by omega)⟩
  case round =>
    obtain ⟨k, hk, rfl, s, O⟩ := hrel
    by_cases hlt : k < n
    · obtain ⟨rfl, a1, a2, k1, k2, M⟩ := H k hlt
      have M' := M.keep s
      have g0 := M'.c0
      have g1 := M'.c1
      have g2 := M'.c2
      have hz : (k : Int) < (n : Int) := by omega
      have hsz := szR_at (R := R) hlt
      obtain ⟨ba, oa, -, LX⟩ := M'.L.LX
      obtain ⟨bb, ob, -, LY⟩ := M'.L.LY
      have J1 := specRatOk_any (R k).neg a1 a2 ba oa (R k).n k1 bb ob (R k).m k2 (R k).X (R k).Y wr (by omega) (by omega) LX LY M.L.lX M.L.lY
      rw [show ratOkB (R k).neg (R k).X (R k).n (R k).Y (R k).m = (R k).ok from rfl] at J1
      cases hok : (R k).ok
      · have HK := hide hok
        rw [hok] at J1
        clear hok
        go_wp2_with fail
        refine J1.mono ?_
        rintro e w2 ⟨rfl, s2⟩
        go_wp2
        go_ret
        refine ⟨false, rfl, ⟨(fun h => by cases h), fun h => ?_⟩, s.trans (sinceMono s2 s.size)⟩
        have := h k hlt
        rw [HK.out] at this
        cases this
      · have HK := hide hok
        rw [hok] at J1
        clear hok
        go_wp2_with fail
        refine J1.mono ?_
        rintro e w2 ⟨rfl, s2⟩
        go_wp2
        go_roundw
        case rel =>
          refine ⟨k + 1, by omega, by go_num, s.trans (sinceMono s2 s.size), fun i hi => ?_⟩
          by_cases e : i = k
          · subst e; exact HK.out
          · exact O i (by omega)
        case measure => simp [intOf]; omega
    · have e : k = n := by omega
      subst e
      go_wp2
      go_ret
      exact ⟨true, rfl, ⟨fun _ => O, fun _ => rfl⟩, s⟩

set_option maxHeartbeats 800000 in
set_option maxRecDepth 100000 in
theorem l2In_yes (x a b : Int) (w : World) (h1 : a ≤ x) (h2 : x ≤ b) :
    Calls Tryz.prog 46 #[.int .i64 x, .int .i64 a, .int .i64 b] w fun e w' => e = .returned (.bool true) ∧ w' = w := by
  go_enter Tryz.func46, Tryz.ntmps46
  go_wp2
  go_ret
  exact ⟨rfl, rfl⟩

set_option maxHeartbeats 800000 in
set_option maxRecDepth 100000 in
theorem l2In_no (x a b : Int) (w : World) (h : ¬ (a ≤ x ∧ x ≤ b)) :
    Calls Tryz.prog 46 #[.int .i64 x, .int .i64 a, .int .i64 b] w fun e w' => e = .returned (.bool false) ∧ w' = w := by
  by_cases h1 : a ≤ x
  · have h2 : ¬ x ≤ b := fun h2 => h ⟨h1, h2⟩
    clear h
    go_enter Tryz.func46, Tryz.ntmps46
    go_wp2
    go_ret
    exact ⟨rfl, rfl⟩
  · clear h
    go_enter Tryz.func46, Tryz.ntmps46
    go_wp2
    go_ret
    exact ⟨rfl, rfl⟩

/-- The sides are in their bounds. -/
def AffD.sides (d : AffD) : Prop := 0 ≤ d.rows ∧ d.rows ≤ 20000 ∧ 0 ≤ d.cols ∧ d.cols ≤ 20000

/-- .. and the lists as long as they say. -/
def AffD.shape (d : AffD) : Prop := d.sides ∧ (d.nw : Int) = d.rows * d.cols ∧ (d.nb : Int) = d.rows

/-- The cells of a map. -/
def AffD.cells (d : AffD) : Int := d.rows * (d.cols + 1)

def AffD.vals (d : AffD) : Prop := RatsOk d.W d.nw ∧ RatsOk d.B d.nb

theorem AffD.sides.bounds {d : AffD} (h : d.sides) : 0 ≤ d.cells ∧ d.cells ≤ 400020000 ∧ 0 ≤ d.rows * d.cols ∧ d.rows * d.cols ≤ 400000000 := by
  obtain ⟨h0, h1, h2, h3⟩ := h
  have a1 : d.rows * d.cols ≤ 20000 * 20000 := Int.mul_le_mul h1 h3 h2 (by omega)
  have a2 : 0 ≤ d.rows * d.cols := Int.mul_nonneg h0 h2
  have e : d.cells = d.rows * d.cols + d.rows := by unfold AffD.cells; rw [Int.mul_add, Int.mul_one]
  omega

set_option maxHeartbeats 800000 in
set_option maxRecDepth 100000 in
theorem l3Cells_any (d : AffD) (v2 v3 : Value) (w : World) (h : d.sides) :
    Calls Tryz.prog 64 #[.agg #[.int .i64 d.rows, .int .i64 d.cols, v2, v3]] w fun e w' => e = .returned (.int .i64 d.cells) ∧ w.Since w.heap.size w' := by
  have sA : w.Since w.heap.size (w.alloc (.cells #[.int .i64 d.rows, .int .i64 d.cols, v2, v3] 66)) := (World.Since.refl _ _).alloc (Nat.le_refl _) _
  have hb := h.bounds
  unfold AffD.cells at hb ⊢
  obtain ⟨h0, h1, h2, h3⟩ := h
  go_enter Tryz.func64, Tryz.ntmps64
  go_wp2
  go_ret
  exact ⟨rfl, sA⟩

set_option maxHeartbeats 3200000 in
set_option maxRecDepth 100000 in
theorem l3MapOk_any (d : AffD) (a1 a2 : Option Addr) (lo k1 k2 : Nat) (w : World) (hd : d.size ≤ 16777216) (H : AffL w lo d a1 a2 k1 k2) :
    Calls Tryz.prog 63 #[.agg #[.int .i64 d.rows, .int .i64 d.cols, .slice a1 d.nw k1, .slice a2 d.nb k2]] w fun e w' => ∃ r : Bool, e = .returned (.bool r) ∧ (r = true ↔ d.shape ∧ d.cells ≤ 20000 ∧ d.vals) ∧ w.Since w.heap.size w' := by
  have ts := hd
  unfold AffD.size at ts
  have sA : w.Since w.heap.size (w.alloc (.cells #[.int .i64 d.rows, .int .i64 d.cols, .slice a1 d.nw k1, .slice a2 d.nb k2] 66)) := (World.Since.refl _ _).alloc (Nat.le_refl _) _
  have bA := Box4.new w (.int .i64 d.rows) (.int .i64 d.cols) (.slice a1 d.nw k1) (.slice a2 d.nb k2) 66
  by_cases hr : 0 ≤ d.rows ∧ d.rows ≤ 20000
  rotate_left
  · have HN := hide (show ¬ d.shape from fun h => hr ⟨h.1.1, h.1.2.1⟩)
    go_enter Tryz.func63, Tryz.ntmps63
    go_wp2_with fail
    refine (l2In_no d.rows 0 20000 _ hr).mono ?_
    rintro e w1 ⟨rfl, rfl⟩
    clear hr
    go_wp2
    go_ret
    exact ⟨false, rfl, ⟨(fun h => by cases h), fun h => absurd h.1 HN.out⟩, sA⟩
  by_cases hc : 0 ≤ d.cols ∧ d.cols ≤ 20000
  rotate_left
  · have HN := hide (show ¬ d.shape from fun h => hc ⟨h.1.2.2.1, h.1.2.2.2⟩)
    go_enter Tryz.func63, Tryz.ntmps63
    go_wp2_with fail
    refine (l2In_yes d.rows 0 20000 _ hr.1 hr.2).mono ?_
    rintro e w1 ⟨rfl, rfl⟩
    go_wp2_with fail
    refine (l2In_no d.cols 0 20000 _ hc).mono ?_
    rintro e w1 ⟨rfl, rfl⟩
    clear hr hc
    go_wp2
    go_ret
    exact ⟨false, rfl, ⟨(fun h => by cases h), fun h => absurd h.1 HN.out⟩, sA⟩
  have hS : d.sides := ⟨hr.1, hr.2, hc.1, hc.2⟩
  have hb := hS.bounds
  obtain ⟨hr0, hr1⟩ := hr
  obtain ⟨hc0, hc1⟩ := hc
  obtain ⟨hb0, hb1, hb2, hb3⟩ := hb
  by_cases hw : (d.nw : Int) = d.rows * d.cols
  rotate_left
  · have HN := hide (show ¬ d.shape from fun h => hw h.2.1)
    go_enter Tryz.func63, Tryz.ntmps63
    go_wp2_with fail
    refine (l2In_yes d.rows 0 20000 _ hr0 hr1).mono ?_
    rintro e w1 ⟨rfl, rfl⟩
    go_wp2_with fail
    refine (l2In_yes d.cols 0 20000 _ hc0 hc1).mono ?_
    rintro e w1 ⟨rfl, rfl⟩
    go_wp2
    go_ret
    exact ⟨false, rfl, ⟨(fun h => by cases h), fun h => absurd h.1 HN.out⟩, sA⟩
  by_cases hv : (d.nb : Int) = d.rows
  rotate_left
  · have HN := hide (show ¬ d.shape from fun h => hv h.2.2)
    go_enter Tryz.func63, Tryz.ntmps63
    go_wp2_with fail
    refine (l2In_yes d.rows 0 20000 _ hr0 hr1).mono ?_
    rintro e w1 ⟨rfl, rfl⟩
    go_wp2_with fail
    refine (l2In_yes d.cols 0 20000 _ hc0 hc1).mono ?_
    rintro e w1 ⟨rfl, rfl⟩
    go_wp2
    go_ret
    exact ⟨false, rfl, ⟨(fun h => by cases h), fun h => absurd h.1 HN.out⟩, sA⟩
  have HS := hide (show d.shape from ⟨hS, hw, hv⟩)
  have q1 : ((d.nw : Int) != d.rows * d.cols) = false := by simpa using hw
  have q2 : ((d.nb : Int) != d.rows) = false := by simpa using hv
  clear hw hv
  go_enter Tryz.func63, Tryz.ntmps63
  go_wp2_with fail
  refine (l2In_yes d.rows 0 20000 _ hr0 hr1).mono ?_
  rintro e w1 ⟨rfl, rfl⟩
  go_wp2_with fail
  refine (l2In_yes d.cols 0 20000 _ hc0 hc1).mono ?_
  rintro e w1 ⟨rfl, rfl⟩
  go_wp2_with fail
  refine (l3Cells_any d _ _ _ hS).mono ?_
  rintro e w1 ⟨rfl, s1⟩
  have B1 := bA.keep s1
  have b2 := B1.c2
  have b3 := B1.c3
  have S1 : w.Since w.heap.size w1 := sA.trans (sinceMono s1 sA.size)
  obtain ⟨ba, oa, -, LW⟩ := (H.keep S1).LW
  obtain ⟨bb, ob, -, LB⟩ := (H.keep S1).LB
  by_cases hcl : d.cells ≤ 20000
  rotate_left
  · have hg : 20000 < d.cells := by omega
    have HN := hide hcl
    clear hcl bA
    go_wp2
    go_ret
    exact ⟨false, rfl, ⟨(fun h => by cases h), fun h => absurd h.2.1 (by have := HN.out; omega)⟩, S1⟩
  have hg : ¬ 20000 < d.cells := by omega
  have HC := hide hcl
  clear hcl bA
  go_wp2_with fail
  refine (l1AllOk_any a1 lo ba oa d.nw k1 d.W w1 (by omega) (by omega) LW).mono ?_
  rintro e w2 ⟨r1, rfl, i1, s2⟩
  have I1 := hide i1
  clear i1
  cases r1
  · go_wp2
    go_ret
    exact ⟨false, rfl, ⟨(fun h => by cases h), fun h => absurd (I1.out.2 h.2.2.1) (by simp)⟩, S1.trans (sinceMono s2 S1.size)⟩
  · have b3' := (B1.keep s2).c3
    clear b2 b3
    go_wp2_with fail
    refine (l1AllOk_any a2 lo bb ob d.nb k2 d.B w2 (by omega) (by omega) (LB.keep s2)).mono ?_
    rintro e w3 ⟨r2, rfl, i2, s3⟩
    have I2 := hide i2
    clear i2
    go_wp2
    go_ret
    exact ⟨r2, rfl, ⟨fun h => ⟨HS.out, HC.out, I1.out.1 (by simp), I2.out.1 h⟩, fun h => I2.out.2 h.2.2.2⟩, (S1.trans (sinceMono s2 S1.size)).trans (sinceMono s3 (Nat.le_trans S1.size s2.size))⟩

/-- The cells of the first k maps. -/
def sumC (A : Nat → AffD) : Nat → Int
  | 0 => 0
  | k + 1 => sumC A k + (A k).cells

theorem sumC_succ (A : Nat → AffD) (k : Nat) : sumC A (k + 1) = sumC A k + (A k).cells := rfl

/-- What NetOk asks. -/
structure NetP (n : Nat) (A : Nat → AffD) : Prop where
  n0 : 1 ≤ n
  n1 : n ≤ 10000
  shape : ∀ k, k < n → (A k).shape
  chain : ∀ k, k < n → 0 < k → (A k).cols = (A (k - 1)).rows
  sum : sumC A n ≤ 20000
  vals : ∀ k, k < n → (A k).vals

theorem sumC_bound {A : Nat → AffD} {k : Nat} (h : ∀ j, j < k → (A j).shape) : 0 ≤ sumC A k ∧ sumC A k ≤ 400020000 * k := by
  induction k with
  | zero => simp [sumC]
  | succ k ih =>
    obtain ⟨h1, h2⟩ := ih (fun j hj => h j (by omega))
    obtain ⟨h3, h4, -, -⟩ := (h k (by omega)).1.bounds
    rw [sumC_succ]
    omega

theorem sumC_mono {A : Nat → AffD} {k n : Nat} (h : ∀ j, j < n → (A j).shape) (hk : k ≤ n) : sumC A k ≤ sumC A n := by
  induction n with
  | zero => simp at hk; subst hk; exact Int.le_refl _
  | succ n ih =>
    rcases Nat.lt_or_ge n k with h1 | h1
    · have : k = n + 1 := by omega
      subst this; exact Int.le_refl _
    · have := ih (fun j hj => h j (by omega)) h1
      have := (h n (by omega)).1.bounds
      rw [sumC_succ]
      omega

theorem NetP.cells {n : Nat} {A : Nat → AffD} (h : NetP n A) {k : Nat} (hk : k < n) : (A k).cells ≤ 20000 := by
  have h1 := sumC_mono h.shape (show k + 1 ≤ n from hk)
  have h2 := (sumC_bound (A := A) (k := k) (fun j hj => h.shape j (by omega))).1
  have h3 := h.sum
  rw [sumC_succ] at h1
  omega

end Go.Proofs.YthaomfabdghfjaaGreat

namespace Go.Proofs.YthaomfabdghfjaaGreat
open Go.RowKit

/-- 'make([]T, n)', T of several cells. -/
theorem run_make_wide {P : Program} (t e : TypeId) (z : Value) (size bytes : Nat) (ht : P.underlying t = some (.slice e)) (hinfo : (P.info? e).map (fun i => (i.zero, i.size, i.bytes)) = some (some z, size, bytes))
    (kl kc : IntKind) (n : Nat) (hbytes : bytes * n ≤ 281474976710656) (h63 : n ≤ 9223372036854775807) (w : World) :
    (Instr.makeSlice t (.int kl (n : Int)) (.int kc (n : Int))).run P w = .ok (.slice (some ⟨w.heap.size, 0, none⟩) n n) (w.alloc (.cells (madeCells z.cells (n * size)) e)) := by
  obtain ⟨i, hi, hzz⟩ := Option.map_eq_some_iff.1 hinfo
  simp only [Prod.mk.injEq] at hzz
  obtain ⟨hz, hs, hb⟩ := hzz
  have hb' : (i.bytes : Int) * (n : Int) ≤ 281474976710656 := by
    have h : ((i.bytes * n : Nat) : Int) ≤ 281474976710656 := by rw [hb]; omega
    rwa [Int.natCast_mul] at h
  have hr := run_make (P := P) w t e i z ht hi hz kl kc n n (by omega) (Int.le_refl _) hb' (by omega)
  simp only [Int.toNat_natCast, hs] at hr
  exact hr

/-- A block of N cells that may be written. -/
structure Room (w : World) (c N : Nat) : Prop where
  lt : c < w.heap.size
  cell : ∀ o, o < N → ∃ v, w.cell? ⟨c, o, none⟩ = some v
  f : ∀ o, w.frozen? ⟨c, o, none⟩ = false

theorem Room.new (w : World) (z : Array Value) (N : Nat) (t : TypeId) : Room (w.alloc (.cells (madeCells z N) t)) w.heap.size N :=
  ⟨by simp, fun o ho => ⟨_, by simp [go_sem, madeCells, ho]; rfl⟩, fun o => by simp [go_sem]⟩

theorem Room.keep {w w' : World} {c N : Nat} (h : Room w c N) (s : w.Since w.heap.size w') : Room w' c N :=
  ⟨Nat.lt_of_lt_of_le h.lt s.size, fun o ho => by obtain ⟨v, hv⟩ := h.cell o ho; exact ⟨v, (s.cell (a := ⟨c, o, none⟩) h.lt).trans hv⟩, fun o => (s.frozen (a := ⟨c, o, none⟩) h.lt).trans (h.f o)⟩

theorem Room.set {w : World} {c N : Nat} (h : Room w c N) (q : Nat) (v : Value) : Room (w.setCell ⟨c, q, none⟩ v) c N := by
  have M : Marked w (w.setCell ⟨c, q, none⟩ v) c := (Marked.refl w c).setCell q v
  refine ⟨by rw [M.size]; exact h.lt, fun o ho => ?_, fun o => by rw [M.frozen]; exact h.f o⟩
  obtain ⟨u, hu⟩ := h.cell o ho
  by_cases e : o = q
  · subst e; exact ⟨v, World.cell?_setCell_same _ _ _ hu⟩
  · exact ⟨u, (World.cell?_setCell_other _ _ _ _ (fun h => e (congrArg Addr.off h).symm)).trans hu⟩

theorem Room.marked {w w' : World} {c d N : Nat} (h : Room w c N) (s : Marked w w' d) (hc : c ≠ d) : Room w' c N :=
  ⟨by rw [s.size]; exact h.lt, fun o ho => by obtain ⟨v, hv⟩ := h.cell o ho; exact ⟨v, (s.cell (a := ⟨c, o, none⟩) hc).trans hv⟩, fun o => (s.frozenO (a := ⟨c, o, none⟩) hc).trans (h.f o)⟩

theorem cell_put {w : World} {c N : Nat} (h : Room w c N) {q : Nat} (hq : q < N) (v : Value) : (w.setCell ⟨c, q, none⟩ v).cell? ⟨c, q, none⟩ = some v := by
  obtain ⟨u, hu⟩ := h.cell q hq
  exact World.cell?_setCell_same _ _ _ hu

theorem cell_else (w : World) (c : Nat) {q o : Nat} (h : o ≠ q) (v : Value) : (w.setCell ⟨c, q, none⟩ v).cell? ⟨c, o, none⟩ = w.cell? ⟨c, o, none⟩ :=
  World.cell?_setCell_other _ _ _ _ (fun e => h (congrArg Addr.off e).symm)

/-- Three cells put down in a row. -/
theorem put3 {w : World} {c N q : Nat} (h : Room w c N) (hq : q + 2 < N) (x y z : Value) :
    ∃ w', w' = ((w.setCell ⟨c, q, none⟩ x).setCell ⟨c, q + 1, none⟩ y).setCell ⟨c, q + 2, none⟩ z ∧ Marked w w' c ∧ Room w' c N ∧ w'.cell? ⟨c, q, none⟩ = some x ∧ w'.cell? ⟨c, q + 1, none⟩ = some y ∧ w'.cell? ⟨c, q + 2, none⟩ = some z ∧
      ∀ o, o < q ∨ q + 2 < o → w'.cell? ⟨c, o, none⟩ = w.cell? ⟨c, o, none⟩ := by
  refine ⟨_, rfl, (((Marked.refl w c).setCell _ _).setCell _ _).setCell _ _, ((h.set _ _).set _ _).set _ _, ?_, ?_, ?_, fun o ho => ?_⟩
  · rw [cell_else _ _ (by omega), cell_else _ _ (by omega)]; exact cell_put h (by omega) x
  · rw [cell_else _ _ (by omega)]; exact cell_put (h.set _ _) (by omega) y
  · exact cell_put ((h.set _ _).set _ _) (by omega) z
  · rw [cell_else _ _ (by omega), cell_else _ _ (by omega), cell_else _ _ (by omega)]

/-- Four cells put down in a row. -/
theorem put4 {w : World} {c N q : Nat} (h : Room w c N) (hq : q + 3 < N) (x y z u : Value) :
    ∃ w', w' = (((w.setCell ⟨c, q, none⟩ x).setCell ⟨c, q + 1, none⟩ y).setCell ⟨c, q + 2, none⟩ z).setCell ⟨c, q + 3, none⟩ u ∧ Marked w w' c ∧ Room w' c N ∧ w'.cell? ⟨c, q, none⟩ = some x ∧ w'.cell? ⟨c, q + 1, none⟩ = some y ∧
      w'.cell? ⟨c, q + 2, none⟩ = some z ∧ w'.cell? ⟨c, q + 3, none⟩ = some u ∧ ∀ o, o < q ∨ q + 3 < o → w'.cell? ⟨c, o, none⟩ = w.cell? ⟨c, o, none⟩ := by
  refine ⟨_, rfl, ((((Marked.refl w c).setCell _ _).setCell _ _).setCell _ _).setCell _ _, (((h.set _ _).set _ _).set _ _).set _ _, ?_, ?_, ?_, ?_, fun o ho => ?_⟩
  · rw [cell_else _ _ (by omega), cell_else _ _ (by omega), cell_else _ _ (by omega)]; exact cell_put h (by omega) x
  · rw [cell_else _ _ (by omega), cell_else _ _ (by omega)]; exact cell_put (h.set _ _) (by omega) y
  · rw [cell_else _ _ (by omega)]; exact cell_put ((h.set _ _).set _ _) (by omega) z
  · exact cell_put (((h.set _ _).set _ _).set _ _) (by omega) u
  · rw [cell_else _ _ (by omega), cell_else _ _ (by omega), cell_else _ _ (by omega), cell_else _ _ (by omega)]

/-- A list of Rats grows by one in its room. -/
theorem Rats.put {w w' : World} {c k : Nat} {R : Nat → RatD} {a1 a2 : Option Addr} {k1 k2 : Nat} (h : Rats w (c + 1) (some ⟨c, 0, none⟩) c 0 k R) (M : Marked w w' c) (hc : ∀ o, o < k * 3 → w'.cell? ⟨c, o, none⟩ = w.cell? ⟨c, o, none⟩)
    (L : RatL w (c + 1) (R k) a1 a2 k1 k2) (c0 : w'.cell? ⟨c, k * 3, none⟩ = some (.bool (R k).neg)) (c1 : w'.cell? ⟨c, k * 3 + 1, none⟩ = some (.slice a1 (R k).n k1)) (c2 : w'.cell? ⟨c, k * 3 + 2, none⟩ = some (.slice a2 (R k).m k2)) :
    Rats w' (c + 1) (some ⟨c, 0, none⟩) c 0 (k + 1) R := fun i hi => by
  refine ⟨rfl, ?_⟩
  by_cases e : i = k
  · subst e
    exact ⟨a1, a2, k1, k2, by rw [Nat.zero_add]; exact c0, by rw [Nat.zero_add]; exact c1, by rw [Nat.zero_add]; exact c2, L.marked M (by omega)⟩
  · obtain ⟨-, b1, b2, l1, l2, m⟩ := h i (by omega)
    exact ⟨b1, b2, l1, l2, (hc _ (by omega)).trans m.c0, (hc _ (by omega)).trans m.c1, (hc _ (by omega)).trans m.c2, m.L.marked M (by omega)⟩

theorem info_Rat : (Tryz.prog.info? 70).map (fun i => (i.zero, i.size, i.bytes)) = some (some (.agg #[.bool false, .slice none 0 0, .slice none 0 0]), 3, 56) := by kernel_rfl

set_option maxHeartbeats 1600000 in
set_option maxRecDepth 100000 in
theorem toRatS_any (a : Option Addr) (lo b off n cap : Nat) (R : Nat → RatD) (w : World) (hn : n ≤ 16777216) (hs : szR R n ≤ 16777216) (H : Rats w lo a b off n R) :
    Calls Tryz.prog 10 #[.slice a n cap] w fun e w' => ∃ c, e = .returned (.slice (some ⟨c, 0, none⟩) n n) ∧ w.heap.size ≤ c ∧ c < w'.heap.size ∧ Rats w' (c + 1) (some ⟨c, 0, none⟩) c 0 n R ∧ w.Since w.heap.size w' := by
  have hmk := run_make_wide (P := Tryz.prog) 28 70 _ 3 56 Tryz.underlying28 info_Rat .i64 .i64 n (by omega) (by omega)
  have sA := (World.Since.refl w.heap.size w).alloc (Nat.le_refl _) (.cells (madeCells #[.bool false, .slice none 0 0, .slice none 0 0] (n * 3)) 70)
  have rA := Room.new w #[.bool false, .slice none 0 0, .slice none 0 0] (n * 3) 70
  go_enter Tryz.func10, Tryz.ntmps10
  go_wp2
  go_loopw [4] (fun i wr => ∃ k : Nat, k ≤ n ∧ i = .int .i64 k ∧ w.Since w.heap.size wr ∧ Room wr w.heap.size (n * 3) ∧ Rats wr (w.heap.size + 1) (some ⟨w.heap.size, 0, none⟩) w.heap.size 0 k R) (fun i _ => n - (intOf i).toNat)
  case atStart => exact ⟨0, Nat.zero_le _, rfl, sA, rA, fun i hi => absurd hi (by omega)⟩
  case round =>
    obtain ⟨k, hk, rfl, s, r, T⟩ := hrel
    by_cases hlt : k < n
    · obtain ⟨rfl, a1, a2, k1, k2, M⟩ := H k hlt
      have M' := M.keep s
      have g0 := M'.c0
      have g1 := M'.c1
      have g2 := M'.c2
      have hz : (k : Int) < (n : Int) := by omega
      have hsz := szR_at (R := R) hlt
      obtain ⟨ba, oa, -, LX⟩ := M'.L.LX
      obtain ⟨bb, ob, -, LY⟩ := M'.L.LY
      go_wp2_with fail
      refine (toRat_any (R k).neg a1 a2 ba oa (R k).n k1 bb ob (R k).m k2 (R k).X (R k).Y wr (by omega) (by omega) LX LY).mono ?_
      rintro e w2 ⟨g, h, rfl, s2, l1, l2, l3, LX2, LY2, -, -⟩
      have r2 := r.keep s2
      have T2 := T.keep s2
      have S2 : w.Since w.heap.size w2 := s.trans (sinceMono s2 s.size)
      obtain ⟨v0, u0⟩ := r2.cell (k * 3) (by omega)
      obtain ⟨v1, u1⟩ := r2.cell (k * 3 + 1) (by omega)
      obtain ⟨v2, u2⟩ := r2.cell (k * 3 + 2) (by omega)
      have f0 := r2.f (k * 3)
      have f1 := r2.f (k * 3 + 1)
      have f2 := r2.f (k * 3 + 2)
      have rl := r.lt
      clear g0 g1 g2
      go_wp2
      go_roundw
      case rel =>
        go_light
        obtain ⟨w3, e3, M3, R3, x0, x1, x2, xo⟩ := put3 (q := k * 3) r2 (by omega) (.bool (R k).neg) (.slice (some ⟨g, 0, none⟩) (R k).n (R k).n) (.slice (some ⟨h, 0, none⟩) (R k).m (R k).m)
        rw [← e3]
        exact ⟨k + 1, by omega, by go_num, S2.trans (M3.since (Nat.le_refl _)), R3, T2.put M3 (fun o ho => xo o (by omega)) ⟨Nat.le_refl _, Nat.le_refl _, (fun h => by cases h), (fun h => by cases h), ⟨g, 0, fun _ => by omega, LX2⟩, ⟨h, 0, fun _ => by omega, LY2⟩, M.L.lX, M.L.lY, M.L.n63, M.L.m63⟩ x0 x1 x2⟩
      case measure => simp [intOf]; omega
    · have e : k = n := by omega
      subst e
      have rl := r.lt
      go_wp2
      go_ret
      exact ⟨w.heap.size, rfl, Nat.le_refl _, rl, T, s⟩

/-- A list of affine maps grows by one in its room. -/
theorem Affs.put {w w' : World} {c k : Nat} {A : Nat → AffD} {a1 a2 : Option Addr} {k1 k2 : Nat} (h : Affs w (c + 1) (some ⟨c, 0, none⟩) c 0 k A) (M : Marked w w' c) (hc : ∀ o, o < k * 4 → w'.cell? ⟨c, o, none⟩ = w.cell? ⟨c, o, none⟩)
    (L : AffL w (c + 1) (A k) a1 a2 k1 k2) (c0 : w'.cell? ⟨c, k * 4, none⟩ = some (.int .i64 (A k).rows)) (c1 : w'.cell? ⟨c, k * 4 + 1, none⟩ = some (.int .i64 (A k).cols)) (c2 : w'.cell? ⟨c, k * 4 + 2, none⟩ = some (.slice a1 (A k).nw k1))
    (c3 : w'.cell? ⟨c, k * 4 + 3, none⟩ = some (.slice a2 (A k).nb k2)) :
    Affs w' (c + 1) (some ⟨c, 0, none⟩) c 0 (k + 1) A := fun i hi => by
  refine ⟨rfl, ?_⟩
  by_cases e : i = k
  · subst e
    exact ⟨a1, a2, k1, k2, by rw [Nat.zero_add]; exact c0, by rw [Nat.zero_add]; exact c1, by rw [Nat.zero_add]; exact c2, by rw [Nat.zero_add]; exact c3, L.marked M (by omega)⟩
  · obtain ⟨-, b1, b2, l1, l2, m⟩ := h i (by omega)
    exact ⟨b1, b2, l1, l2, (hc _ (by omega)).trans m.c0, (hc _ (by omega)).trans m.c1, (hc _ (by omega)).trans m.c2, (hc _ (by omega)).trans m.c3, m.L.marked M (by omega)⟩

theorem info_Affine : (Tryz.prog.info? 66).map (fun i => (i.zero, i.size, i.bytes)) = some (some (.agg #[.int .i64 0, .int .i64 0, .slice none 0 0, .slice none 0 0]), 4, 64) := by kernel_rfl
theorem size_Affine : (Tryz.prog.info? 66).map (·.size) = some 4 := by kernel_rfl
theorem size_Net : (Tryz.prog.info? 33).map (·.size) = some 1 := by kernel_rfl

set_option maxHeartbeats 3200000 in
set_option maxRecDepth 100000 in
theorem toAffine_any (d : AffD) (a1 a2 : Option Addr) (lo k1 k2 : Nat) (w : World) (hd : d.size ≤ 16777216) (H : AffL w lo d a1 a2 k1 k2) :
    Calls Tryz.prog 68 #[.agg #[.int .i64 d.rows, .int .i64 d.cols, .slice a1 d.nw k1, .slice a2 d.nb k2]] w fun e w' => ∃ b1 b2, e = .returned (.agg #[.int .i64 d.rows, .int .i64 d.cols, .slice b1 d.nw d.nw, .slice b2 d.nb d.nb]) ∧
      AffL w' w.heap.size d b1 b2 d.nw d.nb ∧ w.Since w.heap.size w' := by
  have ts := hd
  unfold AffD.size at ts
  have e1 : ∃ wA : World, wA = (((w.alloc (.cells #[.int .i64 d.rows, .int .i64 d.cols, .slice a1 d.nw k1, .slice a2 d.nb k2] 103)).alloc (.cells #[.int .i64 0, .int .i64 0, .slice none 0 0, .slice none 0 0] 66)).alloc (.cells #[.int .i64 d.rows, .int .i64 d.cols, .slice none 0 0, .slice none 0 0] 66)) := ⟨_, rfl⟩
  obtain ⟨wA, eA⟩ := e1
  have sA : w.Since w.heap.size wA := by rw [eA]; exact (((World.Since.refl _ _).alloc (Nat.le_refl _) _).alloc (by simp) _).alloc (by simp; omega) _
  have zA : wA.heap.size = w.heap.size + 1 + 1 + 1 := by rw [eA]; simp
  have bA : Box4 wA w.heap.size (.int .i64 d.rows) (.int .i64 d.cols) (.slice a1 d.nw k1) (.slice a2 d.nb k2) := by rw [eA]; exact ((Box4.new w _ _ _ _ _).keep ((World.Since.refl _ _).alloc (Nat.le_refl _) _)).keep ((World.Since.refl _ _).alloc (Nat.le_refl _) _)
  have rA : Box4 wA (w.heap.size + 1) (.int .i64 0) (.int .i64 0) (.slice none 0 0) (.slice none 0 0) := by
    rw [eA]
    have := (Box4.new (w.alloc (.cells #[.int .i64 d.rows, .int .i64 d.cols, .slice a1 d.nw k1, .slice a2 d.nb k2] 103)) (.int .i64 0) (.int .i64 0) (.slice none 0 0) (.slice none 0 0) 66).keep ((World.Since.refl _ _).alloc (Nat.le_refl _) (.cells #[.int .i64 d.rows, .int .i64 d.cols, .slice none 0 0, .slice none 0 0] 66))
    simpa using this
  have oA : Box4 wA (w.heap.size + 1 + 1) (.int .i64 d.rows) (.int .i64 d.cols) (.slice none 0 0) (.slice none 0 0) := by
    rw [eA]
    have := Box4.new ((w.alloc (.cells #[.int .i64 d.rows, .int .i64 d.cols, .slice a1 d.nw k1, .slice a2 d.nb k2] 103)).alloc (.cells #[.int .i64 0, .int .i64 0, .slice none 0 0, .slice none 0 0] 66)) (.int .i64 d.rows) (.int .i64 d.cols) (.slice none 0 0) (.slice none 0 0) 66
    simpa using this
  have HA := H.keep sA
  obtain ⟨ba, oa, -, LW⟩ := HA.LW
  obtain ⟨bb, ob, -, LB⟩ := HA.LB
  have EA := hide eA
  clear eA
  go_enter Tryz.func68, Tryz.ntmps68
  go_wp2_with fail
  rw [← EA.out]
  refine (toRatS_any a1 lo ba oa d.nw k1 d.W wA (by omega) (by omega) LW).mono ?_
  rintro e w1 ⟨g1, rfl, l1, l1', R1, s1⟩
  have S1 : w.Since w.heap.size w1 := sA.trans (sinceMono s1 sA.size)
  have B1 := bA.keep s1
  have Q1 := rA.keep s1
  have O1 := oA.keep s1
  have LB1 := LB.keep s1
  have b3 := B1.c3
  have o2 := O1.c2
  have f2 := O1.f 2
  have ll := B1.lt
  clear bA rA oA LW LB EA
  go_wp2_with fail
  have M2 : Marked w1 (w1.setCell ⟨w.heap.size + 1 + 1, 2, none⟩ (.slice (some ⟨g1, 0, none⟩) d.nw d.nw)) (w.heap.size + 1 + 1) := (Marked.refl w1 _).setCell _ _
  have O2 := O1.set2 (.slice (some ⟨g1, 0, none⟩) d.nw d.nw)
  have Q2 := Q1.marked M2 (by omega)
  have R2 := R1.marked M2 (by omega) (fun _ => by omega)
  have S2 := S1.trans (M2.since (B := w.heap.size) (by omega))
  have LB2 : Rats (w1.setCell ⟨w.heap.size + 1 + 1, 2, none⟩ (.slice (some ⟨g1, 0, none⟩) d.nw d.nw)) lo a2 bb ob d.nb d.B := by
    obtain ⟨bb', ob', -, L'⟩ := (H.keep S2).LB
    intro i hi
    obtain ⟨p1, -⟩ := LB1 i hi
    obtain ⟨q1, x1, x2, y1, y2, m⟩ := L' i hi
    obtain ⟨rfl, rfl⟩ : bb = bb' ∧ ob = ob' := by rw [p1] at q1; simpa using q1
    exact ⟨p1, x1, x2, y1, y2, m⟩
  have z2 := M2.size
  clear b3 o2 f2 B1 LB1 M2 O1 Q1 R1 S1
  generalize w1.setCell ⟨w.heap.size + 1 + 1, 2, none⟩ (.slice (some ⟨g1, 0, none⟩) d.nw d.nw) = w2 at *
  refine (toRatS_any a2 lo bb ob d.nb k2 d.B w2 (by omega) (by omega) LB2).mono ?_
  rintro e w3 ⟨g3, rfl, l3, l3', R3, s3⟩
  have S3 : w.Since w.heap.size w3 := S2.trans (sinceMono s3 S2.size)
  have Q3 := Q2.keep s3
  have O3 := O2.keep s3
  have R2' := R2.keep s3
  have o0 := O3.c0
  have o1 := O3.c1
  have o2 := O3.c2
  have o3 := O3.c3
  have of3 := O3.f 3
  have q0 := Q3.c0
  have q1 := Q3.c1
  have q2 := Q3.c2
  have q3 := Q3.c3
  have qf0 := Q3.f 0
  have qf1 := Q3.f 1
  have qf2 := Q3.f 2
  have qf3 := Q3.f 3
  clear LB2 R2 S2 O2 Q2
  have M4 : Marked w3 (w3.setCell ⟨w.heap.size + 1 + 1, 3, none⟩ (.slice (some ⟨g3, 0, none⟩) d.nb d.nb)) (w.heap.size + 1 + 1) := (Marked.refl w3 _).setCell _ _
  go_wp2
  have Q4 := ((((Q3.marked M4 (by omega)).set0 (.int .i64 d.rows)).set1 (.int .i64 d.cols)).set2 (.slice (some ⟨g1, 0, none⟩) d.nw d.nw)).set3 (.slice (some ⟨g3, 0, none⟩) d.nb d.nb)
  refine bodyPost_ret (results_box4T rfl Tryz.underlying66 rfl size_Affine _ _ _ _ _ _ _ rfl Q4) rfl ?_
  have M5 : Marked (w3.setCell ⟨w.heap.size + 1 + 1, 3, none⟩ (.slice (some ⟨g3, 0, none⟩) d.nb d.nb)) _ (w.heap.size + 1) := ((((Marked.refl _ _).setCell 0 (.int .i64 d.rows)).setCell 1 (.int .i64 d.cols)).setCell 2 (.slice (some ⟨g1, 0, none⟩) d.nw d.nw)).setCell 3 (.slice (some ⟨g3, 0, none⟩) d.nb d.nb)
  refine ⟨_, _, rfl, ⟨Nat.le_refl _, Nat.le_refl _, ⟨g1, 0, fun _ => by omega, ?_⟩, ⟨g3, 0, fun _ => by omega, ?_⟩, H.r0, H.r1, H.q0, H.q1, H.n63, H.m63⟩, (S3.trans (M4.since (by omega))).trans (M5.since (by omega))⟩
  · exact ((R2'.marked M4 (by omega) (fun _ => by omega)).marked M5 (by omega) (fun _ => by omega)).down (by omega)
  · exact ((R3.marked M4 (by omega) (fun _ => by omega)).marked M5 (by omega) (fun _ => by omega)).down (by omega)

end Go.Proofs.YthaomfabdghfjaaGreat

namespace Go.Proofs.YthaomfabdghfjaaGreat
open Go.RowKit

set_option maxHeartbeats 1600000 in
set_option maxRecDepth 100000 in
theorem toAffineS_any (a : Option Addr) (lo b off n cap : Nat) (A : Nat → AffD) (w : World) (hn : n ≤ 16777216) (hs : szA A n ≤ 16777216) (H : Affs w lo a b off n A) :
    Calls Tryz.prog 33 #[.slice a n cap] w fun e w' => ∃ c, e = .returned (.slice (some ⟨c, 0, none⟩) n n) ∧ w.heap.size ≤ c ∧ c < w'.heap.size ∧ Affs w' (c + 1) (some ⟨c, 0, none⟩) c 0 n A ∧ w.Since w.heap.size w' := by
  have hmk := run_make_wide (P := Tryz.prog) 31 66 _ 4 64 Tryz.underlying31 info_Affine .i64 .i64 n (by omega) (by omega)
  have sA := (World.Since.refl w.heap.size w).alloc (Nat.le_refl _) (.cells (madeCells #[.int .i64 0, .int .i64 0, .slice none 0 0, .slice none 0 0] (n * 4)) 66)
  have rA := Room.new w #[.int .i64 0, .int .i64 0, .slice none 0 0, .slice none 0 0] (n * 4) 66
  go_enter Tryz.func33, Tryz.ntmps33
  go_wp2
  go_loopw [4] (fun i wr => ∃ k : Nat, k ≤ n ∧ i = .int .i64 k ∧ w.Since w.heap.size wr ∧ Room wr w.heap.size (n * 4) ∧ Affs wr (w.heap.size + 1) (some ⟨w.heap.size, 0, none⟩) w.heap.size 0 k A) (fun i _ => n - (intOf i).toNat)
  case atStart => exact ⟨0, Nat.zero_le _, rfl, sA, rA, fun i hi => absurd hi (by omega)⟩
  case round =>
    obtain ⟨k, hk, rfl, s, r, T⟩ := hrel
    by_cases hlt : k < n
    · obtain ⟨rfl, a1, a2, k1, k2, M⟩ := H k hlt
      have M' := M.keep s
      have g0 := M'.c0
      have g1 := M'.c1
      have g2 := M'.c2
      have g3 := M'.c3
      have hz : (k : Int) < (n : Int) := by omega
      have hsz := szA_at (A := A) hlt
      go_wp2_with fail
      refine (toAffine_any (A k) a1 a2 lo k1 k2 wr (by omega) M'.L).mono ?_
      rintro e w2 ⟨b1, b2, rfl, L2, s2⟩
      have r2 := r.keep s2
      have T2 := T.keep s2
      have S2 : w.Since w.heap.size w2 := s.trans (sinceMono s2 s.size)
      obtain ⟨v0, u0⟩ := r2.cell (k * 4) (by omega)
      obtain ⟨v1, u1⟩ := r2.cell (k * 4 + 1) (by omega)
      obtain ⟨v2, u2⟩ := r2.cell (k * 4 + 2) (by omega)
      obtain ⟨v3, u3⟩ := r2.cell (k * 4 + 3) (by omega)
      have f0 := r2.f (k * 4)
      have f1 := r2.f (k * 4 + 1)
      have f2 := r2.f (k * 4 + 2)
      have f3 := r2.f (k * 4 + 3)
      have rl := r.lt
      clear g0 g1 g2 g3
      go_wp2
      go_roundw
      case rel =>
        go_light
        obtain ⟨w3, e3, M3, R3, x0, x1, x2, x3, xo⟩ := put4 (q := k * 4) r2 (by omega) (.int .i64 (A k).rows) (.int .i64 (A k).cols) (.slice b1 (A k).nw (A k).nw) (.slice b2 (A k).nb (A k).nb)
        rw [← e3]
        exact ⟨k + 1, by omega, by go_num, S2.trans (M3.since (Nat.le_refl _)), R3, T2.put M3 (fun o ho => xo o (by omega)) (L2.down (by omega)) x0 x1 x2 x3⟩
      case measure => simp [intOf]; omega
    · have e : k = n := by omega
      subst e
      have rl := r.lt
      go_wp2
      go_ret
      exact ⟨w.heap.size, rfl, Nat.le_refl _, rl, T, s⟩

theorem Affs.marked {w w' : World} {lo b off n c : Nat} {a : Option Addr} {A : Nat → AffD} (h : Affs w lo a b off n A) (s : Marked w w' c) (hc : c < lo) (hb : 0 < n → b ≠ c) : Affs w' lo a b off n A := fun i hi => by
  obtain ⟨h1, a1, a2, k1, k2, m⟩ := h i hi
  have hb := hb (by omega)
  exact ⟨h1, a1, a2, k1, k2, (s.cell (a := ⟨b, off + i * 4, none⟩) hb).trans m.c0, (s.cell (a := ⟨b, off + i * 4 + 1, none⟩) hb).trans m.c1, (s.cell (a := ⟨b, off + i * 4 + 2, none⟩) hb).trans m.c2, (s.cell (a := ⟨b, off + i * 4 + 3, none⟩) hb).trans m.c3, m.L.marked s hc⟩

set_option maxHeartbeats 1600000 in
set_option maxRecDepth 100000 in
theorem toNet_any (a : Option Addr) (lo b off n cap : Nat) (A : Nat → AffD) (w : World) (hn : n ≤ 16777216) (hs : szA A n ≤ 16777216) (H : Affs w lo a b off n A) :
    Calls Tryz.prog 9 #[.agg #[.slice a n cap]] w fun e w' => ∃ c, e = .returned (.agg #[.slice (some ⟨c, 0, none⟩) n n]) ∧ w.heap.size ≤ c ∧ c < w'.heap.size ∧ Affs w' (c + 1) (some ⟨c, 0, none⟩) c 0 n A ∧ w.Since w.heap.size w' := by
  obtain ⟨wA, eA⟩ : ∃ wA : World, wA = ((w.alloc (.cells #[.slice a n cap] 24)).alloc (.cells #[.slice none 0 0] 33)).alloc (.cells #[.slice none 0 0] 33) := ⟨_, rfl⟩
  have sA : w.Since w.heap.size wA := by rw [eA]; exact (((World.Since.refl _ _).alloc (Nat.le_refl _) _).alloc (by simp) _).alloc (by simp; omega) _
  have zA : wA.heap.size = w.heap.size + 1 + 1 + 1 := by rw [eA]; simp
  have rA : Box1 wA (w.heap.size + 1) (.slice none 0 0) := by
    rw [eA]
    have := (Box1.new (w.alloc (.cells #[.slice a n cap] 24)) (.slice none 0 0) 33).keep ((World.Since.refl _ _).alloc (Nat.le_refl _) (.cells #[.slice none 0 0] 33))
    simpa using this
  have oA : Box1 wA (w.heap.size + 1 + 1) (.slice none 0 0) := by
    rw [eA]
    have := Box1.new ((w.alloc (.cells #[.slice a n cap] 24)).alloc (.cells #[.slice none 0 0] 33)) (.slice none 0 0) 33
    simpa using this
  have EA := hide eA
  clear eA
  go_enter Tryz.func9, Tryz.ntmps9
  go_wp2_with fail
  rw [← EA.out]
  refine (toAffineS_any a lo b off n cap A wA hn hs (H.keep sA)).mono ?_
  rintro e w1 ⟨g1, rfl, l1, l1', R1, s1⟩
  have S1 : w.Since w.heap.size w1 := sA.trans (sinceMono s1 sA.size)
  have Q1 := rA.keep s1
  have O1 := oA.keep s1
  have o0 := O1.c0
  have f0 := O1.f 0
  have q0 := Q1.c0
  have qf0 := Q1.f 0
  clear rA oA EA
  have M2 : Marked w1 (w1.setCell ⟨w.heap.size + 1 + 1, 0, none⟩ (.slice (some ⟨g1, 0, none⟩) n n)) (w.heap.size + 1 + 1) := (Marked.refl w1 _).setCell _ _
  go_wp2
  have Q2 := (Q1.marked M2 (by omega)).set0 (.slice (some ⟨g1, 0, none⟩) n n)
  refine bodyPost_ret (results_box1T rfl Tryz.underlying33 rfl size_Net _ _ _ _ rfl Q2) rfl ?_
  have M5 : Marked (w1.setCell ⟨w.heap.size + 1 + 1, 0, none⟩ (.slice (some ⟨g1, 0, none⟩) n n)) _ (w.heap.size + 1) := (Marked.refl _ _).setCell 0 (.slice (some ⟨g1, 0, none⟩) n n)
  exact ⟨g1, rfl, by omega, by rw [M5.size, M2.size]; exact l1', (R1.marked M2 (by omega) (fun _ => by omega)).marked M5 (by omega) (fun _ => by omega), (S1.trans (M2.since (by omega))).trans (M5.since (by omega))⟩

end Go.Proofs.YthaomfabdghfjaaGreat

namespace Go.Proofs.YthaomfabdghfjaaGreat
open Go.RowKit

set_option maxHeartbeats 1600000 in
set_option maxRecDepth 100000 in
theorem eqRatS_true (a a' : Option Addr) (lo b off cap lo' b' off' cap' n : Nat) (R : Nat → RatD) (w : World) (hn : n ≤ 16777216) (hs : szR R n ≤ 16777216) (H : Rats w lo a b off n R) (H' : Rats w lo' a' b' off' n R) :
    Calls Tryz.prog 12 #[.slice a n cap, .slice a' n cap'] w fun e w' => e = .returned (.bool true) ∧ w.Since w.heap.size w' := by
  go_enter Tryz.func12, Tryz.ntmps12
  go_wp2
  go_loopw [5] (fun i wr => ∃ k : Nat, k ≤ n ∧ i = .int .i64 k ∧ w.Since w.heap.size wr) (fun i _ => n - (intOf i).toNat)
  case atStart => exact ⟨0, Nat.zero_le _, rfl, World.Since.refl _ _⟩
  case round =>
    obtain ⟨k, hk, rfl, s⟩ := hrel
    by_cases hlt : k < n
    · obtain ⟨rfl, a1, a2, k1, k2, M⟩ := H k hlt
      obtain ⟨rfl, a1', a2', k1', k2', M'⟩ := H' k hlt
      have sd : w.Since w.heap.size wr.drew := ⟨s.os, s.tape, s.output, s.size, s.block⟩
      have N := M.keep s
      have N' := M'.keep s
      have g0 := N.c0
      have g1 := N.c1
      have g2 := N.c2
      have g0' := N'.c0
      have g1' := N'.c1
      have g2' := N'.c2
      have hsz := szR_at (R := R) hlt
      have hz : (k : Int) < (n : Int) := by omega
      obtain ⟨ba, oa, -, LX⟩ := (M.L.keep sd).LX
      obtain ⟨bb, ob, -, LY⟩ := (M.L.keep sd).LY
      obtain ⟨ba', oa', -, LX'⟩ := (M'.L.keep sd).LX
      obtain ⟨bb', ob', -, LY'⟩ := (M'.L.keep sd).LY
      have J1 := eqRat_true (R k).neg a1 a1' a2 a2' ba oa ba' oa' (R k).n k1 k1' bb ob bb' ob' (R k).m k2 k2' (R k).X (R k).Y wr.drew (by omega) (by omega) LX LX' LY LY'
      clear LX LY LX' LY' N N'
      go_wp2_with fail
      go_region_held3 (fun w' => w'.cell? ⟨b, off + k * 3, none⟩ = some (.bool (R k).neg) ∧ w'.cell? ⟨b, off + k * 3 + 1, none⟩ = some (.slice a1 (R k).n k1) ∧ w'.cell? ⟨b, off + k * 3 + 2, none⟩ = some (.slice a2 (R k).m k2) ∧ w'.cell? ⟨b', off' + k * 3, none⟩ = some (.bool (R k).neg) ∧ w'.cell? ⟨b', off' + k * 3 + 1, none⟩ = some (.slice a1' (R k).n k1') ∧ w'.cell? ⟨b', off' + k * 3 + 2, none⟩ = some (.slice a2' (R k).m k2')) (go_keep)
        (first
          | (go_at_call 40
             with_reducible refine J1.mono ?_
             rintro e w1 ⟨rfl, s1⟩
             have S1 : w.Since w.heap.size w1 := sd.trans (sinceMono s1 sd.size)
             have i0 := (M.keep S1).c0
             have i1 := (M.keep S1).c1
             have i2 := (M.keep S1).c2
             have i0' := (M'.keep S1).c0
             have i1' := (M'.keep S1).c1
             have i2' := (M'.keep S1).c2))
      all_goals go_wp2
      all_goals go_roundw
      case rel => exact ⟨k + 1, by omega, by go_num, S1⟩
      case measure => simp [intOf]; omega
    · go_wp2
      go_ret
      exact ⟨rfl, s⟩

set_option maxHeartbeats 1600000 in
set_option maxRecDepth 100000 in
theorem eqAffine_true (d : AffD) (a1 a2 a1' a2' : Option Addr) (lo k1 k2 lo' k1' k2' : Nat) (w : World) (hd : d.size ≤ 16777216) (H : AffL w lo d a1 a2 k1 k2) (H' : AffL w lo' d a1' a2' k1' k2') :
    Calls Tryz.prog 78 #[.agg #[.int .i64 d.rows, .int .i64 d.cols, .slice a1 d.nw k1, .slice a2 d.nb k2], .agg #[.int .i64 d.rows, .int .i64 d.cols, .slice a1' d.nw k1', .slice a2' d.nb k2']] w fun e w' => e = .returned (.bool true) ∧ w.Since w.heap.size w' := by
  have ts := hd
  unfold AffD.size at ts
  obtain ⟨wA, eA⟩ : ∃ wA : World, wA = (w.alloc (.cells #[.int .i64 d.rows, .int .i64 d.cols, .slice a1 d.nw k1, .slice a2 d.nb k2] 66)).alloc (.cells #[.int .i64 d.rows, .int .i64 d.cols, .slice a1' d.nw k1', .slice a2' d.nb k2'] 66) := ⟨_, rfl⟩
  have sA : w.Since w.heap.size wA := by rw [eA]; exact ((World.Since.refl _ _).alloc (Nat.le_refl _) _).alloc (by simp) _
  have bA : Box4 wA w.heap.size (.int .i64 d.rows) (.int .i64 d.cols) (.slice a1 d.nw k1) (.slice a2 d.nb k2) := by rw [eA]; exact (Box4.new w _ _ _ _ _).keep ((World.Since.refl _ _).alloc (Nat.le_refl _) _)
  have cA : Box4 wA (w.heap.size + 1) (.int .i64 d.rows) (.int .i64 d.cols) (.slice a1' d.nw k1') (.slice a2' d.nb k2') := by
    rw [eA]
    have := Box4.new (w.alloc (.cells #[.int .i64 d.rows, .int .i64 d.cols, .slice a1 d.nw k1, .slice a2 d.nb k2] 66)) (.int .i64 d.rows) (.int .i64 d.cols) (.slice a1' d.nw k1') (.slice a2' d.nb k2') 66
    simpa using this
  obtain ⟨b1, o1, -, W1⟩ := (H.keep sA).LW
  obtain ⟨b2, o2, -, W2⟩ := (H'.keep sA).LW
  obtain ⟨b3, o3, -, B1⟩ := (H.keep sA).LB
  obtain ⟨b4, o4, -, B2⟩ := (H'.keep sA).LB
  have J1 := eqRatS_true a1 a1' lo b1 o1 k1 lo' b2 o2 k1' d.nw d.W wA (by omega) (by omega) W1 W2
  have EA := hide eA
  clear eA
  go_enter Tryz.func78, Tryz.ntmps78
  go_wp2_with fail
  rw [← EA.out]
  refine J1.mono ?_
  rintro e w1 ⟨rfl, s1⟩
  have J2 := eqRatS_true a2 a2' lo b3 o3 k2 lo' b4 o4 k2' d.nb d.B w1 (by omega) (by omega) (B1.keep s1) (B2.keep s1)
  have q1 := (bA.keep s1).c3
  have q2 := (cA.keep s1).c3
  clear J1 EA bA cA
  go_wp2_with fail
  refine J2.mono ?_
  rintro e w2 ⟨rfl, s2⟩
  go_wp2
  go_ret
  exact ⟨rfl, sA.trans (sinceMono (s1.trans (sinceMono s2 s1.size)) sA.size)⟩

set_option maxHeartbeats 1600000 in
set_option maxRecDepth 100000 in
theorem eqAffineS_true (a a' : Option Addr) (lo b off cap lo' b' off' cap' n : Nat) (A : Nat → AffD) (w : World) (hn : n ≤ 16777216) (hs : szA A n ≤ 16777216) (H : Affs w lo a b off n A) (H' : Affs w lo' a' b' off' n A) :
    Calls Tryz.prog 41 #[.slice a n cap, .slice a' n cap'] w fun e w' => e = .returned (.bool true) ∧ w.Since w.heap.size w' := by
  go_enter Tryz.func41, Tryz.ntmps41
  go_wp2
  go_loopw [5] (fun i wr => ∃ k : Nat, k ≤ n ∧ i = .int .i64 k ∧ w.Since w.heap.size wr) (fun i _ => n - (intOf i).toNat)
  case atStart => exact ⟨0, Nat.zero_le _, rfl, World.Since.refl _ _⟩
  case round =>
    obtain ⟨k, hk, rfl, s⟩ := hrel
    by_cases hlt : k < n
    · obtain ⟨rfl, a1, a2, k1, k2, M⟩ := H k hlt
      obtain ⟨rfl, a1', a2', k1', k2', M'⟩ := H' k hlt
      have sd : w.Since w.heap.size wr.drew := ⟨s.os, s.tape, s.output, s.size, s.block⟩
      have N := M.keep s
      have N' := M'.keep s
      have g0 := N.c0
      have g1 := N.c1
      have g2 := N.c2
      have g3 := N.c3
      have g0' := N'.c0
      have g1' := N'.c1
      have g2' := N'.c2
      have g3' := N'.c3
      have hsz := szA_at (A := A) hlt
      have hz : (k : Int) < (n : Int) := by omega
      have J1 := eqAffine_true (A k) a1 a2 a1' a2' lo k1 k2 lo' k1' k2' wr.drew (by omega) (M.L.keep sd) (M'.L.keep sd)
      clear N N'
      go_wp2_with fail
      go_region_held3 (fun w' => w'.cell? ⟨b, off + k * 4, none⟩ = some (.int .i64 (A k).rows) ∧ w'.cell? ⟨b, off + k * 4 + 1, none⟩ = some (.int .i64 (A k).cols) ∧ w'.cell? ⟨b, off + k * 4 + 2, none⟩ = some (.slice a1 (A k).nw k1) ∧ w'.cell? ⟨b, off + k * 4 + 3, none⟩ = some (.slice a2 (A k).nb k2) ∧
          w'.cell? ⟨b', off' + k * 4, none⟩ = some (.int .i64 (A k).rows) ∧ w'.cell? ⟨b', off' + k * 4 + 1, none⟩ = some (.int .i64 (A k).cols) ∧ w'.cell? ⟨b', off' + k * 4 + 2, none⟩ = some (.slice a1' (A k).nw k1') ∧ w'.cell? ⟨b', off' + k * 4 + 3, none⟩ = some (.slice a2' (A k).nb k2')) (go_keep)
        (first
          | (go_at_call 78
             with_reducible refine J1.mono ?_
             rintro e w1 ⟨rfl, s1⟩
             have S1 : w.Since w.heap.size w1 := sd.trans (sinceMono s1 sd.size)
             have i0 := (M.keep S1).c0
             have i1 := (M.keep S1).c1
             have i2 := (M.keep S1).c2
             have i3 := (M.keep S1).c3
             have i0' := (M'.keep S1).c0
             have i1' := (M'.keep S1).c1
             have i2' := (M'.keep S1).c2
             have i3' := (M'.keep S1).c3))
      all_goals go_wp2
      all_goals go_roundw
      case rel => exact ⟨k + 1, by omega, by go_num, S1⟩
      case measure => simp [intOf]; omega
    · go_wp2
      go_ret
      exact ⟨rfl, s⟩

set_option maxHeartbeats 1600000 in
set_option maxRecDepth 100000 in
theorem eqNet_true (a a' : Option Addr) (lo b off cap lo' b' off' cap' n : Nat) (A : Nat → AffD) (w : World) (hn : n ≤ 16777216) (hs : szA A n ≤ 16777216) (H : Affs w lo a b off n A) (H' : Affs w lo' a' b' off' n A) :
    Calls Tryz.prog 13 #[.agg #[.slice a n cap], .agg #[.slice a' n cap']] w fun e w' => e = .returned (.bool true) ∧ w.Since w.heap.size w' := by
  have sA : w.Since w.heap.size ((w.alloc (.cells #[.slice a n cap] 33)).alloc (.cells #[.slice a' n cap'] 33)) := ((World.Since.refl _ _).alloc (Nat.le_refl _) _).alloc (by simp) _
  have J1 := eqAffineS_true a a' lo b off cap lo' b' off' cap' n A _ hn hs (H.keep sA) (H'.keep sA)
  go_enter Tryz.func13, Tryz.ntmps13
  go_wp2_with fail
  refine J1.mono ?_
  rintro e w1 ⟨rfl, s1⟩
  go_wp2
  go_ret
  exact ⟨rfl, sA.trans (sinceMono s1 sA.size)⟩

end Go.Proofs.YthaomfabdghfjaaGreat

namespace Go.Proofs.YthaomfabdghfjaaGreat
open Go.RowKit

theorem Tab.keepN {w w' : World} (_h : Tab w) (_hw : 0 ≤ w.heap.size) (_s : w.Since w.heap.size w') : Tab w' := trivial

set_option maxHeartbeats 1600000 in
set_option maxRecDepth 100000 in
theorem allValid_any (a : Option Addr) (lo b off n cap : Nat) (R : Nat → RatD) (w : World) (hw : 0 ≤ w.heap.size) (hT : Tab w) (hn : n ≤ 16777216) (hs : szR R n ≤ 16777216) (H : Rats w lo a b off n R) :
    Calls Tryz.prog 36 #[.slice a n cap] w fun e w' => ∃ r : Bool, e = .returned (.bool r) ∧ (r = true ↔ RatsOk R n) ∧ w.Since w.heap.size w' := by
  go_enter Tryz.func36, Tryz.ntmps36
  go_wp2
  go_loopw [7] (fun i wr => ∃ k : Nat, k ≤ n ∧ i = .int .i64 k ∧ w.Since w.heap.size wr ∧ RatsOk R k) (fun i _ => n - (intOf i).toNat)
  case atStart => exact ⟨0, Nat.zero_le _, rfl, World.Since.refl _ _, fun i hi => absurd hi (by omega)⟩
  case round =>
    obtain ⟨k, hk, rfl, s, O⟩ := hrel
    by_cases hlt : k < n
    · obtain ⟨rfl, a1, a2, k1, k2, M⟩ := H k hlt
      have M' := M.keep s
      have g0 := M'.c0
      have g1 := M'.c1
      have g2 := M'.c2
      have hz : (k : Int) < (n : Int) := by omega
      have hsz := szR_at (R := R) hlt
      have sA : w.Since w.heap.size (wr.alloc (.cells #[.bool (R k).neg, .slice a1 (R k).n k1, .slice a2 (R k).m k2] 70)) := s.alloc s.size _
      obtain ⟨ba, oa, -, LX⟩ := (M.L.keep sA).LX
      obtain ⟨bb, ob, -, LY⟩ := (M.L.keep sA).LY
      have J1 := implRatOk_any (R k).neg a1 a2 ba oa (R k).n k1 bb ob (R k).m k2 (R k).X (R k).Y _ (Nat.zero_le _) (by omega) (by omega) M.L.nc M.L.mc M.L.ac M.L.bc LX LY M.L.lX M.L.lY (hT.keepN hw sA)
      rw [show ratOkB (R k).neg (R k).X (R k).n (R k).Y (R k).m = (R k).ok from rfl] at J1
      cases hok : (R k).ok
      · have HK := hide hok
        rw [hok] at J1
        clear hok
        go_wp2_with fail
        refine J1.mono ?_
        rintro e w2 ⟨rfl, s2⟩
        go_wp2
        go_ret
        refine ⟨false, rfl, ⟨(fun h => by cases h), fun h => ?_⟩, sA.trans (sinceMono s2 sA.size)⟩
        have := h k hlt
        rw [HK.out] at this
        cases this
      · have HK := hide hok
        rw [hok] at J1
        clear hok
        go_wp2_with fail
        refine J1.mono ?_
        rintro e w2 ⟨rfl, s2⟩
        go_wp2
        go_roundw
        case rel =>
          refine ⟨k + 1, by omega, by go_num, sA.trans (sinceMono s2 sA.size), fun i hi => ?_⟩
          by_cases e : i = k
          · subst e; exact HK.out
          · exact O i (by omega)
        case measure => simp [intOf]; omega
    · have e : k = n := by omega
      subst e
      go_wp2
      go_ret
      exact ⟨true, rfl, ⟨fun _ => O, fun _ => rfl⟩, s⟩

set_option maxHeartbeats 800000 in
set_option maxRecDepth 100000 in
theorem sideFits_yes (x : Int) (w : World) (h1 : 0 ≤ x) (h2 : x ≤ 20000) :
    Calls Tryz.prog 136 #[.int .i64 x] w fun e w' => e = .returned (.bool true) ∧ w' = w := by
  go_enter Tryz.func136, Tryz.ntmps136
  go_wp2
  go_ret
  exact ⟨rfl, rfl⟩

set_option maxHeartbeats 800000 in
set_option maxRecDepth 100000 in
theorem sideFits_no (x : Int) (w : World) (h : ¬ (0 ≤ x ∧ x ≤ 20000)) :
    Calls Tryz.prog 136 #[.int .i64 x] w fun e w' => e = .returned (.bool false) ∧ w' = w := by
  by_cases h1 : 0 ≤ x
  · have h2 : ¬ x ≤ 20000 := fun h2 => h ⟨h1, h2⟩
    clear h
    go_enter Tryz.func136, Tryz.ntmps136
    go_wp2
    go_ret
    exact ⟨rfl, rfl⟩
  · clear h
    go_enter Tryz.func136, Tryz.ntmps136
    go_wp2
    go_ret
    exact ⟨rfl, rfl⟩

set_option maxHeartbeats 800000 in
set_option maxRecDepth 100000 in
theorem cellsOf_any (d : AffD) (w : World) (h : d.sides) :
    Calls Tryz.prog 113 #[.int .i64 d.rows, .int .i64 d.cols] w fun e w' => e = .returned (.int .i64 d.cells) ∧ w' = w := by
  have hb := h.bounds
  unfold AffD.cells at hb ⊢
  obtain ⟨h0, h1, h2, h3⟩ := h
  go_enter Tryz.func113, Tryz.ntmps113
  go_wp2
  go_ret
  exact ⟨rfl, rfl⟩

set_option maxHeartbeats 3200000 in
set_option maxRecDepth 100000 in
theorem shapeFits_any (d : AffD) (a1 a2 : Option Addr) (k1 k2 : Nat) (w : World) :
    Calls Tryz.prog 112 #[.agg #[.int .i64 d.rows, .int .i64 d.cols, .slice a1 d.nw k1, .slice a2 d.nb k2]] w fun e w' => ∃ r : Bool, e = .returned (.bool r) ∧ (r = true ↔ d.shape) ∧ w.Since w.heap.size w' := by
  have sA : w.Since w.heap.size (w.alloc (.cells #[.int .i64 d.rows, .int .i64 d.cols, .slice a1 d.nw k1, .slice a2 d.nb k2] 66)) := (World.Since.refl _ _).alloc (Nat.le_refl _) _
  by_cases hr : 0 ≤ d.rows ∧ d.rows ≤ 20000
  rotate_left
  · have HN := hide (show ¬ d.shape from fun h => hr ⟨h.1.1, h.1.2.1⟩)
    go_enter Tryz.func112, Tryz.ntmps112
    go_wp2_with fail
    refine (sideFits_no d.rows _ hr).mono ?_
    rintro e w1 ⟨rfl, rfl⟩
    clear hr
    go_wp2
    go_ret
    exact ⟨false, rfl, ⟨(fun h => by cases h), fun h => absurd h HN.out⟩, sA⟩
  by_cases hc : 0 ≤ d.cols ∧ d.cols ≤ 20000
  rotate_left
  · have HN := hide (show ¬ d.shape from fun h => hc ⟨h.1.2.2.1, h.1.2.2.2⟩)
    go_enter Tryz.func112, Tryz.ntmps112
    go_wp2_with fail
    refine (sideFits_yes d.rows _ hr.1 hr.2).mono ?_
    rintro e w1 ⟨rfl, rfl⟩
    go_wp2_with fail
    refine (sideFits_no d.cols _ hc).mono ?_
    rintro e w1 ⟨rfl, rfl⟩
    clear hr hc
    go_wp2
    go_ret
    exact ⟨false, rfl, ⟨(fun h => by cases h), fun h => absurd h HN.out⟩, sA⟩
  have hS : d.sides := ⟨hr.1, hr.2, hc.1, hc.2⟩
  have hb := hS.bounds
  obtain ⟨hr0, hr1⟩ := hr
  obtain ⟨hc0, hc1⟩ := hc
  obtain ⟨hb0, hb1, hb2, hb3⟩ := hb
  by_cases hw : (d.nw : Int) = d.rows * d.cols
  rotate_left
  · have HN := hide (show ¬ d.shape from fun h => hw h.2.1)
    have q : ((d.nw : Int) == d.rows * d.cols) = false := by simpa using hw
    clear hw
    go_enter Tryz.func112, Tryz.ntmps112
    go_wp2_with fail
    refine (sideFits_yes d.rows _ hr0 hr1).mono ?_
    rintro e w1 ⟨rfl, rfl⟩
    go_wp2_with fail
    refine (sideFits_yes d.cols _ hc0 hc1).mono ?_
    rintro e w1 ⟨rfl, rfl⟩
    go_wp2
    go_ret
    exact ⟨false, rfl, ⟨(fun h => by cases h), fun h => absurd h HN.out⟩, sA⟩
  have q : ((d.nw : Int) == d.rows * d.cols) = true := by simpa using hw
  by_cases hv : (d.nb : Int) = d.rows
  rotate_left
  · have HN := hide (show ¬ d.shape from fun h => hv h.2.2)
    have q2 : ((d.nb : Int) == d.rows) = false := by simpa using hv
    clear hv hw
    go_enter Tryz.func112, Tryz.ntmps112
    go_wp2_with fail
    refine (sideFits_yes d.rows _ hr0 hr1).mono ?_
    rintro e w1 ⟨rfl, rfl⟩
    go_wp2_with fail
    refine (sideFits_yes d.cols _ hc0 hc1).mono ?_
    rintro e w1 ⟨rfl, rfl⟩
    go_wp2
    go_ret
    exact ⟨false, rfl, ⟨(fun h => by cases h), fun h => absurd h HN.out⟩, sA⟩
  have HS := hide (show d.shape from ⟨hS, hw, hv⟩)
  have q2 : ((d.nb : Int) == d.rows) = true := by simpa using hv
  clear hw hv
  go_enter Tryz.func112, Tryz.ntmps112
  go_wp2_with fail
  refine (sideFits_yes d.rows _ hr0 hr1).mono ?_
  rintro e w1 ⟨rfl, rfl⟩
  go_wp2_with fail
  refine (sideFits_yes d.cols _ hc0 hc1).mono ?_
  rintro e w1 ⟨rfl, rfl⟩
  go_wp2
  go_ret
  exact ⟨true, rfl, ⟨fun _ => HS.out, fun _ => rfl⟩, sA⟩

end Go.Proofs.YthaomfabdghfjaaGreat
