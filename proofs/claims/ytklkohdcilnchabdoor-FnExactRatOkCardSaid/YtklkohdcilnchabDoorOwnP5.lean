import Derived.Test.YtklkohdcilnchabDoorOwnP1
import Derived.Deep.RegionHeld3
import Derived.Test.YtklkohdcilnchabDoorOwnP4
namespace Go.Proofs.YtklkohdcilnchabDoor
open Go.RowKit

/-- A struct of three cells in a block of its own. -/
structure Box3 (w : World) (c : Nat) (x y z : Value) : Prop where
  c0 : w.cell? ⟨c, 0, none⟩ = some x
  c1 : w.cell? ⟨c, 1, none⟩ = some y
  c2 : w.cell? ⟨c, 2, none⟩ = some z
  f : ∀ k, w.frozen? ⟨c, k, none⟩ = false

theorem Box3.lt {w : World} {c : Nat} {x y z : Value} (h : Box3 w c x y z) : c < w.heap.size := World.block_lt_of_cell? _ _ h.c0
theorem Box3.new (w : World) (x y z : Value) (t : TypeId) : Box3 (w.alloc (.cells #[x, y, z] t)) w.heap.size x y z := ⟨by simp [go_sem], by simp [go_sem], by simp [go_sem], fun k => by simp [go_sem]⟩
theorem Box3.since {w w' : World} {c B : Nat} {x y z : Value} (h : Box3 w c x y z) (s : w.Since B w') (hc : c < B) : Box3 w' c x y z :=
  ⟨(s.cell (a := ⟨c, 0, none⟩) hc).trans h.c0, (s.cell (a := ⟨c, 1, none⟩) hc).trans h.c1, (s.cell (a := ⟨c, 2, none⟩) hc).trans h.c2, fun k => (s.frozen (a := ⟨c, k, none⟩) hc).trans (h.f k)⟩
theorem Box3.keep {w w' : World} {c : Nat} {x y z : Value} (h : Box3 w c x y z) (s : w.Since w.heap.size w') : Box3 w' c x y z := h.since s h.lt
theorem Box3.marked {w w' : World} {c d : Nat} {x y z : Value} (h : Box3 w c x y z) (s : Marked w w' d) (hc : c ≠ d) : Box3 w' c x y z :=
  ⟨(s.cell (a := ⟨c, 0, none⟩) hc).trans h.c0, (s.cell (a := ⟨c, 1, none⟩) hc).trans h.c1, (s.cell (a := ⟨c, 2, none⟩) hc).trans h.c2, fun k => (s.frozenO (a := ⟨c, k, none⟩) hc).trans (h.f k)⟩
theorem Box3.set0 {w : World} {c : Nat} {x y z : Value} (h : Box3 w c x y z) (v : Value) : Box3 (w.setCell ⟨c, 0, none⟩ v) c v y z :=
  ⟨World.cell?_setCell_same _ _ _ h.c0, (World.cell?_setCell_other _ _ _ _ (by simp)).trans h.c1, (World.cell?_setCell_other _ _ _ _ (by simp)).trans h.c2, fun k => by rw [((Marked.refl w c).setCell 0 v).frozen]; exact h.f k⟩
theorem Box3.set1 {w : World} {c : Nat} {x y z : Value} (h : Box3 w c x y z) (v : Value) : Box3 (w.setCell ⟨c, 1, none⟩ v) c x v z :=
  ⟨(World.cell?_setCell_other _ _ _ _ (by simp)).trans h.c0, World.cell?_setCell_same _ _ _ h.c1, (World.cell?_setCell_other _ _ _ _ (by simp)).trans h.c2, fun k => by rw [((Marked.refl w c).setCell 1 v).frozen]; exact h.f k⟩
theorem Box3.set2 {w : World} {c : Nat} {x y z : Value} (h : Box3 w c x y z) (v : Value) : Box3 (w.setCell ⟨c, 2, none⟩ v) c x y v :=
  ⟨(World.cell?_setCell_other _ _ _ _ (by simp)).trans h.c0, (World.cell?_setCell_other _ _ _ _ (by simp)).trans h.c1, World.cell?_setCell_same _ _ _ h.c2, fun k => by rw [((Marked.refl w c).setCell 2 v).frozen]; exact h.f k⟩

theorem ratInfo : (Tryd.prog.info? 31).map (·.size) = some 3 := by kernel_rfl

/-- A struct answer that lies in a box. -/
theorem results_box3 {fn : Func} {p : Tmp} (h : fn.results = #[.cell p 31]) (tmps : Array Value) (w : World) (c : Nat) (x y z : Value) (hp : tmps.getD p undef = .pointer (some ⟨c, 0, none⟩)) (B : Box3 w c x y z) :
    (results fn tmps).run Tryd.prog w = .ok (.agg #[x, y, z]) w := by
  have hp' : tmps[p]?.getD undef = .pointer (some ⟨c, 0, none⟩) := by simpa using hp
  have hl := run_loadVar_mid (P := Tryd.prog) w c 0 31 [x, y, z] _ (fun j v hv => by
    rcases j with _ | _ | _ | j
    · simp at hv; subst hv; exact B.c0
    · simp at hv; subst hv; exact B.c1
    · simp at hv; subst hv; exact B.c2
    · simp at hv) Tryd.underlying31 rfl ratInfo
  simp [results, h, hp', asAddr, hl]

/-- A struct answer that lies in a box, of whatever struct type of three cells. -/
theorem results_box3T {fn : Func} {p : Tmp} {T : TypeId} {d : TypeDesc} (h : fn.results = #[.cell p T]) (hu : Tryd.prog.underlying T = some d) (hd : d.isRow = true) (hi : (Tryd.prog.info? T).map (·.size) = some 3) (tmps : Array Value) (w : World) (c : Nat) (x y z : Value)
    (hp : tmps.getD p undef = .pointer (some ⟨c, 0, none⟩)) (B : Box3 w c x y z) : (results fn tmps).run Tryd.prog w = .ok (.agg #[x, y, z]) w := by
  have hp' : tmps[p]?.getD undef = .pointer (some ⟨c, 0, none⟩) := by simpa using hp
  have hl := run_loadVar_mid (P := Tryd.prog) w c 0 T [x, y, z] d (fun j v hv => by
    rcases j with _ | _ | _ | j
    · simp at hv; subst hv; exact B.c0
    · simp at hv; subst hv; exact B.c1
    · simp at hv; subst hv; exact B.c2
    · simp at hv) hu hd hi
  simp [results, h, hp', asAddr, hl]

theorem fracInfo : (Tryd.prog.info? 72).map (·.size) = some 3 := by kernel_rfl

end Go.Proofs.YtklkohdcilnchabDoor

namespace Go.Proofs.YtklkohdcilnchabDoor
open Go.RowKit

set_option maxHeartbeats 800000 in
set_option maxRecDepth 100000 in
theorem szU_ok (a : Option Addr) (n cap L : Nat) (w : World) (hL : L ≤ 1048576) (hn : n ≤ L) :
    Calls Tryd.prog 41 #[.slice a n cap, .int .i64 L] w fun e w' => e = .returned (.int .i64 ((L - n : Nat) : Int)) ∧ w' = w := by
  have h : (L : Int) - n = ((L - n : Nat) : Int) := by omega
  have H := hide h
  clear h
  go_enter Tryd.func41, Tryd.ntmps41
  go_wp2
  go_ret
  exact ⟨ret_int H.out, rfl⟩

set_option maxHeartbeats 800000 in
set_option maxRecDepth 100000 in
theorem szU_no (a : Option Addr) (n cap L : Nat) (w : World) (hL : L ≤ 1048576) (hn : L < n) (hm : n ≤ 9223372036854775807) :
    Calls Tryd.prog 41 #[.slice a n cap, .int .i64 L] w fun e w' => e = .returned (.int .i64 (-1)) ∧ w' = w := by
  go_enter Tryd.func41, Tryd.ntmps41
  go_wp2
  go_ret
  exact ⟨rfl, rfl⟩

set_option maxHeartbeats 800000 in
set_option maxRecDepth 100000 in
theorem szRat_ok (neg : Bool) (a b : Option Addr) (n ca m cb L : Nat) (w : World) (hL : L ≤ 1048576) (hn : n + m ≤ L) :
    Calls Tryd.prog 17 #[.agg #[.bool neg, .slice a n ca, .slice b m cb], .int .i64 L] w fun e w' => e = .returned (.int .i64 ((L - n - m : Nat) : Int)) ∧ w.Since w.heap.size w' := by
  have sA : w.Since w.heap.size (w.alloc (.cells #[.bool neg, .slice a n ca, .slice b m cb] 28)) := (World.Since.refl _ _).alloc (Nat.le_refl _) _
  go_enter Tryd.func17, Tryd.ntmps17
  go_wp2_with fail
  refine (szU_ok a n ca L _ hL (by omega)).mono ?_
  rintro e w1 ⟨rfl, rfl⟩
  go_wp2_with fail
  refine (szU_ok b m cb (L - n) _ (by omega) (by omega)).mono ?_
  rintro e w1 ⟨rfl, rfl⟩
  go_wp2
  go_ret
  exact ⟨rfl, sA⟩

set_option maxHeartbeats 800000 in
set_option maxRecDepth 100000 in
theorem szRat_no (neg : Bool) (a b : Option Addr) (n ca m cb L : Nat) (w : World) (hL : L ≤ 1048576) (hn : L < n + m) (hn1 : n ≤ 9223372036854775807) (hm : m ≤ 9223372036854775807) :
    Calls Tryd.prog 17 #[.agg #[.bool neg, .slice a n ca, .slice b m cb], .int .i64 L] w fun e w' => e = .returned (.int .i64 (-1)) ∧ w.Since w.heap.size w' := by
  have sA : w.Since w.heap.size (w.alloc (.cells #[.bool neg, .slice a n ca, .slice b m cb] 28)) := (World.Since.refl _ _).alloc (Nat.le_refl _) _
  by_cases h : L < n
  · go_enter Tryd.func17, Tryd.ntmps17
    go_wp2_with fail
    refine (szU_no a n ca L _ hL h hn1).mono ?_
    rintro e w1 ⟨rfl, rfl⟩
    go_wp2
    go_ret
    exact ⟨rfl, sA⟩
  · go_enter Tryd.func17, Tryd.ntmps17
    go_wp2_with fail
    refine (szU_ok a n ca L _ hL (by omega)).mono ?_
    rintro e w1 ⟨rfl, rfl⟩
    go_wp2_with fail
    refine (szU_no b m cb (L - n) _ (by omega) (by omega) hm).mono ?_
    rintro e w1 ⟨rfl, rfl⟩
    go_wp2
    go_ret
    exact ⟨rfl, sA⟩

set_option maxHeartbeats 1600000 in
set_option maxRecDepth 100000 in
theorem toRat_any (neg : Bool) (a b : Option Addr) (ba oa n ca bb ob m cb : Nat) (X Y : Nat → Nat) (w : World) (hn : n ≤ 1048576) (hm : m ≤ 1048576) (hX : Limbs w a ba oa n X) (hY : Limbs w b bb ob m Y) :
    Calls Tryd.prog 19 #[.agg #[.bool neg, .slice a n ca, .slice b m cb]] w fun e w' => ∃ g h, e = .returned (.agg #[.bool neg, .slice (some ⟨g, 0, none⟩) n n, .slice (some ⟨h, 0, none⟩) m m]) ∧ w.Since w.heap.size w' ∧ w.heap.size ≤ g ∧ g < h ∧
      h < w'.heap.size ∧ Limbs w' (some ⟨g, 0, none⟩) g 0 n X ∧ Limbs w' (some ⟨h, 0, none⟩) h 0 m Y ∧ (∀ o, w'.frozen? ⟨g, o, none⟩ = false) ∧ (∀ o, w'.frozen? ⟨h, o, none⟩ = false) := by
  have sA : w.Since w.heap.size (((w.alloc (.cells #[.bool neg, .slice a n ca, .slice b m cb] 28)).alloc (.cells #[.bool false, .slice none 0 0, .slice none 0 0] 31)).alloc (.cells #[.bool neg, .slice none 0 0, .slice none 0 0] 31)) :=
    (((World.Since.refl _ _).alloc (Nat.le_refl _) _).alloc (by simp) _).alloc (by simp; omega) _
  have zA : (((w.alloc (.cells #[.bool neg, .slice a n ca, .slice b m cb] 28)).alloc (.cells #[.bool false, .slice none 0 0, .slice none 0 0] 31)).alloc (.cells #[.bool neg, .slice none 0 0, .slice none 0 0] 31)).heap.size = w.heap.size + 1 + 1 + 1 := by simp
  have bA : Box3 (((w.alloc (.cells #[.bool neg, .slice a n ca, .slice b m cb] 28)).alloc (.cells #[.bool false, .slice none 0 0, .slice none 0 0] 31)).alloc (.cells #[.bool neg, .slice none 0 0, .slice none 0 0] 31)) w.heap.size (.bool neg) (.slice a n ca) (.slice b m cb) := ((Box3.new w _ _ _ _).keep ((World.Since.refl _ _).alloc (Nat.le_refl _) _)).keep ((World.Since.refl _ _).alloc (Nat.le_refl _) _)
  have rA : Box3 (((w.alloc (.cells #[.bool neg, .slice a n ca, .slice b m cb] 28)).alloc (.cells #[.bool false, .slice none 0 0, .slice none 0 0] 31)).alloc (.cells #[.bool neg, .slice none 0 0, .slice none 0 0] 31)) (w.heap.size + 1) (.bool false) (.slice none 0 0) (.slice none 0 0) := by
    have := (Box3.new (w.alloc (.cells #[.bool neg, .slice a n ca, .slice b m cb] 28)) (.bool false) (.slice none 0 0) (.slice none 0 0) 31).keep ((World.Since.refl _ _).alloc (Nat.le_refl _) (.cells #[.bool neg, .slice none 0 0, .slice none 0 0] 31))
    simpa using this
  have oA : Box3 (((w.alloc (.cells #[.bool neg, .slice a n ca, .slice b m cb] 28)).alloc (.cells #[.bool false, .slice none 0 0, .slice none 0 0] 31)).alloc (.cells #[.bool neg, .slice none 0 0, .slice none 0 0] 31)) (w.heap.size + 1 + 1) (.bool neg) (.slice none 0 0) (.slice none 0 0) := by
    have := Box3.new ((w.alloc (.cells #[.bool neg, .slice a n ca, .slice b m cb] 28)).alloc (.cells #[.bool false, .slice none 0 0, .slice none 0 0] 31)) (.bool neg) (.slice none 0 0) (.slice none 0 0) 31
    simpa using this
  go_enter Tryd.func19, Tryd.ntmps19
  go_wp2_with fail
  generalize (((w.alloc (.cells #[.bool neg, .slice a n ca, .slice b m cb] 28)).alloc (.cells #[.bool false, .slice none 0 0, .slice none 0 0] 31)).alloc (.cells #[.bool neg, .slice none 0 0, .slice none 0 0] 31)) = wA at *
  refine (to_any a ba oa n ca X wA hn (hX.keep sA)).mono ?_
  rintro e w1 ⟨rfl, s1, r1⟩
  have z1 := s1.size
  have b1 := bA.keep s1
  have q1 := rA.keep s1
  have o1 := oA.keep s1
  have S1 : w.Since w.heap.size w1 := sA.trans (sinceMono s1 sA.size)
  have L1 := limbs_row r1
  have F1 : ∀ o, w1.frozen? ⟨wA.heap.size, o, none⟩ = false := fun o => r1.frozen o
  have t1 : wA.heap.size < w1.heap.size := r1.lt
  rw [zA] at L1 F1 t1
  clear r1 bA rA oA
  have k1 := b1.c2
  have k2 := o1.c1
  have k3 := o1.f 1
  go_wp2_with fail
  clear k1 k2 k3
  have M2 : Marked w1 (w1.setCell ⟨w.heap.size + 1 + 1, 1, none⟩ (.slice (some ⟨w.heap.size + 1 + 1 + 1, 0, none⟩) n n)) (w.heap.size + 1 + 1) := (Marked.refl w1 _).setCell _ _
  have o2 := o1.set1 (.slice (some ⟨w.heap.size + 1 + 1 + 1, 0, none⟩) n n)
  have q2 := q1.marked M2 (by omega)
  have S2 : w.Since w.heap.size (w1.setCell ⟨w.heap.size + 1 + 1, 1, none⟩ (.slice (some ⟨w.heap.size + 1 + 1 + 1, 0, none⟩) n n)) := S1.trans (M2.since (by omega))
  have L2 := L1.marked M2 (fun _ => by omega)
  have F2 : ∀ o, (w1.setCell ⟨w.heap.size + 1 + 1, 1, none⟩ (.slice (some ⟨w.heap.size + 1 + 1 + 1, 0, none⟩) n n)).frozen? ⟨w.heap.size + 1 + 1 + 1, o, none⟩ = false := fun o => by rw [M2.frozenO (a := ⟨w.heap.size + 1 + 1 + 1, o, none⟩) (by show w.heap.size + 1 + 1 + 1 ≠ _; omega)]; exact F1 o
  have z2 := M2.size
  generalize w1.setCell ⟨w.heap.size + 1 + 1, 1, none⟩ (.slice (some ⟨w.heap.size + 1 + 1 + 1, 0, none⟩) n n) = w2 at *
  refine (to_any b bb ob m cb Y w2 hm (hY.keep S2)).mono ?_
  rintro e w3 ⟨rfl, s3, r3⟩
  have z3 := s3.size
  have q3 := q2.keep s3
  have o3 := o2.keep s3
  have S3 : w.Since w.heap.size w3 := S2.trans (sinceMono s3 S2.size)
  have L3 := L2.keep s3
  have F3 : ∀ o, w3.frozen? ⟨w.heap.size + 1 + 1 + 1, o, none⟩ = false := fun o => by rw [s3.frozen (a := ⟨w.heap.size + 1 + 1 + 1, o, none⟩) (by show w.heap.size + 1 + 1 + 1 < _; omega)]; exact F2 o
  have K3 := limbs_row r3
  have G3 : ∀ o, w3.frozen? ⟨w2.heap.size, o, none⟩ = false := fun o => r3.frozen o
  have t3 : w2.heap.size < w3.heap.size := r3.lt
  clear r3 L1 L2 F1 F2 b1 q1 o1 q2 o2
  have q30 := q3.c0
  have q31 := q3.c1
  have q32 := q3.c2
  have q3f0 := q3.f 0
  have q3f1 := q3.f 1
  have q3f2 := q3.f 2
  have o30 := o3.c0
  have o31 := o3.c1
  have o32 := o3.c2
  have o3f2 := o3.f 2
  have M4 : Marked w3 (w3.setCell ⟨w.heap.size + 1 + 1, 2, none⟩ (.slice (some ⟨w1.heap.size, 0, none⟩) m m)) (w.heap.size + 1 + 1) := (Marked.refl w3 _).setCell _ _
  rw [z2] at K3 G3 t3
  go_wp2
  have q4 := (((q3.marked M4 (by omega)).set0 (.bool neg)).set1 (.slice (some ⟨w.heap.size + 1 + 1 + 1, 0, none⟩) n n)).set2 (.slice (some ⟨w1.heap.size, 0, none⟩) m m)
  refine bodyPost_ret (results_box3 rfl _ _ _ _ _ _ rfl q4) rfl ?_
  have M5 : Marked (w3.setCell ⟨w.heap.size + 1 + 1, 2, none⟩ (.slice (some ⟨w1.heap.size, 0, none⟩) m m)) _ (w.heap.size + 1) := (((Marked.refl _ _).setCell 0 (.bool neg)).setCell 1 (.slice (some ⟨w.heap.size + 1 + 1 + 1, 0, none⟩) n n)).setCell 2 (.slice (some ⟨w1.heap.size, 0, none⟩) m m)
  refine ⟨w.heap.size + 1 + 1 + 1, w1.heap.size, rfl, (S3.trans (M4.since (by omega))).trans (M5.since (by omega)), by omega, by omega, by rw [M5.size, M4.size]; omega,
    (L3.marked M4 (fun _ => by omega)).marked M5 (fun _ => by omega), (K3.marked M4 (fun _ => by omega)).marked M5 (fun _ => by omega), fun o => ?_, fun o => ?_⟩
  · rw [M5.frozenO (a := ⟨w.heap.size + 1 + 1 + 1, o, none⟩) (by show w.heap.size + 1 + 1 + 1 ≠ _; omega), M4.frozenO (a := ⟨w.heap.size + 1 + 1 + 1, o, none⟩) (by show w.heap.size + 1 + 1 + 1 ≠ _; omega)]; exact F3 o
  · rw [M5.frozenO (a := ⟨w1.heap.size, o, none⟩) (by show w1.heap.size ≠ _; omega), M4.frozenO (a := ⟨w1.heap.size, o, none⟩) (by show w1.heap.size ≠ _; omega)]; exact G3 o

set_option maxHeartbeats 800000 in
set_option maxRecDepth 100000 in
/-- eqRat at two Rats of the same fields. -/
theorem eqRat_true (neg : Bool) (a a' b b' : Option Addr) (ba oa ba' oa' n ca ca' bb ob bb' ob' m cb cb' : Nat) (X Y : Nat → Nat) (w : World) (hn : n ≤ 4194304) (hm : m ≤ 4194304)
    (hX : Limbs w a ba oa n X) (hX' : Limbs w a' ba' oa' n X) (hY : Limbs w b bb ob m Y) (hY' : Limbs w b' bb' ob' m Y) :
    Calls Tryd.prog 21 #[.agg #[.bool neg, .slice a n ca, .slice b m cb], .agg #[.bool neg, .slice a' n ca', .slice b' m cb']] w fun e w' => e = .returned (.bool true) ∧ w.Since w.heap.size w' := by
  have sA : w.Since w.heap.size ((w.alloc (.cells #[.bool neg, .slice a n ca, .slice b m cb] 31)).alloc (.cells #[.bool neg, .slice a' n ca', .slice b' m cb'] 31)) := ((World.Since.refl _ _).alloc (Nat.le_refl _) _).alloc (by simp) _
  have bA : Box3 ((w.alloc (.cells #[.bool neg, .slice a n ca, .slice b m cb] 31)).alloc (.cells #[.bool neg, .slice a' n ca', .slice b' m cb'] 31)) w.heap.size (.bool neg) (.slice a n ca) (.slice b m cb) := (Box3.new w _ _ _ _).keep ((World.Since.refl _ _).alloc (Nat.le_refl _) _)
  have cA : Box3 ((w.alloc (.cells #[.bool neg, .slice a n ca, .slice b m cb] 31)).alloc (.cells #[.bool neg, .slice a' n ca', .slice b' m cb'] 31)) (w.heap.size + 1) (.bool neg) (.slice a' n ca') (.slice b' m cb') := by
    have := Box3.new (w.alloc (.cells #[.bool neg, .slice a n ca, .slice b m cb] 31)) (.bool neg) (.slice a' n ca') (.slice b' m cb') 31
    simpa using this
  go_enter Tryd.func21, Tryd.ntmps21
  go_wp2_with fail
  generalize ((w.alloc (.cells #[.bool neg, .slice a n ca, .slice b m cb] 31)).alloc (.cells #[.bool neg, .slice a' n ca', .slice b' m cb'] 31)) = wA at *
  refine (eq_true a a' ba oa ba' oa' n ca ca' X wA hn (hX.keep sA) (hX'.keep sA)).mono ?_
  rintro e w1 ⟨rfl, s1⟩
  have S1 := s1.since wA.heap.size
  have k1 := (bA.keep S1).c2
  have k2 := (cA.keep S1).c2
  go_wp2_with fail
  refine (eq_true b b' bb ob bb' ob' m cb cb' Y w1 hm ((hY.keep sA).keep S1) ((hY'.keep sA).keep S1)).mono ?_
  rintro e w2 ⟨rfl, s2⟩
  go_wp2
  go_ret
  exact ⟨rfl, (sA.trans (sinceMono S1 sA.size)).trans (s2.since _)⟩

end Go.Proofs.YtklkohdcilnchabDoor

namespace Go.Proofs.YtklkohdcilnchabDoor
open Go.RowKit

theorem Tab.keep' {w w' : World} (h : Tab w) (hw : 1 < w.heap.size) (s : w.Since w.heap.size w') : Tab w' := fun q hq => by rw [s.cell (a := ⟨1, q, none⟩) hw]; exact h q hq

set_option maxHeartbeats 1600000 in
set_option maxRecDepth 100000 in
theorem ratOk_law (neg : Bool) (a b : Option Addr) (ba oa n ca bb ob m cb : Nat) (X Y : Nat → Nat) (w : World) (hn : n + m ≤ 1048576) (hX : Limbs w a ba oa n X) (hY : Limbs w b bb ob m Y)
    (hXl : ∀ j, j < n → X j < 4294967296) (hYl : ∀ j, j < m → Y j < 4294967296) (hw : 1 < w.heap.size) (hT : Tab w) :
    Calls Tryd.prog 4 #[.agg #[.bool neg, .slice a n ca, .slice b m cb]] w fun e w' => e = .returned (.bool true) ∧ w.Since w.heap.size w' := by
  have sA : w.Since w.heap.size (w.alloc (.cells #[.bool neg, .slice a n ca, .slice b m cb] 28)) := (World.Since.refl _ _).alloc (Nat.le_refl _) _
  have bA := Box3.new w (.bool neg) (.slice a n ca) (.slice b m cb) 28
  go_enter Tryd.func4, Tryd.ntmps4
  go_wp2_with fail
  generalize w.alloc (.cells #[.bool neg, .slice a n ca, .slice b m cb] 28) = wA at *
  refine (szRat_ok neg a b n ca m cb 1048576 wA (by omega) hn).mono ?_
  rintro e w1 ⟨rfl, s1⟩
  have S1 : w.Since w.heap.size w1 := sA.trans (sinceMono s1 sA.size)
  have B1 := bA.keep s1
  clear bA sA s1
  have k0 := B1.c0
  have k1 := B1.c1
  have k2 := B1.c2
  have hl : ¬ (((1048576 - n - m : Nat) : Int) < 0) := by omega
  -- w0 := spec.RatOk(toRat(aR))
  go_wp2_with fail
  refine (toRat_any neg a b ba oa n ca bb ob m cb X Y w1 (by omega) (by omega) (hX.keep S1) (hY.keep S1)).mono ?_
  rintro e w2 ⟨g2, h2, rfl, s2, u1, u2, u3, LX2, LY2, -, -⟩
  have S2 : w.Since w.heap.size w2 := S1.trans (sinceMono s2 S1.size)
  have B2 := B1.keep s2
  clear k0 k1 k2 B1 s2 S1
  go_wp2_with fail
  refine (specRatOk_any neg _ _ g2 0 n n h2 0 m m X Y w2 (by omega) (by omega) LX2 LY2 hXl hYl).mono ?_
  rintro e w3 ⟨rfl, s3⟩
  have S3 : w.Since w.heap.size w3 := S2.trans (sinceMono s3 S2.size)
  have B3 := B2.keep s3
  clear LX2 LY2 B2 s3 S2 u1 u2 u3
  have k0 := B3.c0
  have k1 := B3.c1
  have k2 := B3.c2
  -- x0 := toRat(aR); g0 := impl.RatOk(x0)
  go_wp2_with fail
  refine (toRat_any neg a b ba oa n ca bb ob m cb X Y w3 (by omega) (by omega) (hX.keep S3) (hY.keep S3)).mono ?_
  rintro e w4 ⟨g4, h4, rfl, s4, u1, u2, u3, LX4, LY4, -, -⟩
  have S4 : w.Since w.heap.size w4 := S3.trans (sinceMono s4 S3.size)
  have B4 := B3.keep s4
  clear k0 k1 k2 B3 s4
  go_wp2_with fail
  have z4 : w.heap.size < w4.heap.size := B4.lt
  have t4 : w4.Since w4.heap.size (w4.alloc (.cells #[.bool neg, .slice (some ⟨g4, 0, none⟩) n n, .slice (some ⟨h4, 0, none⟩) m m] 31)) := (World.Since.refl _ _).alloc (Nat.le_refl _) _
  have C5 := Box3.new w4 (.bool neg) (.slice (some ⟨g4, 0, none⟩) n n) (.slice (some ⟨h4, 0, none⟩) m m) 31
  generalize w4.alloc (.cells #[.bool neg, .slice (some ⟨g4, 0, none⟩) n n, .slice (some ⟨h4, 0, none⟩) m m] 31) = w5 at *
  have S5 : w.Since w.heap.size w5 := S4.trans (sinceMono t4 S4.size)
  have B5 := B4.keep t4
  have LX5 := LX4.keep t4
  have LY5 := LY4.keep t4
  clear t4 B4 LX4 LY4
  refine (implRatOk_any neg _ _ g4 0 n n h4 0 m m X Y w5 (Nat.lt_of_lt_of_le hw S5.size) (by omega) (by omega) (Nat.le_refl _) (Nat.le_refl _) (fun h => by cases h) (fun h => by cases h) LX5 LY5 hXl hYl (hT.keep' hw S5)).mono ?_
  rintro e w6 ⟨rfl, s6⟩
  have S6 : w.Since w.heap.size w6 := S5.trans (sinceMono s6 S5.size)
  have B6 := B5.keep s6
  have C6 := C5.keep s6
  have LX6 := LX5.keep s6
  have LY6 := LY5.keep s6
  clear s6 B5 C5 LX5 LY5 S5
  generalize ratOkB neg X n Y m = ok
  have k0 := B6.c0
  have k1 := B6.c1
  have k2 := B6.c2
  have j0 := C6.c0
  have j1 := C6.c1
  have j2 := C6.c2
  go_wp2_with fail
  have S7 : w.Since w.heap.size w6.drew := ⟨S6.os, S6.tape, S6.output, S6.size, S6.block⟩
  have LX7 : Limbs w6.drew (some ⟨g4, 0, none⟩) g4 0 n X := LX6
  have LY7 : Limbs w6.drew (some ⟨h4, 0, none⟩) h4 0 m Y := LY6
  have B7 : Box3 w6.drew w.heap.size (.bool neg) (.slice a n ca) (.slice b m cb) := ⟨k0, k1, k2, B6.f⟩
  have C7 : Box3 w6.drew w4.heap.size (.bool neg) (.slice (some ⟨g4, 0, none⟩) n n) (.slice (some ⟨h4, 0, none⟩) m m) := ⟨j0, j1, j2, C6.f⟩
  have J1 := toRat_any neg a b ba oa n ca bb ob m cb X Y w6.drew (by omega) (by omega) (hX.keep S7) (hY.keep S7)
  clear B6 C6 LX6 LY6 S6 hT hl hX hY hXl hYl
  go_region_held3 (fun w' => w'.cell? ⟨w.heap.size, 0, none⟩ = some (.bool neg) ∧ w'.cell? ⟨w.heap.size, 1, none⟩ = some (.slice a n ca) ∧ w'.cell? ⟨w.heap.size, 2, none⟩ = some (.slice b m cb) ∧ w'.cell? ⟨w4.heap.size, 0, none⟩ = some (.bool neg) ∧ w'.cell? ⟨w4.heap.size, 1, none⟩ = some (.slice (some ⟨g4, 0, none⟩) n n) ∧ w'.cell? ⟨w4.heap.size, 2, none⟩ = some (.slice (some ⟨h4, 0, none⟩) m m)) (go_keep)
    (first
      | (go_at_call 19
         with_reducible refine J1.mono ?_
         rintro e w8 ⟨g8, h8, rfl, s8, v1, v2, v3, LX8, LY8, -, -⟩
         have S8 : w.Since w.heap.size w8 := S7.trans (sinceMono s8 S7.size)
         have J2 := eqRat_true neg _ _ _ _ g4 0 g8 0 n n n h4 0 h8 0 m m m X Y w8 (by omega) (by omega) (LX7.keep s8) LX8 (LY7.keep s8) LY8
         have B8 := B7.keep s8
         have C8 := C7.keep s8
         have i0 := B8.c0
         have i1 := B8.c1
         have i2 := B8.c2
         have l0 := C8.c0
         have l1 := C8.c1
         have l2 := C8.c2)
      | (go_at_call 21
         with_reducible refine J2.mono ?_
         rintro e w9 ⟨rfl, s9⟩
         have S9 : w.Since w.heap.size w9 := S8.trans (sinceMono s9 S8.size)
         have B9 := B8.keep s9
         have C9 := C8.keep s9
         have i0' := B9.c0
         have i1' := B9.c1
         have i2' := B9.c2
         have l0' := C9.c0
         have l1' := C9.c1
         have l2' := C9.c2))
  all_goals go_wp2
  all_goals go_ret
  all_goals exact ⟨rfl, S9⟩

set_option maxHeartbeats 800000 in
set_option maxRecDepth 100000 in
theorem ratOk_long (neg : Bool) (a b : Option Addr) (n ca m cb : Nat) (w : World) (hn : 1048576 < n + m) (h1 : n ≤ 9223372036854775807) (h2 : m ≤ 9223372036854775807) :
    Calls Tryd.prog 4 #[.agg #[.bool neg, .slice a n ca, .slice b m cb]] w fun e w' => e = .returned (.bool true) ∧ w.Since w.heap.size w' := by
  have sA : w.Since w.heap.size (w.alloc (.cells #[.bool neg, .slice a n ca, .slice b m cb] 28)) := (World.Since.refl _ _).alloc (Nat.le_refl _) _
  go_enter Tryd.func4, Tryd.ntmps4
  go_wp2_with fail
  refine (szRat_no neg a b n ca m cb 1048576 _ (by omega) hn h1 h2).mono ?_
  rintro e w1 ⟨rfl, s1⟩
  go_wp2
  go_ret
  exact ⟨rfl, sA.trans (sinceMono s1 sA.size)⟩

end Go.Proofs.YtklkohdcilnchabDoor
