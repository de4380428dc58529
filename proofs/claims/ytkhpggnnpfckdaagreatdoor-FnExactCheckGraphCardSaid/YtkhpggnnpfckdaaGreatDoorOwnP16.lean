import Derived.Test.YtkhpggnnpfckdaaGreatDoorOwnP15
import Derived.Test.YtkhpggnnpfckdaaGreatDoorOwnP13
import Derived.Test.YtkhpggnnpfckdaaGreatDoorOwnP10
import Derived.Test.YtkhpggnnpfckdaaGreatDoorOwnP3
import Derived.Test.YtkhpggnnpfckdaaGreatDoorOwnP9
import Derived.Test.YtkhpggnnpfckdaaGreatDoorOwnP8
import Derived.Test.YtkhpggnnpfckdaaGreatDoorOwnP4
namespace Go.Proofs.YtkhpggnnpfckdaaGreatDoor
open Go.RowKit

theorem kinds_under : Tryz.prog.underlying 88 = some (.map 9 134) := by kernel_rfl
theorem string_under : Tryz.prog.underlying 9 = some .string := by kernel_rfl

set_option maxHeartbeats 1600000 in
set_option maxRecDepth 100000 in
theorem operatorOf1 (m : Nat) (v1 v2 v3 v4 : Int) (a1 : Option Addr) (nv k1 : Nat) (w : World) (K : Kinds w m) : Calls Tryz.prog 60 #[.map (some m), .agg #[.int .i64 1, .int .i64 v1, .int .i64 v2, .int .i64 v3, .int .i64 v4, .slice a1 nv k1]] w fun e w' => e = .returned (.tuple #[.iface 133 (.agg #[.int .i64 1, .int .i64 v1, .int .i64 v2, .int .i64 v3, .int .i64 v4, .slice a1 nv k1]), .bool true]) ∧ w.Since w.heap.size w' := by
  have sA : w.Since w.heap.size (w.alloc (.cells #[.int .i64 1, .int .i64 v1, .int .i64 v2, .int .i64 v3, .int .i64 v4, .slice a1 nv k1] 84)) := (World.Since.refl _ _).alloc (Nat.le_refl _) _
  have bA := Box6.new w (.int .i64 1) (.int .i64 v1) (.int .i64 v2) (.int .i64 v3) (.int .i64 v4) (.slice a1 nv k1) 84
  go_enter Tryz.func60, Tryz.ntmps60
  go_wp2_with fail
  generalize w.alloc (.cells #[.int .i64 1, .int .i64 v1, .int .i64 v2, .int .i64 v3, .int .i64 v4, .slice a1 nv k1] 84) = wA at *
  refine (wordOf1 wA).mono ?_
  rintro e w1 ⟨rfl, s1⟩
  have S1 := sA.trans (sinceMono s1 sA.size)
  have B1 := bA.keep s1
  have hl := run_look_has (s := ⟨#[100, 101, 110, 115, 101]⟩) kinds_under string_under (K.keep S1) (i := 0) (val := .func (.func 87) #[] #[]) (by kernel_rfl)
  have q0 := B1.c0
  have q1 := B1.c1
  have q2 := B1.c2
  have q3 := B1.c3
  have q4 := B1.c4
  have q5 := B1.c5
  clear bA
  go_wp2_with fail
  refine (become1 1 v1 v2 v3 v4 a1 nv k1 w1).mono ?_
  rintro e w2 ⟨rfl, s2⟩
  go_wp2
  go_ret2
  exact ⟨rfl, S1.trans (sinceMono s2 S1.size)⟩

set_option maxHeartbeats 1600000 in
set_option maxRecDepth 100000 in
theorem operatorOf2 (m : Nat) (v1 v2 v3 v4 : Int) (a1 : Option Addr) (nv k1 : Nat) (w : World) (K : Kinds w m) : Calls Tryz.prog 60 #[.map (some m), .agg #[.int .i64 2, .int .i64 v1, .int .i64 v2, .int .i64 v3, .int .i64 v4, .slice a1 nv k1]] w fun e w' => e = .returned (.tuple #[.iface 135 (.agg #[.int .i64 2, .int .i64 v1, .int .i64 v2, .int .i64 v3, .int .i64 v4, .slice a1 nv k1]), .bool true]) ∧ w.Since w.heap.size w' := by
  have sA : w.Since w.heap.size (w.alloc (.cells #[.int .i64 2, .int .i64 v1, .int .i64 v2, .int .i64 v3, .int .i64 v4, .slice a1 nv k1] 84)) := (World.Since.refl _ _).alloc (Nat.le_refl _) _
  have bA := Box6.new w (.int .i64 2) (.int .i64 v1) (.int .i64 v2) (.int .i64 v3) (.int .i64 v4) (.slice a1 nv k1) 84
  go_enter Tryz.func60, Tryz.ntmps60
  go_wp2_with fail
  generalize w.alloc (.cells #[.int .i64 2, .int .i64 v1, .int .i64 v2, .int .i64 v3, .int .i64 v4, .slice a1 nv k1] 84) = wA at *
  refine (wordOf2 wA).mono ?_
  rintro e w1 ⟨rfl, s1⟩
  have S1 := sA.trans (sinceMono s1 sA.size)
  have B1 := bA.keep s1
  have hl := run_look_has (s := ⟨#[114, 101, 108, 117]⟩) kinds_under string_under (K.keep S1) (i := 1) (val := .func (.func 88) #[] #[]) (by kernel_rfl)
  have q0 := B1.c0
  have q1 := B1.c1
  have q2 := B1.c2
  have q3 := B1.c3
  have q4 := B1.c4
  have q5 := B1.c5
  clear bA
  go_wp2_with fail
  refine (become2 2 v1 v2 v3 v4 a1 nv k1 w1).mono ?_
  rintro e w2 ⟨rfl, s2⟩
  go_wp2
  go_ret2
  exact ⟨rfl, S1.trans (sinceMono s2 S1.size)⟩

set_option maxHeartbeats 1600000 in
set_option maxRecDepth 100000 in
theorem operatorOf3 (m : Nat) (v1 v2 v3 v4 : Int) (a1 : Option Addr) (nv k1 : Nat) (w : World) (K : Kinds w m) : Calls Tryz.prog 60 #[.map (some m), .agg #[.int .i64 3, .int .i64 v1, .int .i64 v2, .int .i64 v3, .int .i64 v4, .slice a1 nv k1]] w fun e w' => e = .returned (.tuple #[.iface 136 (.agg #[.int .i64 3, .int .i64 v1, .int .i64 v2, .int .i64 v3, .int .i64 v4, .slice a1 nv k1]), .bool true]) ∧ w.Since w.heap.size w' := by
  have sA : w.Since w.heap.size (w.alloc (.cells #[.int .i64 3, .int .i64 v1, .int .i64 v2, .int .i64 v3, .int .i64 v4, .slice a1 nv k1] 84)) := (World.Since.refl _ _).alloc (Nat.le_refl _) _
  have bA := Box6.new w (.int .i64 3) (.int .i64 v1) (.int .i64 v2) (.int .i64 v3) (.int .i64 v4) (.slice a1 nv k1) 84
  go_enter Tryz.func60, Tryz.ntmps60
  go_wp2_with fail
  generalize w.alloc (.cells #[.int .i64 3, .int .i64 v1, .int .i64 v2, .int .i64 v3, .int .i64 v4, .slice a1 nv k1] 84) = wA at *
  refine (wordOf3 wA).mono ?_
  rintro e w1 ⟨rfl, s1⟩
  have S1 := sA.trans (sinceMono s1 sA.size)
  have B1 := bA.keep s1
  have hl := run_look_has (s := ⟨#[108, 101, 97, 107, 121]⟩) kinds_under string_under (K.keep S1) (i := 2) (val := .func (.func 89) #[] #[]) (by kernel_rfl)
  have q0 := B1.c0
  have q1 := B1.c1
  have q2 := B1.c2
  have q3 := B1.c3
  have q4 := B1.c4
  have q5 := B1.c5
  clear bA
  go_wp2_with fail
  refine (become3 3 v1 v2 v3 v4 a1 nv k1 w1).mono ?_
  rintro e w2 ⟨rfl, s2⟩
  go_wp2
  go_ret2
  exact ⟨rfl, S1.trans (sinceMono s2 S1.size)⟩

set_option maxHeartbeats 1600000 in
set_option maxRecDepth 100000 in
theorem operatorOf4 (m : Nat) (v1 v2 v3 v4 : Int) (a1 : Option Addr) (nv k1 : Nat) (w : World) (K : Kinds w m) : Calls Tryz.prog 60 #[.map (some m), .agg #[.int .i64 4, .int .i64 v1, .int .i64 v2, .int .i64 v3, .int .i64 v4, .slice a1 nv k1]] w fun e w' => e = .returned (.tuple #[.iface 137 (.agg #[.int .i64 4, .int .i64 v1, .int .i64 v2, .int .i64 v3, .int .i64 v4, .slice a1 nv k1]), .bool true]) ∧ w.Since w.heap.size w' := by
  have sA : w.Since w.heap.size (w.alloc (.cells #[.int .i64 4, .int .i64 v1, .int .i64 v2, .int .i64 v3, .int .i64 v4, .slice a1 nv k1] 84)) := (World.Since.refl _ _).alloc (Nat.le_refl _) _
  have bA := Box6.new w (.int .i64 4) (.int .i64 v1) (.int .i64 v2) (.int .i64 v3) (.int .i64 v4) (.slice a1 nv k1) 84
  go_enter Tryz.func60, Tryz.ntmps60
  go_wp2_with fail
  generalize w.alloc (.cells #[.int .i64 4, .int .i64 v1, .int .i64 v2, .int .i64 v3, .int .i64 v4, .slice a1 nv k1] 84) = wA at *
  refine (wordOf4 wA).mono ?_
  rintro e w1 ⟨rfl, s1⟩
  have S1 := sA.trans (sinceMono s1 sA.size)
  have B1 := bA.keep s1
  have hl := run_look_has (s := ⟨#[97, 100, 100]⟩) kinds_under string_under (K.keep S1) (i := 3) (val := .func (.func 90) #[] #[]) (by kernel_rfl)
  have q0 := B1.c0
  have q1 := B1.c1
  have q2 := B1.c2
  have q3 := B1.c3
  have q4 := B1.c4
  have q5 := B1.c5
  clear bA
  go_wp2_with fail
  refine (become4 4 v1 v2 v3 v4 a1 nv k1 w1).mono ?_
  rintro e w2 ⟨rfl, s2⟩
  go_wp2
  go_ret2
  exact ⟨rfl, S1.trans (sinceMono s2 S1.size)⟩

set_option maxHeartbeats 1600000 in
set_option maxRecDepth 100000 in
theorem operatorOf5 (m : Nat) (v1 v2 v3 v4 : Int) (a1 : Option Addr) (nv k1 : Nat) (w : World) (K : Kinds w m) : Calls Tryz.prog 60 #[.map (some m), .agg #[.int .i64 5, .int .i64 v1, .int .i64 v2, .int .i64 v3, .int .i64 v4, .slice a1 nv k1]] w fun e w' => e = .returned (.tuple #[.iface 138 (.agg #[.int .i64 5, .int .i64 v1, .int .i64 v2, .int .i64 v3, .int .i64 v4, .slice a1 nv k1]), .bool true]) ∧ w.Since w.heap.size w' := by
  have sA : w.Since w.heap.size (w.alloc (.cells #[.int .i64 5, .int .i64 v1, .int .i64 v2, .int .i64 v3, .int .i64 v4, .slice a1 nv k1] 84)) := (World.Since.refl _ _).alloc (Nat.le_refl _) _
  have bA := Box6.new w (.int .i64 5) (.int .i64 v1) (.int .i64 v2) (.int .i64 v3) (.int .i64 v4) (.slice a1 nv k1) 84
  go_enter Tryz.func60, Tryz.ntmps60
  go_wp2_with fail
  generalize w.alloc (.cells #[.int .i64 5, .int .i64 v1, .int .i64 v2, .int .i64 v3, .int .i64 v4, .slice a1 nv k1] 84) = wA at *
  refine (wordOf5 wA).mono ?_
  rintro e w1 ⟨rfl, s1⟩
  have S1 := sA.trans (sinceMono s1 sA.size)
  have B1 := bA.keep s1
  have hl := run_look_has (s := ⟨#[109, 97, 120, 112, 111, 111, 108]⟩) kinds_under string_under (K.keep S1) (i := 4) (val := .func (.func 91) #[] #[]) (by kernel_rfl)
  have q0 := B1.c0
  have q1 := B1.c1
  have q2 := B1.c2
  have q3 := B1.c3
  have q4 := B1.c4
  have q5 := B1.c5
  clear bA
  go_wp2_with fail
  refine (become5 5 v1 v2 v3 v4 a1 nv k1 w1).mono ?_
  rintro e w2 ⟨rfl, s2⟩
  go_wp2
  go_ret2
  exact ⟨rfl, S1.trans (sinceMono s2 S1.size)⟩

set_option maxHeartbeats 1600000 in
set_option maxRecDepth 100000 in
theorem operatorOf6 (m : Nat) (v1 v2 v3 v4 : Int) (a1 : Option Addr) (nv k1 : Nat) (w : World) (K : Kinds w m) : Calls Tryz.prog 60 #[.map (some m), .agg #[.int .i64 6, .int .i64 v1, .int .i64 v2, .int .i64 v3, .int .i64 v4, .slice a1 nv k1]] w fun e w' => e = .returned (.tuple #[.iface 139 (.agg #[.int .i64 6, .int .i64 v1, .int .i64 v2, .int .i64 v3, .int .i64 v4, .slice a1 nv k1]), .bool true]) ∧ w.Since w.heap.size w' := by
  have sA : w.Since w.heap.size (w.alloc (.cells #[.int .i64 6, .int .i64 v1, .int .i64 v2, .int .i64 v3, .int .i64 v4, .slice a1 nv k1] 84)) := (World.Since.refl _ _).alloc (Nat.le_refl _) _
  have bA := Box6.new w (.int .i64 6) (.int .i64 v1) (.int .i64 v2) (.int .i64 v3) (.int .i64 v4) (.slice a1 nv k1) 84
  go_enter Tryz.func60, Tryz.ntmps60
  go_wp2_with fail
  generalize w.alloc (.cells #[.int .i64 6, .int .i64 v1, .int .i64 v2, .int .i64 v3, .int .i64 v4, .slice a1 nv k1] 84) = wA at *
  refine (wordOf6 wA).mono ?_
  rintro e w1 ⟨rfl, s1⟩
  have S1 := sA.trans (sinceMono s1 sA.size)
  have B1 := bA.keep s1
  have hl := run_look_has (s := ⟨#[99, 111, 110, 118]⟩) kinds_under string_under (K.keep S1) (i := 5) (val := .func (.func 92) #[] #[]) (by kernel_rfl)
  have q0 := B1.c0
  have q1 := B1.c1
  have q2 := B1.c2
  have q3 := B1.c3
  have q4 := B1.c4
  have q5 := B1.c5
  clear bA
  go_wp2_with fail
  refine (become6 6 v1 v2 v3 v4 a1 nv k1 w1).mono ?_
  rintro e w2 ⟨rfl, s2⟩
  go_wp2
  go_ret2
  exact ⟨rfl, S1.trans (sinceMono s2 S1.size)⟩

set_option maxHeartbeats 1600000 in
set_option maxRecDepth 100000 in
theorem operatorOf7 (m : Nat) (v1 v2 v3 v4 : Int) (a1 : Option Addr) (nv k1 : Nat) (w : World) (K : Kinds w m) : Calls Tryz.prog 60 #[.map (some m), .agg #[.int .i64 7, .int .i64 v1, .int .i64 v2, .int .i64 v3, .int .i64 v4, .slice a1 nv k1]] w fun e w' => e = .returned (.tuple #[.iface 140 (.agg #[.int .i64 7, .int .i64 v1, .int .i64 v2, .int .i64 v3, .int .i64 v4, .slice a1 nv k1]), .bool true]) ∧ w.Since w.heap.size w' := by
  have sA : w.Since w.heap.size (w.alloc (.cells #[.int .i64 7, .int .i64 v1, .int .i64 v2, .int .i64 v3, .int .i64 v4, .slice a1 nv k1] 84)) := (World.Since.refl _ _).alloc (Nat.le_refl _) _
  have bA := Box6.new w (.int .i64 7) (.int .i64 v1) (.int .i64 v2) (.int .i64 v3) (.int .i64 v4) (.slice a1 nv k1) 84
  go_enter Tryz.func60, Tryz.ntmps60
  go_wp2_with fail
  generalize w.alloc (.cells #[.int .i64 7, .int .i64 v1, .int .i64 v2, .int .i64 v3, .int .i64 v4, .slice a1 nv k1] 84) = wA at *
  refine (wordOf7 wA).mono ?_
  rintro e w1 ⟨rfl, s1⟩
  have S1 := sA.trans (sinceMono s1 sA.size)
  have B1 := bA.keep s1
  have hl := run_look_has (s := ⟨#[110, 111, 114, 109]⟩) kinds_under string_under (K.keep S1) (i := 6) (val := .func (.func 93) #[] #[]) (by kernel_rfl)
  have q0 := B1.c0
  have q1 := B1.c1
  have q2 := B1.c2
  have q3 := B1.c3
  have q4 := B1.c4
  have q5 := B1.c5
  clear bA
  go_wp2_with fail
  refine (become7 7 v1 v2 v3 v4 a1 nv k1 w1).mono ?_
  rintro e w2 ⟨rfl, s2⟩
  go_wp2
  go_ret2
  exact ⟨rfl, S1.trans (sinceMono s2 S1.size)⟩

set_option maxHeartbeats 1600000 in
set_option maxRecDepth 100000 in
theorem operatorOf_no (m : Nat) (v0 v1 v2 v3 v4 : Int) (a1 : Option Addr) (nv k1 : Nat) (w : World) (K : Kinds w m) (h : v0 < 1 ∨ 7 < v0) (hi : I64 v0) : Calls Tryz.prog 60 #[.map (some m), .agg #[.int .i64 v0, .int .i64 v1, .int .i64 v2, .int .i64 v3, .int .i64 v4, .slice a1 nv k1]] w fun e w' => e = .returned (.tuple #[.nilIface, .bool false]) ∧ w.Since w.heap.size w' := by
  have sA : w.Since w.heap.size (w.alloc (.cells #[.int .i64 v0, .int .i64 v1, .int .i64 v2, .int .i64 v3, .int .i64 v4, .slice a1 nv k1] 84)) := (World.Since.refl _ _).alloc (Nat.le_refl _) _
  go_enter Tryz.func60, Tryz.ntmps60
  go_wp2_with fail
  generalize w.alloc (.cells #[.int .i64 v0, .int .i64 v1, .int .i64 v2, .int .i64 v3, .int .i64 v4, .slice a1 nv k1] 84) = wA at *
  refine (wordOf_no v0 wA h hi).mono ?_
  rintro e w1 ⟨rfl, s1⟩
  have S1 := sA.trans (sinceMono s1 sA.size)
  have hz : (zeroValue 134).run Tryz.prog w1 = .ok .nilFunc w1 := by kernel_rfl
  have hl := run_look_no (s := ⟨#[]⟩) kinds_under string_under (K.keep S1) (by kernel_rfl) hz
  clear hz
  go_wp2
  go_ret2
  exact ⟨rfl, S1⟩

/-- A struct of five cells in a block of its own. -/
structure Box5 (w : World) (c : Nat) (x y z u v : Value) : Prop where
  c0 : w.cell? ⟨c, 0, none⟩ = some x
  c1 : w.cell? ⟨c, 1, none⟩ = some y
  c2 : w.cell? ⟨c, 2, none⟩ = some z
  c3 : w.cell? ⟨c, 3, none⟩ = some u
  c4 : w.cell? ⟨c, 4, none⟩ = some v
  f : ∀ k, w.frozen? ⟨c, k, none⟩ = false

section
variable {w w' : World} {c d B : Nat} {x y z u v : Value}
theorem Box5.new (w : World) (x y z u v : Value) (T : TypeId) : Box5 (w.alloc (.cells #[x, y, z, u, v] T)) w.heap.size x y z u v := ⟨by simp [go_sem], by simp [go_sem], by simp [go_sem], by simp [go_sem], by simp [go_sem], fun k => by simp [go_sem]⟩
theorem Box5.lt (h : Box5 w c x y z u v) : c < w.heap.size := World.block_lt_of_cell? _ _ h.c0
theorem Box5.keep (h : Box5 w c x y z u v) (s : w.Since w.heap.size w') : Box5 w' c x y z u v :=
  ⟨(s.cell (a := ⟨c, 0, none⟩) h.lt).trans h.c0, (s.cell (a := ⟨c, 1, none⟩) h.lt).trans h.c1, (s.cell (a := ⟨c, 2, none⟩) h.lt).trans h.c2, (s.cell (a := ⟨c, 3, none⟩) h.lt).trans h.c3, (s.cell (a := ⟨c, 4, none⟩) h.lt).trans h.c4, fun k => (s.frozen (a := ⟨c, k, none⟩) h.lt).trans (h.f k)⟩
theorem Box5.set0 (h : Box5 w c x y z u v) (q : Value) : Box5 (w.setCell ⟨c, 0, none⟩ q) c q y z u v :=
  ⟨World.cell?_setCell_same _ _ _ h.c0, (World.cell?_setCell_other _ _ _ _ (by simp)).trans h.c1, (World.cell?_setCell_other _ _ _ _ (by simp)).trans h.c2, (World.cell?_setCell_other _ _ _ _ (by simp)).trans h.c3, (World.cell?_setCell_other _ _ _ _ (by simp)).trans h.c4, fun k => by rw [((Marked.refl w c).setCell 0 q).frozen]; exact h.f k⟩
theorem Box5.set1 (h : Box5 w c x y z u v) (q : Value) : Box5 (w.setCell ⟨c, 1, none⟩ q) c x q z u v :=
  ⟨(World.cell?_setCell_other _ _ _ _ (by simp)).trans h.c0, World.cell?_setCell_same _ _ _ h.c1, (World.cell?_setCell_other _ _ _ _ (by simp)).trans h.c2, (World.cell?_setCell_other _ _ _ _ (by simp)).trans h.c3, (World.cell?_setCell_other _ _ _ _ (by simp)).trans h.c4, fun k => by rw [((Marked.refl w c).setCell 1 q).frozen]; exact h.f k⟩
theorem Box5.set2 (h : Box5 w c x y z u v) (q : Value) : Box5 (w.setCell ⟨c, 2, none⟩ q) c x y q u v :=
  ⟨(World.cell?_setCell_other _ _ _ _ (by simp)).trans h.c0, (World.cell?_setCell_other _ _ _ _ (by simp)).trans h.c1, World.cell?_setCell_same _ _ _ h.c2, (World.cell?_setCell_other _ _ _ _ (by simp)).trans h.c3, (World.cell?_setCell_other _ _ _ _ (by simp)).trans h.c4, fun k => by rw [((Marked.refl w c).setCell 2 q).frozen]; exact h.f k⟩
theorem Box5.set3 (h : Box5 w c x y z u v) (q : Value) : Box5 (w.setCell ⟨c, 3, none⟩ q) c x y z q v :=
  ⟨(World.cell?_setCell_other _ _ _ _ (by simp)).trans h.c0, (World.cell?_setCell_other _ _ _ _ (by simp)).trans h.c1, (World.cell?_setCell_other _ _ _ _ (by simp)).trans h.c2, World.cell?_setCell_same _ _ _ h.c3, (World.cell?_setCell_other _ _ _ _ (by simp)).trans h.c4, fun k => by rw [((Marked.refl w c).setCell 3 q).frozen]; exact h.f k⟩
theorem Box5.set4 (h : Box5 w c x y z u v) (q : Value) : Box5 (w.setCell ⟨c, 4, none⟩ q) c x y z u q :=
  ⟨(World.cell?_setCell_other _ _ _ _ (by simp)).trans h.c0, (World.cell?_setCell_other _ _ _ _ (by simp)).trans h.c1, (World.cell?_setCell_other _ _ _ _ (by simp)).trans h.c2, (World.cell?_setCell_other _ _ _ _ (by simp)).trans h.c3, World.cell?_setCell_same _ _ _ h.c4, fun k => by rw [((Marked.refl w c).setCell 4 q).frozen]; exact h.f k⟩
end

/-- A struct answer of five cells that lies in a box. -/
theorem results_box5T {fn : Func} {p : Tmp} {T : TypeId} {d : TypeDesc} (h : fn.results = #[.cell p T]) (hu : Tryz.prog.underlying T = some d) (hd : d.isRow = true) (hi : (Tryz.prog.info? T).map (·.size) = some 5) (tmps : Array Value) (w : World) (c : Nat) (x y z u v : Value)
    (hp : tmps.getD p undef = .pointer (some ⟨c, 0, none⟩)) (B : Box5 w c x y z u v) : (results fn tmps).run Tryz.prog w = .ok (.agg #[x, y, z, u, v]) w := by
  have hp' : tmps[p]?.getD undef = .pointer (some ⟨c, 0, none⟩) := by simpa using hp
  have hl := run_loadVar_mid (P := Tryz.prog) w c 0 T [x, y, z, u, v] d (fun j q hv => by
    rcases j with _ | _ | _ | _ | _ | j
    · simp at hv; subst hv; exact B.c0
    · simp at hv; subst hv; exact B.c1
    · simp at hv; subst hv; exact B.c2
    · simp at hv; subst hv; exact B.c3
    · simp at hv; subst hv; exact B.c4
    · simp at hv) hu hd hi
  simp [results, h, hp', asAddr, hl]

theorem size_form : (Tryz.prog.info? 142).map (·.size) = some 5 := by kernel_rfl

set_option maxHeartbeats 1600000 in
set_option maxRecDepth 100000 in
theorem form1 (v0 v1 v2 v3 v4 : Int) (a1 : Option Addr) (nv k1 : Nat) (w : World) : Calls Tryz.prog 186 #[.agg #[.int .i64 v0, .int .i64 v1, .int .i64 v2, .int .i64 v3, .int .i64 v4, .slice a1 nv k1]] w fun e w' => e = .returned (.agg #[.int .i64 1, .bool false, .bool true, .bool false, .int .i64 (-1)]) ∧ w.Since w.heap.size w' := by
  have sA : w.Since w.heap.size ((w.alloc (.cells #[.int .i64 v0, .int .i64 v1, .int .i64 v2, .int .i64 v3, .int .i64 v4, .slice a1 nv k1] 133)).alloc (.cells #[.int .i64 1, .bool false, .bool true, .bool false, .int .i64 (-1)] 142)) := ((World.Since.refl _ _).alloc (Nat.le_refl _) _).alloc (by simp) _
  have bA : Box5 ((w.alloc (.cells #[.int .i64 v0, .int .i64 v1, .int .i64 v2, .int .i64 v3, .int .i64 v4, .slice a1 nv k1] 133)).alloc (.cells #[.int .i64 1, .bool false, .bool true, .bool false, .int .i64 (-1)] 142)) (w.heap.size + 1) (.int .i64 1) (.bool false) (.bool true) (.bool false) (.int .i64 (-1)) := by
    have := Box5.new (w.alloc (.cells #[.int .i64 v0, .int .i64 v1, .int .i64 v2, .int .i64 v3, .int .i64 v4, .slice a1 nv k1] 133)) (.int .i64 1) (.bool false) (.bool true) (.bool false) (.int .i64 (-1)) 142
    simpa using this
  go_enter Tryz.func186, Tryz.ntmps186
  go_wp2
  exact bodyPost_ret (results_box5T rfl Tryz.underlying142 rfl size_form _ _ _ _ _ _ _ _ rfl bA) rfl ⟨rfl, sA⟩

set_option maxHeartbeats 1600000 in
set_option maxRecDepth 100000 in
theorem form2 (v0 v1 v2 v3 v4 : Int) (a1 : Option Addr) (nv k1 : Nat) (w : World) : Calls Tryz.prog 189 #[.agg #[.int .i64 v0, .int .i64 v1, .int .i64 v2, .int .i64 v3, .int .i64 v4, .slice a1 nv k1]] w fun e w' => e = .returned (.agg #[.int .i64 2, .bool false, .bool false, .bool false, .int .i64 0]) ∧ w.Since w.heap.size w' := by
  have sA : w.Since w.heap.size ((w.alloc (.cells #[.int .i64 v0, .int .i64 v1, .int .i64 v2, .int .i64 v3, .int .i64 v4, .slice a1 nv k1] 135)).alloc (.cells #[.int .i64 2, .bool false, .bool false, .bool false, .int .i64 0] 142)) := ((World.Since.refl _ _).alloc (Nat.le_refl _) _).alloc (by simp) _
  have bA : Box5 ((w.alloc (.cells #[.int .i64 v0, .int .i64 v1, .int .i64 v2, .int .i64 v3, .int .i64 v4, .slice a1 nv k1] 135)).alloc (.cells #[.int .i64 2, .bool false, .bool false, .bool false, .int .i64 0] 142)) (w.heap.size + 1) (.int .i64 2) (.bool false) (.bool false) (.bool false) (.int .i64 0) := by
    have := Box5.new (w.alloc (.cells #[.int .i64 v0, .int .i64 v1, .int .i64 v2, .int .i64 v3, .int .i64 v4, .slice a1 nv k1] 135)) (.int .i64 2) (.bool false) (.bool false) (.bool false) (.int .i64 0) 142
    simpa using this
  go_enter Tryz.func189, Tryz.ntmps189
  go_wp2
  exact bodyPost_ret (results_box5T rfl Tryz.underlying142 rfl size_form _ _ _ _ _ _ _ _ rfl bA) rfl ⟨rfl, sA⟩

set_option maxHeartbeats 1600000 in
set_option maxRecDepth 100000 in
theorem form3 (v0 v1 v2 v3 v4 : Int) (a1 : Option Addr) (nv k1 : Nat) (w : World) : Calls Tryz.prog 192 #[.agg #[.int .i64 v0, .int .i64 v1, .int .i64 v2, .int .i64 v3, .int .i64 v4, .slice a1 nv k1]] w fun e w' => e = .returned (.agg #[.int .i64 3, .bool false, .bool false, .bool false, .int .i64 1]) ∧ w.Since w.heap.size w' := by
  have sA : w.Since w.heap.size ((w.alloc (.cells #[.int .i64 v0, .int .i64 v1, .int .i64 v2, .int .i64 v3, .int .i64 v4, .slice a1 nv k1] 136)).alloc (.cells #[.int .i64 3, .bool false, .bool false, .bool false, .int .i64 1] 142)) := ((World.Since.refl _ _).alloc (Nat.le_refl _) _).alloc (by simp) _
  have bA : Box5 ((w.alloc (.cells #[.int .i64 v0, .int .i64 v1, .int .i64 v2, .int .i64 v3, .int .i64 v4, .slice a1 nv k1] 136)).alloc (.cells #[.int .i64 3, .bool false, .bool false, .bool false, .int .i64 1] 142)) (w.heap.size + 1) (.int .i64 3) (.bool false) (.bool false) (.bool false) (.int .i64 1) := by
    have := Box5.new (w.alloc (.cells #[.int .i64 v0, .int .i64 v1, .int .i64 v2, .int .i64 v3, .int .i64 v4, .slice a1 nv k1] 136)) (.int .i64 3) (.bool false) (.bool false) (.bool false) (.int .i64 1) 142
    simpa using this
  go_enter Tryz.func192, Tryz.ntmps192
  go_wp2
  exact bodyPost_ret (results_box5T rfl Tryz.underlying142 rfl size_form _ _ _ _ _ _ _ _ rfl bA) rfl ⟨rfl, sA⟩

set_option maxHeartbeats 1600000 in
set_option maxRecDepth 100000 in
theorem form4 (v0 v1 v2 v3 v4 : Int) (a1 : Option Addr) (nv k1 : Nat) (w : World) : Calls Tryz.prog 196 #[.agg #[.int .i64 v0, .int .i64 v1, .int .i64 v2, .int .i64 v3, .int .i64 v4, .slice a1 nv k1]] w fun e w' => e = .returned (.agg #[.int .i64 4, .bool true, .bool false, .bool false, .int .i64 0]) ∧ w.Since w.heap.size w' := by
  have sA : w.Since w.heap.size ((w.alloc (.cells #[.int .i64 v0, .int .i64 v1, .int .i64 v2, .int .i64 v3, .int .i64 v4, .slice a1 nv k1] 137)).alloc (.cells #[.int .i64 4, .bool true, .bool false, .bool false, .int .i64 0] 142)) := ((World.Since.refl _ _).alloc (Nat.le_refl _) _).alloc (by simp) _
  have bA : Box5 ((w.alloc (.cells #[.int .i64 v0, .int .i64 v1, .int .i64 v2, .int .i64 v3, .int .i64 v4, .slice a1 nv k1] 137)).alloc (.cells #[.int .i64 4, .bool true, .bool false, .bool false, .int .i64 0] 142)) (w.heap.size + 1) (.int .i64 4) (.bool true) (.bool false) (.bool false) (.int .i64 0) := by
    have := Box5.new (w.alloc (.cells #[.int .i64 v0, .int .i64 v1, .int .i64 v2, .int .i64 v3, .int .i64 v4, .slice a1 nv k1] 137)) (.int .i64 4) (.bool true) (.bool false) (.bool false) (.int .i64 0) 142
    simpa using this
  go_enter Tryz.func196, Tryz.ntmps196
  go_wp2
  exact bodyPost_ret (results_box5T rfl Tryz.underlying142 rfl size_form _ _ _ _ _ _ _ _ rfl bA) rfl ⟨rfl, sA⟩

set_option maxHeartbeats 1600000 in
set_option maxRecDepth 100000 in
theorem form5 (v0 v1 v2 v3 v4 : Int) (a1 : Option Addr) (nv k1 : Nat) (w : World) : Calls Tryz.prog 200 #[.agg #[.int .i64 v0, .int .i64 v1, .int .i64 v2, .int .i64 v3, .int .i64 v4, .slice a1 nv k1]] w fun e w' => e = .returned (.agg #[.int .i64 5, .bool false, .bool true, .bool false, .int .i64 0]) ∧ w.Since w.heap.size w' := by
  have sA : w.Since w.heap.size ((w.alloc (.cells #[.int .i64 v0, .int .i64 v1, .int .i64 v2, .int .i64 v3, .int .i64 v4, .slice a1 nv k1] 138)).alloc (.cells #[.int .i64 5, .bool false, .bool true, .bool false, .int .i64 0] 142)) := ((World.Since.refl _ _).alloc (Nat.le_refl _) _).alloc (by simp) _
  have bA : Box5 ((w.alloc (.cells #[.int .i64 v0, .int .i64 v1, .int .i64 v2, .int .i64 v3, .int .i64 v4, .slice a1 nv k1] 138)).alloc (.cells #[.int .i64 5, .bool false, .bool true, .bool false, .int .i64 0] 142)) (w.heap.size + 1) (.int .i64 5) (.bool false) (.bool true) (.bool false) (.int .i64 0) := by
    have := Box5.new (w.alloc (.cells #[.int .i64 v0, .int .i64 v1, .int .i64 v2, .int .i64 v3, .int .i64 v4, .slice a1 nv k1] 138)) (.int .i64 5) (.bool false) (.bool true) (.bool false) (.int .i64 0) 142
    simpa using this
  go_enter Tryz.func200, Tryz.ntmps200
  go_wp2
  exact bodyPost_ret (results_box5T rfl Tryz.underlying142 rfl size_form _ _ _ _ _ _ _ _ rfl bA) rfl ⟨rfl, sA⟩

set_option maxHeartbeats 1600000 in
set_option maxRecDepth 100000 in
theorem form6 (v0 v1 v2 v3 v4 : Int) (a1 : Option Addr) (nv k1 : Nat) (w : World) : Calls Tryz.prog 204 #[.agg #[.int .i64 v0, .int .i64 v1, .int .i64 v2, .int .i64 v3, .int .i64 v4, .slice a1 nv k1]] w fun e w' => e = .returned (.agg #[.int .i64 6, .bool false, .bool true, .bool true, .int .i64 (-1)]) ∧ w.Since w.heap.size w' := by
  have sA : w.Since w.heap.size ((w.alloc (.cells #[.int .i64 v0, .int .i64 v1, .int .i64 v2, .int .i64 v3, .int .i64 v4, .slice a1 nv k1] 139)).alloc (.cells #[.int .i64 6, .bool false, .bool true, .bool true, .int .i64 (-1)] 142)) := ((World.Since.refl _ _).alloc (Nat.le_refl _) _).alloc (by simp) _
  have bA : Box5 ((w.alloc (.cells #[.int .i64 v0, .int .i64 v1, .int .i64 v2, .int .i64 v3, .int .i64 v4, .slice a1 nv k1] 139)).alloc (.cells #[.int .i64 6, .bool false, .bool true, .bool true, .int .i64 (-1)] 142)) (w.heap.size + 1) (.int .i64 6) (.bool false) (.bool true) (.bool true) (.int .i64 (-1)) := by
    have := Box5.new (w.alloc (.cells #[.int .i64 v0, .int .i64 v1, .int .i64 v2, .int .i64 v3, .int .i64 v4, .slice a1 nv k1] 139)) (.int .i64 6) (.bool false) (.bool true) (.bool true) (.int .i64 (-1)) 142
    simpa using this
  go_enter Tryz.func204, Tryz.ntmps204
  go_wp2
  exact bodyPost_ret (results_box5T rfl Tryz.underlying142 rfl size_form _ _ _ _ _ _ _ _ rfl bA) rfl ⟨rfl, sA⟩

set_option maxHeartbeats 1600000 in
set_option maxRecDepth 100000 in
theorem form7 (v0 v1 v2 v3 v4 : Int) (a1 : Option Addr) (nv k1 : Nat) (w : World) : Calls Tryz.prog 207 #[.agg #[.int .i64 v0, .int .i64 v1, .int .i64 v2, .int .i64 v3, .int .i64 v4, .slice a1 nv k1]] w fun e w' => e = .returned (.agg #[.int .i64 7, .bool false, .bool false, .bool false, .int .i64 4]) ∧ w.Since w.heap.size w' := by
  have sA : w.Since w.heap.size ((w.alloc (.cells #[.int .i64 v0, .int .i64 v1, .int .i64 v2, .int .i64 v3, .int .i64 v4, .slice a1 nv k1] 140)).alloc (.cells #[.int .i64 7, .bool false, .bool false, .bool false, .int .i64 4] 142)) := ((World.Since.refl _ _).alloc (Nat.le_refl _) _).alloc (by simp) _
  have bA : Box5 ((w.alloc (.cells #[.int .i64 v0, .int .i64 v1, .int .i64 v2, .int .i64 v3, .int .i64 v4, .slice a1 nv k1] 140)).alloc (.cells #[.int .i64 7, .bool false, .bool false, .bool false, .int .i64 4] 142)) (w.heap.size + 1) (.int .i64 7) (.bool false) (.bool false) (.bool false) (.int .i64 4) := by
    have := Box5.new (w.alloc (.cells #[.int .i64 v0, .int .i64 v1, .int .i64 v2, .int .i64 v3, .int .i64 v4, .slice a1 nv k1] 140)) (.int .i64 7) (.bool false) (.bool false) (.bool false) (.int .i64 4) 142
    simpa using this
  go_enter Tryz.func207, Tryz.ntmps207
  go_wp2
  exact bodyPost_ret (results_box5T rfl Tryz.underlying142 rfl size_form _ _ _ _ _ _ _ _ rfl bA) rfl ⟨rfl, sA⟩

end Go.Proofs.YtkhpggnnpfckdaaGreatDoor

namespace Go.Proofs.YtkhpggnnpfckdaaGreatDoor
open Go.RowKit

theorem q_zero {q : Rat} (h : q.num.natAbs = 0) : q = 0 := by
  have h1 : q.num = 0 := Int.natAbs_eq_zero.1 h
  exact Rat.num_eq_zero.1 h1

theorem psum_skip {b : Rat} {W X : Nat → Rat} {k : Nat} (h : W k = 0 ∨ X k = 0) : psum b W X (k + 1) = psum b W X k := by
  show psum b W X k + W k * X k = psum b W X k
  rcases h with h | h
  · rw [h, Rat.zero_mul, Rat.add_zero]
  · rw [h, Rat.mul_zero, Rat.add_zero]

theorem NatAt.lims {w : World} {v : Value} {g N M : Nat} (h : NatAt w v g N M) : ∃ a n cap X, v = .slice a n cap ∧ n ≤ M ∧ Limbs w a g 0 n X ∧ (∀ j, j < n → X j < 4294967296) ∧ lv X n = N := by
  obtain ⟨a, m, cap, Y, h1, h2, h3, h4, h5, h6, h7, h8, h9⟩ := h
  exact ⟨a, m, cap, Y, h1, h3, h5, h7, h9⟩

set_option maxHeartbeats 6400000 in
set_option maxRecDepth 100000 in
/-- impl.plusProduct: s + p * r, normalised once. -/
theorem plusProduct_any (s p r : Rat) (vs vp vr : Value) (w : World) (hw : 0 < w.heap.size) (hT : Tab w) (S : RatR w vs s) (HP : RatR w vp p) (HR : RatR w vr r)
    (qs : Qb s 1048577) (qp : Qb p 1048577) (qr : Qb r 1048577) :
    Calls Tryz.prog 118 #[vs, vp, vr] w fun e w' => ∃ v, e = .returned v ∧ RatRP w' (fun g => w.heap.size ≤ g) v (s + p * r) ∧ w.Since w.heap.size w' := by
  obtain ⟨a1, n1, c1, a2, n2, c2, baS, oaS, bbS, obS, XS, YS, rfl, RS, vS1, vS2⟩ := S
  obtain ⟨aW, nW, cW, bW, mW, dW, baW, oaW, bbW, obW, XW, YW, rfl, RW, vW1, vW2⟩ := HP
  obtain ⟨aX, nX, cX, bX, mX, dX, baX, oaX, bbX, obX, XX, YX, rfl, RX, vX1, vX2⟩ := HR
  have zS1 := lv_lim RS.pX (by rw [vS1]; exact qs.1)
  have zS2 := lv_lim RS.pY (by rw [vS2]; exact qs.2)
  have zW1 := lv_lim RW.pX (by rw [vW1]; exact qp.1)
  have zW2 := lv_lim RW.pY (by rw [vW2]; exact qp.2)
  have zX1 := lv_lim RX.pX (by rw [vX1]; exact qr.1)
  have zX2 := lv_lim RX.pY (by rw [vX2]; exact qr.2)
  obtain ⟨wA, eA⟩ : ∃ wA : World, wA = (((w.alloc (.cells #[.bool (qn s), .slice a1 n1 c1, .slice a2 n2 c2] 70)).alloc (.cells #[.bool (qn p), .slice aW nW cW, .slice bW mW dW] 70)).alloc (.cells #[.bool (qn r), .slice aX nX cX, .slice bX mX dX] 70)).alloc (.cells #[.bool false, .slice none 0 0, .slice none 0 0] 70) := ⟨_, rfl⟩
  have sA : w.Since w.heap.size wA := by rw [eA]; exact ((((World.Since.refl _ _).alloc (Nat.le_refl _) _).alloc (by simp) _).alloc (by simp; omega) _).alloc (by simp; omega) _
  have zA : wA.heap.size = w.heap.size + 1 + 1 + 1 + 1 := by rw [eA]; simp
  have xA : Box3 wA w.heap.size (.bool (qn s)) (.slice a1 n1 c1) (.slice a2 n2 c2) := by
    rw [eA]
    exact (((Box3.new w _ _ _ _).keep ((World.Since.refl _ _).alloc (Nat.le_refl _) _)).keep ((World.Since.refl _ _).alloc (Nat.le_refl _) _)).keep ((World.Since.refl _ _).alloc (Nat.le_refl _) _)
  have bA : Box3 wA (w.heap.size + 1 + 1) (.bool (qn r)) (.slice aX nX cX) (.slice bX mX dX) := by
    rw [eA]
    have := (Box3.new ((w.alloc (.cells #[.bool (qn s), .slice a1 n1 c1, .slice a2 n2 c2] 70)).alloc (.cells #[.bool (qn p), .slice aW nW cW, .slice bW mW dW] 70)) (.bool (qn r)) (.slice aX nX cX) (.slice bX mX dX) 70).keep ((World.Since.refl _ _).alloc (Nat.le_refl _) (.cells #[.bool false, .slice none 0 0, .slice none 0 0] 70))
    simpa using this
  have rA : Box3 wA (w.heap.size + 1 + 1 + 1) (.bool false) (.slice none 0 0) (.slice none 0 0) := by
    rw [eA]
    have := Box3.new (((w.alloc (.cells #[.bool (qn s), .slice a1 n1 c1, .slice a2 n2 c2] 70)).alloc (.cells #[.bool (qn p), .slice aW nW cW, .slice bW mW dW] 70)).alloc (.cells #[.bool (qn r), .slice aX nX cX, .slice bX mX dX] 70)) (.bool false) (.slice none 0 0) (.slice none 0 0) 70
    simpa using this
  have EA := hide eA
  clear eA
  go_enter Tryz.func118, Tryz.ntmps118
  go_wp2_with fail
  rw [← EA.out]
  clear EA
  have RWA := RW.keep sA
  refine (fractionOf_any (qn p) aW bW baW oaW nW cW bbW obW mW dW XW YW wA (by omega) (by omega) RW.nc RW.mc RWA.LX RWA.LY RW.pX RW.pY).mono ?_
  rintro e w4 ⟨rfl, s4⟩
  clear RWA
  have S4 : w.Since w.heap.size w4 := sA.trans (sinceMono s4 sA.size)
  have z4 := s4.size
  have t5 : w4.Since w4.heap.size (w4.alloc (.cells #[.bool (qn p), .slice aW nW cW, .slice bW mW dW] 129)) := (World.Since.refl _ _).alloc (Nat.le_refl _) _
  have f5 := Box3.new w4 (.bool (qn p)) (.slice aW nW cW) (.slice bW mW dW) 129
  have S5 : w.Since w.heap.size (w4.alloc (.cells #[.bool (qn p), .slice aW nW cW, .slice bW mW dW] 129)) := S4.trans (sinceMono t5 S4.size)
  have s5 : wA.Since wA.heap.size (w4.alloc (.cells #[.bool (qn p), .slice aW nW cW, .slice bW mW dW] 129)) := s4.trans (sinceMono t5 s4.size)
  have b5 := bA.keep s5
  have x5 := xA.keep s5
  have r5 := rA.keep s5
  have k0 := b5.c0
  have k1 := b5.c1
  have k2 := b5.c2
  go_wp2_with fail
  generalize w4.alloc (.cells #[.bool (qn p), .slice aW nW cW, .slice bW mW dW] 129) = w5 at *
  have RX5 := RX.keep S5
  refine (fractionOf_any (qn r) aX bX baX oaX nX cX bbX obX mX dX XX YX w5 (by omega) (by omega) RX.nc RX.mc RX5.LX RX5.LY RX.pX RX.pY).mono ?_
  rintro e w6 ⟨rfl, s6⟩
  have S6 : w.Since w.heap.size w6 := S5.trans (sinceMono s6 S5.size)
  have f6 := f5.keep s6
  have x6 := x5.keep s6
  have r6 := r5.keep s6
  have RW6 := RW.keep S6
  have RX6 := RX.keep S6
  have lW1 : 0 < nW → baW < w.heap.size := RW.LX.lt
  have lW2 : 0 < mW → bbW < w.heap.size := RW.LY.lt
  have lX1 : 0 < nX → baX < w.heap.size := RX.LX.lt
  have lX2 : 0 < mX → bbX < w.heap.size := RX.LY.lt
  have lS1 : 0 < n1 → baS < w.heap.size := RS.LX.lt
  have lS2 : 0 < n2 → bbS < w.heap.size := RS.LY.lt
  clear k0 k1 k2 RX5 b5 x5 r5 f5 bA xA rA
  go_wp2_with fail
  refine (fracMul_any w4.heap.size (qn p) (qn r) aW bW aX bX baW oaW nW cW bbW obW mW dW baX oaX nX cX bbX obX mX dX XW YW XX YX w6 (by omega) (by omega) (by omega) (by omega) RW6.LX RW6.LY RX6.LX RX6.LY RW.lX RW.lY RX.lX RX.lY
    (fun h => by have := lW1 h; omega) (fun h => by have := lW2 h; omega) (fun h => by have := lX1 h; omega) (fun h => by have := lX2 h; omega) f6).mono ?_
  rintro e w7 ⟨rfl, v1, v2, g, h, f7, N7, D7, b5, b6, b7, O7⟩
  have hcl := f6.lt
  have z7 := O7.size
  have z6 := s6.size
  have x7 := x6.oth O7 (by omega)
  have r7 := r6.oth O7 (by omega)
  have S7 : w.Since w.heap.size w7 := S6.trans (sinceMono (O7.since (by omega)) (by omega))
  have RS7 := RS.keep S7
  obtain ⟨a3, n3, c3, X3, rfl, zn3, LX3, lX3, vX3⟩ := N7.lims
  obtain ⟨b3, m3, d3, Y3, rfl, zm3, LY3, lY3, vY3⟩ := D7.lims
  have hm3 : 0 < m3 := by
    rcases Nat.eq_zero_or_pos m3 with e | e
    · subst e
      have : 0 < lv YW mW * lv YX mX := Nat.mul_pos RW.den RX.den
      rw [← vY3] at this
      exact absurd (show 0 < 0 from this) (Nat.lt_irrefl _)
    · exact e
  have k0 := x7.c0
  have k1 := x7.c1
  have k2 := x7.c2
  clear RW6 RX6 f6 N7 D7 x6 r6
  go_wp2_with fail
  refine (fractionOf_any (qn s) a1 a2 baS oaS n1 c1 bbS obS n2 c2 XS YS w7 (by omega) (by omega) RS.nc RS.mc RS7.LX RS7.LY RS.pX RS.pY).mono ?_
  rintro e w8 ⟨rfl, s8⟩
  have t9 : w8.Since w8.heap.size (w8.alloc (.cells #[.bool (qn s), .slice a1 n1 c1, .slice a2 n2 c2] 129)) := (World.Since.refl _ _).alloc (Nat.le_refl _) _
  have f9 := Box3.new w8 (.bool (qn s)) (.slice a1 n1 c1) (.slice a2 n2 c2) 129
  have v9 : w7.Since w7.heap.size (w8.alloc (.cells #[.bool (qn s), .slice a1 n1 c1, .slice a2 n2 c2] 129)) := s8.trans (sinceMono t9 s8.size)
  have y9 := f7.keep v9
  have r9 := r7.keep v9
  have j0 := y9.c0
  have j1 := y9.c1
  have j2 := y9.c2
  have S9 : w.Since w.heap.size (w8.alloc (.cells #[.bool (qn s), .slice a1 n1 c1, .slice a2 n2 c2] 129)) := S7.trans (sinceMono v9 S7.size)
  have z8 := s8.size
  have LX9 := LX3.keep v9
  have LY9 := LY3.keep v9
  clear k0 k1 k2 x7
  go_wp2_with fail
  generalize w8.alloc (.cells #[.bool (qn s), .slice a1 n1 c1, .slice a2 n2 c2] 129) = w9 at *
  have RS9 := RS.keep S9
  have z9 := t9.size
  refine (fracAdd_any w8.heap.size (qn s) (qn p != qn r) a1 a2 a3 b3 baS oaS n1 c1 bbS obS n2 c2 g 0 n3 c3 h 0 m3 d3 XS YS X3 Y3 w9 (by omega) RS.m0 hm3 RS9.LX RS9.LY LX9 LY9 RS.lX RS.lY lX3 lY3
    (fun h => by have := lS1 h; omega) (fun h => by have := lS2 h; omega) (fun _ => by omega) (fun _ => by omega) f9).mono ?_
  rintro e w10 ⟨rfl, v3, v4, g', h', f10, N10, D10, b8, b9, b10, b11, b12, O10⟩
  have hcl9 := f9.lt
  have z10 := O10.size
  have r10 := r9.oth O10 (by omega)
  have S10 : w.Since w.heap.size w10 := S9.trans (sinceMono (O10.since (by omega)) (by omega))
  have HD := Nat.mul_pos RS.den (show 0 < lv Y3 m3 by rw [vY3]; exact Nat.mul_pos RW.den RX.den)
  simp only [vS1, vS2, vX3, vY3, vW1, vW2, vX1, vX2] at f10 N10 D10
  rw [vS2, vY3, vW2, vX2] at HD
  obtain ⟨e1, e2, e3⟩ := q_fma s p r
  clear j0 j1 j2 RS9 RS7 LX9 LY9 y9 r7 r9
  go_wp2_with fail
  refine (normalise_any w8.heap.size _ v3 v4 g' h' _ _ (w.heap.size + 1 + 1 + 1 + 1) w10 (Nat.lt_of_lt_of_le hw S10.size) (hT.stay hw S10) f10 N10 D10 b10 b11 b12 (by omega) (by omega) (by omega) (by omega) (by omega) (by omega) HD).mono ?_
  rw [← e1, ← e2, ← e3]
  clear e1 e2 e3
  rintro e w11 ⟨v, rfl, RV, s11⟩
  have RP := RV.rp
  obtain ⟨a5, n5, c5, b5', m5, d5, -, -, -, -, -, -, e5, -⟩ := RP
  subst e5
  have RP := RV.rp
  have r11 := r10.since s11 (by omega)
  have S11 : w.Since w.heap.size w11 := S10.trans (sinceMono s11 (by omega))
  have z11 := s11.size
  obtain ⟨q, hq⟩ : ∃ q, s + p * r = q := ⟨_, rfl⟩
  rw [hq] at RP ⊢
  have HQ := hide hq
  clear RV hq
  have i0 := r11.c0
  have i1 := r11.c1
  have i2 := r11.c2
  have if0 := r11.f 0
  have if1 := r11.f 1
  have if2 := r11.f 2
  go_wp2
  have r12 := ((r11.set0 (.bool (qn q))).set1 (.slice a5 n5 c5)).set2 (.slice b5' m5 d5)
  refine bodyPost_ret (results_box3 rfl _ _ _ _ _ _ rfl r12) rfl ?_
  have M : Marked w11 _ (w.heap.size + 1 + 1 + 1) := (((Marked.refl w11 _).setCell 0 (.bool (qn q))).setCell 1 (.slice a5 n5 c5)).setCell 2 (.slice b5' m5 d5)
  refine ⟨_, rfl, ?_, S11.trans (M.since (by omega))⟩
  first
    | rw [HQ.out]
    | skip
  exact (RP.marked M (fun h => by omega)).imp (p' := fun g => w.heap.size ≤ g) (fun g _ h => by have h' : w.heap.size + 1 + 1 + 1 + 1 ≤ g := h; omega)

set_option maxHeartbeats 6400000 in
set_option maxRecDepth 100000 in
theorem weighedSum_any (p : Nat → Prop) (b : Rat) (x0 y0 : Value) (aw ax : Option Addr) (bw ow nw cw bx ox nx cx : Nat) (W X : Nat → Rat) (w : World) (hw : 0 < w.heap.size) (hT : Tab w) (hp : ∀ g, w.heap.size ≤ g → p g)
    (S : RatRP w p (.agg #[.bool (qn b), x0, y0]) b) (HW : RatQs w (fun _ => True) aw bw ow nw W) (HX : RatQs w (fun _ => True) ax bx ox nx X) (hx : nw ≤ nx) (hn : nx ≤ 1048576)
    (qb : ∀ k, k ≤ nw → Qb (psum b W X k) 1048577) (qW : ∀ c, c < nw → Qb (W c) 1048577) (qX : ∀ c, c < nw → Qb (X c) 1048577) :
    Calls Tryz.prog 73 #[.agg #[.bool (qn b), x0, y0], .slice aw nw cw, .slice ax nx cx] w fun e w' => ∃ x y, e = .returned (.agg #[.bool (qn (psum b W X nw)), x, y]) ∧ RatRP w' p (.agg #[.bool (qn (psum b W X nw)), x, y]) (psum b W X nw) ∧ w.Since w.heap.size w' := by
  obtain ⟨wA, eA⟩ : ∃ wA : World, wA = ((w.alloc (.cells #[.bool (qn b), x0, y0] 70)).alloc (.cells #[.bool false, .slice none 0 0, .slice none 0 0] 70)).alloc (.cells #[.bool (qn b), x0, y0] 70) := ⟨_, rfl⟩
  have sA : w.Since w.heap.size wA := by rw [eA]; exact (((World.Since.refl _ _).alloc (Nat.le_refl _) _).alloc (by simp) _).alloc (by simp; omega) _
  have zA : wA.heap.size = w.heap.size + 1 + 1 + 1 := by rw [eA]; simp
  have rA : Box3 wA (w.heap.size + 1) (.bool false) (.slice none 0 0) (.slice none 0 0) := by
    rw [eA]
    have := (Box3.new (w.alloc (.cells #[.bool (qn b), x0, y0] 70)) (.bool false) (.slice none 0 0) (.slice none 0 0) 70).keep ((World.Since.refl _ _).alloc (Nat.le_refl _) (.cells #[.bool (qn b), x0, y0] 70))
    simpa using this
  have oA : Box3 wA (w.heap.size + 1 + 1) (.bool (qn b)) x0 y0 := by
    rw [eA]
    have := Box3.new ((w.alloc (.cells #[.bool (qn b), x0, y0] 70)).alloc (.cells #[.bool false, .slice none 0 0, .slice none 0 0] 70)) (.bool (qn b)) x0 y0 70
    simpa using this
  have SW := S
  obtain ⟨a0, n0, c0, b0, m0, d0, -, -, -, -, -, -, e0, -⟩ := S
  simp only [Value.agg.injEq, Array.mk.injEq, List.cons.injEq, and_true, true_and] at e0
  obtain ⟨rfl, rfl⟩ := e0
  have EA := hide eA
  clear eA
  go_enter Tryz.func73, Tryz.ntmps73
  go_wp2_with fail
  rw [← EA.out]
  clear EA
  have S0 : RatRP wA (fun g => (g < w.heap.size ∨ w.heap.size + 1 + 1 < g) ∧ p g) (.agg #[.bool (qn b), .slice a0 n0 c0, .slice b0 m0 d0]) b := by
    refine (SW.imp (p' := fun g => (g < w.heap.size ∨ w.heap.size + 1 + 1 < g) ∧ p g) (fun g hg hp' => ⟨.inl hg, hp'⟩)).keep sA
  go_loopw [13] (fun i wr => ∃ k : Nat, k ≤ nw ∧ i = .int .i64 k ∧ w.Since w.heap.size wr ∧ w.heap.size + 1 + 1 + 1 ≤ wr.heap.size ∧ Box3 wr (w.heap.size + 1) (.bool false) (.slice none 0 0) (.slice none 0 0) ∧ ∃ a1 n1 c1 a2 n2 c2, Box3 wr (w.heap.size + 1 + 1) (.bool (qn (psum b W X k))) (.slice a1 n1 c1) (.slice a2 n2 c2) ∧
      RatRP wr (fun g => (g < w.heap.size ∨ w.heap.size + 1 + 1 < g) ∧ p g) (.agg #[.bool (qn (psum b W X k)), .slice a1 n1 c1, .slice a2 n2 c2]) (psum b W X k)) (fun i _ => nw - (intOf i).toNat)
  case atStart => exact ⟨0, Nat.zero_le _, rfl, sA, by omega, rA, a0, n0, c0, b0, m0, d0, oA, S0⟩
  case round =>
    obtain ⟨k, hk, rfl, s, hsz, r1, a1, n1, c1, a2, n2, c2, o1, T1⟩ := hrel
    by_cases hlt : k < nw
    · obtain ⟨rfl, xw, yw, CW⟩ := HW k hlt
      obtain ⟨rfl, xx, yx, CX⟩ := HX k (by omega)
      have CW1 := CW.keep s
      have CX1 := CX.keep s
      obtain ⟨aW, nW, cW, bW, mW, dW, baW, oaW, bbW, obW, XW, YW, eW, RW, vW1, vW2, -, -⟩ := CW.R
      obtain ⟨aX, nX, cX, bX, mX, dX, baX, oaX, bbX, obX, XX, YX, eX, RX, vX1, vX2, -, -⟩ := CX.R
      simp only [Value.agg.injEq, Array.mk.injEq, List.cons.injEq, and_true, true_and] at eW eX
      obtain ⟨rfl, rfl⟩ := eW
      obtain ⟨rfl, rfl⟩ := eX
      have g0 := CW1.c0
      have g1 := CW1.c1
      have g2 := CW1.c2
      have hz : (k : Int) < (nw : Int) := by omega
      have hz2 : (k : Int) < (nx : Int) := by omega
      have t1 : wr.Since wr.heap.size (wr.alloc (.cells #[.bool (qn (W k)), .slice aW nW cW, .slice bW mW dW] 70)) := (World.Since.refl _ _).alloc (Nat.le_refl _) _
      have p1 := Box3.new wr (.bool (qn (W k))) (.slice aW nW cW) (.slice bW mW dW) 70
      go_wp2_with fail
      generalize wr.alloc (.cells #[.bool (qn (W k)), .slice aW nW cW, .slice bW mW dW] 70) = w1 at *
      refine (isZeroRat_any (qn (W k)) aW bW nW cW mW dW w1).mono ?_
      rintro e w2 ⟨rfl, s2⟩
      have u2 : wr.Since wr.heap.size w2 := t1.trans (sinceMono s2 t1.size)
      have S2 : w.Since w.heap.size w2 := s.trans (sinceMono u2 s.size)
      clear g0 g1 g2 CW1 CX1
      by_cases hw0 : nW = 0
      · have q1 : ((nW : Int) == 0) = true := by simp [hw0]
        have HS := hide (psum_skip (b := b) (W := W) (X := X) (k := k) (.inl (q_zero (by rw [← vW1, hw0]; rfl))))
        clear hw0
        go_wp2
        go_roundw
        case rel =>
          refine ⟨k + 1, by omega, by go_num, ?_⟩
          rw [HS.out]
          exact ⟨S2, Nat.le_trans hsz u2.size, r1.keep u2, a1, n1, c1, a2, n2, c2, o1.keep u2, T1.keep u2⟩
        case measure => simp [intOf]; omega
      have q1 : ((nW : Int) == 0) = false := by simp; omega
      have CX2 := CX.keep S2
      have h0 := CX2.c0
      have h1 := CX2.c1
      have h2 := CX2.c2
      go_wp2_with fail
      refine (isZeroRat_any (qn (X k)) aX bX nX cX mX dX w2).mono ?_
      rintro e w3 ⟨rfl, s3⟩
      have u3 : wr.Since wr.heap.size w3 := u2.trans (sinceMono s3 u2.size)
      have S3 : w.Since w.heap.size w3 := s.trans (sinceMono u3 s.size)
      clear h0 h1 h2 CX2
      by_cases hx0 : nX = 0
      · have q2 : ((nX : Int) == 0) = true := by simp [hx0]
        have HS := hide (psum_skip (b := b) (W := W) (X := X) (k := k) (.inr (q_zero (by rw [← vX1, hx0]; rfl))))
        clear hx0
        go_wp2
        go_roundw
        case rel =>
          refine ⟨k + 1, by omega, by go_num, ?_⟩
          rw [HS.out]
          exact ⟨S3, Nat.le_trans hsz u3.size, r1.keep u3, a1, n1, c1, a2, n2, c2, o1.keep u3, T1.keep u3⟩
        case measure => simp [intOf]; omega
      have q2 : ((nX : Int) == 0) = false := by simp; omega
      have dr : w3.Since w3.heap.size w3.drew := (World.Since.refl _ _).drew
      have u5 : wr.Since wr.heap.size w3.drew := u3.trans (sinceMono dr u3.size)
      have S5 : w.Since w.heap.size w3.drew := s.trans (sinceMono u5 s.size)
      have p5 := (p1.keep (s2.trans (sinceMono s3 s2.size))).keep dr
      have D5 := o1.keep u5
      have T5 := T1.keep u5
      have CX5 := CX.keep S5
      have J := plusProduct_any (psum b W X k) (W k) (X k) _ _ _ w3.drew (Nat.lt_of_lt_of_le hw S5.size) (hT.stay hw S5) T5.read (CW.keep S5).R.read CX5.R.read (qb k hk) (qW k hlt) (qX k hlt)
      have HE := hide (show psum b W X (k + 1) = psum b W X k + W k * X k from rfl)
      clear q1 q2
      go_wp2_with fail
      refine wp_region_held_drew (S := (fun w' => w'.cell? ⟨wr.heap.size, 0, none⟩ = some (.bool (qn (W k))) ∧ w'.cell? ⟨wr.heap.size, 1, none⟩ = some (.slice aW nW cW) ∧ w'.cell? ⟨wr.heap.size, 2, none⟩ = some (.slice bW mW dW) ∧ w'.cell? ⟨bx, ox + k * 3, none⟩ = some (.bool (qn (X k))) ∧ w'.cell? ⟨bx, ox + k * 3 + 1, none⟩ = some (.slice aX nX cX) ∧ w'.cell? ⟨bx, ox + k * 3 + 2, none⟩ = some (.slice bX mX dX))) (by kernel_rfl) ⟨p5.c0, p5.c1, p5.c2, CX5.c0, CX5.c1, CX5.c2⟩ (fun hHeld => ?_)
      refine take_at 1 (some 28) (.agg #[.bool (qn (W k)), .slice aW nW cW, .slice bW mW dW]) rfl (by kernel_rfl) (by kernel_rfl) (by kernel_rfl) (by kernel_rfl) (fun _ _ _ h => h) (by kernel_rfl) (by assumption) ?_ ?_
      · intro w' hSw
        try dsimp only at hSw
        go_simp
      simp only [Act.put, List.setIfInBounds_toArray, List.set_cons_zero, List.set_cons_succ]
      refine take_at 2 (some 29) (.slice (some ⟨bx, ox, none⟩) nx cx) rfl (by kernel_rfl) (by kernel_rfl) (by kernel_rfl) (by kernel_rfl) (fun _ _ _ h => h) (by kernel_rfl) (by assumption) ?_ ?_
      · intro w' hSw
        clear hSw
        kernel_rfl
      simp only [Act.put, List.setIfInBounds_toArray, List.set_cons_zero, List.set_cons_succ]
      refine take_at 3 (some 30) (.int .i64 k) rfl (by kernel_rfl) (by kernel_rfl) (by kernel_rfl) (by kernel_rfl) (fun _ _ _ h => h) (by kernel_rfl) (by assumption) ?_ ?_
      · intro w' hSw
        clear hSw
        kernel_rfl
      simp only [Act.put, List.setIfInBounds_toArray, List.set_cons_zero, List.set_cons_succ]
      refine take_at 4 (some 31) (.pointer (some ⟨bx, ox + k * 3, none⟩)) rfl (by kernel_rfl) (by kernel_rfl) (by kernel_rfl) (by kernel_rfl) (fun _ _ _ h => h) (by kernel_rfl) (by assumption) ?_ ?_
      · intro w' hSw
        try dsimp only at hSw
        go_simp
      simp only [Act.put, List.setIfInBounds_toArray, List.set_cons_zero, List.set_cons_succ]
      refine take_at 5 (some 32) (.agg #[.bool (qn (X k)), .slice aX nX cX, .slice bX mX dX]) rfl (by kernel_rfl) (by kernel_rfl) (by kernel_rfl) (by kernel_rfl) (fun _ _ _ h => h) (by kernel_rfl) (by assumption) ?_ ?_
      · intro w' hSw
        try dsimp only at hSw
        go_simp
      simp only [Act.put, List.setIfInBounds_toArray, List.set_cons_zero, List.set_cons_succ]
      refine wpAnyH_ready (rs := [0]) (by kernel_rfl) (by simp) ?_
      refine AllReadyH.cons rfl (fun K hK => ?_) AllReadyH.nil
      have l0 := D5.c0
      have l1 := D5.c1
      have l2 := D5.c2
      go_simp
      clear l0 l1 l2
      refine hK.out _ _ ⟨p5.c0, p5.c1, p5.c2, CX5.c0, CX5.c1, CX5.c2⟩ (fun h1 => ?_)
      clear hK K hHeld
      refine wpAnyH_ready (rs := [6]) (by kernel_rfl) (by simp) ?_
      refine AllReadyH.cons rfl (fun K hK => ?_) AllReadyH.nil
      go_simp
      go_wp2_with (go_at_call 118; with_reducible refine J.mono ?_; rintro e w11 ⟨v, rfl, RP, s11⟩)
      obtain ⟨a5, n5, c5, b5', m5, d5, -, -, -, -, -, -, e5, -⟩ := id RP
      subst e5
      have u11 : wr.Since wr.heap.size w11 := u5.trans (sinceMono s11 u5.size)
      have S11 : w.Since w.heap.size w11 := s.trans (sinceMono u11 s.size)
      have p11 := p5.keep s11
      have D11 := D5.keep s11
      have r11 := r1.keep u11
      have CX11 := CX.keep S11
      refine hK.out _ _ ⟨p11.c0, p11.c1, p11.c2, CX11.c0, CX11.c1, CX11.c2⟩ (fun h2 => ?_)
      clear hK K h1
      refine wpAnyH_ready (rs := [7]) (by kernel_rfl) (by simp) ?_
      refine AllReadyH.cons rfl (fun K hK => ?_) AllReadyH.nil
      have l0 := D11.c0
      have l1 := D11.c1
      have l2 := D11.c2
      have lf0 := D11.f 0
      have lf1 := D11.f 1
      have lf2 := D11.f 2
      go_simp
      clear l0 l1 l2 lf0 lf1 lf2
      have o12 := ((D11.set0 (.bool (qn (psum b W X k + W k * X k)))).set1 (.slice a5 n5 c5)).set2 (.slice b5' m5 d5)
      have M12 : Marked w11 _ (w.heap.size + 1 + 1) := (((Marked.refl w11 _).setCell 0 (.bool (qn (psum b W X k + W k * X k)))).setCell 1 (.slice a5 n5 c5)).setCell 2 (.slice b5' m5 d5)
      have S12 := S11.trans (M12.since (B := w.heap.size) (by omega))
      have p12 := p11.marked M12 (by omega)
      have CX12 := CX.keep S12
      have z11 := u11.size
      have z5 := u5.size
      refine hK.out _ _ ⟨p12.c0, p12.c1, p12.c2, CX12.c0, CX12.c1, CX12.c2⟩ (fun hH9 => ?_)
      clear hK K hH9 h2
      refine wpAnyH_done (by kernel_rfl) ?_ _
      go_wp2
      go_roundw
      case rel =>
        go_light
        refine ⟨k + 1, by omega, by go_num, S12, by rw [M12.size]; omega, r11.marked M12 (by omega), a5, n5, c5, b5', m5, d5, ?_, ?_⟩
        · rw [HE.out]; exact o12
        · rw [HE.out]; exact (RP.imp (p' := fun g => (g < w.heap.size ∨ w.heap.size + 1 + 1 < g) ∧ p g) (fun g _ hB => by
            have hB' : w3.drew.heap.size ≤ g := hB
            exact ⟨.inr (by omega), hp g (by omega)⟩)).marked M12 (fun h => by have := h.1; omega)
      case measure => simp [intOf]; omega
    · have e : k = nw := by omega
      subst e
      have k0 := o1.c0
      have k1 := o1.c1
      have k2 := o1.c2
      have q0 := r1.c0
      have q1 := r1.c1
      have q2 := r1.c2
      have qf0 := r1.f 0
      have qf1 := r1.f 1
      have qf2 := r1.f 2
      go_wp2
      have r2 := ((r1.set0 (.bool (qn (psum b W X k)))).set1 (.slice a1 n1 c1)).set2 (.slice a2 n2 c2)
      refine bodyPost_ret (results_box3 rfl _ _ _ _ _ _ rfl r2) rfl ?_
      have M : Marked wr _ (w.heap.size + 1) := (((Marked.refl wr _).setCell 0 (.bool (qn (psum b W X k)))).setCell 1 (.slice a1 n1 c1)).setCell 2 (.slice a2 n2 c2)
      exact ⟨_, _, rfl, (T1.marked M (fun h => by have := h.1; omega)).imp (fun g _ h => h.2), s.trans (M.since (by omega))⟩

end Go.Proofs.YtkhpggnnpfckdaaGreatDoor

namespace Go.Proofs.YtkhpggnnpfckdaaGreatDoor
open Go.RowKit

theorem size_matrix : (Tryz.prog.info? 110).map (·.size) = some 3 := by kernel_rfl

set_option maxHeartbeats 1600000 in
set_option maxRecDepth 100000 in
theorem weightsOf_any (r q : Int) (a1 a2 : Option Addr) (n1 k1 n2 k2 : Nat) (w : World) :
    Calls Tryz.prog 72 #[.agg #[.int .i64 r, .int .i64 q, .slice a1 n1 k1, .slice a2 n2 k2]] w fun e w' => e = .returned (.agg #[.int .i64 r, .int .i64 q, .slice a1 n1 k1]) ∧ w.Since w.heap.size w' := by
  have sA : w.Since w.heap.size ((w.alloc (.cells #[.int .i64 r, .int .i64 q, .slice a1 n1 k1, .slice a2 n2 k2] 66)).alloc (.cells #[.int .i64 r, .int .i64 q, .slice a1 n1 k1] 110)) := ((World.Since.refl _ _).alloc (Nat.le_refl _) _).alloc (by simp) _
  have rA := Box3.new (w.alloc (.cells #[.int .i64 r, .int .i64 q, .slice a1 n1 k1, .slice a2 n2 k2] 66)) (.int .i64 r) (.int .i64 q) (.slice a1 n1 k1) 110
  go_enter Tryz.func72, Tryz.ntmps72
  go_wp2
  rw [show (w.alloc (.cells #[.int .i64 r, .int .i64 q, .slice a1 n1 k1, .slice a2 n2 k2] 66)).heap.size = w.heap.size + 1 by simp] at rA
  refine bodyPost_ret (results_box3T rfl Tryz.underlying110 rfl size_matrix _ _ _ _ _ _ rfl rA) rfl ?_
  exact ⟨rfl, sA⟩

set_option maxHeartbeats 1600000 in
set_option maxRecDepth 100000 in
theorem row_any (c : Nat) (rows cols r nw k1 b off : Nat) (a1 : Option Addr) (p : Nat → Prop) (W : Nat → Rat) (w : World) (hr : r < rows) (hrw : rows ≤ 20000) (hcl : cols ≤ 20000) (hnw : nw = rows * cols) (hk : nw ≤ k1)
    (B : Box3 w c (.int .i64 rows) (.int .i64 cols) (.slice a1 nw k1)) (H : RatQs w p a1 b off nw W) :
    Calls Tryz.prog 74 #[.pointer (some ⟨c, 0, none⟩), .int .i64 r] w fun e w' => ∃ a' b' off', e = .returned (.slice a' cols cols) ∧ RatQs w' p a' b' off' cols (fun j => W (r * cols + j)) ∧ Same w w' := by
  have k0 := B.c0
  have k1' := B.c1
  have k2 := B.c2
  obtain ⟨F, hF⟩ : ∃ F, F = r * cols := ⟨_, rfl⟩
  obtain ⟨G, hG⟩ : ∃ G, G = (r + 1) * cols := ⟨_, rfl⟩
  have hFG : G = F + cols := by rw [hF, hG, Nat.add_mul, Nat.one_mul]
  have hGn : G ≤ nw := by rw [hG, hnw]; exact Nat.mul_le_mul_right _ hr
  have hnb : nw ≤ 20000 * 20000 := by rw [hnw]; exact Nat.mul_le_mul hrw hcl
  have e1 : (r : Int) * (cols : Int) = (F : Int) := by rw [hF, Int.natCast_mul]
  have e2 : ((r : Int) + 1) * (cols : Int) = (G : Int) := by rw [hG, Int.natCast_mul]; rfl
  have f1 : (F : Int) ≤ (G : Int) := by omega
  have f2 : (G : Int) ≤ (k1 : Int) := by omega
  have f3 : (G : Int) ≤ 400000000 := by omega
  have HF := hide hF
  have HG := hide hFG
  clear hF hG hnw hFG
  go_enter Tryz.func74, Tryz.ntmps74
  go_wp2_with fail
  go_quiet (fail)
  go_wp2
  case inl =>
    go_ret
    have hc : cols = 0 := by have := HG.out; omega
    refine ⟨a1, ?_, ⟨b, off, fun j hj => absurd hj (by omega)⟩, (Same.refl w).drewN _⟩
    show Ending.returned (.slice a1 0 0) = _
    rw [hc]
  case inr =>
    go_ret
    refine ⟨Option.map (fun x => x.add (F * 3)) a1, ?_, ⟨b, off + F * 3, fun j hj => ?_⟩, (Same.refl w).drewN _⟩
    · show Ending.returned (.slice (Option.map (fun x => x.add (F * 3)) a1) (G - F) (G - F)) = _
      rw [HG.out, Nat.add_sub_cancel_left]
    · obtain ⟨rfl, x, y, m⟩ := H (F + j) (by have := HG.out; omega)
      rw [show off + (F + j) * 3 = off + F * 3 + j * 3 by omega] at m
      refine ⟨?_, x, y, ?_⟩
      · rw [Option.map_some, Go.WideShapes.add_plain]
      · rw [← HF.out]; exact m.keep ((Same.refl w).drewN _ |>.since _)

end Go.Proofs.YtkhpggnnpfckdaaGreatDoor

namespace Go.Proofs.YtkhpggnnpfckdaaGreatDoor
open Go.RowKit

/-- What an affine map makes of a vector. -/
def qApply (d : AffD) (v : Nat → Rat) (r : Nat) : Rat := psum (d.B r).q (fun c => (d.W (r * d.cols.toNat + c)).q) v d.cols.toNat

/-- Every number that comes up in a row keeps within 2^20 + 1 limbs. -/
structure RowB (d : AffD) (v : Nat → Rat) : Prop where
  s : ∀ r, r < d.rows.toNat → ∀ k, k ≤ d.cols.toNat → Qb (psum (d.B r).q (fun c => (d.W (r * d.cols.toNat + c)).q) v k) 1048577
  W : ∀ i, i < d.nw → Qb (d.W i).q 1048577
  v : ∀ c, c < d.cols.toNat → Qb (v c) 1048577

set_option maxHeartbeats 6400000 in
set_option maxRecDepth 100000 in
theorem imageOf_any (d : AffD) (lo : Nat) (a1 a2 : Option Addr) (k1 k2 : Nat) (ax : Option Addr) (bx ox cx : Nat) (v : Nat → Rat) (w : World) (hw : 0 < w.heap.size) (hT : Tab w) (hd : d.shape) (hv : d.vals) (H : AffL w lo d a1 a2 k1 k2)
    (HX : RatQs w (fun _ => True) ax bx ox d.cols.toNat v) (hB : RowB d v) :
    Calls Tryz.prog 37 #[.agg #[.int .i64 d.rows, .int .i64 d.cols, .slice a1 d.nw k1, .slice a2 d.nb k2], .slice ax d.cols.toNat cx] w fun e w' => ∃ c, e = .returned (.slice (some ⟨c, 0, none⟩) d.rows.toNat d.rows.toNat) ∧ w.heap.size ≤ c ∧
      RatQs w' (fun g => g ≠ c) (some ⟨c, 0, none⟩) c 0 d.rows.toNat (qApply d v) ∧ w.Since w.heap.size w' := by
  obtain ⟨⟨hr0, hr1, hc0, hc1⟩, hnw, hnb⟩ := hd
  obtain ⟨R, hR⟩ : ∃ R, R = d.rows.toNat := ⟨_, rfl⟩
  obtain ⟨C, hC⟩ : ∃ C, C = d.cols.toNat := ⟨_, rfl⟩
  have eR : d.rows = (R : Int) := by omega
  have eC : d.cols = (C : Int) := by omega
  have hnw' : d.nw = R * C := by rw [eR, eC, ← Int.natCast_mul] at hnw; exact Int.ofNat_inj.1 hnw
  have hnb' : d.nb = R := by omega
  have QB := hide hB
  have EQ := hide (show ∀ r, qApply d v r = psum (d.B r).q (fun j => (d.W (r * C + j)).q) v C by intro r; rw [hC]; rfl)
  rw [← hC] at HX
  rw [← hR, ← hC, eR, eC]
  have LV := hide hv
  have HR := hide hR
  have HCc := hide hC
  obtain ⟨b1, o1, -, LW⟩ := H.LW
  obtain ⟨b2, o2, -, LB⟩ := H.LB
  have QW := LW.qs hv.1
  have QQ := LB.qs hv.2
  have nc := H.nc
  rw [hnw'] at QW
  rw [hnb'] at QQ
  have hRb : R ≤ 20000 := by omega
  have hCb : C ≤ 20000 := by omega
  have hRC : R * C ≤ 20000 * 20000 := Nat.mul_le_mul hRb hCb
  have HNW := hide hnw'
  rw [hnb']
  clear hr0 hr1 hc0 hc1 hnw hnb hR hC hB hv eR eC H LW LB hnw' hnb'
  have hmk := run_make_wide (P := Tryz.prog) 28 70 _ 3 56 Tryz.underlying28 info_Rat .i64 .i64 R (by omega) (by omega)
  have sA : w.Since w.heap.size (w.alloc (.cells #[.int .i64 R, .int .i64 C, .slice a1 d.nw k1, .slice a2 R k2] 66)) := (World.Since.refl _ _).alloc (Nat.le_refl _) _
  have bA := Box4.new w (.int .i64 R) (.int .i64 C) (.slice a1 d.nw k1) (.slice a2 R k2) 66
  go_enter Tryz.func37, Tryz.ntmps37
  go_wp2_with fail
  generalize w.alloc (.cells #[.int .i64 R, .int .i64 C, .slice a1 d.nw k1, .slice a2 R k2] 66) = wA at *
  refine (weightsOf_any R C a1 a2 d.nw k1 R k2 wA).mono ?_
  rintro e w1 ⟨rfl, s1⟩
  have S1 : w.Since w.heap.size w1 := sA.trans (sinceMono s1 sA.size)
  have B1 := bA.keep s1
  have t2 : w1.Since w1.heap.size (w1.alloc (.cells #[.int .i64 R, .int .i64 C, .slice a1 d.nw k1] 110)) := (World.Since.refl _ _).alloc (Nat.le_refl _) _
  have M2 := Box3.new w1 (.int .i64 R) (.int .i64 C) (.slice a1 d.nw k1) 110
  have B2 := B1.keep t2
  have b0 := B2.c0
  have sC : w1.Since w1.heap.size ((w1.alloc (.cells #[.int .i64 R, .int .i64 C, .slice a1 d.nw k1] 110)).alloc (.cells (madeCells #[.bool false, .slice none 0 0, .slice none 0 0] (R * 3)) 70)) := t2.alloc t2.size _
  have rC := Room.new (w1.alloc (.cells #[.int .i64 R, .int .i64 C, .slice a1 d.nw k1] 110)) #[.bool false, .slice none 0 0, .slice none 0 0] (R * 3) 70
  have M3 := M2.keep ((World.Since.refl _ _).alloc (Nat.le_refl _) (.cells (madeCells #[.bool false, .slice none 0 0, .slice none 0 0] (R * 3)) 70))
  have B3 := B2.keep ((World.Since.refl _ _).alloc (Nat.le_refl _) (.cells (madeCells #[.bool false, .slice none 0 0, .slice none 0 0] (R * 3)) 70))
  have zc : (w1.alloc (.cells #[.int .i64 R, .int .i64 C, .slice a1 d.nw k1] 110)).heap.size = w1.heap.size + 1 := by simp
  rw [zc] at rC
  have S3 : w.Since w.heap.size ((w1.alloc (.cells #[.int .i64 R, .int .i64 C, .slice a1 d.nw k1] 110)).alloc (.cells (madeCells #[.bool false, .slice none 0 0, .slice none 0 0] (R * 3)) 70)) := S1.trans (sinceMono sC S1.size)
  have z1 := S1.size
  go_wp2_with fail
  clear t2 M2 B2 b0 zc bA B1
  generalize ((w1.alloc (.cells #[.int .i64 R, .int .i64 C, .slice a1 d.nw k1] 110)).alloc (.cells (madeCells #[.bool false, .slice none 0 0, .slice none 0 0] (R * 3)) 70)) = w3 at *
  go_loopw [15] (fun i wr => ∃ k : Nat, k ≤ R ∧ i = .int .i64 k ∧ w.Since w.heap.size wr ∧ Box4 wr w.heap.size (.int .i64 R) (.int .i64 C) (.slice a1 d.nw k1) (.slice a2 R k2) ∧ Box3 wr w1.heap.size (.int .i64 R) (.int .i64 C) (.slice a1 d.nw k1) ∧ Room wr (w1.heap.size + 1) (R * 3) ∧
      RatQs wr (fun g => g ≠ w1.heap.size + 1) (some ⟨w1.heap.size + 1, 0, none⟩) (w1.heap.size + 1) 0 k (qApply d v)) (fun i _ => R - (intOf i).toNat)
  case atStart => exact ⟨0, Nat.zero_le _, rfl, S3, B3, M3, rC, fun i hi => absurd hi (by omega)⟩
  case round =>
    obtain ⟨k, hk, rfl, s, B, M, r, T⟩ := hrel
    by_cases hlt : k < R
    · obtain ⟨rfl, xb, yb, CB⟩ := QQ k hlt
      have hz : (k : Int) < (R : Int) := by omega
      have rl := r.lt
      have dr : wr.Since wr.heap.size wr.drew := (World.Since.refl _ _).drew
      have sd : w.Since w.heap.size wr.drew := s.trans (sinceMono dr s.size)
      have Bd := B.keep dr
      have Md := M.keep dr
      have CBd := CB.keep sd
      have J1 := row_any w1.heap.size R C k d.nw k1 b1 o1 a1 (fun g => lo ≤ g) (fun i => (d.W i).q) wr.drew hlt hRb hCb HNW.out nc Md (by rw [HNW.out]; exact QW.keep sd)
      have p3 := B.c3
      have g0 := (CB.keep s).c0
      have g1 := (CB.keep s).c1
      have g2 := (CB.keep s).c2
      have p3' := Bd.c3
      have g0' := CBd.c0
      have g1' := CBd.c1
      have g2' := CBd.c2
      obtain ⟨a5, n5, c5, b5, m5, d5, -, -, -, -, -, -, e5, -⟩ := CB.R
      simp only [Value.agg.injEq, Array.mk.injEq, List.cons.injEq, and_true, true_and] at e5
      obtain ⟨rfl, rfl⟩ := e5
      have bl := CB.lt
      have ne1 : w1.heap.size + 1 ≠ w.heap.size := by omega
      have ne2 : w1.heap.size + 1 ≠ b2 := by omega
      clear Bd Md CBd
      go_wp2_with fail
      go_region_held3 (fun w' => w'.cell? ⟨w.heap.size, 3, none⟩ = some (.slice (some ⟨b2, o2, none⟩) R k2) ∧ w'.cell? ⟨b2, o2 + k * 3, none⟩ = some (.bool (qn (d.B k).q)) ∧ w'.cell? ⟨b2, o2 + k * 3 + 1, none⟩ = some (.slice a5 n5 c5) ∧ w'.cell? ⟨b2, o2 + k * 3 + 2, none⟩ = some (.slice b5 m5 d5)) (go_keep)
        (first
          | (go_at_call 74
             with_reducible refine J1.mono ?_
             rintro e w4 ⟨aw, bw, ow, rfl, Q4, m4⟩
             have u4 : wr.Since wr.heap.size w4 := dr.trans (m4.since _)
             have S4 : w.Since w.heap.size w4 := s.trans (sinceMono u4 s.size)
             have J2 := weighedSum_any (fun g => g ≠ w1.heap.size + 1) (d.B k).q (.slice a5 n5 c5) (.slice b5 m5 d5) aw ax bw ow C C bx ox C cx (fun j => (d.W (k * C + j)).q) v w4 (Nat.lt_of_lt_of_le hw S4.size) (hT.stay hw S4) (fun g hg => by have := u4.size; omega) ((CB.R.imp (p' := fun g => g ≠ w1.heap.size + 1) (fun g hg _ => by omega)).keep S4) (Q4.imp (fun _ _ _ => trivial)) (HX.keep S4) (Nat.le_refl _) (by omega)
               (fun j hj => by have := QB.out.s k (by rw [← HR.out]; exact hlt) j (by rw [← HCc.out]; exact hj); rw [← HCc.out] at this; exact this) (fun j hj => QB.out.W _ (by rw [HNW.out]; exact Nat.lt_of_lt_of_le (Nat.add_lt_add_left hj (k * C)) (by rw [← Nat.succ_mul]; exact Nat.mul_le_mul_right _ hlt))) (fun j hj => QB.out.v j (by rw [← HCc.out]; exact hj))
             have i3 := (B.keep u4).c3
             have j0 := (CB.keep S4).c0
             have j1 := (CB.keep S4).c1
             have j2 := (CB.keep S4).c2)
          | (go_at_call 73
             with_reducible refine J2.mono ?_
             rintro e w5 ⟨x5, y5, rfl, R5, s5⟩
             have R6 := R5
             obtain ⟨a6, n6, c6, b6, m6, d6, -, -, -, -, -, -, e6, -⟩ := R6
             simp only [Value.agg.injEq, Array.mk.injEq, List.cons.injEq, and_true, true_and] at e6
             obtain ⟨rfl, rfl⟩ := e6
             have u5 : wr.Since wr.heap.size w5 := u4.trans (sinceMono s5 u4.size)
             have S5 : w.Since w.heap.size w5 := s.trans (sinceMono u5 s.size)
             have r5 := r.keep u5
             have i3' := (B.keep u5).c3
             have j0' := (CB.keep S5).c0
             have j1' := (CB.keep S5).c1
             have j2' := (CB.keep S5).c2
             obtain ⟨v0, y0'⟩ := r5.cell (k * 3) (by omega)
             obtain ⟨v1, y1'⟩ := r5.cell (k * 3 + 1) (by omega)
             obtain ⟨v2, y2'⟩ := r5.cell (k * 3 + 2) (by omega)
             have f0 := r5.f (k * 3)
             have f1 := r5.f (k * 3 + 1)
             have f2 := r5.f (k * 3 + 2)))
      all_goals go_wp2
      all_goals go_roundw
      case rel =>
        go_light
        obtain ⟨w7, e7, M7, R7, x0, x1, x2, xo⟩ := put3 (q := k * 3) r5 (by omega) (.bool (qn (psum (d.B k).q (fun j => (d.W (k * C + j)).q) v C))) (.slice a6 n6 c6) (.slice b6 m6 d6)
        rw [← e7]
        rw [← EQ.out k] at R5 x0
        exact ⟨k + 1, by omega, by go_num, S5.trans (M7.since (by omega)), (B.keep u5).marked M7 (by omega), (M.keep u5).marked M7 (by omega), R7, (T.keep u5).put M7 (fun o ho => xo o (by omega)) R5 x0 x1 x2⟩
      case measure => simp [intOf]; omega
    · have e : k = R := by omega
      subst e
      go_wp2
      go_ret
      exact ⟨w1.heap.size + 1, rfl, by omega, T, s⟩

end Go.Proofs.YtkhpggnnpfckdaaGreatDoor

namespace Go.Proofs.YtkhpggnnpfckdaaGreatDoor
open Go.RowKit

def qrelu (q : Rat) : Rat := if qn q = true then 0 else q

theorem qrelu_neg {q : Rat} (h : qn q = true) : qrelu q = 0 := by simp [qrelu, h]
theorem qrelu_pos {q : Rat} (h : qn q = false) : qrelu q = q := by simp [qrelu, h]

set_option maxHeartbeats 3200000 in
set_option maxRecDepth 100000 in
theorem rectified_any (ax : Option Addr) (bx ox n cx : Nat) (v : Nat → Rat) (w : World) (hn : n ≤ 1048576) (HX : RatQs w (fun _ => True) ax bx ox n v) :
    Calls Tryz.prog 38 #[.slice ax n cx] w fun e w' => ∃ c, e = .returned (.slice (some ⟨c, 0, none⟩) n n) ∧ w.heap.size ≤ c ∧ RatQs w' (fun g => g ≠ c) (some ⟨c, 0, none⟩) c 0 n (fun i => qrelu (v i)) ∧ w.Since w.heap.size w' := by
  have hmk := run_make_wide (P := Tryz.prog) 28 70 _ 3 56 Tryz.underlying28 info_Rat .i64 .i64 n (by omega) (by omega)
  have sA := (World.Since.refl w.heap.size w).alloc (Nat.le_refl _) (.cells (madeCells #[.bool false, .slice none 0 0, .slice none 0 0] (n * 3)) 70)
  have rA := Room.new w #[.bool false, .slice none 0 0, .slice none 0 0] (n * 3) 70
  go_enter Tryz.func38, Tryz.ntmps38
  go_wp2
  go_loopw [10] (fun i wr => ∃ k : Nat, k ≤ n ∧ i = .int .i64 k ∧ w.Since w.heap.size wr ∧ Room wr w.heap.size (n * 3) ∧ RatQs wr (fun g => g ≠ w.heap.size) (some ⟨w.heap.size, 0, none⟩) w.heap.size 0 k (fun i => qrelu (v i))) (fun i _ => n - (intOf i).toNat)
  case atStart => exact ⟨0, Nat.zero_le _, rfl, sA, rA, fun i hi => absurd hi (by omega)⟩
  case round =>
    obtain ⟨k, hk, rfl, s, r, T⟩ := hrel
    by_cases hlt : k < n
    · obtain ⟨rfl, x, y, M⟩ := HX k hlt
      obtain ⟨a6, n6, c6, b6, m6, d6, -, -, -, -, -, -, e6, -⟩ := M.R
      simp only [Value.agg.injEq, Array.mk.injEq, List.cons.injEq, and_true, true_and] at e6
      obtain ⟨rfl, rfl⟩ := e6
      have M' := M.keep s
      have g0 := M'.c0
      have g1 := M'.c1
      have g2 := M'.c2
      have hz : (k : Int) < (n : Int) := by omega
      have rl := r.lt
      have bl := M.lt
      cases hq : qn (v k)
      · have HQ := hide hq
        rw [hq] at g0
        obtain ⟨v0, u0⟩ := r.cell (k * 3) (by omega)
        obtain ⟨v1, u1⟩ := r.cell (k * 3 + 1) (by omega)
        obtain ⟨v2, u2⟩ := r.cell (k * 3 + 2) (by omega)
        have f0 := r.f (k * 3)
        have f1 := r.f (k * 3 + 1)
        have f2 := r.f (k * 3 + 2)
        clear hq
        go_wp2
        go_roundw
        case rel =>
          go_light
          obtain ⟨w3, e3, M3, R3, x0, x1, x2, xo⟩ := put3 (q := k * 3) r (by omega) (.bool false) (.slice a6 n6 c6) (.slice b6 m6 d6)
          rw [← e3]
          have e : qrelu (v k) = v k := qrelu_pos HQ.out
          refine ⟨k + 1, by omega, by go_num, s.trans (M3.since (Nat.le_refl _)), R3, T.put M3 (fun o ho => xo o (by omega)) ?_ ?_ x1 x2⟩
          · rw [e]; exact (M.R.imp (p' := fun g => g ≠ w.heap.size) (fun g hg _ => by omega)).keep s
          · rw [e, HQ.out]; exact x0
        case measure => simp [intOf]; omega
      · have HQ := hide hq
        rw [hq] at g0
        clear hq
        go_wp2_with fail
        refine (zeroRat_any wr).mono ?_
        rintro e w2 ⟨u, rfl, RV, s2⟩
        have RP : RatRP w2 (fun g => wr.heap.size ≤ g) u (0 : Rat) := RatV.rp (q := 0) RV
        have RQ := RP
        obtain ⟨a7, n7, c7, b7, m7, d7, -, -, -, -, -, -, e7, -⟩ := RQ
        subst e7
        have r2 := r.keep s2
        have S2 : w.Since w.heap.size w2 := s.trans (sinceMono s2 s.size)
        obtain ⟨v0, u0⟩ := r2.cell (k * 3) (by omega)
        obtain ⟨v1, u1⟩ := r2.cell (k * 3 + 1) (by omega)
        obtain ⟨v2, u2⟩ := r2.cell (k * 3 + 2) (by omega)
        have f0 := r2.f (k * 3)
        have f1 := r2.f (k * 3 + 1)
        have f2 := r2.f (k * 3 + 2)
        clear g0 g1 g2
        go_wp2
        go_roundw
        case rel =>
          go_light
          obtain ⟨w3, e3, M3, R3, x0, x1, x2, xo⟩ := put3 (q := k * 3) r2 (by omega) (.bool (qn 0)) (.slice a7 n7 c7) (.slice b7 m7 d7)
          rw [← e3]
          have e : qrelu (v k) = 0 := qrelu_neg HQ.out
          refine ⟨k + 1, by omega, by go_num, S2.trans (M3.since (Nat.le_refl _)), R3, (T.keep s2).put M3 (fun o ho => xo o (by omega)) ?_ ?_ x1 x2⟩
          · rw [e]; exact RP.imp (fun g _ hg => by omega)
          · rw [e]; exact x0
        case measure => simp [intOf]; omega
    · have e : k = n := by omega
      subst e
      go_wp2
      go_ret
      exact ⟨w.heap.size, rfl, Nat.le_refl _, T, s⟩

end Go.Proofs.YtkhpggnnpfckdaaGreatDoor

namespace Go.Proofs.YtkhpggnnpfckdaaGreatDoor
open Go.RowKit

/-- ownCopy of a plain list. -/
theorem ownCopy_o (a : Option Addr) (b off n cap : Nat) (X : Nat → Nat) (w : World) (hn : n ≤ 4194304) (hnc : n ≤ cap) (hac : a = none → cap = 0) (hX : Limbs w a b off n X) (pX : 0 < n → X (n - 1) ≠ 0) :
    Calls Tryz.prog 76 #[.slice a n cap] w fun e w' => ∃ a' cap' g, e = .returned (.slice a' n cap') ∧ n ≤ cap' ∧ (a' = none → cap' = 0) ∧ Limbs w' a' g 0 n X ∧ (0 < n → w.heap.size ≤ g ∧ g < w'.heap.size ∧ ∀ o, w'.frozen? ⟨g, o, none⟩ = false) ∧ w.Since w.heap.size w' := by
  refine (ownCopy_any a b off n cap X w (by omega) hnc hac hX).mono ?_
  rintro e w' ⟨v, rfl, o, s⟩
  rw [tlen_plain pX] at o
  have hc := @World.ownsRow.cells _ _ _ _ _ _ _ o
  obtain ⟨_, ⟨rfl, rfl⟩ | ⟨g, cap', cur, rfl, hg, hb, hn', _⟩⟩ := o
  · exact ⟨none, 0, 0, rfl, Nat.le_refl _, fun _ => rfl, fun j hj => absurd hj (by omega), fun h => absurd h (by omega), s⟩
  · refine ⟨_, cap', g, rfl, hn', (fun h => by cases h), fun j hj => ⟨rfl, ?_⟩, fun h => ⟨hg, ?_, fun o => by simp [World.frozen?, hb]⟩, s⟩
    · have := hc (g := g) rfl j (.int .u32 (X j)) (ll_get X n j hj)
      rw [Go.WideShapes.add_plain] at this
      exact this
    · obtain ⟨hlt, _⟩ := Array.getElem?_eq_some_iff.1 hb
      exact hlt

/-- A rational in memory of its own: the limbs lie in blocks from lo to hi, each list in its own. -/
structure RatO (w : World) (lo hi b off : Nat) (q : Rat) (g h : Nat) (a1 : Option Addr) (n1 k1 : Nat) (a2 : Option Addr) (n2 k2 : Nat) (X Y : Nat → Nat) : Prop where
  c0 : w.cell? ⟨b, off, none⟩ = some (.bool (qn q))
  c1 : w.cell? ⟨b, off + 1, none⟩ = some (.slice a1 n1 k1)
  c2 : w.cell? ⟨b, off + 2, none⟩ = some (.slice a2 n2 k2)
  R : RIn w a1 a2 g 0 n1 k1 h 0 n2 k2 X Y
  v1 : lv X n1 = q.num.natAbs
  v2 : lv Y n2 = q.den
  lg : 0 < n1 → lo ≤ g ∧ g < hi ∧ ∀ o, w.frozen? ⟨g, o, none⟩ = false
  lh : 0 < n2 → lo ≤ h ∧ h < hi ∧ ∀ o, w.frozen? ⟨h, o, none⟩ = false
  ne : 0 < n1 → 0 < n2 → g ≠ h

section
variable {w w' : World} {lo hi b off : Nat} {q : Rat} {g h : Nat} {a1 : Option Addr} {n1 k1 : Nat} {a2 : Option Addr} {n2 k2 : Nat} {X Y : Nat → Nat}
theorem RatO.lt (r : RatO w lo hi b off q g h a1 n1 k1 a2 n2 k2 X Y) : b < w.heap.size := World.block_lt_of_cell? _ _ r.c0
theorem RatO.keep (r : RatO w lo hi b off q g h a1 n1 k1 a2 n2 k2 X Y) (s : w.Since w.heap.size w') : RatO w' lo hi b off q g h a1 n1 k1 a2 n2 k2 X Y :=
  ⟨(s.cell (a := ⟨b, off, none⟩) r.lt).trans r.c0, (s.cell (a := ⟨b, off + 1, none⟩) r.lt).trans r.c1, (s.cell (a := ⟨b, off + 2, none⟩) r.lt).trans r.c2, r.R.keep s, r.v1, r.v2,
    fun h0 => ⟨(r.lg h0).1, (r.lg h0).2.1, fun o => by rw [s.frozen (a := ⟨g, o, none⟩) (r.R.LX.lt h0)]; exact (r.lg h0).2.2 o⟩,
    fun h0 => ⟨(r.lh h0).1, (r.lh h0).2.1, fun o => by rw [s.frozen (a := ⟨h, o, none⟩) (r.R.LY.lt h0)]; exact (r.lh h0).2.2 o⟩, r.ne⟩
end

/-- A list of rationals in memory of its own: entry i has the blocks from E i to E (i + 1). -/
structure RatOs (w : World) (b n : Nat) (Q : Nat → Rat) (E : Nat → Nat) : Prop where
  at_ : ∀ i, i < n → ∃ g h a1 n1 k1 a2 n2 k2 X Y, RatO w (E i) (E (i + 1)) b (i * 3) (Q i) g h a1 n1 k1 a2 n2 k2 X Y
  lo : b < E 0
  mono : ∀ i, i < n → E i ≤ E (i + 1)

theorem RatOs.keep {w w' : World} {b n : Nat} {Q : Nat → Rat} {E : Nat → Nat} (T : RatOs w b n Q E) (s : w.Since w.heap.size w') : RatOs w' b n Q E := by
  refine ⟨fun i hi => ?_, T.lo, T.mono⟩
  obtain ⟨g, h, a1, n1, k1, a2, n2, k2, X, Y, r⟩ := T.at_ i hi
  exact ⟨g, h, a1, n1, k1, a2, n2, k2, X, Y, r.keep s⟩

theorem RatOs.base {w : World} {b n : Nat} {Q : Nat → Rat} {E : Nat → Nat} (T : RatOs w b n Q E) {i : Nat} (hi : i ≤ n) : b < E i := by
  induction i with
  | zero => exact T.lo
  | succ i ih => exact Nat.lt_of_lt_of_le (ih (by omega)) (T.mono i (by omega))

theorem RIn.marked {w w' : World} {a b : Option Addr} {ba oa n ca bb ob m cb c : Nat} {X Y : Nat → Nat} (R : RIn w a b ba oa n ca bb ob m cb X Y) (M : Marked w w' c) (h1 : 0 < n → ba ≠ c) (h2 : 0 < m → bb ≠ c) : RIn w' a b ba oa n ca bb ob m cb X Y :=
  ⟨R.nc, R.mc, R.ac, R.bc, R.LX.marked M h1, R.LY.marked M h2, R.lX, R.lY, R.pX, R.pY, R.m0⟩

theorem RatOs.put {w w' : World} {c k lo H : Nat} {v : Nat → Rat} {E : Nat → Nat} {g h : Nat} {a1 : Option Addr} {n1 k1 : Nat} {a2 : Option Addr} {n2 k2 : Nat} {X Y : Nat → Nat} (T : RatOs w c k v E) (hE : E k ≤ lo) (hH : lo ≤ H) (M : Marked w w' c)
    (hc : ∀ o, o < k * 3 → w'.cell? ⟨c, o, none⟩ = w.cell? ⟨c, o, none⟩) (R : RIn w a1 a2 g 0 n1 k1 h 0 n2 k2 X Y) (v1 : lv X n1 = (v k).num.natAbs) (v2 : lv Y n2 = (v k).den)
    (lg : 0 < n1 → lo ≤ g ∧ g < H ∧ ∀ o, w.frozen? ⟨g, o, none⟩ = false) (lh : 0 < n2 → lo ≤ h ∧ h < H ∧ ∀ o, w.frozen? ⟨h, o, none⟩ = false) (ne : 0 < n1 → 0 < n2 → g ≠ h)
    (c0 : w'.cell? ⟨c, k * 3, none⟩ = some (.bool (qn (v k)))) (c1 : w'.cell? ⟨c, k * 3 + 1, none⟩ = some (.slice a1 n1 k1)) (c2 : w'.cell? ⟨c, k * 3 + 2, none⟩ = some (.slice a2 n2 k2)) :
    RatOs w' c (k + 1) v (fun i => if i ≤ k then E i else H) := by
  refine ⟨fun i hi => ?_, by simpa using T.lo, fun i hi => ?_⟩
  · by_cases e : i = k
    · subst e
      have hb := T.base (Nat.le_refl i)
      refine ⟨g, h, a1, n1, k1, a2, n2, k2, X, Y, c0, c1, c2, R.marked M (fun h0 => by have := (lg h0).1; omega) (fun h0 => by have := (lh h0).1; omega), v1, v2, fun h0 => ?_, fun h0 => ?_, ne⟩
      · simp only [Nat.le_refl, if_true, show ¬ i + 1 ≤ i by omega, if_false]
        exact ⟨by have := (lg h0).1; omega, (lg h0).2.1, fun o => by rw [M.frozenO (a := ⟨g, o, none⟩) (by show g ≠ c; have := (lg h0).1; omega)]; exact (lg h0).2.2 o⟩
      · simp only [Nat.le_refl, if_true, show ¬ i + 1 ≤ i by omega, if_false]
        exact ⟨by have := (lh h0).1; omega, (lh h0).2.1, fun o => by rw [M.frozenO (a := ⟨h, o, none⟩) (by show h ≠ c; have := (lh h0).1; omega)]; exact (lh h0).2.2 o⟩
    · have hi' : i < k := by omega
      obtain ⟨g', h', b1, m1, l1, b2, m2, l2, X', Y', r⟩ := T.at_ i hi'
      have hb := T.base (show i ≤ k by omega)
      refine ⟨g', h', b1, m1, l1, b2, m2, l2, X', Y', (hc _ (by omega)).trans r.c0, (hc _ (by omega)).trans r.c1, (hc _ (by omega)).trans r.c2, r.R.marked M (fun h0 => by have := (r.lg h0).1; omega) (fun h0 => by have := (r.lh h0).1; omega), r.v1, r.v2, fun h0 => ?_, fun h0 => ?_, r.ne⟩
      · simp only [show i ≤ k by omega, if_true, show i + 1 ≤ k by omega]
        exact ⟨(r.lg h0).1, (r.lg h0).2.1, fun o => by rw [M.frozenO (a := ⟨g', o, none⟩) (by show g' ≠ c; have := (r.lg h0).1; omega)]; exact (r.lg h0).2.2 o⟩
      · simp only [show i ≤ k by omega, if_true, show i + 1 ≤ k by omega]
        exact ⟨(r.lh h0).1, (r.lh h0).2.1, fun o => by rw [M.frozenO (a := ⟨h', o, none⟩) (by show h' ≠ c; have := (r.lh h0).1; omega)]; exact (r.lh h0).2.2 o⟩
  · by_cases e : i = k
    · subst e
      simp only [Nat.le_refl, if_true, show ¬ i + 1 ≤ i by omega, if_false]
      omega
    · simp only [show i ≤ k by omega, if_true, show i + 1 ≤ k by omega]
      exact T.mono i (by omega)

set_option maxHeartbeats 6400000 in
set_option maxRecDepth 100000 in
theorem ownRats_any (ax : Option Addr) (bx ox n cx : Nat) (v : Nat → Rat) (w : World) (hn : n ≤ 1048576) (HX : RatQs w (fun _ => True) ax bx ox n v) (hq : ∀ i, i < n → Qb (v i) 1048577) :
    Calls Tryz.prog 39 #[.slice ax n cx] w fun e w' => ∃ c E, e = .returned (.slice (some ⟨c, 0, none⟩) n n) ∧ w.heap.size ≤ c ∧ RatOs w' c n v E ∧ Room w' c (n * 3) ∧ E n ≤ w'.heap.size ∧ w.Since w.heap.size w' := by
  have hmk := run_make_wide (P := Tryz.prog) 28 70 _ 3 56 Tryz.underlying28 info_Rat .i64 .i64 n (by omega) (by omega)
  have sA := (World.Since.refl w.heap.size w).alloc (Nat.le_refl _) (.cells (madeCells #[.bool false, .slice none 0 0, .slice none 0 0] (n * 3)) 70)
  have rA := Room.new w #[.bool false, .slice none 0 0, .slice none 0 0] (n * 3) 70
  have zA : w.heap.size < (w.alloc (.cells (madeCells #[.bool false, .slice none 0 0, .slice none 0 0] (n * 3)) 70)).heap.size := by simp
  go_enter Tryz.func39, Tryz.ntmps39
  go_wp2
  go_loopw [11] (fun i wr => ∃ k : Nat, k ≤ n ∧ i = .int .i64 k ∧ w.Since w.heap.size wr ∧ Room wr w.heap.size (n * 3) ∧ ∃ E, RatOs wr w.heap.size k v E ∧ E k ≤ wr.heap.size) (fun i _ => n - (intOf i).toNat)
  case atStart => exact ⟨0, Nat.zero_le _, rfl, sA, rA, fun _ => w.heap.size + 1, ⟨fun i hi => absurd hi (by omega), by omega, fun i hi => absurd hi (by omega)⟩, zA⟩
  case round =>
    obtain ⟨k, hk, rfl, s, r, E, T, hE⟩ := hrel
    by_cases hlt : k < n
    · obtain ⟨rfl, x, y, M⟩ := HX k hlt
      obtain ⟨a6, n6, c6, b6, m6, d6, ba, oa, bb, ob, X, Y, e6, RI, vX, vY, -, -⟩ := M.R
      simp only [Value.agg.injEq, Array.mk.injEq, List.cons.injEq, and_true, true_and] at e6
      obtain ⟨rfl, rfl⟩ := e6
      have z1 := lv_lim RI.pX (by rw [vX]; exact (hq k hlt).1)
      have z2 := lv_lim RI.pY (by rw [vY]; exact (hq k hlt).2)
      have M' := M.keep s
      have g0 := M'.c0
      have g1 := M'.c1
      have g2 := M'.c2
      have hz : (k : Int) < (n : Int) := by omega
      have rl := r.lt
      have t1 : wr.Since wr.heap.size (wr.alloc (.cells #[.bool (qn (v k)), .slice a6 n6 c6, .slice b6 m6 d6] 70)) := (World.Since.refl _ _).alloc (Nat.le_refl _) _
      have p1 := Box3.new wr (.bool (qn (v k))) (.slice a6 n6 c6) (.slice b6 m6 d6) 70
      go_wp2_with fail
      generalize wr.alloc (.cells #[.bool (qn (v k)), .slice a6 n6 c6, .slice b6 m6 d6] 70) = w1 at *
      have dr : w1.Since w1.heap.size w1.drew := (World.Since.refl _ _).drew
      have u2 : wr.Since wr.heap.size w1.drew := t1.trans (sinceMono dr t1.size)
      have S2 : w.Since w.heap.size w1.drew := s.trans (sinceMono u2 s.size)
      have zz : wr.heap.size ≤ w1.drew.heap.size := u2.size
      have RD := RI.keep S2
      have p2 := p1.keep dr
      have k0 := p1.c0
      have k1 := p1.c1
      have k2 := p1.c2
      have k0' := p2.c0
      have k1' := p2.c1
      have k2' := p2.c2
      have pl := p1.lt
      have JN := ownCopy_o a6 ba oa n6 c6 X w1.drew (by omega) RI.nc RI.ac RD.LX RI.pX
      have JD := ownCopy_o b6 bb ob m6 d6 Y w1.drew (by omega) RI.mc RI.bc RD.LY RI.pY
      have ne1 : w.heap.size ≠ wr.heap.size := by omega
      clear g0 g1 g2
      go_region_held3 (fun w' => w'.cell? ⟨wr.heap.size, 0, none⟩ = some (.bool (qn (v k))) ∧ w'.cell? ⟨wr.heap.size, 1, none⟩ = some (.slice a6 n6 c6) ∧ w'.cell? ⟨wr.heap.size, 2, none⟩ = some (.slice b6 m6 d6)) (go_keep)
        (first
          | (go_at_call 76
             with_reducible refine JN.mono ?_
             rintro e w4 ⟨aN, cN, gN, rfl, nN1, nN2, LN4, FN4, s4⟩
             have JD2 := ownCopy_o b6 bb ob m6 d6 Y w4 (by omega) RI.mc RI.bc (RD.LY.keep s4) RI.pY
             have p4 := p2.keep s4
             have i0 := p4.c0
             have i1 := p4.c1
             have i2 := p4.c2)
          | (go_at_call 76
             with_reducible refine JD.mono ?_
             rintro e w4 ⟨aD, cD, gD, rfl, nD1, nD2, LD4, FD4, s4⟩
             have JN2 := ownCopy_o a6 ba oa n6 c6 X w4 (by omega) RI.nc RI.ac (RD.LX.keep s4) RI.pX
             have p4 := p2.keep s4
             have i0 := p4.c0
             have i1 := p4.c1
             have i2 := p4.c2)
          | (go_at_call 76
             with_reducible refine JD2.mono ?_
             rintro e w5 ⟨aD, cD, gD, rfl, nD1, nD2, LD, FD, s5⟩
             have LN := LN4.keep s5
             have z5 := s5.size
             have z4 := s4.size
             have FN : 0 < n6 → w1.drew.heap.size ≤ gN ∧ gN < w5.heap.size ∧ ∀ o, w5.frozen? ⟨gN, o, none⟩ = false := fun h => ⟨(FN4 h).1, by have := (FN4 h).2.1; omega, fun o => by rw [s5.frozen (a := ⟨gN, o, none⟩) (LN4.lt h)]; exact (FN4 h).2.2 o⟩
             have FD' : 0 < m6 → w1.drew.heap.size ≤ gD ∧ gD < w5.heap.size ∧ ∀ o, w5.frozen? ⟨gD, o, none⟩ = false := fun h => ⟨by have := (FD h).1; omega, (FD h).2.1, (FD h).2.2⟩
             have NE : 0 < n6 → 0 < m6 → gN ≠ gD := fun h1 h2 => by have := (FN4 h1).2.1; have := (FD h2).1; omega
             have p5 := p4.keep s5
             have i0' := p5.c0
             have i1' := p5.c1
             have i2' := p5.c2
             have u5 : wr.Since wr.heap.size w5 := u2.trans (sinceMono (s4.trans (sinceMono s5 s4.size)) u2.size)
             have r5 := r.keep u5
             obtain ⟨v0, y0'⟩ := r5.cell (k * 3) (by omega)
             obtain ⟨v1, y1'⟩ := r5.cell (k * 3 + 1) (by omega)
             obtain ⟨v2, y2'⟩ := r5.cell (k * 3 + 2) (by omega)
             have f0 := r5.f (k * 3)
             have f1 := r5.f (k * 3 + 1)
             have f2 := r5.f (k * 3 + 2))
          | (go_at_call 76
             with_reducible refine JN2.mono ?_
             rintro e w5 ⟨aN, cN, gN, rfl, nN1, nN2, LN, FN4, s5⟩
             have LD := LD4.keep s5
             have z5 := s5.size
             have z4 := s4.size
             have FD' : 0 < m6 → w1.drew.heap.size ≤ gD ∧ gD < w5.heap.size ∧ ∀ o, w5.frozen? ⟨gD, o, none⟩ = false := fun h => ⟨(FD4 h).1, by have := (FD4 h).2.1; omega, fun o => by rw [s5.frozen (a := ⟨gD, o, none⟩) (LD4.lt h)]; exact (FD4 h).2.2 o⟩
             have FN : 0 < n6 → w1.drew.heap.size ≤ gN ∧ gN < w5.heap.size ∧ ∀ o, w5.frozen? ⟨gN, o, none⟩ = false := fun h => ⟨by have := (FN4 h).1; omega, (FN4 h).2.1, (FN4 h).2.2⟩
             have NE : 0 < n6 → 0 < m6 → gN ≠ gD := fun h1 h2 => by have := (FN4 h1).1; have := (FD4 h2).2.1; omega
             have p5 := p4.keep s5
             have i0' := p5.c0
             have i1' := p5.c1
             have i2' := p5.c2
             have u5 : wr.Since wr.heap.size w5 := u2.trans (sinceMono (s4.trans (sinceMono s5 s4.size)) u2.size)
             have r5 := r.keep u5
             obtain ⟨v0, y0'⟩ := r5.cell (k * 3) (by omega)
             obtain ⟨v1, y1'⟩ := r5.cell (k * 3 + 1) (by omega)
             obtain ⟨v2, y2'⟩ := r5.cell (k * 3 + 2) (by omega)
             have f0 := r5.f (k * 3)
             have f1 := r5.f (k * 3 + 1)
             have f2 := r5.f (k * 3 + 2)))
      all_goals go_wp2
      all_goals go_roundw
      case measure => simp [intOf]; omega
      all_goals go_light
      all_goals
        have S5 : w.Since w.heap.size w5 := s.trans (sinceMono u5 s.size)
        obtain ⟨w7, e7, M7, R7, x0, x1, x2, xo⟩ := put3 (q := k * 3) r5 (by omega) (.bool (qn (v k))) (.slice aN n6 cN) (.slice aD m6 cD)
        rw [← e7]
        refine ⟨k + 1, by omega, by go_num, S5.trans (M7.since (Nat.le_refl _)), R7, _, (T.keep u5).put (lo := w1.drew.heap.size) (H := w5.heap.size) (Nat.le_trans hE zz) (by omega) M7 (fun o ho => xo o (by omega)) ⟨nN1, nD1, nN2, nD2, LN, LD, RI.lX, RI.lY, RI.pX, RI.pY, RI.m0⟩ vX vY FN FD' NE x0 x1 x2, ?_⟩
        rw [if_neg (by omega), M7.size]
        exact Nat.le_refl _
    · have e : k = n := by omega
      subst e
      go_wp2
      go_ret
      exact ⟨w.heap.size, E, rfl, Nat.le_refl _, T, r, hE, s⟩

end Go.Proofs.YtkhpggnnpfckdaaGreatDoor

namespace Go.Proofs.YtkhpggnnpfckdaaGreatDoor
open Go.RowKit

/-- eqRat at two values of the same rational. -/
theorem eqRat_q {v v' : Value} {q : Rat} {k : Nat} {w : World} (hq : Qb q k) (hk : k ≤ 4194304) (R : RatR w v q) (R' : RatR w v' q) :
    Calls Tryz.prog 40 #[v, v'] w fun e w' => e = .returned (.bool true) ∧ w.Since w.heap.size w' := by
  obtain ⟨a, n, ca, b, m, cb, ba, oa, bb, ob, X, Y, rfl, R, x1, x2⟩ := R
  obtain ⟨a', n', ca', b', m', cb', ba', oa', bb', ob', X', Y', rfl, R', y1, y2⟩ := R'
  have n1 := lv_lim R.pX (by rw [x1]; exact hq.1)
  have n2 := lv_lim R.pY (by rw [x2]; exact hq.2)
  obtain ⟨rfl, eX⟩ := lv_inj R'.lX R.lX R'.pX R.pX (y1.trans x1.symm)
  obtain ⟨rfl, eY⟩ := lv_inj R'.lY R.lY R'.pY R.pY (y2.trans x2.symm)
  exact eqRat_true (qn q) a a' b b' ba oa ba' oa' _ ca ca' bb ob bb' ob' _ cb cb' X Y w (by omega) (by omega) R.LX (R'.LX.congr eX) R.LY (R'.LY.congr eY)

set_option maxHeartbeats 3200000 in
set_option maxRecDepth 100000 in
/-- eqRatS at two lists of the same rationals. -/
theorem eqRatS_q (a a' : Option Addr) (b off cap b' off' cap' n : Nat) (Q : Nat → Rat) (w : World) (hn : n ≤ 1048576) (hq : ∀ i, i < n → Qb (Q i) 1048577) (H : RatQs w (fun _ => True) a b off n Q) (H' : RatQs w (fun _ => True) a' b' off' n Q) :
    Calls Tryz.prog 12 #[.slice a n cap, .slice a' n cap'] w fun e w' => e = .returned (.bool true) ∧ w.Since w.heap.size w' := by
  go_enter Tryz.func12, Tryz.ntmps12
  go_wp2
  go_loopw [5] (fun i wr => ∃ k : Nat, k ≤ n ∧ i = .int .i64 k ∧ w.Since w.heap.size wr) (fun i _ => n - (intOf i).toNat)
  case atStart => exact ⟨0, Nat.zero_le _, rfl, World.Since.refl _ _⟩
  case round =>
    obtain ⟨k, hk, rfl, s⟩ := hrel
    by_cases hlt : k < n
    · obtain ⟨rfl, x, y, M⟩ := H k hlt
      obtain ⟨rfl, x', y', M'⟩ := H' k hlt
      have R1 := M.R.read
      have R2 := M'.R.read
      obtain ⟨a5, n5, c5, b5, m5, d5, -, -, -, -, -, -, e5, -⟩ := M.R
      obtain ⟨a6, n6, c6, b6, m6, d6, -, -, -, -, -, -, e6, -⟩ := M'.R
      simp only [Value.agg.injEq, Array.mk.injEq, List.cons.injEq, and_true, true_and] at e5 e6
      obtain ⟨rfl, rfl⟩ := e5
      obtain ⟨rfl, rfl⟩ := e6
      have dr : wr.Since wr.heap.size wr.drew := (World.Since.refl _ _).drew
      have sd : w.Since w.heap.size wr.drew := s.trans (sinceMono dr s.size)
      have g0 := (M.keep s).c0
      have g1 := (M.keep s).c1
      have g2 := (M.keep s).c2
      have g0' := (M'.keep s).c0
      have g1' := (M'.keep s).c1
      have g2' := (M'.keep s).c2
      have hz : (k : Int) < (n : Int) := by omega
      have J1 := eqRat_q (hq k hlt) (by omega) (R1.keep sd) (R2.keep sd)
      go_wp2_with fail
      go_region_held3 (fun w' => w'.cell? ⟨b, off + k * 3, none⟩ = some (.bool (qn (Q k))) ∧ w'.cell? ⟨b, off + k * 3 + 1, none⟩ = some (.slice a5 n5 c5) ∧ w'.cell? ⟨b, off + k * 3 + 2, none⟩ = some (.slice b5 m5 d5) ∧ w'.cell? ⟨b', off' + k * 3, none⟩ = some (.bool (qn (Q k))) ∧ w'.cell? ⟨b', off' + k * 3 + 1, none⟩ = some (.slice a6 n6 c6) ∧ w'.cell? ⟨b', off' + k * 3 + 2, none⟩ = some (.slice b6 m6 d6)) (go_keep)
        (first
          | (go_at_call 40
             with_reducible refine J1.mono ?_
             rintro e w1 ⟨rfl, s1⟩
             have S1 : w.Since w.heap.size w1 := sd.trans (sinceMono s1 sd.size)
             have i0 := (M.keep S1).c0
             have i1 := (M.keep S1).c1
             have i2 := (M.keep S1).c2
             have i0' := (M'.keep S1).c0
             have i1' := (M'.keep S1).c1
             have i2' := (M'.keep S1).c2))
      all_goals go_wp2
      all_goals go_roundw
      case rel => exact ⟨k + 1, by omega, by go_num, S1⟩
      case measure => simp [intOf]; omega
    · go_wp2
      go_ret
      exact ⟨rfl, s⟩

theorem RatOs.qs {w : World} {b n : Nat} {Q : Nat → Rat} {E : Nat → Nat} (T : RatOs w b n Q E) : RatQs w (fun _ => True) (some ⟨b, 0, none⟩) b 0 n Q := fun i hi => by
  obtain ⟨g, h, a1, n1, k1, a2, n2, k2, X, Y, r⟩ := T.at_ i hi
  refine ⟨rfl, .slice a1 n1 k1, .slice a2 n2 k2, by rw [Nat.zero_add]; exact r.c0, by rw [Nat.zero_add]; exact r.c1, by rw [Nat.zero_add]; exact r.c2, ?_⟩
  exact ⟨a1, n1, k1, a2, n2, k2, g, 0, h, 0, X, Y, rfl, r.R, r.v1, r.v2, fun _ => trivial, fun _ => trivial⟩

set_option maxHeartbeats 800000 in
set_option maxRecDepth 100000 in
/-- markUint32S, the marks taken modulo 2^32. -/
theorem markU_any (a : Option Addr) (b n cap : Nat) (X : Nat → Nat) (k0 : Nat) (w : World) (hn : n ≤ 4194304) (hk0 : k0 ≤ 1152921504606846976) (hX : Limbs w a b 0 n X) (hf : 0 < n → ∀ o, w.frozen? ⟨b, o, none⟩ = false) :
    Calls Tryz.prog 43 #[.slice a n cap, .int .i64 k0] w fun e w' => e = .returned (.int .i64 ((k0 + n : Nat) : Int)) ∧ Marked w w' b ∧ (n = 0 → w' = w) ∧ Limbs w' a b 0 n (fun j => (k0 + j) % 4294967296) := by
  go_enter Tryz.func43, Tryz.ntmps43
  go_wp2
  go_loopw [1, 5] (fun q i wr => ∃ k : Nat, k ≤ n ∧ i = .int .i64 k ∧ q = .int .i64 ((k0 + k : Nat) : Int) ∧ Marked w wr b ∧ (k = 0 → wr = w) ∧ Limbs wr a b 0 n (fun j => if j < k then (k0 + j) % 4294967296 else X j)) (fun _ i _ => n - (intOf i).toNat)
  case atStart => exact ⟨0, Nat.zero_le _, rfl, rfl, Marked.refl _ _, fun _ => rfl, fun j hj => by simpa using hX j hj⟩
  case round =>
    obtain ⟨k, hk, rfl, rfl, hs, hz, hr⟩ := hrel
    by_cases hlt : k < n
    · obtain ⟨rfl, hc⟩ := hr k hlt
      have g0 : wr.cell? ⟨b, k, none⟩ = some (.int .u32 ((X k : Nat) : Int)) := by simpa using hc
      have g1 : wr.frozen? ⟨b, k, none⟩ = false := by rw [hs.frozen]; exact hf (by omega) k
      have em : ((k0 + k : Nat) : Int) % 4294967296 = (((k0 + k) % 4294967296 : Nat) : Int) := by omega
      clear hc
      go_wp2
      go_roundw
      case rel =>
        refine ⟨k + 1, by omega, by go_num, by go_num, hs.setCell _ _, fun h0 => absurd h0 (by omega), fun j hj => ⟨rfl, ?_⟩⟩
        go_light
        by_cases e : j = k
        · subst e
          rw [Nat.zero_add, World.cell?_setCell_same _ _ _ g0]
          simp
        · rw [World.cell?_setCell_other _ _ _ _ (fun h => by have := congrArg Addr.off h; simp at this; omega)]
          have := (hr j hj).2
          simp only [this]
          by_cases e2 : j < k
          · rw [if_pos e2, if_pos (by omega)]
          · rw [if_neg e2, if_neg (by omega)]
      case measure => simp [intOf]; omega
    · have e : k = n := by omega
      subst e
      go_wp2
      go_ret
      exact ⟨rfl, hs, hz, fun j hj => by have := hr j hj; simpa [hj] using this⟩

set_option maxHeartbeats 800000 in
set_option maxRecDepth 100000 in
theorem heldU_any (a : Option Addr) (b off n cap : Nat) (k0 : Nat) (w : World) (hn : n ≤ 4194304) (hk0 : k0 ≤ 1152921504606846976) (hX : Limbs w a b off n (fun j => (k0 + j) % 4294967296)) :
    Calls Tryz.prog 44 #[.slice a n cap, .int .i64 k0] w fun e w' => e = .returned (.int .i64 ((k0 + n : Nat) : Int)) ∧ w' = w := by
  go_enter Tryz.func44, Tryz.ntmps44
  go_wp2
  go_loop [1, 5] (fun q i => ∃ k : Nat, k ≤ n ∧ i = .int .i64 k ∧ q = .int .i64 ((k0 + k : Nat) : Int)) (fun _ i => n - (intOf i).toNat)
  case atStart => exact ⟨0, Nat.zero_le _, rfl, rfl⟩
  case round =>
    obtain ⟨k, hk, rfl, rfl⟩ := hrel
    by_cases hlt : k < n
    · obtain ⟨rfl, hc⟩ := hX k hlt
      go_wp2
      go_round
      case rel => exact ⟨k + 1, by omega, by go_num, by go_num⟩
      case measure => simp [intOf]; omega
    · have e : k = n := by omega
      subst e
      go_wp2
      go_ret
      exact ⟨rfl, rfl⟩

end Go.Proofs.YtkhpggnnpfckdaaGreatDoor

namespace Go.Proofs.YtkhpggnnpfckdaaGreatDoor
open Go.RowKit

/-- What writes into the blocks of S leave. -/
structure Fra (w w' : World) (S : Nat → Prop) : Prop where
  os : w'.os = w.os
  tape : w'.tape = w.tape
  output : w'.output = w.output
  size : w'.heap.size = w.heap.size
  other : ∀ k, ¬ S k → w'.heap[k]? = w.heap[k]?
  frozen : ∀ b o, w'.frozen? ⟨b, o, none⟩ = w.frozen? ⟨b, o, none⟩

section
variable {w w' w'' : World} {S S' : Nat → Prop} {b n : Nat}
theorem Fra.refl (w : World) (S : Nat → Prop) : Fra w w S := ⟨rfl, rfl, rfl, rfl, fun _ _ => rfl, fun _ _ => rfl⟩
theorem Fra.mono (f : Fra w w' S) (h : ∀ k, S k → S' k) : Fra w w' S' := ⟨f.os, f.tape, f.output, f.size, fun k hk => f.other k (fun h0 => hk (h k h0)), f.frozen⟩
theorem Fra.trans (f : Fra w w' S) (g : Fra w' w'' S) : Fra w w'' S :=
  ⟨g.os.trans f.os, g.tape.trans f.tape, g.output.trans f.output, g.size.trans f.size, fun k hk => (g.other k hk).trans (f.other k hk), fun b o => (g.frozen b o).trans (f.frozen b o)⟩
theorem Marked.fr (M : Marked w w' b) : Fra w w' (fun k => k = b) :=
  ⟨M.os, M.tape, M.output, M.size, fun k hk => M.other k hk, fun c o => by
    by_cases e : c = b
    · subst e; exact M.frozen o
    · exact M.frozenO (a := ⟨c, o, none⟩) e⟩
theorem Marked.frN (M : Marked w w' b) (h : n = 0 → w' = w) : Fra w w' (fun k => 0 < n ∧ k = b) := by
  by_cases e : n = 0
  · rw [h e]; exact Fra.refl _ _
  · exact M.fr.mono (fun k hk => ⟨by omega, hk⟩)
theorem Fra.cell (f : Fra w w' S) {a : Addr} (h : ¬ S a.block) : w'.cell? a = w.cell? a := World.cell?_of_block (w := w) (f.other _ h)
theorem Fra.limbs {a : Option Addr} {off : Nat} {X : Nat → Nat} (f : Fra w w' S) (L : Limbs w a b off n X) (h : 0 < n → ¬ S b) : Limbs w' a b off n X :=
  fun j hj => ⟨(L j hj).1, by rw [f.cell (a := ⟨b, off + j, none⟩) (h (by omega))]; exact (L j hj).2⟩
end

theorem Fra.since {w w' : World} {S : Nat → Prop} {B : Nat} (F : Fra w w' S) (h : ∀ k, S k → B ≤ k) : w.Since B w' :=
  ⟨F.os, F.tape, F.output, by rw [F.size]; exact Nat.le_refl _, fun k hk => F.other k (fun h0 => by have := h k h0; omega)⟩

/-- An entry of three cells whose two lists lie in memory of their own. -/
structure OwnE (w : World) (lo hi b off : Nat) (f : Bool) (g h : Nat) (a1 : Option Addr) (n1 k1 : Nat) (a2 : Option Addr) (n2 k2 : Nat) (X Y : Nat → Nat) : Prop where
  c0 : w.cell? ⟨b, off, none⟩ = some (.bool f)
  c1 : w.cell? ⟨b, off + 1, none⟩ = some (.slice a1 n1 k1)
  c2 : w.cell? ⟨b, off + 2, none⟩ = some (.slice a2 n2 k2)
  L1 : Limbs w a1 g 0 n1 X
  L2 : Limbs w a2 h 0 n2 Y
  s1 : n1 ≤ 4194304
  s2 : n2 ≤ 4194304
  lg : 0 < n1 → lo ≤ g ∧ g < hi ∧ ∀ o, w.frozen? ⟨g, o, none⟩ = false
  lh : 0 < n2 → lo ≤ h ∧ h < hi ∧ ∀ o, w.frozen? ⟨h, o, none⟩ = false
  ne : 0 < n1 → 0 < n2 → g ≠ h

theorem OwnE.frame {w w' : World} {S : Nat → Prop} {lo hi b off : Nat} {f : Bool} {g h : Nat} {a1 : Option Addr} {n1 k1 : Nat} {a2 : Option Addr} {n2 k2 : Nat} {X Y : Nat → Nat} (r : OwnE w lo hi b off f g h a1 n1 k1 a2 n2 k2 X Y) (F : Fra w w' S)
    (hS : ∀ k, lo ≤ k → k < hi → ¬ S k) (hc : ∀ o, off ≤ o → o < off + 3 → w'.cell? ⟨b, o, none⟩ = w.cell? ⟨b, o, none⟩) : OwnE w' lo hi b off f g h a1 n1 k1 a2 n2 k2 X Y :=
  ⟨by rw [hc _ (by omega) (by omega)]; exact r.c0, by rw [hc _ (by omega) (by omega)]; exact r.c1, by rw [hc _ (by omega) (by omega)]; exact r.c2,
    F.limbs r.L1 (fun h0 => hS g (r.lg h0).1 (r.lg h0).2.1), F.limbs r.L2 (fun h0 => hS h (r.lh h0).1 (r.lh h0).2.1), r.s1, r.s2,
    fun h0 => ⟨(r.lg h0).1, (r.lg h0).2.1, fun o => by rw [F.frozen]; exact (r.lg h0).2.2 o⟩, fun h0 => ⟨(r.lh h0).1, (r.lh h0).2.1, fun o => by rw [F.frozen]; exact (r.lh h0).2.2 o⟩, r.ne⟩

/-- A list of entries in memory of its own: entry i has the blocks from E i to E (i + 1). -/
def OwnFrom (w : World) (b k n : Nat) (E : Nat → Nat) : Prop := ∀ i, k ≤ i → i < n → ∃ f g h a1 n1 k1 a2 n2 k2 X Y, OwnE w (E i) (E (i + 1)) b (i * 3) f g h a1 n1 k1 a2 n2 k2 X Y

/-- The marks of a list: entry i is marked from K i on. -/
def MarkE (w : World) (b n : Nat) (E K : Nat → Nat) : Prop := ∀ i, i < n → ∃ g h a1 n1 k1 a2 n2 k2, OwnE w (E i) (E (i + 1)) b (i * 3) (decide (K i % 3 = 0)) g h a1 n1 k1 a2 n2 k2 (fun j => (K i + 1 + j) % 4294967296) (fun j => (K i + 1 + n1 + j) % 4294967296) ∧ K (i + 1) = K i + 1 + n1 + n2

theorem e_mono {E : Nat → Nat} {n : Nat} (h : ∀ i, i < n → E i ≤ E (i + 1)) {i j : Nat} (hij : i ≤ j) (hj : j ≤ n) : E i ≤ E j := by
  induction j with
  | zero => have : i = 0 := by omega
            subst this; exact Nat.le_refl _
  | succ j ih =>
    by_cases e : i = j + 1
    · subst e; exact Nat.le_refl _
    · exact Nat.le_trans (ih (by omega) (by omega)) (h j (by omega))

set_option maxHeartbeats 1600000 in
set_option maxRecDepth 100000 in
/-- markRatS writes into the list and its entries' memory alone. -/
theorem markRatS_any (a : Option Addr) (b n cap : Nat) (E : Nat → Nat) (k0 : Nat) (w : World) (hn : n ≤ 1048576) (hk0 : k0 ≤ 576460752303423488) (ha : 0 < n → a = some ⟨b, 0, none⟩) (hE : ∀ i, i < n → E i ≤ E (i + 1)) (hb : b < E 0) (hf : 0 < n → ∀ o, w.frozen? ⟨b, o, none⟩ = false) (H : OwnFrom w b 0 n E) :
    Calls Tryz.prog 15 #[.slice a n cap, .int .i64 k0] w fun e w' => ∃ K : Nat → Nat, K 0 = k0 ∧ K n ≤ k0 + n * 8388609 ∧ e = .returned (.int .i64 ((K n : Nat) : Int)) ∧ Fra w w' (fun k => 0 < n ∧ (k = b ∨ E 0 ≤ k ∧ k < E n)) ∧ MarkE w' b n E K := by
  go_enter Tryz.func15, Tryz.ntmps15
  go_wp2
  go_loopw [1, 5] (fun q i wr => ∃ (k : Nat) (K : Nat → Nat), k ≤ n ∧ i = .int .i64 k ∧ q = .int .i64 ((K k : Nat) : Int) ∧ K 0 = k0 ∧ K k ≤ k0 + k * 8388609 ∧ Fra w wr (fun k => 0 < n ∧ (k = b ∨ E 0 ≤ k ∧ k < E n)) ∧ MarkE wr b k E K ∧ OwnFrom wr b k n E) (fun _ i _ => n - (intOf i).toNat)
  case atStart => exact ⟨0, fun _ => k0, Nat.zero_le _, rfl, rfl, rfl, by simp, Fra.refl _ _, fun i hi => absurd hi (by omega), H⟩
  case round =>
    obtain ⟨k, K, hk, rfl, rfl, hK0, hK, hs, hm, ho⟩ := hrel
    by_cases hlt : k < n
    · obtain ⟨f, g, h, a1, n1, k1, a2, n2, k2, X, Y, r⟩ := ho k (Nat.le_refl _) hlt
      obtain rfl := ha (by omega)
      have g0 := r.c0
      have g1 := r.c1
      have g2 := r.c2
      have fz : wr.frozen? ⟨b, k * 3, none⟩ = false := by rw [hs.frozen]; exact hf (by omega) _
      have s1 := r.s1
      have s2 := r.s2
      have zK : K k ≤ 1125899906842624000 := by omega
      generalize hKk : K k = Kk at *
      go_wp2_with fail
      have b1 : b < E k := Nat.lt_of_lt_of_le hb (e_mono hE (Nat.zero_le _) hk)
      have M1 : Marked wr (wr.setCell ⟨b, k * 3, none⟩ (.bool ((Kk : Int) % 3 == 0))) b := (Marked.refl wr b).setCell _ _
      have d0 : (wr.setCell ⟨b, k * 3, none⟩ (.bool ((Kk : Int) % 3 == 0))).cell? ⟨b, k * 3, none⟩ = some (.bool (decide (Kk % 3 = 0))) := by
        rw [World.cell?_setCell_same _ _ _ g0]
        have : ((Kk : Int) % 3 == 0) = decide (Kk % 3 = 0) := by
          rw [Bool.eq_iff_iff, beq_iff_eq, decide_eq_true_iff]; omega
        rw [this]
      have d1 : ∀ o, o ≠ k * 3 → (wr.setCell ⟨b, k * 3, none⟩ (.bool ((Kk : Int) % 3 == 0))).cell? ⟨b, o, none⟩ = wr.cell? ⟨b, o, none⟩ := fun o ho =>
        World.cell?_setCell_other _ _ _ _ (fun h => by have := congrArg Addr.off h; simp at this; omega)
      generalize wr.setCell ⟨b, k * 3, none⟩ (.bool ((Kk : Int) % 3 == 0)) = w1 at *
      rw [show ((Kk : Int) + 1) = ((Kk + 1 : Nat) : Int) by omega]
      refine (markU_any a1 g n1 k1 X (Kk + 1) w1 s1 (by omega) (r.L1.marked M1 (fun h0 => by have := (r.lg h0).1; omega)) (fun h0 o => by rw [M1.fr.frozen]; exact (r.lg h0).2.2 o)).mono ?_
      rintro e w2 ⟨rfl, M2, z2, L2⟩
      have F2 := M2.frN z2
      have nb1 : ¬ (0 < n1 ∧ b = g) := fun h0 => by have := (r.lg h0.1).1; omega
      have nb2 : ¬ (0 < n2 ∧ b = h) := fun h0 => by have := (r.lh h0.1).1; omega
      have i2 : w2.cell? ⟨b, k * 3 + 2, none⟩ = some (.slice a2 n2 k2) := by rw [F2.cell (a := ⟨b, k * 3 + 2, none⟩) nb1, d1 _ (by omega)]; exact g2
      go_wp2_with fail
      have Y2 : Limbs w2 a2 h 0 n2 Y := F2.limbs (r.L2.marked M1 (fun h0 => by have := (r.lh h0).1; omega)) (fun h0 h1 => r.ne h1.1 h0 h1.2.symm)
      refine (markU_any a2 h n2 k2 Y (Kk + 1 + n1) w2 s2 (by omega) Y2 (fun h0 o => by rw [F2.frozen, M1.fr.frozen]; exact (r.lh h0).2.2 o)).mono ?_
      rintro e w3 ⟨rfl, M3, z3, L3⟩
      have F3 := M3.frN z3
      go_wp2
      go_roundw
      case rel =>
        have F : Fra wr w3 (fun c => c = b ∨ E k ≤ c ∧ c < E (k + 1)) :=
          ((M1.fr.mono (fun c h0 => .inl h0)).trans (F2.mono (fun c h0 => .inr (by have := r.lg h0.1; rw [h0.2]; exact ⟨this.1, this.2.1⟩)))).trans (F3.mono (fun c h0 => .inr (by have := r.lh h0.1; rw [h0.2]; exact ⟨this.1, this.2.1⟩)))
        have hcb : ∀ o, o ≠ k * 3 → w3.cell? ⟨b, o, none⟩ = wr.cell? ⟨b, o, none⟩ := fun o h0 => by
          rw [F3.cell (a := ⟨b, o, none⟩) nb2, F2.cell (a := ⟨b, o, none⟩) nb1, d1 o h0]
        refine ⟨k + 1, fun i => if i ≤ k then K i else Kk + 1 + n1 + n2, by omega, by go_num, ?_, ?_, ?_, hs.trans (F.mono ?_), fun i hi => ?_, fun i hi hi' => ?_⟩
        · simp only [show ¬ k + 1 ≤ k by omega, if_false]
          go_num
        · simpa using hK0
        · simp only [show ¬ k + 1 ≤ k by omega, if_false]; omega
        · intro c hc
          refine ⟨by omega, ?_⟩
          rcases hc with hc | hc
          · exact .inl hc
          · have := e_mono hE (Nat.zero_le k) hk
            have := e_mono hE (i := k + 1) (j := n) (by omega) (Nat.le_refl _)
            exact .inr ⟨by omega, by omega⟩
        · by_cases e : i = k
          · subst e
            simp only [Nat.le_refl, if_true, show ¬ i + 1 ≤ i by omega, if_false, hKk]
            refine ⟨g, h, a1, n1, k1, a2, n2, k2, ⟨?_, ?_, ?_, F3.limbs L2 (fun h0 h1 => r.ne h0 h1.1 h1.2), L3, s1, s2, fun h0 => ⟨(r.lg h0).1, (r.lg h0).2.1, fun o => by rw [F.frozen]; exact (r.lg h0).2.2 o⟩, fun h0 => ⟨(r.lh h0).1, (r.lh h0).2.1, fun o => by rw [F.frozen]; exact (r.lh h0).2.2 o⟩, r.ne⟩, rfl⟩
            · rw [F3.cell (a := ⟨b, i * 3, none⟩) nb2, F2.cell (a := ⟨b, i * 3, none⟩) nb1]; exact d0
            · rw [hcb _ (by omega)]; exact g1
            · rw [hcb _ (by omega)]; exact g2
          · have hi2 : i < k := by omega
            simp only [show i ≤ k by omega, show i + 1 ≤ k by omega, if_true]
            obtain ⟨g', h', a1', n1', k1', a2', n2', k2', r', e'⟩ := hm i hi2
            have := e_mono hE (Nat.zero_le i) (show i ≤ n by omega)
            have := e_mono hE (i := i + 1) (j := k) (by omega) hk
            exact ⟨g', h', a1', n1', k1', a2', n2', k2', r'.frame F (fun c h1 h2 h3 => by rcases h3 with h3 | h3 <;> omega) (fun o h1 h2 => hcb o (by omega)), e'⟩
        · obtain ⟨f', g', h', a1', n1', k1', a2', n2', k2', X', Y', r'⟩ := ho i (by omega) hi'
          have := e_mono hE (i := k + 1) (j := i) (by omega) (by omega)
          have := e_mono hE (Nat.zero_le i) (show i ≤ n by omega)
          exact ⟨f', g', h', a1', n1', k1', a2', n2', k2', X', Y', r'.frame F (fun c h1 h2 h3 => by rcases h3 with h3 | h3 <;> omega) (fun o h1 h2 => hcb o (by omega))⟩
      case measure => simp [intOf]; omega
    · have e : k = n := by omega
      subst e
      go_wp2
      go_ret
      exact ⟨K, hK0, hK, rfl, hs, hm⟩

set_option maxHeartbeats 1600000 in
set_option maxRecDepth 100000 in
/-- heldRatS at a list whose marks stand. -/
theorem heldRatS_any (a : Option Addr) (b n cap : Nat) (E K : Nat → Nat) (k0 : Nat) (w : World) (hn : n ≤ 1048576) (hk0 : k0 ≤ 576460752303423488) (ha : 0 < n → a = some ⟨b, 0, none⟩) (hK0 : K 0 = k0) (H : MarkE w b n E K) :
    Calls Tryz.prog 16 #[.slice a n cap, .int .i64 k0] w fun e w' => e = .returned (.int .i64 ((K n : Nat) : Int)) ∧ w' = w := by
  go_enter Tryz.func16, Tryz.ntmps16
  go_wp2
  go_loop [1, 5] (fun q i => ∃ k : Nat, k ≤ n ∧ i = .int .i64 k ∧ q = .int .i64 ((K k : Nat) : Int) ∧ K k ≤ k0 + k * 8388609) (fun _ i => n - (intOf i).toNat)
  case atStart => exact ⟨0, Nat.zero_le _, rfl, by rw [hK0], by omega⟩
  case round =>
    obtain ⟨k, hk, rfl, rfl, hK⟩ := hrel
    by_cases hlt : k < n
    · obtain ⟨g, h, a1, n1, k1, a2, n2, k2, r, eK⟩ := H k hlt
      obtain rfl := ha (by omega)
      have g0 := r.c0
      have g1 := r.c1
      have g2 := r.c2
      have s1 := r.s1
      have s2 := r.s2
      have L1 := r.L1
      have L2 := r.L2
      have zK : K k ≤ 1125899906842624000 := by omega
      clear r
      generalize hKk : K k = Kk at *
      have e3 : decide (Kk % 3 = 0) = ((Kk : Int) % 3 == 0) := by
        rw [Bool.eq_iff_iff, beq_iff_eq, decide_eq_true_iff]; omega
      rw [e3] at g0
      go_wp2_with fail
      rw [show ((Kk : Int) + 1) = ((Kk + 1 : Nat) : Int) by omega]
      refine (heldU_any a1 g 0 n1 k1 (Kk + 1) w s1 (by omega) L1).mono ?_
      rintro e w2 ⟨rfl, rfl⟩
      go_wp2_with fail
      refine (heldU_any a2 h 0 n2 k2 (Kk + 1 + n1) _ s2 (by omega) L2).mono ?_
      rintro e w3 ⟨rfl, rfl⟩
      go_wp2
      go_round
      case rel => exact ⟨k + 1, by omega, by go_num, by rw [eK]; go_num, by omega⟩
      case measure => simp [intOf]; omega
    · have e : k = n := by omega
      subst e
      go_wp2
      go_ret
      exact ⟨rfl, rfl⟩

/-- A list of rationals in memory of its own is a list of entries so. -/
theorem RatOs.own {w : World} {b n : Nat} {Q : Nat → Rat} {E : Nat → Nat} (T : RatOs w b n Q E) (hq : ∀ i, i < n → Qb (Q i) 4194304) : OwnFrom w b 0 n E := fun i _ hi => by
  obtain ⟨g, h, a1, n1, k1, a2, n2, k2, X, Y, r⟩ := T.at_ i hi
  have e1 := lv_lim r.R.pX (by rw [r.v1]; exact (hq i hi).1)
  have e2 := lv_lim r.R.pY (by rw [r.v2]; exact (hq i hi).2)
  exact ⟨_, g, h, a1, n1, k1, a2, n2, k2, X, Y, r.c0, r.c1, r.c2, r.R.LX, r.R.LY, by omega, by omega, r.lg, r.lh, r.ne⟩

end Go.Proofs.YtkhpggnnpfckdaaGreatDoor
