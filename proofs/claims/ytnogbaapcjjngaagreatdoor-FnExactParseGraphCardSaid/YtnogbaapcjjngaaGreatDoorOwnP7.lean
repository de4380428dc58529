import Derived.Test.YtnogbaapcjjngaaGreatDoorOwnP3
import Derived.Test.YtnogbaapcjjngaaGreatDoorOwnP2
import Derived.Maps.AppendAt
import Derived.Deep.AppendLies
namespace Go.Proofs.YtnogbaapcjjngaaGreatDoor
open Go.RowKit

theorem infoPtr : ∃ i, Tryz.prog.info? 157 = some i ∧ i.zero = some (.pointer none) ∧ i.size = 1 ∧ i.bytes = 8 := by
  have h : (Tryz.prog.info? 157).map (fun i => (i.zero, i.size, i.bytes)) = some (some (.pointer none), 1, 8) := by kernel_rfl
  obtain ⟨i, hi, h⟩ := Option.map_eq_some_iff.1 h
  simp only [Prod.mk.injEq] at h
  exact ⟨i, hi, h.1, h.2.1, h.2.2⟩

/-- Pointers to fields of a box. -/
def ptrV (c : Nat) (fs : List Nat) : List Value := fs.map fun f => .pointer (some ⟨c, f, none⟩)

set_option maxHeartbeats 6400000 in
set_option maxRecDepth 100000 in
theorem ints000 (op nums : Int) (c : Nat) (w : World) :
    Calls Tryz.prog 115 #[.agg #[.int .i64 op, .bool false, .bool false, .bool false, .int .i64 nums], .pointer (some ⟨c, 0, none⟩)] w fun e w' => ∃ g cap, e = .returned (.slice (some ⟨g, 0, none⟩) 1 cap) ∧ w'.ownsRow (w.heap.size + 1) 157 1 (.slice (some ⟨g, 0, none⟩) 1 cap) 1 (ptrV c [1]) ∧ w.Since w.heap.size w' := by
  obtain ⟨i0, hi, hz0, hz1, hz2⟩ := infoPtr
  have sA : w.Since w.heap.size (w.alloc (.cells #[.int .i64 op, .bool false, .bool false, .bool false, .int .i64 nums] 152)) := (World.Since.refl _ _).alloc (Nat.le_refl _) _
  have bA := Box5.new w (.int .i64 op) (.bool false) (.bool false) (.bool false) (.int .i64 nums) 152
  have zA : (w.alloc (.cells #[.int .i64 op, .bool false, .bool false, .bool false, .int .i64 nums] 152)).heap.size = w.heap.size + 1 := by simp
  have sB : (w.alloc (.cells #[.int .i64 op, .bool false, .bool false, .bool false, .int .i64 nums] 152)).Since (w.alloc (.cells #[.int .i64 op, .bool false, .bool false, .bool false, .int .i64 nums] 152)).heap.size ((w.alloc (.cells #[.int .i64 op, .bool false, .bool false, .bool false, .int .i64 nums] 152)).alloc (.cells #[.pointer (some ⟨c, 1, none⟩)] 157)) := (World.Since.refl _ _).alloc (Nat.le_refl _) _
  have B1 := bA.keep sB
  have O1 := World.ownsRow_lit (base := w.heap.size + 1) (size := 1) (e := 157) (w.alloc (.cells #[.int .i64 op, .bool false, .bool false, .bool false, .int .i64 nums] 152)) #[.pointer (some ⟨c, 1, none⟩)] 1 (by omega) (by decide) rfl
  have b1 := B1.c1
  have b2 := B1.c2
  have b3 := B1.c3
  have S1 := sA.trans (sinceMono sB sA.size)
  have z1 : ((w.alloc (.cells #[.int .i64 op, .bool false, .bool false, .bool false, .int .i64 nums] 152)).alloc (.cells #[.pointer (some ⟨c, 1, none⟩)] 157)).heap.size = w.heap.size + 1 + 1 := by simp
  rw [zA] at O1
  go_enter Tryz.func115, Tryz.ntmps115
  go_wp2
  go_ret
  exact ⟨_, _, rfl, O1, S1⟩

set_option maxHeartbeats 6400000 in
set_option maxRecDepth 100000 in
theorem ints100 (op nums : Int) (c : Nat) (w : World) :
    Calls Tryz.prog 115 #[.agg #[.int .i64 op, .bool true, .bool false, .bool false, .int .i64 nums], .pointer (some ⟨c, 0, none⟩)] w fun e w' => ∃ g cap, e = .returned (.slice (some ⟨g, 0, none⟩) 2 cap) ∧ w'.ownsRow (w.heap.size + 1) 157 1 (.slice (some ⟨g, 0, none⟩) 2 cap) 2 (ptrV c [1, 2]) ∧ w.Since w.heap.size w' := by
  obtain ⟨i0, hi, hz0, hz1, hz2⟩ := infoPtr
  have sA : w.Since w.heap.size (w.alloc (.cells #[.int .i64 op, .bool true, .bool false, .bool false, .int .i64 nums] 152)) := (World.Since.refl _ _).alloc (Nat.le_refl _) _
  have bA := Box5.new w (.int .i64 op) (.bool true) (.bool false) (.bool false) (.int .i64 nums) 152
  have zA : (w.alloc (.cells #[.int .i64 op, .bool true, .bool false, .bool false, .int .i64 nums] 152)).heap.size = w.heap.size + 1 := by simp
  have sB : (w.alloc (.cells #[.int .i64 op, .bool true, .bool false, .bool false, .int .i64 nums] 152)).Since (w.alloc (.cells #[.int .i64 op, .bool true, .bool false, .bool false, .int .i64 nums] 152)).heap.size ((w.alloc (.cells #[.int .i64 op, .bool true, .bool false, .bool false, .int .i64 nums] 152)).alloc (.cells #[.pointer (some ⟨c, 1, none⟩)] 157)) := (World.Since.refl _ _).alloc (Nat.le_refl _) _
  have B1 := bA.keep sB
  have O1 := World.ownsRow_lit (base := w.heap.size + 1) (size := 1) (e := 157) (w.alloc (.cells #[.int .i64 op, .bool true, .bool false, .bool false, .int .i64 nums] 152)) #[.pointer (some ⟨c, 1, none⟩)] 1 (by omega) (by decide) rfl
  have b1 := B1.c1
  have b2 := B1.c2
  have b3 := B1.c3
  have S1 := sA.trans (sinceMono sB sA.size)
  have z1 : ((w.alloc (.cells #[.int .i64 op, .bool true, .bool false, .bool false, .int .i64 nums] 152)).alloc (.cells #[.pointer (some ⟨c, 1, none⟩)] 157)).heap.size = w.heap.size + 1 + 1 := by simp
  rw [zA] at O1
  go_enter Tryz.func115, Tryz.ntmps115
  go_wp2_with (at_builtin; refine wpList_append_own_at _ rfl _ _ 154 rfl (w.heap.size + 1) 157 i0 (.pointer none) 1 8 Tryz.underlying154 hi hz0 hz1 hz2 rfl (by decide) _ _ _ rfl (O1.alloc _) ⟨w.heap.size + 1 + 1, 0, none⟩ 1 1 [.pointer (some ⟨c, 2, none⟩)] rfl rfl (by rw [← z1]; exact new_cell _ _ _) (one_one _ rfl) (by decide) (by decide) (by simp <;> omega) ?_)
  intro v5 w5 ho5 hg5 _ hat5
  obtain ⟨g5, k5, rfl, x5, y5⟩ := ho5.form (by omega)
  have Z5 : (((w.alloc (.cells #[.int .i64 op, .bool true, .bool false, .bool false, .int .i64 nums] 152)).alloc (.cells #[.pointer (some ⟨c, 1, none⟩)] 157)).alloc (.cells #[.pointer (some ⟨c, 2, none⟩)] 157)).heap.size = ((w.alloc (.cells #[.int .i64 op, .bool true, .bool false, .bool false, .int .i64 nums] 152)).alloc (.cells #[.pointer (some ⟨c, 1, none⟩)] 157)).heap.size + 1 := by simp
  have l5 := B1.lt
  have S5 : w.Since w.heap.size w5 := (S1.alloc S1.size _).grown hg5 (by omega) (fun q hq => by have := (O1.lt q hq).1; omega)
  have t5 : (((w.alloc (.cells #[.int .i64 op, .bool true, .bool false, .bool false, .int .i64 nums] 152)).alloc (.cells #[.pointer (some ⟨c, 1, none⟩)] 157))).Since (((w.alloc (.cells #[.int .i64 op, .bool true, .bool false, .bool false, .int .i64 nums] 152)).alloc (.cells #[.pointer (some ⟨c, 1, none⟩)] 157))).heap.size (((w.alloc (.cells #[.int .i64 op, .bool true, .bool false, .bool false, .int .i64 nums] 152)).alloc (.cells #[.pointer (some ⟨c, 1, none⟩)] 157)).alloc (.cells #[.pointer (some ⟨c, 2, none⟩)] 157)) := (World.Since.refl _ _).alloc (Nat.le_refl _) _
  have hb5 : w5.heap[w.heap.size]? = (((w.alloc (.cells #[.int .i64 op, .bool true, .bool false, .bool false, .int .i64 nums] 152)).alloc (.cells #[.pointer (some ⟨c, 1, none⟩)] 157)).alloc (.cells #[.pointer (some ⟨c, 2, none⟩)] 157)).heap[w.heap.size]? := hg5.block w.heap.size (by omega) (fun e => by have := (O1.lt w.heap.size e.symm).1; omega)
  have M5 := B1.keep t5
  have B5 : Box5 w5 w.heap.size (.int .i64 op) (.bool true) (.bool false) (.bool false) (.int .i64 nums) := ⟨(World.cell?_of_block (a := ⟨w.heap.size, 0, none⟩) hb5).trans M5.c0, (World.cell?_of_block (a := ⟨w.heap.size, 1, none⟩) hb5).trans M5.c1, (World.cell?_of_block (a := ⟨w.heap.size, 2, none⟩) hb5).trans M5.c2, (World.cell?_of_block (a := ⟨w.heap.size, 3, none⟩) hb5).trans M5.c3, (World.cell?_of_block (a := ⟨w.heap.size, 4, none⟩) hb5).trans M5.c4, fun o => by
    have := M5.f o
    unfold World.frozen? at this ⊢
    rw [hb5]; exact this⟩
  have z5 := S5.size
  have sz5 := hg5.size
  clear hg5 hat5 b1 b2 b3
  have b1 := B5.c1
  have b2 := B5.c2
  have b3 := B5.c3
  go_wp2
  go_ret
  exact ⟨g5, k5, rfl, ho5, S5⟩

set_option maxHeartbeats 6400000 in
set_option maxRecDepth 100000 in
theorem ints010 (op nums : Int) (c : Nat) (w : World) :
    Calls Tryz.prog 115 #[.agg #[.int .i64 op, .bool false, .bool true, .bool false, .int .i64 nums], .pointer (some ⟨c, 0, none⟩)] w fun e w' => ∃ g cap, e = .returned (.slice (some ⟨g, 0, none⟩) 2 cap) ∧ w'.ownsRow (w.heap.size + 1) 157 1 (.slice (some ⟨g, 0, none⟩) 2 cap) 2 (ptrV c [1, 3]) ∧ w.Since w.heap.size w' := by
  obtain ⟨i0, hi, hz0, hz1, hz2⟩ := infoPtr
  have sA : w.Since w.heap.size (w.alloc (.cells #[.int .i64 op, .bool false, .bool true, .bool false, .int .i64 nums] 152)) := (World.Since.refl _ _).alloc (Nat.le_refl _) _
  have bA := Box5.new w (.int .i64 op) (.bool false) (.bool true) (.bool false) (.int .i64 nums) 152
  have zA : (w.alloc (.cells #[.int .i64 op, .bool false, .bool true, .bool false, .int .i64 nums] 152)).heap.size = w.heap.size + 1 := by simp
  have sB : (w.alloc (.cells #[.int .i64 op, .bool false, .bool true, .bool false, .int .i64 nums] 152)).Since (w.alloc (.cells #[.int .i64 op, .bool false, .bool true, .bool false, .int .i64 nums] 152)).heap.size ((w.alloc (.cells #[.int .i64 op, .bool false, .bool true, .bool false, .int .i64 nums] 152)).alloc (.cells #[.pointer (some ⟨c, 1, none⟩)] 157)) := (World.Since.refl _ _).alloc (Nat.le_refl _) _
  have B1 := bA.keep sB
  have O1 := World.ownsRow_lit (base := w.heap.size + 1) (size := 1) (e := 157) (w.alloc (.cells #[.int .i64 op, .bool false, .bool true, .bool false, .int .i64 nums] 152)) #[.pointer (some ⟨c, 1, none⟩)] 1 (by omega) (by decide) rfl
  have b1 := B1.c1
  have b2 := B1.c2
  have b3 := B1.c3
  have S1 := sA.trans (sinceMono sB sA.size)
  have z1 : ((w.alloc (.cells #[.int .i64 op, .bool false, .bool true, .bool false, .int .i64 nums] 152)).alloc (.cells #[.pointer (some ⟨c, 1, none⟩)] 157)).heap.size = w.heap.size + 1 + 1 := by simp
  rw [zA] at O1
  go_enter Tryz.func115, Tryz.ntmps115
  go_wp2_with (at_builtin; refine wpList_append_own_at _ rfl _ _ 154 rfl (w.heap.size + 1) 157 i0 (.pointer none) 1 8 Tryz.underlying154 hi hz0 hz1 hz2 rfl (by decide) _ _ _ rfl (O1.alloc _) ⟨w.heap.size + 1 + 1, 0, none⟩ 1 1 [.pointer (some ⟨c, 3, none⟩)] rfl rfl (by rw [← z1]; exact new_cell _ _ _) (one_one _ rfl) (by decide) (by decide) (by simp <;> omega) ?_)
  intro v5 w5 ho5 hg5 _ hat5
  obtain ⟨g5, k5, rfl, x5, y5⟩ := ho5.form (by omega)
  have Z5 : (((w.alloc (.cells #[.int .i64 op, .bool false, .bool true, .bool false, .int .i64 nums] 152)).alloc (.cells #[.pointer (some ⟨c, 1, none⟩)] 157)).alloc (.cells #[.pointer (some ⟨c, 3, none⟩)] 157)).heap.size = ((w.alloc (.cells #[.int .i64 op, .bool false, .bool true, .bool false, .int .i64 nums] 152)).alloc (.cells #[.pointer (some ⟨c, 1, none⟩)] 157)).heap.size + 1 := by simp
  have l5 := B1.lt
  have S5 : w.Since w.heap.size w5 := (S1.alloc S1.size _).grown hg5 (by omega) (fun q hq => by have := (O1.lt q hq).1; omega)
  have t5 : (((w.alloc (.cells #[.int .i64 op, .bool false, .bool true, .bool false, .int .i64 nums] 152)).alloc (.cells #[.pointer (some ⟨c, 1, none⟩)] 157))).Since (((w.alloc (.cells #[.int .i64 op, .bool false, .bool true, .bool false, .int .i64 nums] 152)).alloc (.cells #[.pointer (some ⟨c, 1, none⟩)] 157))).heap.size (((w.alloc (.cells #[.int .i64 op, .bool false, .bool true, .bool false, .int .i64 nums] 152)).alloc (.cells #[.pointer (some ⟨c, 1, none⟩)] 157)).alloc (.cells #[.pointer (some ⟨c, 3, none⟩)] 157)) := (World.Since.refl _ _).alloc (Nat.le_refl _) _
  have hb5 : w5.heap[w.heap.size]? = (((w.alloc (.cells #[.int .i64 op, .bool false, .bool true, .bool false, .int .i64 nums] 152)).alloc (.cells #[.pointer (some ⟨c, 1, none⟩)] 157)).alloc (.cells #[.pointer (some ⟨c, 3, none⟩)] 157)).heap[w.heap.size]? := hg5.block w.heap.size (by omega) (fun e => by have := (O1.lt w.heap.size e.symm).1; omega)
  have M5 := B1.keep t5
  have B5 : Box5 w5 w.heap.size (.int .i64 op) (.bool false) (.bool true) (.bool false) (.int .i64 nums) := ⟨(World.cell?_of_block (a := ⟨w.heap.size, 0, none⟩) hb5).trans M5.c0, (World.cell?_of_block (a := ⟨w.heap.size, 1, none⟩) hb5).trans M5.c1, (World.cell?_of_block (a := ⟨w.heap.size, 2, none⟩) hb5).trans M5.c2, (World.cell?_of_block (a := ⟨w.heap.size, 3, none⟩) hb5).trans M5.c3, (World.cell?_of_block (a := ⟨w.heap.size, 4, none⟩) hb5).trans M5.c4, fun o => by
    have := M5.f o
    unfold World.frozen? at this ⊢
    rw [hb5]; exact this⟩
  have z5 := S5.size
  have sz5 := hg5.size
  clear hg5 hat5 b1 b2 b3
  have b1 := B5.c1
  have b2 := B5.c2
  have b3 := B5.c3
  go_wp2
  go_ret
  exact ⟨g5, k5, rfl, ho5, S5⟩

set_option maxHeartbeats 6400000 in
set_option maxRecDepth 100000 in
theorem ints011 (op nums : Int) (c : Nat) (w : World) :
    Calls Tryz.prog 115 #[.agg #[.int .i64 op, .bool false, .bool true, .bool true, .int .i64 nums], .pointer (some ⟨c, 0, none⟩)] w fun e w' => ∃ g cap, e = .returned (.slice (some ⟨g, 0, none⟩) 3 cap) ∧ w'.ownsRow (w.heap.size + 1) 157 1 (.slice (some ⟨g, 0, none⟩) 3 cap) 3 (ptrV c [1, 3, 4]) ∧ w.Since w.heap.size w' := by
  obtain ⟨i0, hi, hz0, hz1, hz2⟩ := infoPtr
  have sA : w.Since w.heap.size (w.alloc (.cells #[.int .i64 op, .bool false, .bool true, .bool true, .int .i64 nums] 152)) := (World.Since.refl _ _).alloc (Nat.le_refl _) _
  have bA := Box5.new w (.int .i64 op) (.bool false) (.bool true) (.bool true) (.int .i64 nums) 152
  have zA : (w.alloc (.cells #[.int .i64 op, .bool false, .bool true, .bool true, .int .i64 nums] 152)).heap.size = w.heap.size + 1 := by simp
  have sB : (w.alloc (.cells #[.int .i64 op, .bool false, .bool true, .bool true, .int .i64 nums] 152)).Since (w.alloc (.cells #[.int .i64 op, .bool false, .bool true, .bool true, .int .i64 nums] 152)).heap.size ((w.alloc (.cells #[.int .i64 op, .bool false, .bool true, .bool true, .int .i64 nums] 152)).alloc (.cells #[.pointer (some ⟨c, 1, none⟩)] 157)) := (World.Since.refl _ _).alloc (Nat.le_refl _) _
  have B1 := bA.keep sB
  have O1 := World.ownsRow_lit (base := w.heap.size + 1) (size := 1) (e := 157) (w.alloc (.cells #[.int .i64 op, .bool false, .bool true, .bool true, .int .i64 nums] 152)) #[.pointer (some ⟨c, 1, none⟩)] 1 (by omega) (by decide) rfl
  have b1 := B1.c1
  have b2 := B1.c2
  have b3 := B1.c3
  have S1 := sA.trans (sinceMono sB sA.size)
  have z1 : ((w.alloc (.cells #[.int .i64 op, .bool false, .bool true, .bool true, .int .i64 nums] 152)).alloc (.cells #[.pointer (some ⟨c, 1, none⟩)] 157)).heap.size = w.heap.size + 1 + 1 := by simp
  rw [zA] at O1
  go_enter Tryz.func115, Tryz.ntmps115
  go_wp2_with (at_builtin; refine wpList_append_own_at _ rfl _ _ 154 rfl (w.heap.size + 1) 157 i0 (.pointer none) 1 8 Tryz.underlying154 hi hz0 hz1 hz2 rfl (by decide) _ _ _ rfl (O1.alloc _) ⟨w.heap.size + 1 + 1, 0, none⟩ 1 1 [.pointer (some ⟨c, 3, none⟩)] rfl rfl (by rw [← z1]; exact new_cell _ _ _) (one_one _ rfl) (by decide) (by decide) (by simp <;> omega) ?_)
  intro v5 w5 ho5 hg5 _ hat5
  obtain ⟨g5, k5, rfl, x5, y5⟩ := ho5.form (by omega)
  have Z5 : (((w.alloc (.cells #[.int .i64 op, .bool false, .bool true, .bool true, .int .i64 nums] 152)).alloc (.cells #[.pointer (some ⟨c, 1, none⟩)] 157)).alloc (.cells #[.pointer (some ⟨c, 3, none⟩)] 157)).heap.size = ((w.alloc (.cells #[.int .i64 op, .bool false, .bool true, .bool true, .int .i64 nums] 152)).alloc (.cells #[.pointer (some ⟨c, 1, none⟩)] 157)).heap.size + 1 := by simp
  have l5 := B1.lt
  have S5 : w.Since w.heap.size w5 := (S1.alloc S1.size _).grown hg5 (by omega) (fun q hq => by have := (O1.lt q hq).1; omega)
  have t5 : (((w.alloc (.cells #[.int .i64 op, .bool false, .bool true, .bool true, .int .i64 nums] 152)).alloc (.cells #[.pointer (some ⟨c, 1, none⟩)] 157))).Since (((w.alloc (.cells #[.int .i64 op, .bool false, .bool true, .bool true, .int .i64 nums] 152)).alloc (.cells #[.pointer (some ⟨c, 1, none⟩)] 157))).heap.size (((w.alloc (.cells #[.int .i64 op, .bool false, .bool true, .bool true, .int .i64 nums] 152)).alloc (.cells #[.pointer (some ⟨c, 1, none⟩)] 157)).alloc (.cells #[.pointer (some ⟨c, 3, none⟩)] 157)) := (World.Since.refl _ _).alloc (Nat.le_refl _) _
  have hb5 : w5.heap[w.heap.size]? = (((w.alloc (.cells #[.int .i64 op, .bool false, .bool true, .bool true, .int .i64 nums] 152)).alloc (.cells #[.pointer (some ⟨c, 1, none⟩)] 157)).alloc (.cells #[.pointer (some ⟨c, 3, none⟩)] 157)).heap[w.heap.size]? := hg5.block w.heap.size (by omega) (fun e => by have := (O1.lt w.heap.size e.symm).1; omega)
  have M5 := B1.keep t5
  have B5 : Box5 w5 w.heap.size (.int .i64 op) (.bool false) (.bool true) (.bool true) (.int .i64 nums) := ⟨(World.cell?_of_block (a := ⟨w.heap.size, 0, none⟩) hb5).trans M5.c0, (World.cell?_of_block (a := ⟨w.heap.size, 1, none⟩) hb5).trans M5.c1, (World.cell?_of_block (a := ⟨w.heap.size, 2, none⟩) hb5).trans M5.c2, (World.cell?_of_block (a := ⟨w.heap.size, 3, none⟩) hb5).trans M5.c3, (World.cell?_of_block (a := ⟨w.heap.size, 4, none⟩) hb5).trans M5.c4, fun o => by
    have := M5.f o
    unfold World.frozen? at this ⊢
    rw [hb5]; exact this⟩
  have z5 := S5.size
  have sz5 := hg5.size
  clear hg5 hat5 b1 b2 b3
  have b1 := B5.c1
  have b2 := B5.c2
  have b3 := B5.c3
  go_wp2_with (at_builtin; refine wpList_append_own_at _ rfl _ _ 154 rfl (w.heap.size + 1) 157 i0 (.pointer none) 1 8 Tryz.underlying154 hi hz0 hz1 hz2 rfl (by decide) _ _ _ rfl (ho5.alloc _) ⟨w5.heap.size, 0, none⟩ 1 1 [.pointer (some ⟨c, 4, none⟩)] rfl rfl (new_cell _ _ _) (one_one _ rfl) (by decide) (by decide) (by simp <;> omega) ?_)
  intro v6 w6 ho6 hg6 _ hat6
  obtain ⟨g6, k6, rfl, x6, y6⟩ := ho6.form (by omega)
  have Z6 : (w5.alloc (.cells #[.pointer (some ⟨c, 4, none⟩)] 157)).heap.size = w5.heap.size + 1 := by simp
  have l6 := B5.lt
  have S6 : w.Since w.heap.size w6 := (S5.alloc S5.size _).grown hg6 (by omega) (fun q hq => by have := (ho5.lt q hq).1; omega)
  have t6 : (w5).Since (w5).heap.size (w5.alloc (.cells #[.pointer (some ⟨c, 4, none⟩)] 157)) := (World.Since.refl _ _).alloc (Nat.le_refl _) _
  have hb6 : w6.heap[w.heap.size]? = (w5.alloc (.cells #[.pointer (some ⟨c, 4, none⟩)] 157)).heap[w.heap.size]? := hg6.block w.heap.size (by omega) (fun e => by have := (ho5.lt w.heap.size e.symm).1; omega)
  have M6 := B5.keep t6
  have B6 : Box5 w6 w.heap.size (.int .i64 op) (.bool false) (.bool true) (.bool true) (.int .i64 nums) := ⟨(World.cell?_of_block (a := ⟨w.heap.size, 0, none⟩) hb6).trans M6.c0, (World.cell?_of_block (a := ⟨w.heap.size, 1, none⟩) hb6).trans M6.c1, (World.cell?_of_block (a := ⟨w.heap.size, 2, none⟩) hb6).trans M6.c2, (World.cell?_of_block (a := ⟨w.heap.size, 3, none⟩) hb6).trans M6.c3, (World.cell?_of_block (a := ⟨w.heap.size, 4, none⟩) hb6).trans M6.c4, fun o => by
    have := M6.f o
    unfold World.frozen? at this ⊢
    rw [hb6]; exact this⟩
  have z6 := S6.size
  have sz6 := hg6.size
  clear hg6 hat6 b1 b2 b3
  have b1 := B6.c1
  have b2 := B6.c2
  have b3 := B6.c3
  go_wp2
  go_ret
  exact ⟨g6, k6, rfl, ho6, S6⟩

end Go.Proofs.YtnogbaapcjjngaaGreatDoor
