import Derived.Test.YtabemlkdpgglaaaDoorOwnP4
import Derived.Deep.RegionHeld3
namespace Go.Proofs.YtabemlkdpgglaaaDoor
open Go.RowKit

/-- A struct of three cells in a block of its own. -/
structure Box3 (w : World) (c : Nat) (x y z : Value) : Prop where
  c0 : w.cell? ⟨c, 0, none⟩ = some x
  c1 : w.cell? ⟨c, 1, none⟩ = some y
  c2 : w.cell? ⟨c, 2, none⟩ = some z
  f : ∀ k, w.frozen? ⟨c, k, none⟩ = false

theorem Box3.lt {w : World} {c : Nat} {x y z : Value} (h : Box3 w c x y z) : c < w.heap.size := World.block_lt_of_cell? _ _ h.c0
theorem Box3.new (w : World) (x y z : Value) (t : TypeId) : Box3 (w.alloc (.cells #[x, y, z] t)) w.heap.size x y z := ⟨by simp [go_sem], by simp [go_sem], by simp [go_sem], fun k => by simp [go_sem]⟩
theorem Box3.since {w w' : World} {c B : Nat} {x y z : Value} (h : Box3 w c x y z) (s : w.Since B w') (hc : c < B) : Box3 w' c x y z :=
  ⟨(s.cell (a := ⟨c, 0, none⟩) hc).trans h.c0, (s.cell (a := ⟨c, 1, none⟩) hc).trans h.c1, (s.cell (a := ⟨c, 2, none⟩) hc).trans h.c2, fun k => (s.frozen (a := ⟨c, k, none⟩) hc).trans (h.f k)⟩
theorem Box3.keep {w w' : World} {c : Nat} {x y z : Value} (h : Box3 w c x y z) (s : w.Since w.heap.size w') : Box3 w' c x y z := h.since s h.lt
theorem Box3.marked {w w' : World} {c d : Nat} {x y z : Value} (h : Box3 w c x y z) (s : Marked w w' d) (hc : c ≠ d) : Box3 w' c x y z :=
  ⟨(s.cell (a := ⟨c, 0, none⟩) hc).trans h.c0, (s.cell (a := ⟨c, 1, none⟩) hc).trans h.c1, (s.cell (a := ⟨c, 2, none⟩) hc).trans h.c2, fun k => (s.frozenO (a := ⟨c, k, none⟩) hc).trans (h.f k)⟩
theorem Box3.set0 {w : World} {c : Nat} {x y z : Value} (h : Box3 w c x y z) (v : Value) : Box3 (w.setCell ⟨c, 0, none⟩ v) c v y z :=
  ⟨World.cell?_setCell_same _ _ _ h.c0, (World.cell?_setCell_other _ _ _ _ (by simp)).trans h.c1, (World.cell?_setCell_other _ _ _ _ (by simp)).trans h.c2, fun k => by rw [((Marked.refl w c).setCell 0 v).frozen]; exact h.f k⟩
theorem Box3.set1 {w : World} {c : Nat} {x y z : Value} (h : Box3 w c x y z) (v : Value) : Box3 (w.setCell ⟨c, 1, none⟩ v) c x v z :=
  ⟨(World.cell?_setCell_other _ _ _ _ (by simp)).trans h.c0, World.cell?_setCell_same _ _ _ h.c1, (World.cell?_setCell_other _ _ _ _ (by simp)).trans h.c2, fun k => by rw [((Marked.refl w c).setCell 1 v).frozen]; exact h.f k⟩
theorem Box3.set2 {w : World} {c : Nat} {x y z : Value} (h : Box3 w c x y z) (v : Value) : Box3 (w.setCell ⟨c, 2, none⟩ v) c x y v :=
  ⟨(World.cell?_setCell_other _ _ _ _ (by simp)).trans h.c0, (World.cell?_setCell_other _ _ _ _ (by simp)).trans h.c1, World.cell?_setCell_same _ _ _ h.c2, fun k => by rw [((Marked.refl w c).setCell 2 v).frozen]; exact h.f k⟩

theorem ratInfo : (Tryd.prog.info? 25).map (·.size) = some 3 := by kernel_rfl

/-- A struct answer that lies in a box. -/
theorem results_box3 {fn : Func} {p : Tmp} (h : fn.results = #[.cell p 25]) (tmps : Array Value) (w : World) (c : Nat) (x y z : Value) (hp : tmps.getD p undef = .pointer (some ⟨c, 0, none⟩)) (B : Box3 w c x y z) :
    (results fn tmps).run Tryd.prog w = .ok (.agg #[x, y, z]) w := by
  have hp' : tmps[p]?.getD undef = .pointer (some ⟨c, 0, none⟩) := by simpa using hp
  have hl := run_loadVar_mid (P := Tryd.prog) w c 0 25 [x, y, z] _ (fun j v hv => by
    rcases j with _ | _ | _ | j
    · simp at hv; subst hv; exact B.c0
    · simp at hv; subst hv; exact B.c1
    · simp at hv; subst hv; exact B.c2
    · simp at hv) Tryd.underlying25 rfl ratInfo
  simp [results, h, hp', asAddr, hl]

/-- A struct answer that lies in a box, of whatever struct type of three cells. -/
theorem results_box3T {fn : Func} {p : Tmp} {T : TypeId} {d : TypeDesc} (h : fn.results = #[.cell p T]) (hu : Tryd.prog.underlying T = some d) (hd : d.isRow = true) (hi : (Tryd.prog.info? T).map (·.size) = some 3) (tmps : Array Value) (w : World) (c : Nat) (x y z : Value)
    (hp : tmps.getD p undef = .pointer (some ⟨c, 0, none⟩)) (B : Box3 w c x y z) : (results fn tmps).run Tryd.prog w = .ok (.agg #[x, y, z]) w := by
  have hp' : tmps[p]?.getD undef = .pointer (some ⟨c, 0, none⟩) := by simpa using hp
  have hl := run_loadVar_mid (P := Tryd.prog) w c 0 T [x, y, z] d (fun j v hv => by
    rcases j with _ | _ | _ | j
    · simp at hv; subst hv; exact B.c0
    · simp at hv; subst hv; exact B.c1
    · simp at hv; subst hv; exact B.c2
    · simp at hv) hu hd hi
  simp [results, h, hp', asAddr, hl]

theorem fracInfo : (Tryd.prog.info? 72).map (·.size) = some 3 := by kernel_rfl

end Go.Proofs.YtabemlkdpgglaaaDoor
