import Derived.Test.YtnogbaapcjjngaaGreatDoorOwnP3
import Derived.Deep.RegionHeld3
set_option maxHeartbeats 6400000
set_option maxRecDepth 100000
namespace Go.Proofs.YtnogbaapcjjngaaGreatDoor
open Go.RowKit
structure Box3 (w : World) (c : Nat) (x y z : Value) : Prop where
 c0 : w.cell? ⟨c, 0, none⟩ = some x
 c1 : w.cell? ⟨c, 1, none⟩ = some y
 c2 : w.cell? ⟨c, 2, none⟩ = some z
 f : ∀ k, w.frozen? ⟨c, k, none⟩ = false
theorem Box3.lt {w : World} {c : Nat} {x y z : Value} (h : Box3 w c x y z) : c < w.heap.size := World.block_lt_of_cell? _ _ h.c0
theorem Box3.new (w : World) (x y z : Value) (t : TypeId) : Box3 (w.alloc (.cells #[x, y, z] t)) w.heap.size x y z := ⟨by simp [go_sem], by simp [go_sem], by simp [go_sem], fun k => by simp [go_sem]⟩
theorem Box3.since {w w' : World} {c B : Nat} {x y z : Value} (h : Box3 w c x y z) (s : w.Since B w') (hc : c < B) : Box3 w' c x y z :=
 ⟨(s.cell (a := ⟨c, 0, none⟩) hc).trans h.c0, (s.cell (a := ⟨c, 1, none⟩) hc).trans h.c1, (s.cell (a := ⟨c, 2, none⟩) hc).trans h.c2, fun k => (s.frozen (a := ⟨c, k, none⟩) hc).trans (h.f k)⟩
theorem Box3.keep {w w' : World} {c : Nat} {x y z : Value} (h : Box3 w c x y z) (s : w.Since w.heap.size w') : Box3 w' c x y z := h.since s h.lt
theorem Box3.marked {w w' : World} {c d : Nat} {x y z : Value} (h : Box3 w c x y z) (s : xq0 w w' d) (hc : c ≠ d) : Box3 w' c x y z :=
 ⟨(s.cell (a := ⟨c, 0, none⟩) hc).trans h.c0, (s.cell (a := ⟨c, 1, none⟩) hc).trans h.c1, (s.cell (a := ⟨c, 2, none⟩) hc).trans h.c2, fun k => (s.frozenO (a := ⟨c, k, none⟩) hc).trans (h.f k)⟩
theorem Box3.set0 {w : World} {c : Nat} {x y z : Value} (h : Box3 w c x y z) (v : Value) : Box3 (w.setCell ⟨c, 0, none⟩ v) c v y z :=
 ⟨World.cell?_setCell_same _ _ _ h.c0, (World.cell?_setCell_other _ _ _ _ (by simp)).trans h.c1, (World.cell?_setCell_other _ _ _ _ (by simp)).trans h.c2, fun k => by rw [((xq0.refl w c).setCell 0 v).frozen]; exact h.f k⟩
theorem Box3.set1 {w : World} {c : Nat} {x y z : Value} (h : Box3 w c x y z) (v : Value) : Box3 (w.setCell ⟨c, 1, none⟩ v) c x v z :=
 ⟨(World.cell?_setCell_other _ _ _ _ (by simp)).trans h.c0, World.cell?_setCell_same _ _ _ h.c1, (World.cell?_setCell_other _ _ _ _ (by simp)).trans h.c2, fun k => by rw [((xq0.refl w c).setCell 1 v).frozen]; exact h.f k⟩
theorem Box3.set2 {w : World} {c : Nat} {x y z : Value} (h : Box3 w c x y z) (v : Value) : Box3 (w.setCell ⟨c, 2, none⟩ v) c x y v :=
 ⟨(World.cell?_setCell_other _ _ _ _ (by simp)).trans h.c0, (World.cell?_setCell_other _ _ _ _ (by simp)).trans h.c1, World.cell?_setCell_same _ _ _ h.c2, fun k => by rw [((xq0.refl w c).setCell 2 v).frozen]; exact h.f k⟩
theorem ratInfo : (Tryz.prog.info? 61).map (·.size) = some 3 := by kernel_rfl
theorem rb3 {fn : Func} {p : Tmp} (h : fn.results = #[.cell p 61]) (tmps : Array Value) (w : World) (c : Nat) (x y z : Value) (hp : tmps.getD p undef = .pointer (some ⟨c, 0, none⟩)) (B : Box3 w c x y z) :
 (results fn tmps).run Tryz.prog w = .ok (.agg #[x, y, z]) w := by
 have hp' : tmps[p]?.getD undef = .pointer (some ⟨c, 0, none⟩) := by simpa using hp
 have hl := run_loadVar_mid (P := Tryz.prog) w c 0 61 [x, y, z] _ (fun j v hv => by
  rcases j with _ | _ | _ | j
  . simp at hv; subst hv; exact B.c0
  . simp at hv; subst hv; exact B.c1
  . simp at hv; subst hv; exact B.c2
  . simp at hv) Tryz.underlying61 rfl ratInfo
 simp [results, h, hp', asAddr, hl]
theorem rb3T {fn : Func} {p : Tmp} {T : TypeId} {d : TypeDesc} (h : fn.results = #[.cell p T]) (hu : Tryz.prog.underlying T = some d) (hd : d.isRow = true) (hi : (Tryz.prog.info? T).map (·.size) = some 3) (tmps : Array Value) (w : World) (c : Nat) (x y z : Value)
 (hp : tmps.getD p undef = .pointer (some ⟨c, 0, none⟩)) (B : Box3 w c x y z) : (results fn tmps).run Tryz.prog w = .ok (.agg #[x, y, z]) w := by
 have hp' : tmps[p]?.getD undef = .pointer (some ⟨c, 0, none⟩) := by simpa using hp
 have hl := run_loadVar_mid (P := Tryz.prog) w c 0 T [x, y, z] d (fun j v hv => by
  rcases j with _ | _ | _ | j
  . simp at hv; subst hv; exact B.c0
  . simp at hv; subst hv; exact B.c1
  . simp at hv; subst hv; exact B.c2
  . simp at hv) hu hd hi
 simp [results, h, hp', asAddr, hl]
theorem bx (w : World) (x1 x2 x3 y1 y2 y3 z1 z2 z3 : Value) : w.Since w.heap.size (((w.alloc (.cells #[x1, x2, x3] 61)).alloc (.cells #[y1, y2, y3] 61)).alloc (.cells #[z1, z2, z3] 61)) /\ (((w.alloc (.cells #[x1, x2, x3] 61)).alloc (.cells #[y1, y2, y3] 61)).alloc (.cells #[z1, z2, z3] 61)).heap.size = w.heap.size + 1 + 1 + 1 /\ Box3 (((w.alloc (.cells #[x1, x2, x3] 61)).alloc (.cells #[y1, y2, y3] 61)).alloc (.cells #[z1, z2, z3] 61)) w.heap.size x1 x2 x3 /\ Box3 (((w.alloc (.cells #[x1, x2, x3] 61)).alloc (.cells #[y1, y2, y3] 61)).alloc (.cells #[z1, z2, z3] 61)) (w.heap.size + 1) y1 y2 y3 /\ Box3 (((w.alloc (.cells #[x1, x2, x3] 61)).alloc (.cells #[y1, y2, y3] 61)).alloc (.cells #[z1, z2, z3] 61)) (w.heap.size + 1 + 1) z1 z2 z3 := by
 refine ⟨(((World.Since.refl _ _).alloc (Nat.le_refl _) _).alloc (by simp) _).alloc (by simp; omega) _, by simp, ((Box3.new w _ _ _ _).keep ((World.Since.refl _ _).alloc (Nat.le_refl _) _)).keep ((World.Since.refl _ _).alloc (Nat.le_refl _) _), ?_, ?_⟩
 . have := (Box3.new (w.alloc (.cells #[x1, x2, x3] 61)) y1 y2 y3 61).keep ((World.Since.refl _ _).alloc (Nat.le_refl _) (.cells #[z1, z2, z3] 61))
   simpa using this
 . have := Box3.new ((w.alloc (.cells #[x1, x2, x3] 61)).alloc (.cells #[y1, y2, y3] 61)) z1 z2 z3 61
   simpa using this
structure Box4 (w : World) (c : Nat) (x y z u : Value) : Prop where
 c0 : w.cell? ⟨c, 0, none⟩ = some x
 c1 : w.cell? ⟨c, 1, none⟩ = some y
 c2 : w.cell? ⟨c, 2, none⟩ = some z
 c3 : w.cell? ⟨c, 3, none⟩ = some u
 f : ∀ k, w.frozen? ⟨c, k, none⟩ = false
section
variable {w w' : World} {c d B : Nat} {x y z u : Value}
theorem Box4.lt (h : Box4 w c x y z u) : c < w.heap.size := World.block_lt_of_cell? _ _ h.c0
theorem Box4.new (w : World) (x y z u : Value) (t : TypeId) : Box4 (w.alloc (.cells #[x, y, z, u] t)) w.heap.size x y z u := ⟨by simp [go_sem], by simp [go_sem], by simp [go_sem], by simp [go_sem], fun k => by simp [go_sem]⟩
theorem Box4.since (h : Box4 w c x y z u) (s : w.Since B w') (hc : c < B) : Box4 w' c x y z u :=
 ⟨(s.cell (a := ⟨c, 0, none⟩) hc).trans h.c0, (s.cell (a := ⟨c, 1, none⟩) hc).trans h.c1, (s.cell (a := ⟨c, 2, none⟩) hc).trans h.c2, (s.cell (a := ⟨c, 3, none⟩) hc).trans h.c3, fun k => (s.frozen (a := ⟨c, k, none⟩) hc).trans (h.f k)⟩
theorem Box4.keep (h : Box4 w c x y z u) (s : w.Since w.heap.size w') : Box4 w' c x y z u := h.since s h.lt
theorem Box4.marked (h : Box4 w c x y z u) (s : xq0 w w' d) (hc : c ≠ d) : Box4 w' c x y z u :=
 ⟨(s.cell (a := ⟨c, 0, none⟩) hc).trans h.c0, (s.cell (a := ⟨c, 1, none⟩) hc).trans h.c1, (s.cell (a := ⟨c, 2, none⟩) hc).trans h.c2, (s.cell (a := ⟨c, 3, none⟩) hc).trans h.c3, fun k => (s.frozenO (a := ⟨c, k, none⟩) hc).trans (h.f k)⟩
theorem Box4.set0 (h : Box4 w c x y z u) (v : Value) : Box4 (w.setCell ⟨c, 0, none⟩ v) c v y z u :=
 ⟨World.cell?_setCell_same _ _ _ h.c0, (World.cell?_setCell_other _ _ _ _ (by simp)).trans h.c1, (World.cell?_setCell_other _ _ _ _ (by simp)).trans h.c2, (World.cell?_setCell_other _ _ _ _ (by simp)).trans h.c3, fun k => by rw [((xq0.refl w c).setCell 0 v).frozen]; exact h.f k⟩
theorem Box4.set1 (h : Box4 w c x y z u) (v : Value) : Box4 (w.setCell ⟨c, 1, none⟩ v) c x v z u :=
 ⟨(World.cell?_setCell_other _ _ _ _ (by simp)).trans h.c0, World.cell?_setCell_same _ _ _ h.c1, (World.cell?_setCell_other _ _ _ _ (by simp)).trans h.c2, (World.cell?_setCell_other _ _ _ _ (by simp)).trans h.c3, fun k => by rw [((xq0.refl w c).setCell 1 v).frozen]; exact h.f k⟩
theorem Box4.set2 (h : Box4 w c x y z u) (v : Value) : Box4 (w.setCell ⟨c, 2, none⟩ v) c x y v u :=
 ⟨(World.cell?_setCell_other _ _ _ _ (by simp)).trans h.c0, (World.cell?_setCell_other _ _ _ _ (by simp)).trans h.c1, World.cell?_setCell_same _ _ _ h.c2, (World.cell?_setCell_other _ _ _ _ (by simp)).trans h.c3, fun k => by rw [((xq0.refl w c).setCell 2 v).frozen]; exact h.f k⟩
theorem Box4.set3 (h : Box4 w c x y z u) (v : Value) : Box4 (w.setCell ⟨c, 3, none⟩ v) c x y z v :=
 ⟨(World.cell?_setCell_other _ _ _ _ (by simp)).trans h.c0, (World.cell?_setCell_other _ _ _ _ (by simp)).trans h.c1, (World.cell?_setCell_other _ _ _ _ (by simp)).trans h.c2, World.cell?_setCell_same _ _ _ h.c3, fun k => by rw [((xq0.refl w c).setCell 3 v).frozen]; exact h.f k⟩
end
theorem yv2 {fn : Func} {p : Tmp} {T : TypeId} {d : TypeDesc} (h : fn.results = #[.cell p T]) (hu : Tryz.prog.underlying T = some d) (hd : d.isRow = true) (hi : (Tryz.prog.info? T).map (·.size) = some 4) (tmps : Array Value) (w : World) (c : Nat) (x y z u : Value)
 (hp : tmps.getD p undef = .pointer (some ⟨c, 0, none⟩)) (B : Box4 w c x y z u) : (results fn tmps).run Tryz.prog w = .ok (.agg #[x, y, z, u]) w := by
 have hp' : tmps[p]?.getD undef = .pointer (some ⟨c, 0, none⟩) := by simpa using hp
 have hl := run_loadVar_mid (P := Tryz.prog) w c 0 T [x, y, z, u] d (fun j v hv => by
  rcases j with _ | _ | _ | _ | j
  . simp at hv; subst hv; exact B.c0
  . simp at hv; subst hv; exact B.c1
  . simp at hv; subst hv; exact B.c2
  . simp at hv; subst hv; exact B.c3
  . simp at hv) hu hd hi
 simp [results, h, hp', asAddr, hl]
structure Box1 (w : World) (c : Nat) (x : Value) : Prop where
 c0 : w.cell? ⟨c, 0, none⟩ = some x
 f : ∀ k, w.frozen? ⟨c, k, none⟩ = false
section
variable {w w' : World} {c d B : Nat} {x : Value}
theorem Box1.lt (h : Box1 w c x) : c < w.heap.size := World.block_lt_of_cell? _ _ h.c0
theorem Box1.new (w : World) (x : Value) (t : TypeId) : Box1 (w.alloc (.cells #[x] t)) w.heap.size x := ⟨by simp [go_sem], fun k => by simp [go_sem]⟩
theorem Box1.since (h : Box1 w c x) (s : w.Since B w') (hc : c < B) : Box1 w' c x := ⟨(s.cell (a := ⟨c, 0, none⟩) hc).trans h.c0, fun k => (s.frozen (a := ⟨c, k, none⟩) hc).trans (h.f k)⟩
theorem Box1.keep (h : Box1 w c x) (s : w.Since w.heap.size w') : Box1 w' c x := h.since s h.lt
end
theorem results_box1T {fn : Func} {p : Tmp} {T : TypeId} {d : TypeDesc} (h : fn.results = #[.cell p T]) (hu : Tryz.prog.underlying T = some d) (hd : d.isRow = true) (hi : (Tryz.prog.info? T).map (·.size) = some 1) (tmps : Array Value) (w : World) (c : Nat) (x : Value)
 (hp : tmps.getD p undef = .pointer (some ⟨c, 0, none⟩)) (B : Box1 w c x) : (results fn tmps).run Tryz.prog w = .ok (.agg #[x]) w := by
 have hp' : tmps[p]?.getD undef = .pointer (some ⟨c, 0, none⟩) := by simpa using hp
 have hl := run_loadVar_mid (P := Tryz.prog) w c 0 T [x] d (fun j v hv => by
  rcases j with _ | j
  . simp at hv; subst hv; exact B.c0
  . simp at hv) hu hd hi
 simp [results, h, hp', asAddr, hl]
theorem fracInfo : (Tryz.prog.info? 168).map (·.size) = some 4 := by kernel_rfl
structure Box5 (w : World) (c : Nat) (x y z u v : Value) : Prop where
 c0 : w.cell? ⟨c, 0, none⟩ = some x
 c1 : w.cell? ⟨c, 1, none⟩ = some y
 c2 : w.cell? ⟨c, 2, none⟩ = some z
 c3 : w.cell? ⟨c, 3, none⟩ = some u
 c4 : w.cell? ⟨c, 4, none⟩ = some v
 f : ∀ k, w.frozen? ⟨c, k, none⟩ = false
section
variable {w w' : World} {c d B : Nat} {x y z u v : Value}
theorem Box5.new (w : World) (x y z u v : Value) (T : TypeId) : Box5 (w.alloc (.cells #[x, y, z, u, v] T)) w.heap.size x y z u v := ⟨by simp [go_sem], by simp [go_sem], by simp [go_sem], by simp [go_sem], by simp [go_sem], fun k => by simp [go_sem]⟩
theorem Box5.lt (h : Box5 w c x y z u v) : c < w.heap.size := World.block_lt_of_cell? _ _ h.c0
theorem Box5.keep (h : Box5 w c x y z u v) (s : w.Since w.heap.size w') : Box5 w' c x y z u v :=
 ⟨(s.cell (a := ⟨c, 0, none⟩) h.lt).trans h.c0, (s.cell (a := ⟨c, 1, none⟩) h.lt).trans h.c1, (s.cell (a := ⟨c, 2, none⟩) h.lt).trans h.c2, (s.cell (a := ⟨c, 3, none⟩) h.lt).trans h.c3, (s.cell (a := ⟨c, 4, none⟩) h.lt).trans h.c4, fun k => (s.frozen (a := ⟨c, k, none⟩) h.lt).trans (h.f k)⟩
theorem Box5.marked (h : Box5 w c x y z u v) (s : xq0 w w' d) (hc : c ≠ d) : Box5 w' c x y z u v :=
 ⟨(s.cell (a := ⟨c, 0, none⟩) hc).trans h.c0, (s.cell (a := ⟨c, 1, none⟩) hc).trans h.c1, (s.cell (a := ⟨c, 2, none⟩) hc).trans h.c2, (s.cell (a := ⟨c, 3, none⟩) hc).trans h.c3, (s.cell (a := ⟨c, 4, none⟩) hc).trans h.c4, fun k => (s.frozenO (a := ⟨c, k, none⟩) hc).trans (h.f k)⟩
theorem Box5.drew (h : Box5 w c x y z u v) : Box5 w.drew c x y z u v := ⟨h.c0, h.c1, h.c2, h.c3, h.c4, h.f⟩
theorem Box5.set0 (h : Box5 w c x y z u v) (q : Value) : Box5 (w.setCell ⟨c, 0, none⟩ q) c q y z u v :=
 ⟨World.cell?_setCell_same _ _ _ h.c0, (World.cell?_setCell_other _ _ _ _ (by simp)).trans h.c1, (World.cell?_setCell_other _ _ _ _ (by simp)).trans h.c2, (World.cell?_setCell_other _ _ _ _ (by simp)).trans h.c3, (World.cell?_setCell_other _ _ _ _ (by simp)).trans h.c4, fun k => by rw [((xq0.refl w c).setCell 0 q).frozen]; exact h.f k⟩
theorem Box5.set1 (h : Box5 w c x y z u v) (q : Value) : Box5 (w.setCell ⟨c, 1, none⟩ q) c x q z u v :=
 ⟨(World.cell?_setCell_other _ _ _ _ (by simp)).trans h.c0, World.cell?_setCell_same _ _ _ h.c1, (World.cell?_setCell_other _ _ _ _ (by simp)).trans h.c2, (World.cell?_setCell_other _ _ _ _ (by simp)).trans h.c3, (World.cell?_setCell_other _ _ _ _ (by simp)).trans h.c4, fun k => by rw [((xq0.refl w c).setCell 1 q).frozen]; exact h.f k⟩
theorem Box5.set2 (h : Box5 w c x y z u v) (q : Value) : Box5 (w.setCell ⟨c, 2, none⟩ q) c x y q u v :=
 ⟨(World.cell?_setCell_other _ _ _ _ (by simp)).trans h.c0, (World.cell?_setCell_other _ _ _ _ (by simp)).trans h.c1, World.cell?_setCell_same _ _ _ h.c2, (World.cell?_setCell_other _ _ _ _ (by simp)).trans h.c3, (World.cell?_setCell_other _ _ _ _ (by simp)).trans h.c4, fun k => by rw [((xq0.refl w c).setCell 2 q).frozen]; exact h.f k⟩
theorem Box5.set3 (h : Box5 w c x y z u v) (q : Value) : Box5 (w.setCell ⟨c, 3, none⟩ q) c x y z q v :=
 ⟨(World.cell?_setCell_other _ _ _ _ (by simp)).trans h.c0, (World.cell?_setCell_other _ _ _ _ (by simp)).trans h.c1, (World.cell?_setCell_other _ _ _ _ (by simp)).trans h.c2, World.cell?_setCell_same _ _ _ h.c3, (World.cell?_setCell_other _ _ _ _ (by simp)).trans h.c4, fun k => by rw [((xq0.refl w c).setCell 3 q).frozen]; exact h.f k⟩
theorem Box5.set4 (h : Box5 w c x y z u v) (q : Value) : Box5 (w.setCell ⟨c, 4, none⟩ q) c x y z u q :=
 ⟨(World.cell?_setCell_other _ _ _ _ (by simp)).trans h.c0, (World.cell?_setCell_other _ _ _ _ (by simp)).trans h.c1, (World.cell?_setCell_other _ _ _ _ (by simp)).trans h.c2, (World.cell?_setCell_other _ _ _ _ (by simp)).trans h.c3, World.cell?_setCell_same _ _ _ h.c4, fun k => by rw [((xq0.refl w c).setCell 4 q).frozen]; exact h.f k⟩
end
theorem results_box5T {fn : Func} {p : Tmp} {T : TypeId} {d : TypeDesc} (h : fn.results = #[.cell p T]) (hu : Tryz.prog.underlying T = some d) (hd : d.isRow = true) (hi : (Tryz.prog.info? T).map (·.size) = some 5) (tmps : Array Value) (w : World) (c : Nat) (x y z u v : Value)
 (hp : tmps.getD p undef = .pointer (some ⟨c, 0, none⟩)) (B : Box5 w c x y z u v) : (results fn tmps).run Tryz.prog w = .ok (.agg #[x, y, z, u, v]) w := by
 have hp' : tmps[p]?.getD undef = .pointer (some ⟨c, 0, none⟩) := by simpa using hp
 have hl := run_loadVar_mid (P := Tryz.prog) w c 0 T [x, y, z, u, v] d (fun j q hv => by
  rcases j with _ | _ | _ | _ | _ | j
  . simp at hv; subst hv; exact B.c0
  . simp at hv; subst hv; exact B.c1
  . simp at hv; subst hv; exact B.c2
  . simp at hv; subst hv; exact B.c3
  . simp at hv; subst hv; exact B.c4
  . simp at hv) hu hd hi
 simp [results, h, hp', asAddr, hl]
section
variable {P : Program} {ops : Array Oper} {Q : Exit -> Act -> World -> Prop} {md : Region.Mode} {S : World -> Prop} {fuel : Nat} {listed : Array Bool} {a : Act} {w : World} {oi : Oper} {v : Value}
theorem xz0 (i : Nat) (d : Option Tmp) (v : Value) (hi : ops[i]? = some oi) (hd : oi.dst = d) (hs : Region.noSelect ops = true) (hf : Region.free md ops listed i = true) (hr : (Region.ready md ops listed).contains i = true)
 (hQ : ∀ c a w, Q (.panic c) (a.put d v) w -> Q (.panic c) a w) (hw : Region.wanted oi (yielded ops a.tmps) = true) (hS : S w) (hy : ∀ w, S w -> (execOp a.eval oi).run P w = .ok (.value v) w)
 (h : wpAnyH P md ops Q S fuel (listed.setIfInBounds i true) (a.put d v) w) : wpAnyH P md ops Q S (fuel + 1) listed a w := by
 subst hd; exact wpAnyH_take hi hs hf hr hQ (Or.inl ⟨hw, hy⟩) hS h
theorem skip_at (i : Nat) (d : Option Tmp) (hi : ops[i]? = some oi) (hd : oi.dst = d) (hs : Region.noSelect ops = true) (hf : Region.free md ops listed i = true) (hr : (Region.ready md ops listed).contains i = true)
 (hQ : ∀ c a w, Q (.panic c) (a.put d undef) w -> Q (.panic c) a w) (hw : Region.wanted oi (yielded ops a.tmps) = false) (hS : S w)
 (h : wpAnyH P md ops Q S fuel (listed.setIfInBounds i true) (a.put d undef) w) : wpAnyH P md ops Q S (fuel + 1) listed a w := by
 subst hd; exact wpAnyH_take hi hs hf hr hQ (Or.inr ⟨hw, rfl⟩) hS h
theorem tk (i d : Nat) (v : Value) (h : wpAnyH P md ops Q S fuel (listed.setIfInBounds i true) (a.put (some d) v) w) (hi : ops[i]? = some oi := by rfl) (hd : oi.dst = some d := by kernel_rfl) (hs : Region.noSelect ops = true := by kernel_rfl) (hf : Region.free md ops listed i = true := by kernel_rfl) (hr : (Region.ready md ops listed).contains i = true := by kernel_rfl)
 (hQ : ∀ c a w, Q (.panic c) (a.put (some d) v) w -> Q (.panic c) a w := by exact fun _ _ _ h => h) (hw : Region.wanted oi (yielded ops a.tmps) = true := by kernel_rfl) (hS : S w := by assumption) (hy : ∀ w, S w -> (execOp a.eval oi).run P w = .ok (.value v) w := by (intro _ hSw; clear hSw; kernel_rfl)) : wpAnyH P md ops Q S (fuel + 1) listed a w := xz0 i (some d) v hi hd hs hf hr hQ hw hS hy h
theorem ta (i d : Nat) (v : Value) (hy : ∀ w, S w -> (execOp a.eval oi).run P w = .ok (.value v) w) (h : wpAnyH P md ops Q S fuel (listed.setIfInBounds i true) (a.put (some d) v) w) (hi : ops[i]? = some oi := by rfl) (hd : oi.dst = some d := by kernel_rfl) (hs : Region.noSelect ops = true := by kernel_rfl) (hf : Region.free md ops listed i = true := by kernel_rfl) (hr : (Region.ready md ops listed).contains i = true := by kernel_rfl)
 (hQ : ∀ c a w, Q (.panic c) (a.put (some d) v) w -> Q (.panic c) a w := by exact fun _ _ _ h => h) (hw : Region.wanted oi (yielded ops a.tmps) = true := by kernel_rfl) (hS : S w := by assumption) : wpAnyH P md ops Q S (fuel + 1) listed a w := xz0 i (some d) v hi hd hs hf hr hQ hw hS hy h
theorem sk (i d : Nat) (h : wpAnyH P md ops Q S fuel (listed.setIfInBounds i true) (a.put (some d) undef) w) (hi : ops[i]? = some oi := by rfl) (hd : oi.dst = some d := by kernel_rfl) (hs : Region.noSelect ops = true := by kernel_rfl) (hf : Region.free md ops listed i = true := by kernel_rfl) (hr : (Region.ready md ops listed).contains i = true := by kernel_rfl)
 (hQ : ∀ c a w, Q (.panic c) (a.put (some d) undef) w -> Q (.panic c) a w := by exact fun _ _ _ h => h) (hw : Region.wanted oi (yielded ops a.tmps) = false := by kernel_rfl) (hS : S w := by assumption) : wpAnyH P md ops Q S (fuel + 1) listed a w := skip_at i (some d) hi hd hs hf hr hQ hw hS h
theorem ap (a : Act) (d : Nat) (v : Value) : a.put (some d) v = { a with tmps := a.tmps.setIfInBounds d v } := rfl
theorem la {α : Type} {l : List α} {i : Nat} {x : α} : l.toArray.setIfInBounds i x = (l.set i x).toArray := List.setIfInBounds_toArray ..
theorem lz {α : Type} {y x : α} {l : List α} : (y :: l).set 0 x = x :: l := List.set_cons_zero
theorem ls {α : Type} {y x : α} {l : List α} {n : Nat} : (y :: l).set (n + 1) x = y :: l.set n x := List.set_cons_succ
end
theorem Box3.cells {w : World} {c : Nat} {x y z : Value} (h : Box3 w c x y z) : w.cell? ⟨c, 0, none⟩ = some x /\ w.cell? ⟨c, 1, none⟩ = some y /\ w.cell? ⟨c, 2, none⟩ = some z := ⟨h.c0, h.c1, h.c2⟩
end Go.Proofs.YtnogbaapcjjngaaGreatDoor
