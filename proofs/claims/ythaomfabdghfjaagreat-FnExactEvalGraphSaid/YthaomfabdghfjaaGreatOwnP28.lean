import Derived.Test.YthaomfabdghfjaaGreatOwnP12
import Derived.WalkKit
import Derived.ProofKit
import Derived.OpenShut
import Derived.ShutString
import Derived.ChangeOld
import Derived.Below
import Derived.Deep.Slices
import Derived.Deep.Strs
import Derived.Lib.SmallJoins
import Derived.Test.YthaomfabdghfjaaGreatOwnP13
set_option maxHeartbeats 6400000
set_option maxRecDepth 100000
namespace Go.Proofs.YthaomfabdghfjaaGreat.NI
open Go.ChangeShapes Go.WideShapes Go.ChangeAt Go.RowKit Go.Deep
set_option linter.unusedVariables false
theorem cellsRat : Tryz.prog.cellsOf 63 = 3 := by kernel_rfl
theorem cellsU32s : Tryz.prog.cellsOf 61 = 1 := by kernel_rfl
theorem cellsBool : Tryz.prog.cellsOf 4 = 1 := by kernel_rfl
section
variable {H : Type} {enc : TypeId × Value -> H} {W : World}
theorem limbs_in {k : Nat} {u : Value} {y : DataW H × List MemPlace} (hf : DataW.trod enc Tryz.prog W 0 (fun _ => true) true k 61 [u] = some y) :
 ∃ a n ca X, u = .slice a n ca /\ n <= ca /\ (a = none -> ca = 0) /\ n <= 9223372036854775807 /\ (∃ b off, xq2 W a b off n X) /\ ∀ j, j < n -> X j < 4294967296 := by
 rcases open_ints Tryz.underlying61 Tryz.underlying119 (by kernel_rfl) hf with ⟨hcs, _⟩ | ⟨x, l, c, zs, hcs, _, hl, hm, hz, _, hcell, hwf⟩
 . simp at hcs
   exact ⟨none, 0, 0, fun _ => 0, hcs, Nat.le_refl _, fun _ => rfl, by omega, ⟨0, 0, fun j hj => absurd hj (by omega)⟩, fun j hj => absurd hj (by omega)⟩
 . simp at hcs
   have hz : zs.length = c := by simpa using hz
   have hb : ∀ j, j < l -> (zs[j]?.getD 0).toNat < 4294967296 := fun j _ => by have := range_u32 hwf j; omega
   refine ⟨some x, l, c, fun j => (zs[j]?.getD 0).toNat, hcs, hl, (fun h => by cases h), by unfold maxLen at hm; omega, ?_, hb⟩
   by_cases h0 : 0 < l
   . obtain ⟨b, off, rfl, hc⟩ := ints_at hcell (by omega)
     refine ⟨b, off, fun j hj => ⟨rfl, ?_⟩⟩; have h1 := hc j (by omega); have h2 := range_u32 hwf j; rw [h1, List.getD_eq_getElem?_getD]; simp only [Int.toNat_of_nonneg h2.1]
   . exact ⟨0, 0, fun j hj => absurd hj (by omega)⟩
theorem rat_cells {k : Nat} {cs : List Value} {y : DataW H × List MemPlace} (hf : DataW.trod enc Tryz.prog W 0 (fun _ => true) true k 63 cs = some y) :
 ∃ (r : RatD) (a1 a2 : Option Addr) (c1 c2 : Nat), cs = [.bool r.neg, .slice a1 r.n c1, .slice a2 r.m c2] /\ RatL W 0 r a1 a2 c1 c2 := by
 obtain ⟨y0, y1, y2, n, -, hl, h0, h1, h2⟩ := trod_struct3 Tryz.underlying63 hf; rw [cellsRat] at hl
 match cs, hl with
 | [v0, v1, v2], _ =>
   have h0 : DataW.trod enc Tryz.prog W 0 (fun _ => true) true n 4 [v0] = some y0 := by simpa [cellsBool] using h0
   have h1 : DataW.trod enc Tryz.prog W 0 (fun _ => true) true n 61 [v1] = some y1 := by simpa [cellsU32s] using h1
   have h2 : DataW.trod enc Tryz.prog W 0 (fun _ => true) true n 61 [v2] = some y2 := by simpa [cellsU32s] using h2
   obtain ⟨neg, e0, -⟩ := DataW.trod_bool Tryz.underlying4 h0; obtain ⟨a1, n1, c1, X, rfl, p1, p2, p3, p4, p5⟩ := limbs_in h1; obtain ⟨a2, n2, c2, Y, rfl, q1, q2, q3, q4, q5⟩ := limbs_in h2
   simp at e0
   subst e0; obtain ⟨b1, o1, L1⟩ := p4; obtain ⟨b2, o2, L2⟩ := q4; exact ⟨⟨neg, n1, X, n2, Y⟩, a1, a2, c1, c2, rfl, p1, q1, p2, q2, ⟨b1, o1, fun _ => Nat.zero_le _, L1⟩, ⟨b2, o2, fun _ => Nat.zero_le _, L2⟩, p5, q5, p3, q3⟩
theorem plain_of {a : Addr} {q : Nat} {v : Value} (h : W.cell? (a.add q) = some v) (h0 : q = 0) : a = ⟨a.block, a.off, none⟩ := by
 subst h0; obtain ⟨b, off, spot⟩ := a; have hs : spot = none := by simpa [Addr.add] using World.cell?_spot h
 subst hs
 rfl
theorem rats_in {k : Nat} {u : Value} {y : DataW H × List MemPlace} (hf : DataW.trod enc Tryz.prog W 0 (fun _ => true) true k 25 [u] = some y) :
 ∃ a n ca R, u = .slice a n ca /\ n <= ca /\ n <= 9223372036854775807 /\ ∃ b off, Rats W 0 a b off n R := by
 rcases open_slice Tryz.underlying25 hf with ⟨hcs, _⟩ | ⟨a, len, cap, m, q, D, Pl, hcs, _, hl, hm, hmm, _, hx⟩
 . simp at hcs
   exact ⟨none, 0, 0, fun _ => RatD.nul, hcs, Nat.le_refl _, by omega, 0, 0, fun j hj => absurd hj (by omega)⟩
 . simp at hcs
   have hm' : cap <= 9223372036854775807 := by unfold maxLen at hm; omega
   obtain rfl : m = cap := by simpa using hmm
   have one : ∀ i, i < len -> ∃ (r : RatD), ∃ (a1 a2 : Option Addr) (c1 c2 : Nat), W.cell? (a.add (i * 3)) = some (.bool r.neg) /\ W.cell? (a.add (i * 3 + 1)) = some (.slice a1 r.n c1) /\ W.cell? (a.add (i * 3 + 2)) = some (.slice a2 r.m c2) /\ RatL W 0 r a1 a2 c1 c2 := fun i hi => by
    obtain ⟨cs', h1, h2⟩ := hx i (by omega); obtain ⟨r, a1, a2, c1, c2, rfl, L⟩ := rat_cells h2; obtain ⟨-, -, hc⟩ := World.cells?_some h1; rw [cellsRat] at hc; refine ⟨r, a1, a2, c1, c2, ?_, ?_, ?_, L⟩
    . simpa [add_add] using hc 0 (by omega)
    . simpa [add_add] using hc 1 (by omega)
    . simpa [add_add] using hc 2 (by omega)
   have : Inhabited RatD := ⟨RatD.nul⟩
   obtain ⟨R, hR⟩ := choose_lt one; refine ⟨some a, len, m, R, hcs, hl, by omega, ?_⟩
   by_cases h0 : 0 < len
   . obtain ⟨-, -, -, -, z, -⟩ := hR 0 h0
     have e := plain_of z (by omega); rw [e] at hR ⊢; refine ⟨a.block, a.off, fun i hi => ⟨rfl, ?_⟩⟩; obtain ⟨a1, a2, c1, c2, z0, z1, z2, L⟩ := hR i hi; simp only [add_plain] at z0 z1 z2; exact ⟨a1, a2, c1, c2, z0, by rw [Nat.add_assoc]; exact z1, by rw [Nat.add_assoc]; exact z2, L⟩
   . exact ⟨0, 0, fun j hj => absurd hj (by omega)⟩
end
section
variable {H : Type} {enc : TypeId × Value -> H} {W : World}
theorem yx4 : Tryz.prog.cellsOf 3 = 1 := by kernel_rfl
theorem cellsRats : Tryz.prog.cellsOf 25 = 1 := by kernel_rfl
end
set_option linter.unusedVariables false
section
variable {P : Program} {H : Type} {enc : TypeId × Value -> H} {w : World} {base : Nat} {spare : Nat -> Bool} {held : Bool}
theorem trod_struct6 {t : TypeId} {f0 f1 f2 f3 f4 f5 : Field} {fuel : Nat} {cs : List Value} {x : DataW H × List MemPlace} (ht : P.underlying t = some (.struct #[f0, f1, f2, f3, f4, f5])) (h : DataW.trod enc P w base spare held fuel t cs = some x) :
 ∃ y0 y1 y2 y3 y4 y5 n, cs.length = P.cellsOf t /\ DataW.trod enc P w base spare held n f0.type ((cs.drop f0.offset).take (P.cellsOf f0.type)) = some y0 /\
  DataW.trod enc P w base spare held n f1.type ((cs.drop f1.offset).take (P.cellsOf f1.type)) = some y1 /\ DataW.trod enc P w base spare held n f2.type ((cs.drop f2.offset).take (P.cellsOf f2.type)) = some y2 /\
  DataW.trod enc P w base spare held n f3.type ((cs.drop f3.offset).take (P.cellsOf f3.type)) = some y3 /\ DataW.trod enc P w base spare held n f4.type ((cs.drop f4.offset).take (P.cellsOf f4.type)) = some y4 /\
  DataW.trod enc P w base spare held n f5.type ((cs.drop f5.offset).take (P.cellsOf f5.type)) = some y5 := by
 obtain ⟨xs, n, _, rfl, hl, hlen, hf⟩ := DataW.trod_struct ht h
 match xs, hlen with
 | [y0, y1, y2, y3, y4, y5], _ => exact ⟨y0, y1, y2, y3, y4, y5, n, hl, by simpa using hf 0 f0 rfl, by simpa using hf 1 f1 rfl, by simpa using hf 2 f2 rfl, by simpa using hf 3 f3 rfl, by simpa using hf 4 f4 rfl, by simpa using hf 5 f5 rfl⟩
end
section
variable {H : Type} {enc : TypeId × Value -> H} {W : World}
theorem cellsNode : Tryz.prog.cellsOf 122 = 6 := by kernel_rfl
theorem cellsNodes : Tryz.prog.cellsOf 41 = 1 := by kernel_rfl
theorem cellsGraph : Tryz.prog.cellsOf 43 = 6 := by kernel_rfl
theorem int_in {n : Nat} {v : Value} {y : DataW H × List MemPlace} (h : DataW.trod enc Tryz.prog W 0 (fun _ => true) true n 3 [v] = some y) : ∃ z : Int, v = .int .i64 z /\ I64 z := by
 obtain ⟨z0, e0, -, w0⟩ := DataW.trod_int Tryz.underlying3 h
 simp at e0
 simp [Lit.wf] at w0
 have hmin : IntKind.i64.min = -9223372036854775808 := by kernel_rfl
 rw [hmin] at w0; exact ⟨z0, e0, w0.1, w0.2⟩
theorem node_cells {k : Nat} {cs : List Value} {y : DataW H × List MemPlace} (hf : DataW.trod enc Tryz.prog W 0 (fun _ => true) true k 122 cs = some y) :
 ∃ (d : xq1) (a1 : Option Addr) (c1 : Nat), cs = [.int .i64 d.op, .int .i64 d.a, .int .i64 d.b, .int .i64 d.k, .int .i64 d.s, .slice a1 d.nv c1] /\ NodL W 0 d a1 c1 := by
 obtain ⟨y0, y1, y2, y3, y4, y5, n, hl, h0, h1, h2, h3, h4, h5⟩ := trod_struct6 Tryz.underlying122 hf; rw [cellsNode] at hl
 match cs, hl with
 | [v0, v1, v2, v3, v4, v5], _ =>
   obtain ⟨z0, rfl, w0⟩ := int_in (show DataW.trod enc Tryz.prog W 0 (fun _ => true) true n 3 [v0] = some y0 by simpa [yx4] using h0); obtain ⟨z1, rfl, w1⟩ := int_in (show DataW.trod enc Tryz.prog W 0 (fun _ => true) true n 3 [v1] = some y1 by simpa [yx4] using h1); obtain ⟨z2, rfl, w2⟩ := int_in (show DataW.trod enc Tryz.prog W 0 (fun _ => true) true n 3 [v2] = some y2 by simpa [yx4] using h2); obtain ⟨z3, rfl, w3⟩ := int_in (show DataW.trod enc Tryz.prog W 0 (fun _ => true) true n 3 [v3] = some y3 by simpa [yx4] using h3); obtain ⟨z4, rfl, w4⟩ := int_in (show DataW.trod enc Tryz.prog W 0 (fun _ => true) true n 3 [v4] = some y4 by simpa [yx4] using h4); have h5 : DataW.trod enc Tryz.prog W 0 (fun _ => true) true n 25 [v5] = some y5 := by simpa [cellsRats] using h5
   obtain ⟨a1, n1, c1, R1, rfl, p1, p3, b1, o1, L1⟩ := rats_in h5; exact ⟨⟨z0, z1, z2, z3, z4, n1, R1⟩, a1, c1, rfl, p1, ⟨b1, o1, fun _ => Nat.zero_le _, L1⟩, w0, w1, w2, w3, w4, p3⟩
theorem nods_in {k : Nat} {u : Value} {y : DataW H × List MemPlace} (hf : DataW.trod enc Tryz.prog W 0 (fun _ => true) true k 41 [u] = some y) :
 ∃ a n ca A, u = .slice a n ca /\ n <= ca /\ n <= 9223372036854775807 /\ ∃ b off, Nods W 0 a b off n A := by
 rcases open_slice Tryz.underlying41 hf with ⟨hcs, _⟩ | ⟨a, len, cap, m, q, D, Pl, hcs, _, hl, hm, hmm, _, hx⟩
 . simp at hcs
   exact ⟨none, 0, 0, fun _ => xq1.nul, hcs, Nat.le_refl _, by omega, 0, 0, fun j hj => absurd hj (by omega)⟩
 . simp at hcs
   have hm' : cap <= 9223372036854775807 := by unfold maxLen at hm; omega
   obtain rfl : m = cap := by simpa using hmm
   have one : ∀ i, i < len -> ∃ (d : xq1), ∃ (a1 : Option Addr) (c1 : Nat), W.cell? (a.add (i * 6)) = some (.int .i64 d.op) /\ W.cell? (a.add (i * 6 + 1)) = some (.int .i64 d.a) /\ W.cell? (a.add (i * 6 + 2)) = some (.int .i64 d.b) /\ W.cell? (a.add (i * 6 + 3)) = some (.int .i64 d.k) /\ W.cell? (a.add (i * 6 + 4)) = some (.int .i64 d.s) /\ W.cell? (a.add (i * 6 + 5)) = some (.slice a1 d.nv c1) /\ NodL W 0 d a1 c1 := fun i hi => by
    obtain ⟨cs', h1, h2⟩ := hx i (by omega); obtain ⟨r, a1, c1, rfl, L⟩ := node_cells h2; obtain ⟨-, -, hc⟩ := World.cells?_some h1; rw [cellsNode] at hc; refine ⟨r, a1, c1, ?_, ?_, ?_, ?_, ?_, ?_, L⟩
    . simpa [add_add] using hc 0 (by omega)
    . simpa [add_add] using hc 1 (by omega)
    . simpa [add_add] using hc 2 (by omega)
    . simpa [add_add] using hc 3 (by omega)
    . simpa [add_add] using hc 4 (by omega)
    . simpa [add_add] using hc 5 (by omega)
   have : Inhabited xq1 := ⟨xq1.nul⟩
   obtain ⟨A, hA⟩ := choose_lt one; refine ⟨some a, len, m, A, hcs, hl, by omega, ?_⟩
   by_cases h0 : 0 < len
   . obtain ⟨-, -, z, -⟩ := hA 0 h0
     have e := plain_of z (by omega); rw [e] at hA ⊢; refine ⟨a.block, a.off, fun i hi => ⟨rfl, ?_⟩⟩; obtain ⟨a1, c1, z0, z1, z2, z3, z4, z5, L⟩ := hA i hi; simp only [add_plain] at z0 z1 z2 z3 z4 z5; exact ⟨a1, c1, z0, by rw [Nat.add_assoc]; exact z1, by rw [Nat.add_assoc]; exact z2, by rw [Nat.add_assoc]; exact z3, by rw [Nat.add_assoc]; exact z4, by rw [Nat.add_assoc]; exact z5, L⟩
   . exact ⟨0, 0, fun j hj => absurd hj (by omega)⟩
theorem graph_in {base : Nat} {v : Value} {d : DataW H} {p : List MemPlace} (hv : Value.okWide Tryz.prog W .any base 43 v) (h : DataW.Trod enc Tryz.prog W 0 (fun _ => true) true 43 v d p) :
 ∃ (g : xq8) (aL aH aN : Option Addr) (kL kH kN : Nat), v = .agg #[.int .i64 g.inn, .int .i64 g.rounds, .slice aL g.nl kL, .slice aH g.nh kH, .slice aN g.nn kN, .int .i64 g.out] /\ GraL W 0 g aL aH aN kL kH kN := by
 obtain ⟨cs, rfl, hsz⟩ := okWide_struct Tryz.underlying43 hv; rw [cellsGraph] at hsz; obtain ⟨l⟩ := cs
 match l, hsz with
 | [v0, v1, v2, v3, v4, v5], _ =>
   obtain ⟨fuel, hf⟩ := h; obtain ⟨y0, y1, y2, y3, y4, y5, n, -, h0, h1, h2, h3, h4, h5⟩ := trod_struct6 Tryz.underlying43 hf; obtain ⟨z0, rfl, w0⟩ := int_in (show DataW.trod enc Tryz.prog W 0 (fun _ => true) true n 3 [v0] = some y0 by simpa [Value.cells, yx4] using h0); obtain ⟨z1, rfl, w1⟩ := int_in (show DataW.trod enc Tryz.prog W 0 (fun _ => true) true n 3 [v1] = some y1 by simpa [Value.cells, yx4] using h1); obtain ⟨z5, rfl, w5⟩ := int_in (show DataW.trod enc Tryz.prog W 0 (fun _ => true) true n 3 [v5] = some y5 by simpa [Value.cells, yx4] using h5); obtain ⟨aL, nL, cL, RL, rfl, p1, p3, b1, o1, L1⟩ := rats_in (show DataW.trod enc Tryz.prog W 0 (fun _ => true) true n 25 [v2] = some y2 by simpa [Value.cells, cellsRats] using h2); obtain ⟨aH, nH, cH, RH, rfl, q1, q3, b2, o2, L2⟩ := rats_in (show DataW.trod enc Tryz.prog W 0 (fun _ => true) true n 25 [v3] = some y3 by simpa [Value.cells, cellsRats] using h3); obtain ⟨aN, nN, cN, RN, rfl, r1, r3, b3, o3, L3⟩ := nods_in (show DataW.trod enc Tryz.prog W 0 (fun _ => true) true n 41 [v4] = some y4 by simpa [Value.cells, cellsNodes] using h4); exact ⟨⟨z0, z1, nL, RL, nH, RH, nN, RN, z5⟩, aL, aH, aN, cL, cH, cN, rfl, p1, q1, r1, ⟨b1, o1, fun _ => Nat.zero_le _, L1⟩, ⟨b2, o2, fun _ => Nat.zero_le _, L2⟩, ⟨b3, o3, fun _ => Nat.zero_le _, L3⟩, w0, w1, w5, p3, q3, r3⟩
end
end Go.Proofs.YthaomfabdghfjaaGreat.NI
