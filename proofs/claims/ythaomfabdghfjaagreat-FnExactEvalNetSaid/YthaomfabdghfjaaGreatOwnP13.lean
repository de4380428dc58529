import Derived.Test.YthaomfabdghfjaaGreatOwnP4
import Derived.WalkKit
import Derived.ProofKit
import Derived.OpenShut
import Derived.ShutString
import Derived.ChangeOld
import Derived.Below
import Derived.Deep.Slices
import Derived.Deep.Strs
import Derived.Lib.SmallJoins
namespace Go.Proofs.YthaomfabdghfjaaGreat.NI
open Go.ChangeShapes Go.WideShapes Go.ChangeAt Go.RowKit Go.Deep
set_option linter.unusedVariables false

theorem cellsRat : Tryz.prog.cellsOf 63 = 3 := by kernel_rfl
theorem cellsU32s : Tryz.prog.cellsOf 61 = 1 := by kernel_rfl
theorem cellsBool : Tryz.prog.cellsOf 4 = 1 := by kernel_rfl

section
variable {H : Type} {enc : TypeId × Value → H} {W : World}

set_option maxRecDepth 100000 in
/-- A list of limbs that came in. -/
theorem limbs_in {k : Nat} {u : Value} {y : DataW H × List MemPlace} (hf : DataW.trod enc Tryz.prog W 0 (fun _ => true) true k 61 [u] = some y) :
    ∃ a n ca X, u = .slice a n ca ∧ n ≤ ca ∧ (a = none → ca = 0) ∧ n ≤ 9223372036854775807 ∧ (∃ b off, Limbs W a b off n X) ∧ ∀ j, j < n → X j < 4294967296 := by
  rcases open_ints Tryz.underlying61 Tryz.underlying119 (by kernel_rfl) hf with ⟨hcs, _⟩ | ⟨x, l, c, zs, hcs, _, hl, hm, hz, _, hcell, hwf⟩
  · simp at hcs
    exact ⟨none, 0, 0, fun _ => 0, hcs, Nat.le_refl _, fun _ => rfl, by omega, ⟨0, 0, fun j hj => absurd hj (by omega)⟩, fun j hj => absurd hj (by omega)⟩
  · simp at hcs
    have hz : zs.length = c := by simpa using hz
    have hb : ∀ j, j < l → (zs[j]?.getD 0).toNat < 4294967296 := fun j _ => by have := range_u32 hwf j; omega
    refine ⟨some x, l, c, fun j => (zs[j]?.getD 0).toNat, hcs, hl, (fun h => by cases h), by unfold maxLen at hm; omega, ?_, hb⟩
    by_cases h0 : 0 < l
    · obtain ⟨b, off, rfl, hc⟩ := ints_at hcell (by omega)
      refine ⟨b, off, fun j hj => ⟨rfl, ?_⟩⟩
      have h1 := hc j (by omega)
      have h2 := range_u32 hwf j
      rw [h1, List.getD_eq_getElem?_getD]
      simp only [Int.toNat_of_nonneg h2.1]
    · exact ⟨0, 0, fun j hj => absurd hj (by omega)⟩

set_option maxRecDepth 100000 in
/-- The three cells of a Rat that came in. -/
theorem rat_cells {k : Nat} {cs : List Value} {y : DataW H × List MemPlace} (hf : DataW.trod enc Tryz.prog W 0 (fun _ => true) true k 63 cs = some y) :
    ∃ (r : RatD) (a1 a2 : Option Addr) (c1 c2 : Nat), cs = [.bool r.neg, .slice a1 r.n c1, .slice a2 r.m c2] ∧ RatL W 0 r a1 a2 c1 c2 := by
  obtain ⟨y0, y1, y2, n, -, hl, h0, h1, h2⟩ := trod_struct3 Tryz.underlying63 hf
  rw [cellsRat] at hl
  match cs, hl with
  | [v0, v1, v2], _ =>
    have h0 : DataW.trod enc Tryz.prog W 0 (fun _ => true) true n 4 [v0] = some y0 := by simpa [cellsBool] using h0
    have h1 : DataW.trod enc Tryz.prog W 0 (fun _ => true) true n 61 [v1] = some y1 := by simpa [cellsU32s] using h1
    have h2 : DataW.trod enc Tryz.prog W 0 (fun _ => true) true n 61 [v2] = some y2 := by simpa [cellsU32s] using h2
    obtain ⟨neg, e0, -⟩ := DataW.trod_bool Tryz.underlying4 h0
    obtain ⟨a1, n1, c1, X, rfl, p1, p2, p3, p4, p5⟩ := limbs_in h1
    obtain ⟨a2, n2, c2, Y, rfl, q1, q2, q3, q4, q5⟩ := limbs_in h2
    simp at e0
    subst e0
    obtain ⟨b1, o1, L1⟩ := p4
    obtain ⟨b2, o2, L2⟩ := q4
    exact ⟨⟨neg, n1, X, n2, Y⟩, a1, a2, c1, c2, rfl, p1, q1, p2, q2, ⟨b1, o1, fun _ => Nat.zero_le _, L1⟩, ⟨b2, o2, fun _ => Nat.zero_le _, L2⟩, p5, q5, p3, q3⟩

/-- Where an element lies. -/
theorem plain_of {a : Addr} {q : Nat} {v : Value} (h : W.cell? (a.add q) = some v) (h0 : q = 0) : a = ⟨a.block, a.off, none⟩ := by
  subst h0
  obtain ⟨b, off, spot⟩ := a
  have hs : spot = none := by simpa [Addr.add] using World.cell?_spot h
  subst hs
  rfl

set_option maxRecDepth 100000 in
/-- A list of Rats that came in. -/
theorem rats_in {k : Nat} {u : Value} {y : DataW H × List MemPlace} (hf : DataW.trod enc Tryz.prog W 0 (fun _ => true) true k 25 [u] = some y) :
    ∃ a n ca R, u = .slice a n ca ∧ n ≤ ca ∧ n ≤ 9223372036854775807 ∧ ∃ b off, Rats W 0 a b off n R := by
  rcases open_slice Tryz.underlying25 hf with ⟨hcs, _⟩ | ⟨a, len, cap, m, q, D, Pl, hcs, _, hl, hm, hmm, _, hx⟩
  · simp at hcs
    exact ⟨none, 0, 0, fun _ => RatD.nul, hcs, Nat.le_refl _, by omega, 0, 0, fun j hj => absurd hj (by omega)⟩
  · simp at hcs
    have hm' : cap ≤ 9223372036854775807 := by unfold maxLen at hm; omega
    obtain rfl : m = cap := by simpa using hmm
    have one : ∀ i, i < len → ∃ (r : RatD), ∃ (a1 a2 : Option Addr) (c1 c2 : Nat), W.cell? (a.add (i * 3)) = some (.bool r.neg) ∧ W.cell? (a.add (i * 3 + 1)) = some (.slice a1 r.n c1) ∧ W.cell? (a.add (i * 3 + 2)) = some (.slice a2 r.m c2) ∧ RatL W 0 r a1 a2 c1 c2 := fun i hi => by
      obtain ⟨cs', h1, h2⟩ := hx i (by omega)
      obtain ⟨r, a1, a2, c1, c2, rfl, L⟩ := rat_cells h2
      obtain ⟨-, -, hc⟩ := World.cells?_some h1
      rw [cellsRat] at hc
      refine ⟨r, a1, a2, c1, c2, ?_, ?_, ?_, L⟩
      · simpa [add_add] using hc 0 (by omega)
      · simpa [add_add] using hc 1 (by omega)
      · simpa [add_add] using hc 2 (by omega)
    have : Inhabited RatD := ⟨RatD.nul⟩
    obtain ⟨R, hR⟩ := choose_lt one
    refine ⟨some a, len, m, R, hcs, hl, by omega, ?_⟩
    by_cases h0 : 0 < len
    · obtain ⟨-, -, -, -, z, -⟩ := hR 0 h0
      have e := plain_of z (by omega)
      rw [e] at hR ⊢
      refine ⟨a.block, a.off, fun i hi => ⟨rfl, ?_⟩⟩
      obtain ⟨a1, a2, c1, c2, z0, z1, z2, L⟩ := hR i hi
      simp only [add_plain] at z0 z1 z2
      exact ⟨a1, a2, c1, c2, z0, by rw [Nat.add_assoc]; exact z1, by rw [Nat.add_assoc]; exact z2, L⟩
    · exact ⟨0, 0, fun j hj => absurd hj (by omega)⟩
end

section
variable {H : Type} {enc : TypeId × Value → H} {W : World}
theorem cellsAffine : Tryz.prog.cellsOf 103 = 4 := by kernel_rfl
theorem cellsInt : Tryz.prog.cellsOf 3 = 1 := by kernel_rfl
theorem cellsRats : Tryz.prog.cellsOf 25 = 1 := by kernel_rfl

set_option maxRecDepth 100000 in
/-- The four cells of an affine map that came in. -/
theorem affine_cells {k : Nat} {cs : List Value} {y : DataW H × List MemPlace} (hf : DataW.trod enc Tryz.prog W 0 (fun _ => true) true k 103 cs = some y) :
    ∃ (d : AffD) (a1 a2 : Option Addr) (c1 c2 : Nat), cs = [.int .i64 d.rows, .int .i64 d.cols, .slice a1 d.nw c1, .slice a2 d.nb c2] ∧ AffL W 0 d a1 a2 c1 c2 := by
  obtain ⟨y0, y1, y2, y3, n, -, hl, h0, h1, h2, h3⟩ := Joins.trod_struct4 Tryz.underlying103 hf
  rw [cellsAffine] at hl
  match cs, hl with
  | [v0, v1, v2, v3], _ =>
    have h0 : DataW.trod enc Tryz.prog W 0 (fun _ => true) true n 3 [v0] = some y0 := by simpa [cellsInt] using h0
    have h1 : DataW.trod enc Tryz.prog W 0 (fun _ => true) true n 3 [v1] = some y1 := by simpa [cellsInt] using h1
    have h2 : DataW.trod enc Tryz.prog W 0 (fun _ => true) true n 25 [v2] = some y2 := by simpa [cellsRats] using h2
    have h3 : DataW.trod enc Tryz.prog W 0 (fun _ => true) true n 25 [v3] = some y3 := by simpa [cellsRats] using h3
    obtain ⟨z0, e0, -, w0⟩ := DataW.trod_int Tryz.underlying3 h0
    obtain ⟨z1, e1, -, w1⟩ := DataW.trod_int Tryz.underlying3 h1
    obtain ⟨a1, n1, c1, R1, rfl, p1, p3, b1, o1, L1⟩ := rats_in h2
    obtain ⟨a2, n2, c2, R2, rfl, q1, q3, b2, o2, L2⟩ := rats_in h3
    simp at e0 e1
    subst e0 e1
    simp [Lit.wf] at w0 w1
    have hmin : IntKind.i64.min = -9223372036854775808 := by kernel_rfl
    rw [hmin] at w0 w1
    exact ⟨⟨z0, z1, n1, R1, n2, R2⟩, a1, a2, c1, c2, rfl, p1, q1, ⟨b1, o1, fun _ => Nat.zero_le _, L1⟩, ⟨b2, o2, fun _ => Nat.zero_le _, L2⟩, w0.1, w0.2, w1.1, w1.2, p3, q3⟩

set_option maxRecDepth 100000 in
/-- A list of affine maps that came in. -/
theorem affs_in {k : Nat} {u : Value} {y : DataW H × List MemPlace} (hf : DataW.trod enc Tryz.prog W 0 (fun _ => true) true k 22 [u] = some y) :
    ∃ a n ca A, u = .slice a n ca ∧ n ≤ ca ∧ n ≤ 9223372036854775807 ∧ ∃ b off, Affs W 0 a b off n A := by
  rcases open_slice Tryz.underlying22 hf with ⟨hcs, _⟩ | ⟨a, len, cap, m, q, D, Pl, hcs, _, hl, hm, hmm, _, hx⟩
  · simp at hcs
    exact ⟨none, 0, 0, fun _ => AffD.nul, hcs, Nat.le_refl _, by omega, 0, 0, fun j hj => absurd hj (by omega)⟩
  · simp at hcs
    have hm' : cap ≤ 9223372036854775807 := by unfold maxLen at hm; omega
    obtain rfl : m = cap := by simpa using hmm
    have one : ∀ i, i < len → ∃ (d : AffD), ∃ (a1 a2 : Option Addr) (c1 c2 : Nat), W.cell? (a.add (i * 4)) = some (.int .i64 d.rows) ∧ W.cell? (a.add (i * 4 + 1)) = some (.int .i64 d.cols) ∧ W.cell? (a.add (i * 4 + 2)) = some (.slice a1 d.nw c1) ∧ W.cell? (a.add (i * 4 + 3)) = some (.slice a2 d.nb c2) ∧ AffL W 0 d a1 a2 c1 c2 := fun i hi => by
      obtain ⟨cs', h1, h2⟩ := hx i (by omega)
      obtain ⟨r, a1, a2, c1, c2, rfl, L⟩ := affine_cells h2
      obtain ⟨-, -, hc⟩ := World.cells?_some h1
      rw [cellsAffine] at hc
      refine ⟨r, a1, a2, c1, c2, ?_, ?_, ?_, ?_, L⟩
      · simpa [add_add] using hc 0 (by omega)
      · simpa [add_add] using hc 1 (by omega)
      · simpa [add_add] using hc 2 (by omega)
      · simpa [add_add] using hc 3 (by omega)
    have : Inhabited AffD := ⟨AffD.nul⟩
    obtain ⟨A, hA⟩ := choose_lt one
    refine ⟨some a, len, m, A, hcs, hl, by omega, ?_⟩
    by_cases h0 : 0 < len
    · obtain ⟨-, -, -, -, z, -⟩ := hA 0 h0
      have e := plain_of z (by omega)
      rw [e] at hA ⊢
      refine ⟨a.block, a.off, fun i hi => ⟨rfl, ?_⟩⟩
      obtain ⟨a1, a2, c1, c2, z0, z1, z2, z3, L⟩ := hA i hi
      simp only [add_plain] at z0 z1 z2 z3
      exact ⟨a1, a2, c1, c2, z0, by rw [Nat.add_assoc]; exact z1, by rw [Nat.add_assoc]; exact z2, by rw [Nat.add_assoc]; exact z3, L⟩
    · exact ⟨0, 0, fun j hj => absurd hj (by omega)⟩

set_option maxRecDepth 100000 in
/-- A net that came in. -/
theorem net_in {base : Nat} {v : Value} {d : DataW H} {p : List MemPlace} (hv : Value.okWide Tryz.prog W .any base 24 v) (h : DataW.Trod enc Tryz.prog W 0 (fun _ => true) true 24 v d p) :
    ∃ a n ca A, v = .agg #[.slice a n ca] ∧ n ≤ ca ∧ n ≤ 9223372036854775807 ∧ ∃ b off, Affs W 0 a b off n A := by
  obtain ⟨cs, rfl, hsz⟩ := okWide_struct Tryz.underlying24 hv
  rw [show Tryz.prog.cellsOf 24 = 1 by kernel_rfl] at hsz
  obtain ⟨l⟩ := cs
  match l, hsz with
  | [c0], _ =>
    obtain ⟨fuel, hf⟩ := h
    obtain ⟨y0, n, -, -, h0⟩ := trod_struct1 Tryz.underlying24 hf
    have h0 : DataW.trod enc Tryz.prog W 0 (fun _ => true) true n 22 [c0] = some y0 := by simpa [Value.cells, show Tryz.prog.cellsOf 22 = 1 by kernel_rfl] using h0
    obtain ⟨a, n, ca, A, rfl, q1, q2, q3⟩ := affs_in h0
    exact ⟨a, n, ca, A, rfl, q1, q2, q3⟩
end

end Go.Proofs.YthaomfabdghfjaaGreat.NI
