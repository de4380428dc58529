import Derived.Test.YtdfcckifbbeoiaaRows
import Derived.Test.YtdfcckifbbeoiaaOwnP2
import Derived.Test.YtdfcckifbbeoiaaOwnP1
import Derived.WalkKit
import Derived.ProofKit
import Derived.OpenShut
import Derived.ShutString
import Derived.ChangeOld
import Derived.Below
import Derived.Lib.SmallJoins
/-
  The row and the card of FnExactRatAdd out of its walk. The frame is the shell that the seat's pages print.
-/
namespace Go.Proofs.Ytdfcckifbbeoiaa.fnExactRatAdd
open Go.ChangeShapes Go.WideShapes Go.ChangeAt Go.RowKit
open Go.ChangeMaps (open_string shut_string)
set_option linter.unusedVariables false

theorem own : ownKnob Try.prog.godebug = none := by kernel_rfl
theorem laidOut : laidOutB Try.prog = true := by kernel_rfl

/-- WHAT THE WALK IS TOLD OF A SLICE OF INTEGERS THAT CAME IN: it is nil; or it leads to a row of 'cap' cells, the numbers 'zs' (the first 'len' are its elements, the rest its spare room), each fitting its kind. -/
def IsRow (k : IntKind) (w : World) (a : Option Addr) (len cap : Nat) (zs : List Int) : Prop :=
  (a = none ∧ len = 0 ∧ cap = 0 ∧ zs = []) ∨
  ∃ x, a = some x ∧ len ≤ cap ∧ cap ≤ maxLen ∧ zs.length = cap ∧ (∀ i, i < zs.length → w.cell? (x.add i) = some (.int k (zs.getD i 0))) ∧ ∀ n ∈ zs, (Lit.int k n).wf = true

/-- The limbs of a slice that came in. -/
theorem limbs_of {w : World} {a : Option Addr} {len cap : Nat} {zs : List Int} (h : IsRow .u32 w a len cap zs) :
    len ≤ 9223372036854775807 ∧ ∃ b off, Limbs w a b off len (fun j => (zs[j]?.getD 0).toNat) ∧ ∀ j, j < len → (zs[j]?.getD 0).toNat < 4294967296 := by
  rcases h with ⟨rfl, rfl, rfl, rfl⟩ | ⟨x, rfl, hl, hm, hz, hcell, hwf⟩
  · exact ⟨by omega, 0, 0, fun j hj => absurd hj (by omega), fun j hj => absurd hj (by omega)⟩
  · have hb : ∀ j, j < len → (zs[j]?.getD 0).toNat < 4294967296 := fun j _ => by have := range_u32 hwf j; omega
    refine ⟨by unfold maxLen at hm; omega, ?_⟩
    by_cases h0 : 0 < len
    · obtain ⟨b, off, rfl, hc⟩ := ints_at hcell (by omega)
      refine ⟨b, off, fun j hj => ⟨rfl, ?_⟩, hb⟩
      have h1 := hc j (by omega)
      have h2 := range_u32 hwf j
      rw [h1, List.getD_eq_getElem?_getD]
      simp only [Int.toNat_of_nonneg h2.1]
    · exact ⟨0, 0, fun j hj => absurd hj (by omega), hb⟩

theorem below_of {B : Nat} {w w' : World} (h : w.Since B w') : Below B w w' := ⟨h.os, h.tape, h.output, h.size, h.block⟩

set_option maxRecDepth 100000 in
/-- A Rat that came in. -/
theorem rat_in {H : Type} {enc : TypeId × Value → H} {W : World} {base : Nat} {v : Value} {d : DataW H} {p : List MemPlace} (hv : Value.okWide Try.prog W .any base 48 v) (h : DataW.Trod enc Try.prog W 0 (fun _ => true) true 48 v d p) :
    ∃ neg a n ca b m cb za zb, v = .agg #[.bool neg, .slice a n ca, .slice b m cb] ∧ IsRow .u32 W a n ca za ∧ IsRow .u32 W b m cb zb := by
  obtain ⟨v0, v1, v2, y0, y1, y2, k, rfl, -, -, h0, h1, h2⟩ := Joins.open_agg3 Try.underlying48 (by kernel_rfl) (by kernel_rfl) hv h
  obtain ⟨neg, e0, -⟩ := DataW.trod_bool Try.underlying4 h0
  simp at e0
  subst e0
  have row : ∀ {u : Value} {y : DataW H × List MemPlace}, DataW.trod enc Try.prog W 0 (fun _ => true) true k 23 [u] = some y → ∃ a n ca za, u = .slice a n ca ∧ IsRow .u32 W a n ca za := by
    intro u y hf
    rcases open_ints Try.underlying23 Try.underlying35 (by kernel_rfl) hf with ⟨hcs, _⟩ | ⟨x, l, c, zs, hcs, _, hl, hm, hz, _, hcell, hwz⟩
    · simp at hcs
      exact ⟨none, 0, 0, [], hcs, .inl ⟨rfl, rfl, rfl, rfl⟩⟩
    · simp at hcs
      exact ⟨some x, l, c, zs, hcs, .inr ⟨_, rfl, hl, hm, by simpa using hz, hcell, hwz⟩⟩
  obtain ⟨a, n, ca, za, rfl, ra⟩ := row h1
  obtain ⟨b, m, cb, zb, rfl, rb⟩ := row h2
  exact ⟨neg, a, n, ca, b, m, cb, za, zb, rfl, ra, rb⟩

theorem walk (f f' : Bool) (a0 : Option Addr) (len0 cap0 : Nat) (z0 : List Int) (a1 : Option Addr) (len1 cap1 : Nat) (z1 : List Int) (a2 : Option Addr) (len2 cap2 : Nat) (z2 : List Int) (a3 : Option Addr) (len3 cap3 : Nat) (z3 : List Int) (w : World) (w0 : IsRow .u32 w a0 len0 cap0 z0) (w1 : IsRow .u32 w a1 len1 cap1 z1) (w2 : IsRow .u32 w a2 len2 cap2 z2) (w3 : IsRow .u32 w a3 len3 cap3 z3) (hT : Tab w) :
    Calls Try.prog 7 #[.agg #[.bool f, .slice a0 len0 cap0, .slice a1 len1 cap1], .agg #[.bool f', .slice a2 len2 cap2, .slice a3 len3 cap3]] w fun e w' => e = .returned (.bool true) ∧ Below w.heap.size w w' := by
  obtain ⟨n0, b0, o0, L0, l0⟩ := limbs_of w0
  obtain ⟨n1, b1, o1, L1, l1⟩ := limbs_of w1
  obtain ⟨n2, b2, o2, L2, l2⟩ := limbs_of w2
  obtain ⟨n3, b3, o3, L3, l3⟩ := limbs_of w3
  by_cases h : 1048576 < len0 + len1 + len2 + len3
  · exact (ratAdd_long f f' a0 a1 a2 a3 len0 cap0 len1 cap1 len2 cap2 len3 cap3 w h n0 n1 n2 n3).mono fun e W' ⟨he, hs⟩ => ⟨he, below_of hs⟩
  · exact (ratAdd_law f f' a0 a1 a2 a3 b0 o0 len0 cap0 b1 o1 len1 cap1 b2 o2 len2 cap2 b3 o3 len3 cap3 _ _ _ _ w (by omega) L0 L1 L2 L3 l0 l1 l2 l3 (Nat.zero_le _) hT).mono fun e W' ⟨he, hs⟩ => ⟨he, below_of hs⟩

set_option maxRecDepth 100000 in
/-- What the walk gives, for every argument. -/
theorem contract (H : Type) (enc : TypeId × Value → H) (W : World) (base : Nat) (args : Array Value) (ds gs : List (DataW H)) (before : List MemPlace)
    (hval0 : ∀ (j : Nat) t v, Try.f7.params[j]? = some t → args[j]? = some v → Value.okWide Try.prog W .any base t v)
    (hW : DataW.Whole enc Try.prog Try.f7.params.toList Rows.fnExactRatAddSpec.vars false W args.toList ds gs before) :
    Calls Try.prog 7 args W fun e W' => ∃ v, e = .returned v ∧ Rows.fnExactRatAddSpec.post enc Try.prog Try.f7 false true false false W args v W' := by
  have hT : Tab W := trivial
  have hval := hval0
  have hW' := hW
  obtain ⟨p, q, hA0, hV, rfl, hfz, hnd⟩ := hW
  have hA : DataW.TrodAll enc Try.prog W 0 (fun _ => true) true Try.f7.params.toList args.toList ds p := hA0
  rw [Try.params7] at hA hval
  obtain ⟨v0, vs0, d0, ds0, p0, q0, hargs, rfl, rfl, h0, r0⟩ := trodAll_cons hA
  obtain ⟨v1, vs1, d1, ds1, p1, q1, rfl, rfl, rfl, h1, r1⟩ := trodAll_cons r0
  obtain ⟨rfl, rfl, rfl⟩ := trodAll_nil r1
  obtain rfl : args = #[v0, v1] := by cases args; simp_all
  obtain ⟨rfl, rfl⟩ := trodVars_none hV
  have k0 := h0
  have k1 := h1
  have lt0 : ∀ x ∈ p0, x.block < W.heap.size := by obtain ⟨m, hm⟩ := k0; exact DataW.trod_lt m _ _ _ hm
  have lt1 : ∀ x ∈ p1, x.block < W.heap.size := by obtain ⟨m, hm⟩ := k1; exact DataW.trod_lt m _ _ _ hm
  obtain ⟨f, a0, len0, cap0, a1, len1, cap1, z0, z1, rfl, w0, w1⟩ := rat_in (hval 0 48 v0 rfl rfl) h0
  obtain ⟨f', a2, len2, cap2, a3, len3, cap3, z2, z3, rfl, w2, w3⟩ := rat_in (hval 1 48 v1 rfl rfl) h1
  clear hA0 hval0
  refine (walk f f' a0 len0 cap0 z0 a1 len1 cap1 z1 a2 len2 cap2 z2 a3 len3 cap3 z3 W w0 w1 w2 w3 hT).mono fun e W' ⟨he, bel⟩ => ?_
  subst he
  exact ⟨_, rfl, _, _, _, [], _, [], hW', trodAll_mk1 (shut_bool Try.underlying4 _), (trodAll_cons_mk (Below.trod laidOut (by kernel_rfl) (of_decide_eq_true (by kernel_rfl)) k0 bel lt0) (trodAll_cons_mk (Below.trod laidOut (by kernel_rfl) (of_decide_eq_true (by kernel_rfl)) k1 bel lt1) trodAll_mk0)), rfl, bel.frame _, fun h => by cases h⟩

set_option maxRecDepth 100000 in
theorem lifted (os : Os) (started : os.Started) (H : Type) (enc : TypeId × Value → H) :
    ReturnsInHanded {} Try.checked os 7 .any (Rows.fnExactRatAddSpec.pre6 enc Try.prog Try.f7 Rows.fnExactRatAddRow.domain false) (Rows.fnExactRatAddSpec.post enc Try.prog Try.f7 false true false false) := by
  refine returnsInHanded_of_change (C := Try.checked) own started (by kernel_rfl) Try.func7
    (ChangeSpec.witness6 (enc := enc) (C := Try.checked) false ⟨#[], #[.agg #[.bool false, .slice none 0 0, .slice none 0 0], .agg #[.bool false, .slice none 0 0, .slice none 0 0]], []⟩ 8 (by kernel_rfl) (by kernel_rfl) (by kernel_rfl) (by kernel_rfl)) ?_
  intro W base args ds gs before hval hW _ _
  exact contract H enc W base args ds gs before hval hW

theorem over : Rows.fnExactRatAddRow.holds Try.pinned (OpenSpec.ofChange Rows.fnExactRatAddSpec) :=
  OpenClaim.holds_of_wide 7 Try.f7 rfl rfl rfl rfl rfl rfl rfl ⟨rfl, rfl, rfl, rfl, rfl⟩ rfl rfl rfl rfl rfl (by kernel_rfl) Try.func7 (by kernel_rfl)
    (of_decide_eq_true (by kernel_rfl)) (by unfold Func.isWrapper; first | (rw [if_pos (by decide +kernel)]; kernel_rfl) | (rw [if_neg (by decide +kernel)]; exact ⟨rfl, rfl⟩))
    (fun os started H enc _ => lifted os started H enc)

/-- ████ THE STATEMENT ████ -/
theorem proved : Rows.FnExactRatAddSaid := over
end Go.Proofs.Ytdfcckifbbeoiaa.fnExactRatAdd

namespace Go.Proofs.Ytdfcckifbbeoiaa
theorem fnExactRatAdd_holds : Rows.FnExactRatAddSaid := fnExactRatAdd.proved
end Go.Proofs.Ytdfcckifbbeoiaa
