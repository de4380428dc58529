import Derived.Test.YthaomfabdghfjaaGreatRows
import Derived.Test.YthaomfabdghfjaaGreatOwnP14
import Derived.Test.YthaomfabdghfjaaGreatOwnP15
import Derived.WalkKit
import Derived.ProofKit
import Derived.OpenShut
import Derived.ShutString
import Derived.ChangeOld
import Derived.Below
import Derived.Lib.SmallJoins
/-
  The row and the card of FnExactCheckGraph out of its walk. The frame is the shell that the seat's pages print.
-/
namespace Go.Proofs.YthaomfabdghfjaaGreat.fnExactCheckGraph
open Go.ChangeShapes Go.WideShapes Go.ChangeAt Go.RowKit
open Go.ChangeMaps (open_string shut_string)
set_option linter.unusedVariables false

theorem own : ownKnob Tryz.prog.godebug = none := by kernel_rfl
theorem laidOut : laidOutB Tryz.prog = true := by kernel_rfl

theorem below_of {B : Nat} {w w' : World} (h : w.Since B w') : Below B w w' := ⟨h.os, h.tape, h.output, h.size, h.block⟩

theorem walk (g : GraphD) (aL aH aN : Option Addr) (kL kH kN : Nat) (w : World) (H : GraL w 0 g aL aH aN kL kH kN) (hT : Tab w) :
    Calls Tryz.prog 4 #[.agg #[.int .i64 g.inn, .int .i64 g.rounds, .slice aL g.nl kL, .slice aH g.nh kH, .slice aN g.nn kN, .int .i64 g.out]] w fun e w' => e = .returned (.bool true) ∧ Below w.heap.size w w' := by
  by_cases h : 1048576 < g.size
  · exact (checkGraph_long g aL aH aN 0 kL kH kN w h H).mono fun e W' ⟨he, hs⟩ => ⟨he, below_of hs⟩
  · exact (checkGraph_law g aL aH aN 0 kL kH kN w (Nat.zero_le _) hT (by omega) H).mono fun e W' ⟨he, hs⟩ => ⟨he, below_of hs⟩

set_option maxRecDepth 100000 in
/-- What the walk gives, for every argument. -/
theorem contract (H : Type) (enc : TypeId × Value → H) (W : World) (base : Nat) (args : Array Value) (ds gs : List (DataW H)) (before : List MemPlace)
    (hval0 : ∀ (j : Nat) t v, Tryz.f4.params[j]? = some t → args[j]? = some v → Value.okWide Tryz.prog W .any base t v)
    (hW : DataW.Whole enc Tryz.prog Tryz.f4.params.toList Rows.fnExactCheckGraphSpec.vars false W args.toList ds gs before) :
    Calls Tryz.prog 4 args W fun e W' => ∃ v, e = .returned v ∧ Rows.fnExactCheckGraphSpec.post enc Tryz.prog Tryz.f4 false true false false W args v W' := by
  have hT : Tab W := trivial
  have hval := hval0
  have hW' := hW
  obtain ⟨p, q, hA0, hV, rfl, hfz, hnd⟩ := hW
  have hA : DataW.TrodAll enc Tryz.prog W 0 (fun _ => true) true Tryz.f4.params.toList args.toList ds p := hA0
  rw [Tryz.params4] at hA hval
  obtain ⟨v0, vs0, d0, ds0, p0, q0, hargs, rfl, rfl, h0, r0⟩ := trodAll_cons hA
  obtain ⟨rfl, rfl, rfl⟩ := trodAll_nil r0
  obtain rfl : args = #[v0] := by cases args; simp_all
  obtain ⟨rfl, rfl⟩ := trodVars_none hV
  have k0 := h0
  have lt0 : ∀ x ∈ p0, x.block < W.heap.size := by obtain ⟨m, hm⟩ := k0; exact DataW.trod_lt m _ _ _ hm
  obtain ⟨g, aL, aH, aN, kL, kH, kN, rfl, HG⟩ := NI.graph_in (hval 0 43 v0 rfl rfl) h0
  clear hA0 hval0
  refine (walk g aL aH aN kL kH kN W HG hT).mono fun e W' ⟨he, bel⟩ => ?_
  subst he
  exact ⟨_, rfl, _, _, _, [], _, [], hW', trodAll_mk1 (shut_bool Tryz.underlying4 _), (trodAll_cons_mk (Below.trod laidOut (by kernel_rfl) (of_decide_eq_true (by kernel_rfl)) k0 bel lt0) trodAll_mk0), rfl, bel.frame _, fun h => by cases h⟩

set_option maxRecDepth 100000 in
theorem lifted (os : Os) (started : os.Started) (H : Type) (enc : TypeId × Value → H) :
    ReturnsInHanded {} Tryz.checked os 4 .any (Rows.fnExactCheckGraphSpec.pre6 enc Tryz.prog Tryz.f4 Rows.fnExactCheckGraphRow.domain false) (Rows.fnExactCheckGraphSpec.post enc Tryz.prog Tryz.f4 false true false false) := by
  refine returnsInHanded_of_change (C := Tryz.checked) own started (by kernel_rfl) Tryz.func4
    (ChangeSpec.witness6 (enc := enc) (C := Tryz.checked) false ⟨#[], #[.agg #[.int .i64 0, .int .i64 0, .slice none 0 0, .slice none 0 0, .slice none 0 0, .int .i64 0]], []⟩ 8 (by kernel_rfl) (by kernel_rfl) (by kernel_rfl) (by kernel_rfl)) ?_
  intro W base args ds gs before hval hW _ _
  exact contract H enc W base args ds gs before hval hW

theorem over : Rows.fnExactCheckGraphRow.holds Tryz.pinned (OpenSpec.ofChange Rows.fnExactCheckGraphSpec) :=
  OpenClaim.holds_of_wide 4 Tryz.f4 rfl rfl rfl rfl rfl rfl rfl ⟨rfl, rfl, rfl, rfl, rfl⟩ rfl rfl rfl rfl rfl (by kernel_rfl) Tryz.func4 (by kernel_rfl)
    (of_decide_eq_true (by kernel_rfl)) (by unfold Func.isWrapper; first | (rw [if_pos (by decide +kernel)]; kernel_rfl) | (rw [if_neg (by decide +kernel)]; exact ⟨rfl, rfl⟩))
    (fun os started H enc _ => lifted os started H enc)

/-- ████ THE STATEMENT ████ -/
theorem proved : Rows.FnExactCheckGraphSaid := over
end Go.Proofs.YthaomfabdghfjaaGreat.fnExactCheckGraph

namespace Go.Proofs.YthaomfabdghfjaaGreat
theorem fnExactCheckGraph_holds : Rows.FnExactCheckGraphSaid := fnExactCheckGraph.proved
end Go.Proofs.YthaomfabdghfjaaGreat
