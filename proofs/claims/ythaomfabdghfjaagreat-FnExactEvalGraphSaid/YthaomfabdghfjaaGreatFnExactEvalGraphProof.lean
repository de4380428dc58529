import Derived.Test.YthaomfabdghfjaaGreatRows
import Derived.Test.YthaomfabdghfjaaGreatOwnP27
import Derived.Test.YthaomfabdghfjaaGreatOwnP28
import Derived.WalkKit
import Derived.ProofKit
import Derived.OpenShut
import Derived.ShutString
import Derived.ChangeOld
import Derived.Below
import Derived.Lib.SmallJoins
set_option maxHeartbeats 6400000
set_option maxRecDepth 100000
namespace Go.Proofs.YthaomfabdghfjaaGreat.fnExactEvalGraph
open Go.ChangeShapes Go.WideShapes Go.ChangeAt Go.RowKit
open Go.ChangeMaps (open_string shut_string)
set_option linter.unusedVariables false
theorem own : ownKnob Tryz.prog.godebug = none := by kernel_rfl
theorem laidOut : laidOutB Tryz.prog = true := by kernel_rfl
theorem below_of {B : Nat} {w w' : World} (h : w.Since B w') : Below B w w' := ⟨h.os, h.tape, h.output, h.size, h.block⟩
theorem walk (g : xq8) (aL aH aN ax : Option Addr) (kL kH kN nx cx bx ox : Nat) (X : Nat -> RatD) (w : World) (hnx : nx <= 9223372036854775807) (H : GraL w 0 g aL aH aN kL kH kN) (HX : Rats w 0 ax bx ox nx X) (hT : Tab w) :
 Calls Tryz.prog 5 #[.agg #[.int .i64 g.inn, .int .i64 g.rounds, .slice aL g.nl kL, .slice aH g.nh kH, .slice aN g.nn kN, .int .i64 g.out], .slice ax nx cx] w fun e w' => e = .returned (.bool true) /\ Below w.heap.size w w' := by
 by_cases h : 1048576 < g.size
 . exact (evalGraph_long1 g aL aH aN ax 0 kL kH kN nx cx w h H).mono fun e W' ⟨he, hs⟩ => ⟨he, below_of hs⟩
 . by_cases h2 : 1048576 < g.size + (nx + szR X nx)
   . exact (evalGraph_long2 g aL aH aN ax 0 kL kH kN 0 bx ox nx cx X w (by omega) hnx h2 H HX).mono fun e W' ⟨he, hs⟩ => ⟨he, below_of hs⟩
   . exact (evalGraph_law g aL aH aN ax 0 kL kH kN 0 bx ox nx cx X w (Nat.zero_le _) hT (by omega) H HX).mono fun e W' ⟨he, hs⟩ => ⟨he, below_of hs⟩
theorem contract (H : Type) (enc : TypeId × Value -> H) (W : World) (base : Nat) (args : Array Value) (ds gs : List (DataW H)) (before : List MemPlace)
 (hval0 : ∀ (j : Nat) t v, Tryz.f5.params[j]? = some t -> args[j]? = some v -> Value.okWide Tryz.prog W .any base t v)
 (hW : DataW.Whole enc Tryz.prog Tryz.f5.params.toList Rows.fnExactEvalGraphSpec.vars false W args.toList ds gs before) :
 Calls Tryz.prog 5 args W fun e W' => ∃ v, e = .returned v /\ Rows.fnExactEvalGraphSpec.post enc Tryz.prog Tryz.f5 false true false false W args v W' := by
 have hT : Tab W := trivial; have hval := hval0; have hW' := hW; obtain ⟨p, q, hA0, hV, rfl, hfz, hnd⟩ := hW; have hA : DataW.TrodAll enc Tryz.prog W 0 (fun _ => true) true Tryz.f5.params.toList args.toList ds p := hA0; rw [Tryz.params5] at hA hval; obtain ⟨v0, vs0, d0, ds0, p0, q0, hargs, rfl, rfl, h0, r0⟩ := trodAll_cons hA; obtain ⟨v1, vs1, d1, ds1, p1, q1, rfl, rfl, rfl, h1, r1⟩ := trodAll_cons r0; obtain ⟨rfl, rfl, rfl⟩ := trodAll_nil r1; obtain rfl : args = #[v0, v1] := by cases args; simp_all
 obtain ⟨rfl, rfl⟩ := trodVars_none hV; have k0 := h0; have lt0 : ∀ x ∈ p0, x.block < W.heap.size := by obtain ⟨m, hm⟩ := k0; exact DataW.trod_lt m _ _ _ hm
 have k1 := h1; have lt1 : ∀ x ∈ p1, x.block < W.heap.size := by obtain ⟨m, hm⟩ := k1; exact DataW.trod_lt m _ _ _ hm
 obtain ⟨ax, nx, cx, rfl⟩ := okWide_slice Tryz.underlying25 (hval 1 25 v1 rfl rfl)
 obtain ⟨X, hnx, bx, ox, HX⟩ : ∃ X, nx <= 9223372036854775807 /\ ∃ bx ox, Rats W 0 ax bx ox nx X := by
  obtain ⟨fuel, hf⟩ := h1; have hf' : DataW.trod enc Tryz.prog W 0 (fun _ => true) true fuel 25 [.slice ax nx cx] = some (d1, p1) := by simpa [Value.cells] using hf
  obtain ⟨a', n', c', X, e, -, h2, b', o', HX⟩ := NI.rats_in hf'; simp only [Value.slice.injEq] at e; obtain ⟨rfl, rfl, rfl⟩ := e; exact ⟨X, h2, b', o', HX⟩
 obtain ⟨g, aL, aH, aN, kL, kH, kN, rfl, HG⟩ := NI.graph_in (hval 0 43 v0 rfl rfl) h0; clear hA0 hval0; refine (walk g aL aH aN ax kL kH kN nx cx bx ox X W hnx HG HX hT).mono fun e W' ⟨he, bel⟩ => ?_
 subst he; exact ⟨_, rfl, _, _, _, [], _, [], hW', trodAll_mk1 (shut_bool Tryz.underlying4 _), (trodAll_cons_mk (Below.trod laidOut (by kernel_rfl) (of_decide_eq_true (by kernel_rfl)) k0 bel lt0) (trodAll_cons_mk (Below.trod laidOut (by kernel_rfl) (of_decide_eq_true (by kernel_rfl)) k1 bel lt1) trodAll_mk0)), rfl, bel.frame _, fun h => by cases h⟩
theorem lifted (os : Os) (started : os.Started) (H : Type) (enc : TypeId × Value -> H) :
 ReturnsInHanded {} Tryz.checked os 5 .any (Rows.fnExactEvalGraphSpec.pre6 enc Tryz.prog Tryz.f5 Rows.fnExactEvalGraphRow.domain false) (Rows.fnExactEvalGraphSpec.post enc Tryz.prog Tryz.f5 false true false false) := by
 refine returnsInHanded_of_change (C := Tryz.checked) own started (by kernel_rfl) Tryz.func5
  (ChangeSpec.witness6 (enc := enc) (C := Tryz.checked) false ⟨#[], #[.agg #[.int .i64 0, .int .i64 0, .slice none 0 0, .slice none 0 0, .slice none 0 0, .int .i64 0], .slice none 0 0], []⟩ 8 (by kernel_rfl) (by kernel_rfl) (by kernel_rfl) (by kernel_rfl)) ?_
 intro W base args ds gs before hval hW _ _; exact contract H enc W base args ds gs before hval hW
theorem over : Rows.fnExactEvalGraphRow.holds Tryz.pinned (OpenSpec.ofChange Rows.fnExactEvalGraphSpec) :=
 OpenClaim.holds_of_wide 5 Tryz.f5 rfl rfl rfl rfl rfl rfl rfl ⟨rfl, rfl, rfl, rfl, rfl⟩ rfl rfl rfl rfl rfl (by kernel_rfl) Tryz.func5 (by kernel_rfl)
  (of_decide_eq_true (by kernel_rfl)) (by unfold Func.isWrapper; first | (rw [if_pos (by decide +kernel)]; kernel_rfl) | (rw [if_neg (by decide +kernel)]; exact ⟨rfl, rfl⟩))
  (fun os started H enc _ => lifted os started H enc)
theorem proved : Rows.FnExactEvalGraphSaid := over
end Go.Proofs.YthaomfabdghfjaaGreat.fnExactEvalGraph
namespace Go.Proofs.YthaomfabdghfjaaGreat
theorem fnExactEvalGraph_holds : Rows.FnExactEvalGraphSaid := fnExactEvalGraph.proved
end Go.Proofs.YthaomfabdghfjaaGreat
