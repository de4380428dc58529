import Derived.Test.YthaomfabdghfjaaGreatRows
import Derived.Test.YthaomfabdghfjaaGreatOwnP12
import Derived.Test.YthaomfabdghfjaaGreatOwnP13
import Derived.WalkKit
import Derived.ProofKit
import Derived.OpenShut
import Derived.ShutString
import Derived.ChangeOld
import Derived.Below
import Derived.Lib.SmallJoins
/-
  The row and the card of FnExactEvalNet out of its walk. The frame is the shell that the seat's pages print.
-/
namespace Go.Proofs.YthaomfabdghfjaaGreat.fnExactEvalNet
open Go.ChangeShapes Go.WideShapes Go.ChangeAt Go.RowKit
open Go.ChangeMaps (open_string shut_string)
set_option linter.unusedVariables false

theorem own : ownKnob Tryz.prog.godebug = none := by kernel_rfl
theorem laidOut : laidOutB Tryz.prog = true := by kernel_rfl

theorem below_of {B : Nat} {w w' : World} (h : w.Since B w') : Below B w w' := ⟨h.os, h.tape, h.output, h.size, h.block⟩

theorem walk (a ax : Option Addr) (n cap nx cx : Nat) (A : Nat → AffD) (X : Nat → RatD) (b off bx ox : Nat) (w : World) (hn : n ≤ 9223372036854775807) (hnx : nx ≤ 9223372036854775807) (H : Affs w 0 a b off n A) (HX : Rats w 0 ax bx ox nx X) (hT : Tab w) :
    Calls Tryz.prog 3 #[.agg #[.slice a n cap], .slice ax nx cx] w fun e w' => e = .returned (.bool true) ∧ Below w.heap.size w w' := by
  by_cases h : 1048576 < n + szA A n
  · exact (evalNet_long1 a ax 0 b off n cap nx cx A w hn h H).mono fun e W' ⟨he, hs⟩ => ⟨he, below_of hs⟩
  · by_cases h2 : 1048576 < n + szA A n + (nx + szR X nx)
    · exact (evalNet_long2 a ax 0 b off n cap 0 bx ox nx cx A X w (by omega) hnx h2 H HX).mono fun e W' ⟨he, hs⟩ => ⟨he, below_of hs⟩
    · exact (evalNet_law a ax 0 b off n cap 0 bx ox nx cx A X w (Nat.zero_le _) hT (by omega) H HX).mono fun e W' ⟨he, hs⟩ => ⟨he, below_of hs⟩

set_option maxRecDepth 100000 in
/-- What the walk gives, for every argument. -/
theorem contract (H : Type) (enc : TypeId × Value → H) (W : World) (base : Nat) (args : Array Value) (ds gs : List (DataW H)) (before : List MemPlace)
    (hval0 : ∀ (j : Nat) t v, Tryz.f3.params[j]? = some t → args[j]? = some v → Value.okWide Tryz.prog W .any base t v)
    (hW : DataW.Whole enc Tryz.prog Tryz.f3.params.toList Rows.fnExactEvalNetSpec.vars false W args.toList ds gs before) :
    Calls Tryz.prog 3 args W fun e W' => ∃ v, e = .returned v ∧ Rows.fnExactEvalNetSpec.post enc Tryz.prog Tryz.f3 false true false false W args v W' := by
  have hT : Tab W := trivial
  have hval := hval0
  have hW' := hW
  obtain ⟨p, q, hA0, hV, rfl, hfz, hnd⟩ := hW
  have hA : DataW.TrodAll enc Tryz.prog W 0 (fun _ => true) true Tryz.f3.params.toList args.toList ds p := hA0
  rw [Tryz.params3] at hA hval
  obtain ⟨v0, vs0, d0, ds0, p0, q0, hargs, rfl, rfl, h0, r0⟩ := trodAll_cons hA
  obtain ⟨v1, vs1, d1, ds1, p1, q1, rfl, rfl, rfl, h1, r1⟩ := trodAll_cons r0
  obtain ⟨rfl, rfl, rfl⟩ := trodAll_nil r1
  obtain rfl : args = #[v0, v1] := by cases args; simp_all
  obtain ⟨rfl, rfl⟩ := trodVars_none hV
  have k0 := h0
  have lt0 : ∀ x ∈ p0, x.block < W.heap.size := by obtain ⟨m, hm⟩ := k0; exact DataW.trod_lt m _ _ _ hm
  have k1 := h1
  have lt1 : ∀ x ∈ p1, x.block < W.heap.size := by obtain ⟨m, hm⟩ := k1; exact DataW.trod_lt m _ _ _ hm
  obtain ⟨ax, nx, cx, rfl⟩ := okWide_slice Tryz.underlying25 (hval 1 25 v1 rfl rfl)
  obtain ⟨X, hnx, bx, ox, HX⟩ : ∃ X, nx ≤ 9223372036854775807 ∧ ∃ bx ox, Rats W 0 ax bx ox nx X := by
    obtain ⟨fuel, hf⟩ := h1
    have hf' : DataW.trod enc Tryz.prog W 0 (fun _ => true) true fuel 25 [.slice ax nx cx] = some (d1, p1) := by simpa [Value.cells] using hf
    obtain ⟨a', n', c', X, e, -, h2, b', o', HX⟩ := NI.rats_in hf'
    simp only [Value.slice.injEq] at e
    obtain ⟨rfl, rfl, rfl⟩ := e
    exact ⟨X, h2, b', o', HX⟩
  obtain ⟨a, n, cap, A, rfl, -, hn, b, off, HA⟩ := NI.net_in (hval 0 24 v0 rfl rfl) h0
  clear hA0 hval0
  refine (walk a ax n cap nx cx A X b off bx ox W hn hnx HA HX hT).mono fun e W' ⟨he, bel⟩ => ?_
  subst he
  exact ⟨_, rfl, _, _, _, [], _, [], hW', trodAll_mk1 (shut_bool Tryz.underlying4 _), (trodAll_cons_mk (Below.trod laidOut (by kernel_rfl) (of_decide_eq_true (by kernel_rfl)) k0 bel lt0) (trodAll_cons_mk (Below.trod laidOut (by kernel_rfl) (of_decide_eq_true (by kernel_rfl)) k1 bel lt1) trodAll_mk0)), rfl, bel.frame _, fun h => by cases h⟩

set_option maxRecDepth 100000 in
theorem lifted (os : Os) (started : os.Started) (H : Type) (enc : TypeId × Value → H) :
    ReturnsInHanded {} Tryz.checked os 3 .any (Rows.fnExactEvalNetSpec.pre6 enc Tryz.prog Tryz.f3 Rows.fnExactEvalNetRow.domain false) (Rows.fnExactEvalNetSpec.post enc Tryz.prog Tryz.f3 false true false false) := by
  refine returnsInHanded_of_change (C := Tryz.checked) own started (by kernel_rfl) Tryz.func3
    (ChangeSpec.witness6 (enc := enc) (C := Tryz.checked) false ⟨#[], #[.agg #[.slice none 0 0], .slice none 0 0], []⟩ 8 (by kernel_rfl) (by kernel_rfl) (by kernel_rfl) (by kernel_rfl)) ?_
  intro W base args ds gs before hval hW _ _
  exact contract H enc W base args ds gs before hval hW

theorem over : Rows.fnExactEvalNetRow.holds Tryz.pinned (OpenSpec.ofChange Rows.fnExactEvalNetSpec) :=
  OpenClaim.holds_of_wide 3 Tryz.f3 rfl rfl rfl rfl rfl rfl rfl ⟨rfl, rfl, rfl, rfl, rfl⟩ rfl rfl rfl rfl rfl (by kernel_rfl) Tryz.func3 (by kernel_rfl)
    (of_decide_eq_true (by kernel_rfl)) (by unfold Func.isWrapper; first | (rw [if_pos (by decide +kernel)]; kernel_rfl) | (rw [if_neg (by decide +kernel)]; exact ⟨rfl, rfl⟩))
    (fun os started H enc _ => lifted os started H enc)

/-- ████ THE STATEMENT ████ -/
theorem proved : Rows.FnExactEvalNetSaid := over
end Go.Proofs.YthaomfabdghfjaaGreat.fnExactEvalNet

namespace Go.Proofs.YthaomfabdghfjaaGreat
theorem fnExactEvalNet_holds : Rows.FnExactEvalNetSaid := fnExactEvalNet.proved
end Go.Proofs.YthaomfabdghfjaaGreat
