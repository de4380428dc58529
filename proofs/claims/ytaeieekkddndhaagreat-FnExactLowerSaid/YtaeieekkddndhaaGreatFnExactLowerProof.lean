import Derived.Test.YtaeieekkddndhaaGreatRows
import Derived.Test.YtaeieekkddndhaaGreatOwnP33
import Derived.Test.YtaeieekkddndhaaGreatOwnP26
set_option maxHeartbeats 6400000
set_option maxRecDepth 100000
namespace Go.Proofs.YtaeieekkddndhaaGreat.fnExactLower
open Go.ChangeShapes Go.WideShapes Go.ChangeAt Go.RowKit
open Go.ChangeMaps (open_string shut_string)
set_option linter.unusedVariables false
theorem own:ownKnob Tryz.prog.godebug=none:=by kernel_rfl
theorem laidOut:laidOutB Tryz.prog=true:=by kernel_rfl
theorem below_of{B:Nat}{w w':World}(h:w.Since B w'):Below B w w':=⟨h.os,h.tape,h.output,h.size,h.block⟩
theorem walk(g:be)(aL aH aN:Option Addr)(kL kH kN:Nat)(w:World)(H:rH w 0 g aL aH aN kL kH kN)(hT:xe w):
 Calls Tryz.prog 3 #[.agg #[.int .i64 g.inn,.int .i64 g.rounds,.slice aL g.nl kL,.slice aH g.nh kH,.slice aN g.nn kN,.int .i64 g.out]] w fun e w'=>e=.returned (.bool true)/\Below w.heap.size w w':=by
 by_cases h:1048576<g.size
 . exact (@ahG g aL aH aN 0 kL kH kN w h H).mono fun e W' ⟨he,hs⟩=>⟨he,below_of hs⟩
 . exact (@ajU g aL aH aN 0 kL kH kN w om H).mono fun e W' ⟨he,hs⟩=>⟨he,below_of hs⟩
theorem contract(H:Type)(enc:TypeId×Value->H)(W:World)(base:Nat)(args:Array Value)(ds gs:List (DataW H))(before:List MemPlace)
 (hval0:∀(j:Nat) t v,Tryz.f3.params[j]?=some t->args[j]?=some v->Value.okWide Tryz.prog W .any base t v)
 (hW:DataW.Whole enc Tryz.prog Tryz.f3.params.toList Rows.fnExactLowerSpec.vars false W args.toList ds gs before):
 Calls Tryz.prog 3 args W fun e W'=>∃v,e=.returned v/\Rows.fnExactLowerSpec.post enc Tryz.prog Tryz.f3 false true false false W args v W':=by
 have hT:xe W:=trivial;have hval:=hval0;have hW':=hW;obtain⟨p,q,hA0,hV,rfl,hfz,hnd⟩:=hW;have hA:DataW.TrodAll enc Tryz.prog W 0 (fun _=>true) true Tryz.f3.params.toList args.toList ds p:=hA0;rw[Tryz.params3] at hA hval;obtain⟨v0,vs0,d0,ds0,p0,q0,hargs,rfl,rfl,h0,r0⟩:=trodAll_cons hA;obtain⟨rfl,rfl,rfl⟩:=trodAll_nil r0;obtain rfl:args= #[v0]:=by cases args;simp_all
 obtain⟨rfl,rfl⟩:=trodVars_none hV;have k0:=h0;have lt0:∀x∈p0,x.block<W.heap.size:=by obtain⟨m,hm⟩:=k0;exact DataW.trod_lt m _ _ _ hm
 obtain⟨g,aL,aH,aN,kL,kH,kN,rfl,HG⟩:=NI.graph_in (hval 0 25 v0 rfl rfl) h0;clear hA0 hval0;refine (@walk g aL aH aN kL kH kN W HG hT).mono fun e W' ⟨he,bel⟩=> ?_
 subst he;exact⟨_,rfl,_,_,_,[],_,[],hW',trodAll_mk1 (shut_bool Tryz.underlying4 _),(trodAll_cons_mk (Below.trod laidOut kr (of_decide_eq_true kr) k0 bel lt0) trodAll_mk0),rfl,bel.frame _,fun h=>by cases h⟩
theorem lifted(os:Os)(started:os.Started)(H:Type)(enc:TypeId×Value->H):
 ReturnsInHanded {} Tryz.checked os 3 .any (Rows.fnExactLowerSpec.pre6 enc Tryz.prog Tryz.f3 Rows.fnExactLowerRow.domain false) (Rows.fnExactLowerSpec.post enc Tryz.prog Tryz.f3 false true false false):=by
 refine returnsInHanded_of_change (C:=Tryz.checked) own started kr Tryz.func3
  (ChangeSpec.witness6 (enc:=enc) (C:=Tryz.checked) false ⟨#[], #[.agg #[.int .i64 0,.int .i64 0,.slice none 0 0,.slice none 0 0,.slice none 0 0,.int .i64 0]],[]⟩ 8 kr kr kr kr) ?_
 intro W base args ds gs before hval hW _ _;exact @contract H enc W base args ds gs before hval hW
theorem over:Rows.fnExactLowerRow.holds Tryz.pinned (OpenSpec.ofChange Rows.fnExactLowerSpec):=
 OpenClaim.holds_of_wide 3 Tryz.f3 rfl rfl rfl rfl rfl rfl rfl ⟨rfl,rfl,rfl,rfl,rfl⟩ rfl rfl rfl rfl rfl kr Tryz.func3 kr
  (of_decide_eq_true kr) (by unfold Func.isWrapper;first | (rw[if_pos (by decide+kernel)];kernel_rfl) | (rw[if_neg (by decide+kernel)];exact⟨rfl,rfl⟩))
  (fun os started H enc _=>lifted os started H enc)
theorem proved:Rows.FnExactLowerSaid:=over
end Go.Proofs.YtaeieekkddndhaaGreat.fnExactLower
namespace Go.Proofs.YtaeieekkddndhaaGreat
theorem fnExactLower_holds:Rows.FnExactLowerSaid:=fnExactLower.proved
end Go.Proofs.YtaeieekkddndhaaGreat


