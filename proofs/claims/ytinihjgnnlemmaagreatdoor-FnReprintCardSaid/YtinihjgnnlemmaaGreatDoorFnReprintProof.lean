import Derived.Test.YtinihjgnnlemmaaGreatDoorCards
import Derived.Test.YtinihjgnnlemmaaGreatDoorTie
import Derived.Test.YtinihjgnnlemmaaGreatDoorOwnP59
import Derived.Deep.DeepHandedRow
import Derived.Lib.SmallJoins
import Derived.Stop.LaidErr
set_option maxHeartbeats 6400000
set_option maxRecDepth 100000
namespace Go.Proofs.YtinihjgnnlemmaaGreatDoor.fnReprint
open Go.ChangeShapes Go.WideShapes Go.ChangeAt Go.RowKit
open Go.ChangeMaps (open_string shut_string)
set_option linter.unusedVariables false
theorem own:ownKnob Tryz.prog.godebug=none:=by kernel_rfl
theorem laidOut:laidOutB Tryz.prog=true:=by kernel_rfl
theorem gPow:Tryz.prog.globalNamed "internal/strconv.uint64pow10" =some 0:=by kernel_rfl
theorem gPowType:(Tryz.prog.globals[0]?).map (·.type)=some 214:=by kernel_rfl
theorem arrPow:Tryz.prog.underlying 214=some (.array 20 110):=by kernel_rfl
theorem intPow:Tryz.prog.underlying 110=some (.int .u64):=by kernel_rfl
theorem cellsPow:Tryz.prog.cellsOf 214=20:=by kernel_rfl
theorem cellsPow1:Tryz.prog.cellsOf 110=1:=by kernel_rfl
theorem powData:(Rows.laid_internal_strconv_uint64pow10:DataW Unit)=Lib.tabData .u64 Lib.pow10Tab:=by kernel_rfl
theorem pow_of{W:World}(h:laidMetH Tryz.prog Rows.fnReprintRow.laid W):Pow W:=by
 have h2:=laidMet.tail (laidMet.tail (show laidMet Tryz.prog [("math/bits.deBruijn32tab",Rows.laid_math_bits_deBruijn32tab),("math/bits.deBruijn64tab",Rows.laid_math_bits_deBruijn64tab),("internal/strconv.uint64pow10",Rows.laid_internal_strconv_uint64pow10),("unicode/utf8.acceptRanges",Rows.laid_unicode_utf8_acceptRanges),("unicode/utf8.first",Rows.laid_unicode_utf8_first)] W from h));rw[powData] at h2;exact Lib.tabIs_of_head gPow gPowType arrPow intPow cellsPow1 cellsPow h2
def IsRow(k:IntKind)(w:World)(a:Option Addr)(len cap:Nat)(zs:List Int):Prop:=
 (a=none/\len=0/\cap=0/\zs=[])∨
 ∃x,a=some x/\len<=cap/\cap<=maxLen/\zs.length=cap/\(∀i,i<zs.length->w.cell? (x.add i)=some (.int k (zs.getD i 0)))/\∀n∈zs,(Lit.int k n).wf=true
theorem code_of{w:World}{a:Option Addr}{len cap:Nat}{zs:List Int}(h:IsRow .u8 w a len cap zs):
 len<=9223372036854775807/\∃b off,Code w a b off len (fun j=>(zs[j]?.getD 0).toNat):=by
 rcases h with ⟨rfl,rfl,rfl,rfl⟩ | ⟨x,rfl,hl,hm,hz,hcell,hwf⟩
 . exact⟨om,0,0,fun j hj=>absurd hj om⟩
 . refine⟨by unfold maxLen at hm;omega, ?_⟩
   by_cases h0:0<len
   . obtain⟨b,off,rfl,hc⟩:=ints_at hcell om
     refine⟨b,off,fun j hj=>⟨by have:=range_u8 hwf j;show (zs[j]?.getD 0).toNat<256;omega,rfl, ?_⟩⟩;have h1:=hc j om;have h2:=range_u8 hwf j;rw[h1,List.getD_eq_getElem?_getD];simp only[Int.toNat_of_nonneg h2.1]
   . exact⟨0,0,fun j hj=>absurd hj om⟩
theorem below_of{B:Nat}{w w':World}(h:w.Since B w'):Below B w w':=⟨h.os,h.tape,h.output,h.size,h.block⟩
theorem walk(a0:Option Addr)(len0 cap0:Nat)(z0:List Int)(w:World)(w0:IsRow .u8 w a0 len0 cap0 z0)(hP:Pow w):
 Calls Tryz.prog 3 #[.slice a0 len0 cap0] w fun e w'=>e=.returned (.bool true)/\Below w.heap.size w w':=by
 obtain⟨n0,b0,o0,C0⟩:=code_of w0
 by_cases h:1048576<len0
 . exact (@aeh a0 len0 cap0 w h n0).mono fun e W' ⟨he,hs⟩=>⟨he,below_of hs⟩
 . exact (@afo a0 b0 o0 len0 cap0 _ w hP om C0).mono fun e W' ⟨he,hs⟩=>⟨he,below_of hs⟩
theorem contract(H:Type)(enc:TypeId×Value->H)(W:World)(base:Nat)(args:Array Value)(ds gs:List (DataW H))(before:List MemPlace)
 (hval0:∀(j:Nat) t v,Tryz.f3.params[j]?=some t->args[j]?=some v->Value.okWide Tryz.prog W .any base t v)
 (hW:DataW.Whole enc Tryz.prog Tryz.f3.params.toList Rows.fnReprintSpec.vars false W args.toList ds gs before)(hL:laidMetH Tryz.prog Rows.fnReprintRow.laid W):
 Calls Tryz.prog 3 args W fun e W'=>∃v,e=.returned v/\Rows.fnReprintSpec.post enc Tryz.prog Tryz.f3 false true false false W args v W':=by
 have hP:=pow_of hL;have hval:=hval0;have hW':=hW;obtain⟨p,q,hA0,hV,rfl,hfz,hnd⟩:=hW;have hA:DataW.TrodAll enc Tryz.prog W 0 (fun _=>true) true Tryz.f3.params.toList args.toList ds p:=hA0;rw[Tryz.params3] at hA hval;obtain⟨v0,vs0,d0,ds0,p0,q0,hargs,rfl,rfl,h0,r0⟩:=trodAll_cons hA;obtain⟨rfl,rfl,rfl⟩:=trodAll_nil r0;obtain rfl:args= #[v0]:=by cases args;simp_all
 obtain⟨rfl,rfl⟩:=trodVars_none hV;obtain⟨a0,len0,cap0,rfl⟩:=okWide_slice Tryz.underlying22 (hval 0 22 v0 rfl rfl);have k0:=h0;have lt0:∀x∈p0,x.block<W.heap.size:=by obtain⟨m,hm⟩:=k0;exact DataW.trod_lt m _ _ _ hm
 obtain⟨z0,w0⟩:∃zs,IsRow .u8 W a0 len0 cap0 zs:=by
  obtain⟨fuel,hf⟩:=h0
  rcases open_ints Tryz.underlying22 Tryz.underlying5 kr hf with ⟨hcs,_⟩ | ⟨x,l,c,zs,hcs,_,hl,hm,hz,_,hcell,hwz⟩
  . simp[Value.cells] at hcs
    obtain⟨rfl,rfl,rfl⟩:=hcs;exact⟨[],.inl ⟨rfl,rfl,rfl,rfl⟩⟩
  . simp[Value.cells] at hcs
    obtain⟨rfl,rfl,rfl⟩:=hcs;exact⟨zs,.inr ⟨_,rfl,hl,hm,by simpa using hz,hcell,hwz⟩⟩
 clear hA0 hval0;refine (@walk a0 len0 cap0 z0 W w0 hP).mono fun e W' ⟨he,bel⟩=> ?_
 subst he;exact⟨_,rfl,_,_,_,[],_,[],hW',trodAll_mk1 (shut_bool Tryz.underlying4 _),(trodAll_cons_mk (Below.trod laidOut kr (of_decide_eq_true kr) k0 bel lt0) trodAll_mk0),rfl,bel.frame _,fun h=>by cases h⟩
def tb(k:IntKind)(l:List Int):Array Value:=(l.map (.int k)).toArray
def tl(c:Array Value):Obj->Obj
 | .cells _ t frozen=>.cells c t frozen
 | o=>o
def laidWorld(P:Program)(os:Os):World:=
 { World.holding P os ⟨#[], #[],[]⟩ with heap:=(((((((World.holding P os ⟨#[], #[],[]⟩).heap.modify 4 (tl (tb .u8 ([0,1,28,2,29,14,24,3,30,22,20,15,25,17,4,8,31,27,13,23,21,19,16,7,26,12,18,6,11,5,10,9])))).modify 5 (tl (tb .u8 ([0,1,56,2,57,49,28,3,61,58,42,50,38,29,17,4,62,47,59,36,45,43,51,22,53,39,33,30,24,18,12,5,63,55,48,27,60,41,37,16,46,35,44,21,52,32,23,11,54,26,40,15,34,20,31,10,25,14,19,9,13,8,7,6])))).modify 0 (tl (tb .u64 ([1,10,100,1000,10000,100000,1000000,10000000,100000000,1000000000,10000000000,100000000000,1000000000000,10000000000000,100000000000000,1000000000000000,10000000000000000,100000000000000000,1000000000000000000,10000000000000000000])))).modify 2 (tl (tb .u8 (.replicate 128 240++ .replicate 66 241++ .replicate 30 2++[19,3,3,3,3,3,3,3,3,3,3,3,3,35,3,3,52,4,4,4,68,241,241,241,241,241,241,241,241,241,241,241])))).modify 3 (tl (tb .u8 ([128,191,160,191,128,159,144,191,128,143]++ .replicate 22 0))))) }
theorem laid_met(os:Os):laidMet Tryz.prog Rows.fnReprintRow.laid ((laidWorld Tryz.prog os).forCall (fun _ _=>0) ⟨#[], #[.slice none 0 0],[]⟩).memory:=
 laidMet_of_run' 8 kr kr
theorem reads(os:Os){H:Type}(enc:TypeId×Value->H):∃places,DataW.whole enc Tryz.prog ((laidWorld Tryz.prog os).forCall (fun _ _=>0) ⟨#[], #[.slice none 0 0],[]⟩).memory Tryz.f3.params.toList Rows.fnReprintSpec.vars false #[Value.slice none 0 0].toList 8=some ([.nil],[],places):=
 ⟨[],by kernel_rfl⟩
theorem lifted(os:Os)(started:os.Started)(H:Type)(enc:TypeId×Value->H)(F:Stop.Interp):
 ReturnsInHanded {} Tryz.checked os 3 .any ((OpenSpec.ofChange Rows.fnReprintSpec).preRow enc Tryz.prog Tryz.f3 Rows.fnReprintRow.domain false Rows.fnReprintRow.laid) (((OpenSpec.ofChange Rows.fnReprintSpec).at F).post enc Tryz.prog Tryz.f3 false true false false):=by
 obtain⟨places,hx⟩:=reads os enc
 refine returnsInHanded_of_row (C:=Tryz.checked) (s:=OpenSpec.ofChange Rows.fnReprintSpec) own started kr Tryz.func3
  (witness_row_at (enc:=enc) (C:=Tryz.checked) false (laidWorld Tryz.prog os) #[.slice none 0 0] rfl kr kr kr
    (OpenSpec.preRow_of_cond 8 hx kr (fun k hk=>by cases hk) kr (laid_met os))) ?_
 intro W base args ds gs before hval hW _ _ _ hL _ _;exact @contract H enc W base args ds gs before hval hW hL
theorem said:Rows.FnReprintSaid:=
 OpenClaim.holds_of_cond 3 Tryz.f3 rfl rfl rfl rfl rfl rfl rfl ⟨rfl,rfl,rfl,rfl,rfl⟩ rfl rfl rfl rfl rfl kr Tryz.func3 kr
  (of_decide_eq_true kr) (by unfold Func.isWrapper;first | (rw[if_pos (by decide+kernel)];kernel_rfl) | (rw[if_neg (by decide+kernel)];exact⟨rfl,rfl⟩))
  (fun os started H enc _ F=>by rw[OpenClaim.pre_eq_preRow];exact lifted os started H enc F)
theorem plain(f:FuncId)(fn:Func)(hf:Tryz.pinned.checked.prog.funcNamed "loop.example/s0015/laws.FnReprint" =some f)(hfn:Tryz.pinned.checked.prog.funcs[f]?=some fn):
 true=Tryz.pinned.checked.prog.looks []/\∀(j:Nat) t,fn.params[j]?=some t->Tryz.pinned.checked.prog.wantsStandIn t=false:=by
 obtain rfl:f=3:=Option.some.inj ((show Tryz.prog.funcNamed "loop.example/s0015/laws.FnReprint" =some 3 by kernel_rfl).symm.trans hf) |>.symm;obtain rfl:fn=Tryz.f3:=(Option.some.inj (Tryz.func3.symm.trans hfn)).symm;refine⟨by kernel_rfl,fun j t ht=> ?_⟩;rw[Tryz.params3] at ht;obtain rfl:t=22:=by simpa using Array.mem_of_getElem? ht
 exact (show Tryz.prog.wantsStandIn 22=false by kernel_rfl)
theorem card:Rows.FnReprintCardSaid:=
 Claim7.holds_tied_plain_at .later [] _ _ _ _ said (fun _ h=>by cases h) kr (fun _ h=>by cases h) fnReprint_row_tie rfl ⟨rfl,rfl⟩ kr rfl plain kr
end Go.Proofs.YtinihjgnnlemmaaGreatDoor.fnReprint
namespace Go.Proofs.YtinihjgnnlemmaaGreatDoor
theorem fnReprint_holds:Rows.FnReprintCardSaid:=fnReprint.card
end Go.Proofs.YtinihjgnnlemmaaGreatDoor


