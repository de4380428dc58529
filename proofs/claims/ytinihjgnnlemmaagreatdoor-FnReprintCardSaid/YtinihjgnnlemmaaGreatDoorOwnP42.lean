import Derived.Test.YtinihjgnnlemmaaGreatDoorOwnP36
import Derived.Deep.RegionLaw
set_option maxHeartbeats 6400000
set_option maxRecDepth 100000
set_option linter.unusedVariables false
namespace Go.Proofs.YtinihjgnnlemmaaGreatDoor
open Tryz Go.RowKit
variable{v W V:World}{n m d k i j o b p q t r s g h e:Nat}{u U:Value}{f F:Bool}{P:Nat->Prop}
theorem dq:(Tryz.prog.info? 25).map (·.size)=some 1:=by kernel_rfl
theorem pP.lower{w:World}{c:Nat}{D:Nat->iQ}{d:List Value}{f:List (List Value)}(h:pP w n u c D d f)(hl:m<=n):pP w m u c D d f:=by
 refine⟨h.zl, ?_,fun i B=> ?_⟩
 . obtain⟨e,a | ⟨g,j,l,k,hb,r⟩⟩:=h.own
   . exact⟨e,Or.inl a⟩
   . exact⟨e,Or.inr ⟨g,j,l,k,aU hl hb,r⟩⟩
 . obtain⟨y,x,A,z,a,v,o,p,s,t⟩:=h.at_ i B;exact⟨y,x,A,z,a,v,o,p,s.imp (fun q _ b=>⟨aU hl b.1,b.2⟩),t⟩
theorem ai8:∃i,Tryz.prog.info? 52=some i/\i.zero=some (.agg #[.i 0,.i 0,.n,.n])/\i.size=4/\i.bytes=64:=by
 have h:(Tryz.prog.info? 52).map (fun i=>(i.zero,i.size,i.bytes))=some (some (.agg #[.i 0,.i 0,.n,.n]),4,64):=by kernel_rfl
 obtain⟨i,a,h⟩:=eE.1 h;simp only[Prod.mk.injEq] at h;exact⟨i,a,h.1,h.2.1,h.2.2⟩
theorem apV(w:World)(u U z b:Value)(t:TypeId):∀j q,([u,U,z,b]:List Value)[j]?=some q->(w.alloc (.cells #[u,U,z,b] t)).cell? (((jj w.heap.size 0):Addr).add j)=some q:=fun j q a=>by
 rw[Go.WideShapes.add_plain,aZ]
 rcases j with _ | _ | _ | _ | j
 . simp at a;subst a;exact (ie.new w u U z b t).c0
 . simp at a;subst a;exact (ie.new w u U z b t).c1
 . simp at a;subst a;exact (ie.new w u U z b t).c2
 . simp at a;subst a;exact (ie.new w u U z b t).c3
 . simp at a
theorem apP(z y:Int)(a A:Option Addr)(n m c d:Nat):∀u∈([.i z,.i y,.slice a n m,.slice A c d]:List Value),u.oneCell'=true:=by
 intro u e;simp at e;rcases e with rfl | rfl | rfl | rfl<;>rfl
theorem ix.but{w:World}(h:ix w m u)(s:jt n w v)(a:m≠n):ix v m u:=by
 have k:=s.block m h.lt (by simpa using a);refine⟨(aO (a:=jj m 0) k).trans h.c0,fun j=> ?_⟩;have:=h.f j;unfold World.frozen? at this⊢;rw[k];exact this
theorem ix.dL{w:World}{R:Nat->Prop}(h:ix w n u)(k:Chg R w v)(b:¬R n):ix v n u:=by
 have a:=k.block n h.lt b;refine⟨(aO (a:=jj n 0) a).trans h.c0,fun j=> ?_⟩;have:=h.f j;unfold World.frozen? at this⊢;rw[a];exact this
def mD(ms:List iQ)(i:Nat):iQ:=ms.getD i iQ.nul
theorem eD{a:List iQ}{m:iQ}(h:n<a.length):mD (a++[m]) n=mD a n:=by
 unfold mD;simp only[fP];rw[bJ h]
theorem vc(a:List iQ)(m:iQ):mD (a++[m]) a.length=m:=by
 unfold mD;simp only[fP];rw[bK zR,uD];rfl
def NetE(w w':World)(t:Nat)(L:List ByteArray)(e:Ending):Prop:=
 ((∀ms,¬lO (ip t (L.drop t)) ms)/\∃n,e=jl n)∨
 ∃ms v xs zs,lO (ip t (L.drop t)) ms/\e=.returned (.agg #[v])/\pP w' w.heap.size v ms.length (mD ms) xs zs/\∃hi,zH w.heap.size hi zs.flatten
theorem aja{n bl m c:Nat}{L ws:List ByteArray}{w:World}(h:ql w n bl m L c ws):
 Cl 20 #[.p n 0] w fun e p=>jt n w p/\NetE w p c L e:=by
 obtain⟨i0,hi,bn,bo,bp⟩:=ai8;have b5:=h.lt;have b4:=h.lb;have b8:=h.ll;have sA:=fA w (.cells #[.n] 25);have rA:=ix.new w (.n) 25;have ZA:=eI (show (w.alloc (.cells #[.n] 25)).heap.size=w.heap.size+1 by simp);go_enter func20,ntmps20;go_wp2_with fail;generalize w.alloc _=wA at*;refine (@xI n bl m c L ws wA (h.aA sA)).mono ?_;rintro e w1 ⟨B1,⟨cq,rfl⟩ | ⟨n0,br,au,af,cq,rfl,R1,cd,cp,b7⟩⟩
 . have u:Hid (∀b,¬lO (ip c (L.drop c)) b):=eI (fun b i=>by
    obtain⟨_,_,_,e,_⟩:=i;rw[cq] at e;cases e)
   unfold jl;go_wp2;exact⟨rfl,(jt.of sA).trans B1,Or.inl ⟨u.out,_,rfl⟩⟩
 have N:=eI cq;have E2:=eI cp;have C1:=(jt.of sA).trans B1;have X:w.heap.size≠n:=om;have r1:=rA.but B1 X;have z1:=B1.size;go_wp2_with fail;refine (@adq cr n bl af n0 L br w1 R1).mono ?_;rintro e l ⟨v,⟨h2,rfl⟩ | ⟨l1,h2,rfl,R2⟩⟩
 . have u:Hid (∀b,¬lO (ip c (L.drop c)) b):=eI (fun b i=>by
    obtain⟨_,_,_,e,_⟩:=i;rw[N.out] at e;simp only[List.cons.injEq,Prod.mk.injEq] at e;exact h2 _ e.1.2)
   unfold jl;go_wp2;exact⟨rfl,C1.trans v,Or.inl ⟨u.out,_,rfl⟩⟩
 subst h2;go_wp2_with fail;refine (@zT n bl af n0 L l1 l R2).mono ?_;rintro e x ⟨U,⟨h3,rfl⟩ | ⟨x1,l2,h3,i1,rfl,R3⟩⟩
 . have u:Hid (∀b,¬lO (ip c (L.drop c)) b):=eI (fun b i=>by
    obtain⟨_,_,_,e,j1,_⟩:=i;rw[N.out] at e;simp only[List.cons.injEq,Prod.mk.injEq,fM] at e;exact h3 _ _ e.1.2 j1)
   unfold jl;go_wp2;exact⟨rfl,(C1.trans v).trans U,Or.inl ⟨u.out,_,rfl⟩⟩
 subst h3;go_wp2_with fail;refine (dO R3).mono ?_;rintro e y ⟨rfl,⟨h5,rfl⟩ | ⟨h5,rfl⟩⟩;rotate_left
 . have u:Hid (∀b,¬lO (ip c (L.drop c)) b):=eI (fun b i=>by
    obtain⟨_,_,_,e,_⟩:=i;rw[N.out] at e;simp only[List.cons.injEq,Prod.mk.injEq,fM] at e;exact h5 e.1.2.2)
   unfold jl;go_wp2;exact⟨rfl,(C1.trans v).trans U,Or.inl ⟨u.out,_,rfl⟩⟩
 subst h5;have hK:=mF i1;obtain⟨K,eK⟩:∃K,dv x1 x1.size=K:=⟨_,rfl⟩;rw[eK] at hK⊢;have EK:=eI eK;have I1:=eI i1;have C5:=(C1.trans v).trans U;have r5:=((r1.but v X).but U X);have z2:=v.size;have z3:=U.size;have sB:=fA y (.cells #[.n] 25);have bx:=ix.new y (.n) 25;have ZB:=eI (show (y.alloc (.cells #[.n] 25)).heap.size=y.heap.size+1 by simp);have CB:=C5.dN sB;have RB:=R3.aA sB;have rB:=r5.aA sB;have b9:w.heap.size+1<=y.heap.size:=by have:=ZA.out;omega
 have ch:=R3.lw;go_wp2_with fail;generalize y.alloc _=wB at*;generalize y.heap.size=d at*;go_loopw [15] (fun ad wr=>∃(k O ag:Nat) (a:Option Addr) (g j:Nat) (b:List iQ) (xs:List Value) (S:List (List Value)),k<=K/\ad=.i (k:Int)/\jt n w wr/\d<wr.heap.size/\Hid (ix wr w.heap.size (.n))/\Hid (ix wr d (.slice a g j))/\Hid (pP wr (d+1) (.slice a g j) b.length (mD b) xs S)/\Hid (ql wr n bl ag L O [])/\ag≠d/\ag≠w.heap.size/\Hid (kn b au (ip O (L.drop O)))/\Hid (b.length=k)/\Hid (zH (d+1) wr.heap.size S.flatten)) (fun ad _=>K-(intOf ad).toNat)
 case atStart=>exact⟨0,n0,af,none,0,0,[],[],[],aJ _,rfl,CB,by have:=ZB.out;omega,eI rB,eI bx,eI ⟨rfl,World.ownsRow_nil _ _ _ _,fun ad hi=>absurd hi qz⟩,eI RB,om,by have:=ZA.out;omega,eI E2.out.symm,eI rfl,eI (zH.nil _ _)⟩
 case round=>
  obtain⟨k,O,ag,a,g,j,b,xs,S,hk,rfl,CR,cj,BR,BX,ah,RD,cg,ce,EL,W,av⟩:=hrel;by_cases bh:k<K
  . have bq:(k:Int)<K:=om;have b0:=BX.out.c0;have dr:=uB wr;have JM:=ajb (RD.out.aA dr);by_cases hM:∃(R C:Nat) (o ae:pR),mI (ip O (L.drop O)) R C o ae
    . obtain⟨R,C,o,ae,i⟩:=hM;have JO:Cl 54 #[.p n 0] wr.drew fun e p=>jt n wr.drew p/\∃(Q P:Value) (B A:List Value) (am m t:Nat),e=.returned (.agg #[.i (R:Int),.i (C:Int),Q,P])/\uL p wr.drew.heap.size am Q P C o B A/\ql p n bl m L t []/\wr.drew.heap.size<=m/\ip t (L.drop t)=ae/\zH wr.drew.heap.size p.heap.size (B++A):=by
       refine JM.mono ?_;rintro e p ⟨ai,⟨bj,-⟩ | ⟨R',C',cl,ck,Q,P,B,A,am,m,t,bi,he,hA,hR,hw,hl,bf⟩⟩
       . exact absurd i (bj _ _ _ _)
       . obtain⟨rfl,rfl,rfl,rfl⟩:=i.only bi;exact⟨ai,Q,P,B,A,am,m,t,he,hA,hR,hw,hl,bf⟩
      have HM:=eI i;have b6:b.length<=1000000:=(by rw[W.out];omega);have oA:∀co,(Value.slice a g j).ownBlock=some co->d+1<=co/\co<wr.heap.size:=fun co e=>ah.out.own.lt co e;have an:d≠n:=om;have bm:(Value.slice a g j).ownBlock≠some d:=fun e=>by have:=oA d e;omega
      have b2:=b0;have f0:=BX.out.f 0;go_wp2_with fail
      go_region_law
       (first
         | (refine step_append_lies _ rfl _ _ 23 rfl (d+1) 52 i0 _ 4 64 underlying23 hi bn bo bp rfl qd _ b.length xs rfl (O2.own.alloc _) (jj l.heap.size 0) 1 1 [.i (R:Int),.i (C:Int),.slice E I G,.slice D H F] rfl rfl (apV _ _ _ _ _ _) (apP _ _ _ _ _ _ _ _) qd (by unfold maxLen;omega) om (by simp;omega) (l.heap.size+1) qz ?_
            intro s r x az Y ax ca;have sW:=fA l (.cells #[.i (R:Int),.i (C:Int),.slice E I G,.slice D H F] 52);have al:=(ak.aA sW).dL (Chg.cR Y) bm;have p3:=al.c0;have f3:=al.f 0)
         | (go_simp
            go_at_call 54;with_reducible refine JO.mono ?_
            rintro e l ⟨v,Q,P,B,A,dd,a0,n2,rfl,T,R2,cf,cp,aw⟩;obtain⟨E,I,G,eW⟩:∃a g cc,Q=.slice a g cc:=by
             obtain⟨-,⟨e,-⟩ | ⟨s,r,bc,e,-⟩⟩:=T.W.own
             . exact⟨_,_,_,e⟩
             . exact⟨_,_,_,e⟩
            obtain⟨D,H,F,eB⟩:∃a g cc,P=.slice a g cc:=by
             obtain⟨-,⟨e,-⟩ | ⟨s,r,bc,e,-⟩⟩:=T.B.own
             . exact⟨_,_,_,e⟩
             . exact⟨_,_,_,e⟩
            subst eW eB;have a2:=eI cp;have a1:=eI (T.apt aw);clear aw;have v2:jt n wr l:=(jt.of dr).trans v;have ak:=BX.out.but v2 an;have p0:=ak.c0;have bz:=(ak.aA ((aF l.heap.size l).alloc zR (.cells #[.i (R:Int),.i (C:Int),.slice E I G,.slice D H F] 52))).c0;have O2:=ah.out.but v2 om;have cn:=v2.size;clear cp))
      all_goals
       have zW:(l.alloc (.cells #[.i (R:Int),.i (C:Int),.slice E I G,.slice D H F] 52)).heap.size=l.heap.size+1:=(by simp);have z3:=Y.size;have ci:wr.drew.heap.size=wr.heap.size:=rfl;have ay:(Value.s s (b.length+1) r).ownBlock=(Value.slice a g j).ownBlock∨(Value.s s (b.length+1) r).ownBlock=some (l.alloc (.cells #[.i (R:Int),.i (C:Int),.slice E I G,.slice D H F] 52)).heap.size:=by
        rcases ax with h9 | h9
        . exact Or.inl h9.symm
        . right;rw[zW,h9];rfl
       have O3:=(O2.congr (D':=mD (b++[⟨R,C,o⟩])) (fun ad hi=>(eD hi).symm)).snoc sW om Y (by rw[vc];exact az) ay (xW:=B) (xB:=A) (by
        rw[vc];exact T.x.imp (fun q z hp=>⟨om,fun e=>by have:=oA q e;omega⟩))
       have f:jt d x (x.setCell (jj d 0) (.s s (b.length+1) r)):=(jt.refl d x).set 0 _;have a9:=eI (O3.but f om);have a5:Hid (ix (x.setCell (jj d 0) (.s s (b.length+1) r)) d (.s s (b.length+1) r)):=eI ⟨aQ _ _ _ p3,fun q=>by simpa using al.f q⟩;have CG:=Chg.cR Y;have ar:∀q,q<d+1->¬(Value.slice a g j).ownBlock=some q:=fun q z e=>by have:=oA q e;omega
       have bw:∀q,wr.heap.size<=q->¬(Value.slice a g j).ownBlock=some q:=fun q z e=>by have:=oA q e;omega
       have a4:=eI ((((BR.out.but v2 X).aA sW).dL CG (ar _ om)).but f om);have bb:=eI ((((R2.aA sW).dL CG (ar n om) (ar bl om) (bw a0 om))).bR f om om om);have C4:jt n w (x.setCell (jj d 0) (.s s (b.length+1) r)):=(((CR.trans v2).dN sW).dL CG (fun q e=>by have:=oA q e;omega)).dL (R:=fun q=>q=d) ⟨f.os,f.tape,f.output,f.size,fun q z hn=>f.block q z (by simpa using hn)⟩ (fun q e=>by omega);have a7:Hid (kn (b++[⟨R,C,o⟩]) au (ip n2 (L.drop n2))):=eI (by rw[a2.out];exact EL.out.snoc (m:=⟨R,C,o⟩) HM.out);have a6:Hid ((b++[(⟨R,C,o⟩:iQ)]).length=k+1):=eI (by simp;exact W.out);have z4:d<(x.setCell (jj d 0) (.s s (b.length+1) r)).heap.size:=(by have:=f.size;omega);have ba:Hid (pP (x.setCell (jj d 0) (.s s (b.length+1) r)) (d+1) (.s s (b.length+1) r) (b++[(⟨R,C,o⟩:iQ)]).length (mD (b++[⟨R,C,o⟩])) _ (S++[Value.slice E I G::Value.slice D H F::(B++A)])):=eI (by rw[show (b++[(⟨R,C,o⟩:iQ)]).length=b.length+1 by simp];exact a9.out)
       have a3:Hid (zH (d+1) (x.setCell (jj d 0) (.s s (b.length+1) r)).heap.size (S++[Value.slice E I G::Value.slice D H F::(B++A)]).flatten):=eI (by
        rw[List.flatten_append,List.flatten_cons,List.flatten_nil,iJ];have cb:=f.size;exact av.out.append (a1.out.wide zR (show l.heap.size<=_ by omega)) om om om)
       clear az Y ax ay O3 CG f JO O2 T R2 p0 bz p3 f3;go_wp2;go_roundw
       case rel=>exact⟨k+1,n2,a0,_,_,_,b++[⟨R,C,o⟩],_,_,om,by go_num,C4,z4,a4,a5,ba,bb,om,om,a7,a6,a3⟩
       case measure=>exact yI
    . have JP:Cl 54 #[.p n 0] wr.drew fun e p=>jt n wr.drew p/\∃t,e=jl t:=by
       refine JM.mono ?_;rintro e p ⟨ai,⟨-,he⟩ | ⟨R,C,o,ae,_,_,_,_,_,_,_,i,-⟩⟩
       . exact⟨ai,he⟩
       . exact absurd ⟨R,C,o,ae,i⟩ hM
      have u:Hid (∀b,¬lO (ip c (L.drop c)) b):=eI (fun bs i=>by
       obtain⟨bu,b1,r',e,_,ao,aq⟩:=i;rw[N.out] at e;simp only[List.cons.injEq,Prod.mk.injEq,fI,fM] at e;obtain⟨⟨-,rfl⟩,rfl⟩:=e;obtain⟨mm,q,z⟩:=EL.out.next aq (by rw[W.out,ao,EK.out];exact bh);exact hM ⟨_,_,_,_,z⟩)
      clear JM hM;go_wp2_with fail;refine wp_region_held_drew (S:=fun p=>p.cell? (jj d 0)=some (.slice a g j)) kr ?_ (fun b3=> ?_)
      . simpa using b0
      refine wpAnyH_take (i:=0) (v:=.p d 0) rfl kr kr kr (fun _ _ _ h=>h) (Or.inl ⟨by rfl,fun w M=> ?_⟩) yE ?_
      . try dsimp only at M
        go_simp
      try simp only[Act.put,aR]
      refine wpAnyH_take (i:=1) (v:=.slice a g j) rfl kr kr kr (fun _ _ _ h=>h) (Or.inl ⟨by rfl,fun w M=> ?_⟩) yE ?_
      . try dsimp only at M
        go_simp
      try simp only[Act.put]
      refine wpAnyH_take (i:=2) (v:=.p n 0) rfl kr kr kr (fun _ _ _ h=>h) (Or.inl ⟨by rfl,fun w M=> ?_⟩) yE ?_
      . try dsimp only at M
        go_simp
      try simp only[Act.put]
      refine tu 3 fun K hK=> ?_;go_simp;refine JP.mono ?_;rintro e l ⟨v,nn,rfl⟩;unfold jl;have C2:jt n w l:=(CR.trans (jt.of dr)).trans v;clear JP;go_wp2;exact⟨rfl,C2,Or.inl ⟨u.out,_,rfl⟩⟩
  . have e:k=K:=om;subst e;have bq:¬((k:Int)<k):=om;go_wp2_with fail;refine (ake RD.out).mono ?_;rintro e w6 ⟨V,⟨Z,rfl⟩ | ⟨n6,x6,r6,Z,rfl⟩⟩;rotate_left
    . have u:Hid (∀b,¬lO (ip c (L.drop c)) b):=eI (fun bs i=>by
       obtain⟨bu,b1,r',e,_,ao,aq⟩:=i;rw[N.out] at e;simp only[List.cons.injEq,Prod.mk.injEq,fI,fM] at e;obtain⟨⟨-,rfl⟩,rfl⟩:=e;have:=(EL.out.only aq (by rw[W.out,ao,EK.out])).2;rw[Z] at this;cases this)
      clear Z;unfold jl;go_wp2;exact⟨rfl,CR.trans V,Or.inl ⟨u.out,_,rfl⟩⟩
    have a8:Hid (lO (ip c (L.drop c)) b):=eI ⟨n0,x1,au,N.out,I1.out,by rw[W.out,EK.out],by have:=EL.out;rw[Z] at this;exact this⟩;clear Z;have an:d≠n:=om;have b0:=(BX.out.but V an).c0;have aj:=BR.out.but V X;have u0:=aj.c0;have cm:=aj.f 0;go_wp2;have rC:ix (w6.setCell (jj w.heap.size 0) (.slice a g j)) w.heap.size (.slice a g j):=⟨aQ _ _ _ u0,fun q=>by simpa using aj.f q⟩;refine bO (acN rfl underlying25 rfl dq _ _ _ _ rfl rC) rfl ?_;have f:jt w.heap.size w6 (w6.setCell (jj w.heap.size 0) (.slice a g j)):=(jt.refl _ w6).set 0 _;have O6:=(ah.out.but V om).but f om;refine⟨(CR.trans V).dL (R:=fun q=>q=w.heap.size) ⟨f.os,f.tape,f.output,f.size,fun q z hn=>f.block q z (by simpa using hn)⟩ (fun q e=>by omega),Or.inr ⟨b,_,xs,S,a8.out,rfl,O6.lower om,_,av.out.wide om zR⟩⟩
theorem acD{z:Int}{w:World}:Cl 18 #[.iface 91 (.agg #[.i z])] w fun e b=>e=.returned (.i z)/\w.S b:=by
 have a:=fA w (.o #[.i z] 91);have c:∀w:World,(Instr.typeAssert (.iface 91 (.agg #[.i z])) 20 91 true).run Tryz.prog w=.ok (.tuple #[.agg #[.i z],.bool true]) w:=fun _=>by kernel_rfl
 go_enter func18,ntmps18;go_wp2;go_ret;exact⟨rfl,a⟩
theorem adf(n m:Nat)(u:Value)(z:Int)(y:Int)(w:World)(B:ix w n u)(E:ix w m (.i z))(d:n≠m):
 CallsD Tryz.prog 17 #[.p n 0,.p m 0] (.panicking [{ v:=.iface 91 (.agg #[.i y]),recovered:=false }]) w fun r F j=>
  r=.returned (.tuple #[])/\F=.panicking [{ v:=.iface 91 (.agg #[.i y]),recovered:=true }]/\ix j n (.n)/\ix j m (.i 2)/\Chg (fun q=>q=n∨q=m) w j:=by
 refine callsD_of_wpS func17 rfl fun G cs D=> ?_;apply wpS_seq;apply wpS_region;simp[wpOpsS,go_sem,recoverD,D,ntmps17,Exit.thenS];refine wpS_of_wp ?_;have k:=B.c0;have l:=E.c0;have x:=B.f 0;have A:=E.f 0;go_wp2_with fail;refine mo (acD) fun b a=> ?_;have g:=B.aA a;have e:=E.aA a;have k:=g.c0;have x:=g.f 0;have c:jt n b (b.setCell (jj n 0) (.n)):=(jt.refl n b).set 0 _;have i:=e.but c (fun h=>d h.symm);have l:=i.c0;have A:=i.f 0;have p:ix (b.setCell (jj n 0) (.n)) n (.n):=⟨aQ _ _ _ k,fun q=>by simpa using g.f q⟩;have f:jt m (b.setCell (jj n 0) (.n)) ((b.setCell (jj n 0) (.n)).setCell (jj m 0) (.i 2)):=(jt.refl m _).set 0 _;have s:=p.but f d;have v:ix ((b.setCell (jj n 0) (.n)).setCell (jj m 0) (.i 2)) m (.i 2):=⟨aQ _ _ _ l,fun q=>by simpa using i.f q⟩;have t:Chg (fun q=>q=n∨q=m) w ((b.setCell (jj n 0) (.n)).setCell (jj m 0) (.i 2)):=⟨(f.os.trans c.os).trans a.os,(f.tape.trans c.tape).trans a.tape,(f.output.trans c.output).trans a.output,aU (aU a.size c.size) f.size,fun q C o=>by
  have H:=a.size;rw[f.block q (aS om c.size) (by simp;exact fun h=>o (Or.inr h)),c.block q om (by simp;exact fun h=>o (Or.inl h))];exact a.block q C⟩
 go_wp2;simp[bodyPostS,results,Tryz.results17];exact⟨s,v,t⟩
theorem aaH(n m:Nat)(w:World):
 CallsD Tryz.prog 17 #[.p n 0,.p m 0] .returning w fun r c f=>r=.returned (.tuple #[])/\c=.returning/\f=w:=by
 refine callsD_of_wpS func17 rfl fun a cs b=> ?_;apply wpS_seq;apply wpS_region;simp[wpOpsS,go_sem,recoverD,b,ntmps17,Exit.thenS];refine wpS_of_wp ?_;go_wp2;cases a
 simp_all[bodyPostS,results,Tryz.results17]
theorem mH.can0{w:World}{c:Nat}(h:mH w P u f n m c)(p:c<=9223372036854775807):∃b a d e,u=.agg #[.bool (yk f n m).neg,.slice b (yk f n m).n d,.slice a (yk f n m).m e]/\ai w 0 (yk f n m) b a d e:=by
 obtain⟨y,z,g,i,rfl,j,k,-⟩:=h;obtain⟨b,d,rfl,l,v,A,o,q⟩:=j.can;obtain⟨a,e,rfl,r,s,t,B,x⟩:=k.can;exact⟨b,a,d,e,rfl,⟨l,r,A,t,⟨g,0,fun _=>aJ _,o⟩,⟨i,0,fun _=>aJ _,B⟩,q,x,aU v p,aU s p⟩⟩
def qu(l:List ByteArray):Nat->fZ:=fun i=>q9 (wd l i)
theorem ji.rats{w:World}{l:List ByteArray}{p:Nat->Nat->Prop}{A:List Value}(h:ji w n u l.length (wd l) p A):∃a g b,u=.slice a l.length b/\l.length<=b/\ph w 0 a g 0 l.length (qu l):=by
 have c:= @World.ownsRow.cells _ _ _ _ _ _ _ h.own;have G:=h.at_;obtain⟨_,⟨e,o⟩ | ⟨g,b,B,e,D,hb,x,_⟩⟩:=h.own
 . exact⟨none,0,0,by rw[e,o],om,fun i d=>absurd d om⟩
 . subst e;refine⟨_,g,b,rfl,x,fun i d=>⟨rfl, ?_⟩⟩;obtain⟨E,F,q,r,s,t⟩:=G i d;obtain⟨m,v,y,z,e,L⟩:=mH.can0 t om;simp only[Value.agg.injEq,Array.mk.injEq,List.cons.injEq,fI] at e;obtain⟨C,rfl,rfl⟩:=e;have f:=c (g:=g) rfl _ _ q;have j:=c (g:=g) rfl _ _ r;have k:=c (g:=g) rfl _ _ s;rw[Go.WideShapes.add_plain] at f j k;exact⟨m,v,y,z,⟨f,by rw[fH];exact j,by rw[fH];exact k,L⟩⟩
def iQ.A(m:iQ):ic:=⟨(m.R:Int),(m.C:Int),(WL m.C m.rs).length,qu (WL m.C m.rs),(BL m.C m.rs).length,qu (BL m.C m.rs)⟩
def mapA(ms:List iQ):Nat->ic:=fun i=>(mD ms i).A
theorem pP.affs{w:World}{v:List iQ}{H:List Value}{I:List (List Value)}(h:pP w n u v.length (mD v) H I)(hb:∀i,i<v.length->(mD v i).R<=1000000/\(mD v i).C<=1000000)(C:∀i,i<v.length->(WL (mD v i).C (mD v i).rs).length<=1000000000000/\(BL (mD v i).C (mD v i).rs).length<=1000000000000):∃a g c,u=.slice a v.length c/\v.length<=c/\sc w 0 a g 0 v.length (mapA v):=by
 have d:= @World.ownsRow.cells _ _ _ _ _ _ _ h.own;have z:=h.at_;obtain⟨_,⟨e,q⟩ | ⟨g,c,K,e,M,L,B,_⟩⟩:=h.own
 . exact⟨none,0,0,by rw[e,q],om,fun i b=>absurd b om⟩
 . subst e;refine⟨_,g,c,rfl,B,fun i b=>⟨rfl, ?_⟩⟩;obtain⟨O,N,Q,P,t,S,x,y,A,-⟩:=z i b;obtain⟨o,r,D,rfl,F,m⟩:=A.W.rats;obtain⟨p,s,E,rfl,G,R⟩:=A.B.rats;have f:=d (g:=g) rfl _ _ t;have j:=d (g:=g) rfl _ _ S;have k:=d (g:=g) rfl _ _ x;have l:=d (g:=g) rfl _ _ y;rw[Go.WideShapes.add_plain] at f j k l;have:=hb i b;have:=C i b;exact⟨o,p,D,E,⟨f,by rw[fH];exact j,by rw[fH];exact k,by rw[fH];exact l,⟨F,G,⟨r,0,fun _=>aJ _,m⟩,⟨s,0,fun _=>aJ _,R⟩,by show-9223372036854775808<=((mD v i).R:Int);omega,by show ((mD v i).R:Int)<=9223372036854775807;omega,by show-9223372036854775808<=((mD v i).C:Int);omega,by show ((mD v i).C:Int)<=9223372036854775807;omega,by show (WL (mD v i).C (mD v i).rs).length<=9223372036854775807;omega,by show (BL (mD v i).C (mD v i).rs).length<=9223372036854775807;omega⟩⟩⟩
def tot(rest:List (Nat×List ByteArray)):Nat:=(rest.map fun r=>r.2.length).sum
theorem agA(a b:pR):tot (a++b)=tot a+tot b:=by simp[tot]
theorem yb(a:Nat×List ByteArray)(b:pR):tot (a::b)=a.2.length+tot b:=by simp[tot]
theorem ak5{c:pR}(h:∀r∈c,mQ n r.2):tot c=c.length*(n+1):=by
 induction c with
 | nil=>simp[tot]
 | cons r c ih=>
   rw[yb,ih (fun b a=>h b (by simp[a])),(h r qz).1,fS,bI,dS];omega
def iQ.w(m:iQ):Nat:=(WL m.C m.rs).length+(BL m.C m.rs).length
theorem mI.tot_le{m:iQ}{a b:pR}(h:mI a m.R m.C m.rs b):m.w+tot b<=tot a:=by
 obtain⟨c,d,f,e,-⟩:=h.ex;rw[e,yb,agA,ak5 h.rows,iQ.w,eX h.rows,dA,fY,iF];omega
theorem kn.tot_le{e:List iQ}{a b:pR}(h:kn e a b):(e.map iQ.w).sum+tot b<=tot a:=by
 induction e generalizing a with
 | nil=>subst h;simp
 | cons m e ih=>
   obtain⟨r,c,d⟩:=h;have:=ih d;have:=c.tot_le;simp only[dG,qI];omega
theorem kn.all{i:List iQ}{b g:pR}(h:kn i b g):∀m∈i,∃r f,mI r m.R m.C m.rs f:=by
 induction i generalizing b with
 | nil=>intro m a;simp at a
 | cons m i ih=>
   obtain⟨r,c,d⟩:=h;intro e a;rcases fW.1 a with rfl | a
   . exact⟨_,_,c⟩
   . exact ih d e a
theorem al3(n:Nat)(L:List ByteArray):tot (ip n L)<=(L.map fun l=>l.size+1).sum:=by
 induction L generalizing n with
 | nil=>simp[ip,tot]
 | cons x xs ih=>
   have a:=ih (n+1);have b:=vE x;rw[ip];simp only[dG,qI];split
   . omega
   . rw[yb];show (ja x).length+_<=_;omega
theorem agm(c:UInt8):∀l:List UInt8,((lV c l).map fun p=>p.length+1).sum=l.length+1
 | []=>by simp[lV]
 | x::xs=>by
   have h:=agm c xs;unfold lV
   split
   . simp only[dG,qI,mR,fS,h];omega
   . cases e:lV c xs with
     | nil=>exact absurd e (yS c xs)
     | cons p ps=>
       rw[e] at h;simp only[dG,qI,fS] at h⊢;omega
theorem eg(c:UInt8)(s:ByteArray):((jP c s).map fun l=>l.size+1).sum=s.size+1:=by
 have h:=agm c s.data.toList;unfold jP;rw[sU];rw[<-Lib.size_eq] at h;rw[<-h];congr 1
theorem yX(h:n<2^(32*m)):(nT n).1<=m:=by
 obtain⟨p,b⟩:∃p,cK n p:=⟨_,j8 n⟩;obtain⟨d,-,-⟩:=ct b;rw[d];rcases cQ p.1 with a | a
 . omega
 . have c:=rj p.2 p.1 a (b.2.1 a);rw[b.2.2] at c;have e:=dD c h;have f:=(Nat.pow_lt_pow_iff_right (show 1<2 by omega)).1 e;omega
theorem amX:10^400<2^(32*42):=by decide+kernel
theorem adC:∀ {l:List Nat},n∈l->n<=l.sum
 | [],h=>by simp at h
 | y::ys,h=>by
   rw[qI]
   rcases fW.1 h with rfl | h
   . omega
   . have:=adC h;omega
theorem alc{x:ByteArray}(h:js x):(q9 x).n<=42/\(q9 x).m<=42:=by
 obtain⟨K,E,g,m,l⟩:∃K E,K=42/\E=400/\10^E<2^(32*K):=⟨42,400,rfl,rfl,amX⟩;unfold js at h;have b:(eP x).2.1<2^(32*K)/\(eP x).2.2.1<2^(32*K):=by
  unfold eP at h⊢;simp only at h⊢;split at h
  . cases h
  . rename_i h1
    split at h
    . cases h
    . rename_i h2
      split at h
      . cases h
      . rename_i h3
        simp only[aM h1,aM h2,aM h3];simp only[tH,kS,not_or,Bool.not_eq_false] at h1;simp only[not_or,Nat.not_lt] at h2;have c:=ug (x:=jb (runs x)) (k:=(jb (runs x)).size) (fun j a=>lm h1.1 j a);have d:=ug (x:=iN (runs x)) (k:=(iN (runs x)).size) (fun j a=>lm h1.2 j a);have i:10^(jb (runs x)).size<=10^E:=dP om om;have k:10^(iN (runs x)).size<=10^E:=dP om om;have:=l;have e:=iV (dv (jb (runs x)) (jb (runs x)).size) (Nat.gcd (dv (jb (runs x)) (jb (runs x)).size) (dv (iN (runs x)) (iN (runs x)).size));have f:=iV (dv (iN (runs x)) (iN (runs x)).size) (Nat.gcd (dv (jb (runs x)) (jb (runs x)).size) (dv (iN (runs x)) (iN (runs x)).size));exact⟨dD e (Nat.lt_trans (aS c i) this),dD f (Nat.lt_trans (aS d k) this)⟩
 rw[<-g];exact⟨yX b.1,yX b.2⟩
theorem ahY{l:List ByteArray}(h:∀i,i<n->js (wd l i)):nU (qu l) n<=84*n:=by
 induction n with
 | zero=>simp[nU]
 | succ n ih=>
   have a:=ih (fun i c=>h i om);have b:=alc (h n om);rw[py];have e:qu l n=q9 (wd l n):=rfl;rw[e];omega
theorem ao3{d:pR}(h:∀r∈d,mQ n r.2):∀x∈WL n d,js x:=fun x a=>by
 unfold WL at a;obtain⟨r,c,a⟩:=iK.1 a;obtain⟨i,b,e⟩:=List.getElem_of_mem a;have hl:=h r c;rw[jR] at b;have:=hl.2.2 i om;unfold wd at this;rw[fP,aK om] at this;rw[<-e,List.getElem_take];exact this
theorem ao7{c:pR}(h:∀r∈c,mQ n r.2):∀x∈BL n c,js x:=fun x a=>by
 unfold BL at a;obtain⟨r,b,rfl⟩:=dT.1 a;exact (h r b).2.2 n om
theorem xm{l:List ByteArray}(h:i<l.length):wd l i∈l:=by
 unfold wd;rw[fP,aK h];exact jB h
theorem mI.size{m:iQ}{r b:pR}(h:mI r m.R m.C m.rs b):m.A.size<=85*m.w:=by
 have c:=ahY (l:=WL m.C m.rs) (n:=(WL m.C m.rs).length) (fun i a=>ao3 h.rows _ (xm a));have d:=ahY (l:=BL m.C m.rs) (n:=(BL m.C m.rs).length) (fun i a=>ao7 h.rows _ (xm a));show (WL m.C m.rs).length+nU (qu (WL m.C m.rs)) (WL m.C m.rs).length+((BL m.C m.rs).length+nU (qu (BL m.C m.rs)) (BL m.C m.rs).length)<=85*m.w;unfold iQ.w;omega
theorem akA{i:List iQ}(h:∀m∈i,m.A.size<=85*m.w):vK (mapA i) i.length<=85*(i.map iQ.w).sum:=by
 have a:∀k,k<=i.length->vK (mapA i) k<=85*((i.take k).map iQ.w).sum:=fun k=>by
  induction k with
  | zero=>intro _;simp[vK]
  | succ k ih=>
    intro g;have d:=ih om;have e:mD i k=i[k]:=(by unfold mD;rw[fP,aK om];rfl);have f:=h i[k] (jB _);have b:vK (mapA i) (k+1)=vK (mapA i) k+(mapA i k).size:=rfl;have c:(mapA i k).size=i[k].A.size:=(by show (mD i k).A.size=_;rw[e]);rw[jE,aK om];simp only[Option.toList,eJ,List.sum_append,dG,kC,qI,List.sum_nil];omega
 have:=a i.length zR;rw[List.take_length] at this;exact this
theorem lO.lims{s:ByteArray}{F:List iQ}(u:s.size<=100000)(h:lO (ip 0 (jP 10 s)) F):vK (mapA F) F.length<=8500085/\F.length<=999999/\∀i,i<F.length->((mD F i).R<=1000000/\(mD F i).C<=1000000)/\(WL (mD F i).C (mD F i).rs).length<=100001/\(BL (mD F i).C (mD F i).rs).length<=100001:=by
 obtain⟨z,C,r,e,k,hl,a⟩:=h;have b:=al3 0 (jP 10 s);rw[eg] at b;have o:=a.tot_le;rw[e,yb] at b;have p:=akA (fun m f=>by obtain⟨r,B,h⟩:=a.all m f;exact h.size);have t:=mF k;refine⟨om,om,fun i c=> ?_⟩;have d:mD F i∈F:=by unfold mD;rw[fP,aK c];exact jB c
 obtain⟨q,A,g⟩:=a.all _ d;obtain⟨_,D,E,-,l,n,v,w⟩:=g.ex;have x:=mF l;have y:=mF n;have j:(mD F i).w<=(F.map iQ.w).sum:=adC (dT.2 ⟨_,d,rfl⟩);unfold iQ.w at j;refine⟨⟨om,om⟩, ?_, ?_⟩<;>(unfold iQ.w at*;omega)
theorem oJ{e:Func}{p q:Tmp}(h:e.results= #[.cell p 25,.cell q 3])(a:Array Value)(w:World)(n m:Nat)(u U:Value)
 (i:a.getD p undef=.p n 0)(l:a.getD q undef=.p m 0)(B:ix w n u)(D:ix w m U):(results e a).run Tryz.prog w=.ok (.tuple #[.agg #[u],U]) w:=by
 have k:a[p]?.getD undef=.p n 0:=by simpa using i
 have c:a[q]?.getD undef=.p m 0:=by simpa using l
 have hl:=run_loadVar_mid (P:=Tryz.prog) w n 0 25 [u] _ (fun j v b=>by
  rcases j with _ | j
  . simp at b;subst b;exact B.c0
  . simp at b) underlying25 rfl dq
 have f:=D.c0;have g:(loadVar 3 (jj m 0)).run Tryz.prog w=.ok U w:=by simp[go_sem,f]
 simp[results,h,k,c,asAddr,hl,g]
theorem jt.c{c:Nat}{w:World}(B:jt c w v):Chg (fun q=>q=c) w v:=⟨B.os,B.tape,B.output,B.size,fun q b a=>B.block q b (by simpa using a)⟩
theorem nZ{w:World}(s:w.Since n v)(d:n<=w.heap.size)(h:Chg P v W)(c:∀q,q<n->¬P q):w.Since n W:=
 ⟨h.os.trans s.os,h.tape.trans s.tape,h.output.trans s.output,aU s.size h.size,fun q a=>(h.block q (by have:=s.size;omega) (c q a)).trans (s.block q a)⟩
def RnE(w w':World)(s:ByteArray)(e:Ending):Prop:=
 (100000<s.size/\e=.returned (.tuple #[.agg #[.slice none 0 0],.int .i64 1]))∨
 (s.size<=100000/\(∀ms,¬lO (ip 0 (jP 10 s)) ms)/\e=.returned (.tuple #[.agg #[.slice none 0 0],.int .i64 2]))∨
 (s.size<=100000/\∃ms,lO (ip 0 (jP 10 s)) ms/\¬pH ms.length (mapA ms)/\e=.returned (.tuple #[.agg #[.slice none 0 0],.int .i64 3]))∨
 (s.size<=100000/\∃ms v xs zs,lO (ip 0 (jP 10 s)) ms/\pH ms.length (mapA ms)/\e=.returned (.tuple #[.agg #[v],.int .i64 0])/\pP w' w.heap.size v ms.length (mD ms) xs zs/\∃hi,zH w.heap.size hi zs.flatten)
theorem nH{s:ByteArray}{w:World}(hs:s.size<=9223372036854775807):
 Cl 6 #[.string s] w fun e w'=>w.S w'/\RnE w w' s e:=by
 have aq:∀(fn:Fn) (first j:Array Value) (w:World),(Instr.makeFunc fn first j).run Tryz.prog w=.ok (.func fn first j) w:=fun _ _ _ _=>rfl;have sA:=fA w (.o #[.n] 25);have Q:(w.alloc (.o #[.n] 25)).Since (w.alloc (.o #[.n] 25)).heap.size ((w.alloc (.o #[.n] 25)).alloc (.o #[.i 0] 3)):=fA _ _;have H:=(ix.new w (.n) 25).aA Q;have z:=ix.new (w.alloc (.o #[.n] 25)) (.i 0) 3;have ZB:((w.alloc (.o #[.n] 25)).alloc (.o #[.i 0] 3)).heap.size=w.heap.size+2:=by simp
 have X:(w.alloc (.o #[.n] 25)).heap.size=w.heap.size+1:=by simp
 rw[X] at z;have x:=sA.tr Q;have g:=H.c0;have fa:=H.f 0;have b0:=z.c0;have fb:=z.f 0;by_cases ai:100000<s.size
 . have ak:(100000:Int)<(s.size:Int):=om;go_enter_defers func6,ntmps6;go_wp2_with fail;have O:=ix.new w (.n) 25;have sC:(w.alloc (.o #[.n] 25)).Since (w.alloc (.o #[.n] 25)).heap.size ((w.alloc (.o #[.n] 25)).alloc (.o #[.i 1] 3)):=fA _ _;have e2:=ix.new (w.alloc (.o #[.n] 25)) (.i 1) 3;rw[X] at e2;refine⟨_,oJ rfl _ _ _ _ _ _ rfl rfl (O.aA sC) e2,(fA _ _).alloc qz _,Or.inl ⟨ai,rfl⟩⟩
 have ak:¬(100000:Int)<(s.size:Int):=om;have u:s.size<=100000:=om;go_enter_defers func6,ntmps6;go_wp2_with fail;generalize (w.alloc _).alloc _=wB at*;clear g fa b0 fb;refine (agQ u).mono ?_;rintro e w1 ⟨ao,bl,rfl,R1,hc,p⟩;have V:=x.tr p;have Z:=H.aA p;have ab:=z.aA p;go_wp2_with fail;refine (aja R1).mono ?_;rintro e r ⟨m,⟨aj,al,rfl⟩ | ⟨c,ar,xs,zs,P,rfl,T,ac,Y⟩⟩
 . unfold jl;go_wp2_with fail;have t:=Z.but m om;have L:=ab.but m om;refine leaves_cons (f:=17) (args:= #[.p w.heap.size 0,.p (w.heap.size+1) 0]) qz (by simp[go_sem]) ?_;refine (adf w.heap.size (w.heap.size+1) _ _ al r t L om).mono ?_;rintro e u' w3 ⟨rfl,rfl,b3,d3,C3⟩;have E:=nZ V zR m.c (fun q l e=>by have:=x.size;omega);have F:=nZ E zR C3 (fun q l e=>by omega);exact⟨_,oJ rfl _ _ _ _ _ _ rfl rfl b3 d3,F,Or.inr (Or.inl ⟨u,aj,rfl⟩)⟩
 obtain⟨L1,L2,v⟩:=lO.lims u P;have E:=nZ V zR m.c (fun q l e=>by have:=x.size;omega);have t:=Z.but m om;have L:=ab.but m om;obtain⟨a,ag,j,rfl,-,-⟩:=T.affs (fun i k=>(v i k).1) (fun i k=>by have:=(v i k).2;omega);have f0:=t.f 0;have g:=t.c0;have ad:w.heap.size<w1.heap.size:=by have:=p.size;omega
 have D:jt w.heap.size r (r.setCell (jj w.heap.size 0) (.l a c.length j)):=(jt.refl _ r).set 0 _;have aa:ix (r.setCell (jj w.heap.size 0) (.l a c.length j)) w.heap.size (.l a c.length j):=⟨aQ _ _ _ g,fun q=>by simpa using t.f q⟩;have af:=L.but D om;have U:=T.but D ad;have F:=nZ E zR D.c (fun q l e=>by omega);obtain⟨d,ag,f,B,-,AF⟩:=U.affs (fun i k=>(v i k).1) (fun i k=>by have:=(v i k).2;omega);obtain⟨rfl,rfl⟩:d=a/\f=j:=by simp at B;exact⟨B.1.symm,B.2.symm⟩
 clear B;have R:=eI P;have ae:Hid (zH w.heap.size ac zs.flatten):=eI (Y.wide (by have:=x.size;have:=p.size;omega) zR);clear P Y;have a3:=aa.c0;go_wp2_with fail;generalize r.setCell (jj w.heap.size 0) (.l d c.length f)=w3 at*;refine (rZ (aJ _) trivial om om AF).mono ?_;rintro e b ⟨am,rfl,i4,C⟩;have y:=aa.aA C;have A:=af.aA C;have O4:=U.aA C;have W:=F.tr C;have S:=eI i4;clear i4 f0 g a3;have f0:=y.f 0;have g:=y.c0;have e0:=A.f 0;have d0:=A.c0;cases am
 . have n:jt w.heap.size b (b.setCell (jj w.heap.size 0) (.n)):=(jt.refl _ b).set 0 _;have I:ix (b.setCell (jj w.heap.size 0) (.n)) w.heap.size (.n):=⟨aQ _ _ _ g,fun q=>by simpa using y.f q⟩;have h:=A.but n om;have O:=h.f 0;have N:=h.c0;have o:jt (w.heap.size+1) (b.setCell (jj w.heap.size 0) (.n)) ((b.setCell (jj w.heap.size 0) (.n)).setCell (jj (w.heap.size+1) 0) (.i 3)):=(jt.refl _ _).set 0 _;have K:=I.but o om;have M:ix ((b.setCell (jj w.heap.size 0) (.n)).setCell (jj (w.heap.size+1) 0) (.i 3)) (w.heap.size+1) (.i 3):=⟨aQ _ _ _ N,fun q=>by simpa using h.f q⟩;have G:=nZ (nZ W zR n.c (fun q l e=>by omega)) zR o.c (fun q l e=>by omega);go_wp2_with fail;refine leaves_cons (f:=17) (args:= #[.p w.heap.size 0,.p (w.heap.size+1) 0]) qz (by simp[go_sem]) ?_;refine (aaH w.heap.size (w.heap.size+1) _).mono ?_;rintro e u' an ⟨rfl,rfl,rfl⟩;exact⟨_,oJ rfl _ _ _ _ _ _ rfl rfl K M,G,Or.inr (Or.inr (Or.inl ⟨u,c,R.out,(fun ah=>by have:=S.out.2 ah;simp at this),rfl⟩))⟩
 . have n:jt w.heap.size b (b.setCell (jj w.heap.size 0) (.l d c.length f)):=(jt.refl _ b).set 0 _;have I:ix (b.setCell (jj w.heap.size 0) (.l d c.length f)) w.heap.size (.l d c.length f):=⟨aQ _ _ _ g,fun q=>by simpa using y.f q⟩;have h:=A.but n om;have O:=h.f 0;have N:=h.c0;have o:jt (w.heap.size+1) (b.setCell (jj w.heap.size 0) (.l d c.length f)) ((b.setCell (jj w.heap.size 0) (.l d c.length f)).setCell (jj (w.heap.size+1) 0) (.i 0)):=(jt.refl _ _).set 0 _;have K:=I.but o om;have M:ix ((b.setCell (jj w.heap.size 0) (.l d c.length f)).setCell (jj (w.heap.size+1) 0) (.i 0)) (w.heap.size+1) (.i 0):=⟨aQ _ _ _ N,fun q=>by simpa using h.f q⟩;have G:=nZ (nZ W zR n.c (fun q l e=>by omega)) zR o.c (fun q l e=>by omega);have O6:=(O4.but n ad).but o (by have:=p.size;omega);go_wp2_with fail;refine leaves_cons (f:=17) (args:= #[.p w.heap.size 0,.p (w.heap.size+1) 0]) qz (by simp[go_sem]) ?_;refine (aaH w.heap.size (w.heap.size+1) _).mono ?_;rintro e u' an ⟨rfl,rfl,rfl⟩;exact⟨_,oJ rfl _ _ _ _ _ _ rfl rfl K M,G,Or.inr (Or.inr (Or.inr ⟨u,c,_,xs,zs,R.out,S.out.1 qz,rfl,O6.lower om,ac,ae.out⟩))⟩
def uJ(w:World)(P:Prop)(e:Ending)(w':World):Prop:=∃r:Bool,e=.returned (.bool r)/\(r=true↔P)/\w.Since w.heap.size w'
theorem uJ.yes{w:World}{P:Prop}(h:P)(s:w.S v):uJ w P (.returned (.bool true)) v:=⟨true,rfl,by simp[h],s⟩
theorem uJ.no{w:World}{P:Prop}(h:¬P)(s:w.S v):uJ w P (.returned (.bool false)) v:=⟨false,rfl,by simp[h],s⟩
theorem ajS{x:ByteArray}{w:World}(g:x.size<=100000):
 Cl 35 #[.string x] w fun e d=>uJ w (isInt x) e d:=by
 go_enter func35,ntmps35;go_wp2_with fail;refine mo (yB om) fun f c=> ?_;have b:w.S f:=c.since _;cases hd:lE x
 . have a:=eI hd;go_wp2;go_ret;exact⟨_,rfl,by unfold isInt;rw[a.out];simp,b⟩
 . have a:=eI hd;go_wp2;go_ret;exact⟨_,rfl,by unfold isInt;rw[a.out];simp;omega,b⟩
theorem amh{x y:ByteArray}(h:∀j,j<n->bt x j=bt y j):dv x n=dv y n:=by
 induction n with
 | zero=>rfl
 | succ n ih=>rw[dv,dv,ih (fun j a=>h j om),h n om]
theorem an2:∀(n:Nat) (x:ByteArray) (w:World),x.size=n->n<=6->(∀j,j<n->48<=bt x j/\bt x j<=57)->
 Cl 13 #[.string x] w fun e s=>e=.returned (.i ((dv x n:Nat):Int))/\w.S s:=by
 intro n
 induction n with
 | zero=>
   intro x w b _ _;have p:(x.size:Int)=0:=om;go_enter func13,ntmps13;go_wp2;go_ret;exact⟨by simp[dv],aF _ _⟩
 | succ n ih=>
   intro x w b B a;have i:=uB w;have K:=pd x (i:=0) (j:=n) (aJ _) om;have J:=ih (x.extract 0 n) w.drew om om (fun j h=>by rw[pL x om,aZ];exact a j om);have d:dv (x.extract 0 n) n=dv x n:=amh (fun j h=>by rw[pL x om,aZ]);rw[d] at J;have l:n<x.size:=om;have hb:=ti l;have o:=a n om;obtain⟨y,c⟩:∃y,bt x n=y+48:=⟨bt x n-48,om⟩;have f:Hid (dv x (n+1)=dv x n*10+y):=eI (by rw[dv,c,cF]);rw[c] at hb o;have k:dv x n<=1000000:=(by have u:=ug (x:=x) (k:=n) (fun j h=>a j om);have v:10^n<=10^6:=dP om om;omega);obtain⟨V,g⟩:∃V,dv x n=V:=⟨_,rfl⟩;rw[g] at k f J;have m:((y+48:Nat):Int)-48=(y:Int):=om;have F:(y:Int)+48-48=(y:Int):=om;have E:IntKind.u8.wrap (y:Int)=y:=(by have:=ev (y+48) om om;rw[m] at this;rw[this];omega);have G:IntKind.i64.wrap ((V:Int)*10)=(V:Int)*10:=(by rw[tR];omega);have H:IntKind.i64.wrap (y:Int)=y:=(by rw[tR];omega);have I:IntKind.i64.wrap ((V:Int)*10+(y:Int))=(V:Int)*10+(y:Int):=(by rw[tR];omega);have p:¬(x.size:Int)=0:=om;have L:IntKind.i64.wrap ((x.size:Int)-1)=(n:Int):=(by rw[tR];omega);have z:n<=x.size:=om;have A:(n:Int)<=(x.size:Int):=om;have D:¬((x.size:Int)<n):=om;have C:¬((n:Int)<0):=om;have t:=eI b;clear c g d ih b;go_enter func13,ntmps13;go_wp2_with fail
   go_region_held_law (fun _=>True) (go_keep)
    (first
      | (go_at_call 13;with_reducible refine mo J fun M q=> ?_;have r:=i.tr q))
   all_goals
    go_wp2;go_ret;exact⟨by rw[f.out];simp,r⟩
theorem eF{x:ByteArray}{w:World}(h:isInt x):
 Cl 13 #[.string x] w fun e b=>e=.returned (.i ((dv x x.size:Nat):Int))/\w.S b:=
 an2 x.size x w rfl h.2 (fun j a=>lm h.1 j a)
theorem adE{x:ByteArray}{w:World}(y:x.size<=100000):
 Cl 36 #[.string x] w fun e p=>uJ w (js x) e p:=by
 have J:=@si x w om;have a:js x↔(eP x).2.2.2=0:=Iff.rfl;obtain⟨c,k⟩:∃c,(eP x).2.2.2=c:=⟨_,rfl⟩;rw[k] at J a;go_enter func36,ntmps36;go_wp2_with fail;refine J.mono ?_;rintro e q ⟨v,rfl,⟨z,A,t,u,rfl,b,d,-⟩,n⟩;obtain⟨g,l,i,r,rfl,-⟩:=b;obtain⟨h,m,j,s,rfl,-⟩:=d;have o:=fA q (.o #[.bool (eP x).1,.l g l i,.l h m j] 70);have f:=n.tr o;go_wp2;go_ret;exact⟨_,rfl,by rw[a];simp,f⟩
theorem ai1{x:ByteArray}{w:World}(S:x.size<=100000):
 Cl 39 #[.string x] w fun e p=>∃v,e=.returned v/\ry p (fun g=>w.heap.size<=g) v x/\w.S p:=by
 have E:=fA w yJ;have C:=eS.new w (.bool false) (.n) (.n) 70;have G:Hid ((w.alloc yJ).heap.size=w.heap.size+1):=eI qz;go_enter func39,ntmps39;go_wp2_with fail;generalize w.alloc _=F at*;refine (si om).mono ?_;rintro e l ⟨v,rfl,n,o⟩;have k:=n.w;obtain⟨Z,v2,O,P,rfl,s,t,-,-,-⟩:=n;obtain⟨a,i,d,H,rfl,-⟩:=s;obtain⟨c,j,f,I,rfl,-⟩:=t;have k:ry l (fun q=>F.heap.size<=q) (.agg #[.bool (eP x).1,.l a i d,.l c j f]) x:=k;obtain⟨nb,A⟩:∃b,(eP x).1=b:=⟨_,rfl⟩;rw[A] at k⊢;have u:=E.tr o;have m:=fA l (.o #[.bool nb,.l a i d,.l c j f] 70);have y:=u.tr m;have z:=mH.aA k m;have B:=eS.new l (.bool nb) (.l a i d) (.l c j f) 70;have r:=(C.aA o).aA m;obtain⟨W,X,Y⟩:=r.g;obtain⟨K,L,N⟩:=r.k;obtain⟨T,U,V⟩:=B.g;go_wp2;have D:=((r.bE (.bool nb)).bH (.l a i d)).bF (.l c j f);refine bO (qi rfl _ _ _ _ _ _ rfl D) rfl ?_;have M:eM (l.alloc (.o #[.bool nb,.l a i d,.l c j f] 70)) _ w.heap.size:=(((eM.refl _ _).setCell 0 (.bool nb)).setCell 1 (.l a i d)).setCell 2 (.l c j f);have aa:=G.out;exact⟨_,rfl,mH.imp (mH.blocks z (Nat.le_of_eq M.size.symm) (fun g Q R=>M.other g om)) (fun g _ h=>by omega),y.trans (M.since om)⟩
def vM(ws:List ByteArray)(nm:ByteArray)(ints least:Nat)(most:Int):Prop:=
 ws.head?=some nm/\1+ints+least<=ws.length/\(0<=most->(ws.length:Int)<=1+ints+most)/\∀i,1<=i->i<ws.length->(i<=ints->isInt (wd ws i))/\(ints<i->js (wd ws i))
theorem cA{a:List ByteArray}(h:n<a.length):a[n]?=some (wd a n):=by
 unfold wd;rw[fP,aK h];rfl
theorem adD{g:ByteArray}{n m:Nat}{z:Int}{a:Option Addr}{c d k:Nat}{b:List ByteArray}{w:World}(I:∀(j:Nat) (x:ByteArray),b[j]?=some x->a=jp c d/\w.cell? (jj c (d+j))=some (.string x))(W:∀x∈b,x.size<=100000)(T:0<b.length)(hl:b.length<=100001)
 (X:n<=10)(aj:m<=10)(hm:-1<=z)(ak:z<=10):
 Cl 11 #[.slice a b.length k,.string g,.i (n:Int),.i (m:Int),.i z] w fun e w'=>uJ w (vM b g n m z) e w':=by
 have M:=cA T;obtain⟨rfl,R⟩:=I 0 _ M;have B:Hid (∀i,i<b.length->w.cell? (jj c (d+i))=some (.string (wd b i))):=eI (fun i X=>(I i _ (cA X)).2);have Q:Hid (∀i,i<b.length->(wd b i).size<=100000):=eI (fun i X=>W _ (xm X));have C:Hid (b.head?=some (wd b 0)):=eI (by rw[<-M];cases b<;>rfl);have p:Hid (∀P:Prop,P=vM b g n m z->P=(b.head?=some g/\1+n+m<=b.length/\(0<=z->(b.length:Int)<=1+n+z)/\∀i,1<=i->i<b.length->(i<=n->isInt (wd b i))/\(n<i->js (wd b i)))):=eI (fun P h=>h);obtain⟨A,v⟩:∃x,wd b 0=x:=⟨_,rfl⟩;obtain⟨L,G⟩:∃L,b.length=L:=⟨_,rfl⟩;obtain⟨SH,H⟩:∃P,P=vM b g n m z:=⟨_,rfl⟩;have p:=eI (p.out _ H);rw[<-H];rw[v] at R C;rw[G] at T hl B Q p⊢;clear M I W H v;have HL:=eI G;clear G;rw[fV] at R;have ah:(0:Int)<L:=om;by_cases u:A.toList=g.toList;rotate_left
 . have aa:(A.toList==g.toList)=false:=(by simpa using u);have F:=eI (fun e:A=g=>u (cL.2 e));clear u;go_enter func11,ntmps11;go_wp2;go_ret
   exact uJ.no (by
    rw[p.out,C.out];exact fun h=>F.out (by simpa using h.1)) yD
 have aa:(A.toList==g.toList)=true:=by simpa using u
 have F:=eI (cL.1 u);clear u;by_cases l:L<1+n+m
 . have al:(L:Int)<1+(n:Int)+(m:Int):=om;go_enter func11,ntmps11;go_wp2;go_ret
   exact uJ.no (by
    rw[p.out];exact fun h=>by have:=h.2.1;omega) yD
 have al:¬(L:Int)<1+(n:Int)+(m:Int):=om;have af:z=-1∨(0<=z/\1+(n:Int)+z<(L:Int))∨(0<=z/\¬1+(n:Int)+z<(L:Int)):=om;rcases af with Z | ⟨Z,ae⟩ | ⟨Z,ae⟩;rotate_left
 . go_enter func11,ntmps11;go_wp2;go_ret
   exact uJ.no (by
    rw[p.out];exact fun h=>by have:=h.2.2.1 Z;omega) yD
 rotate_left
 focus
  subst Z;have O:Hid ((0:Int)<=-1->(L:Int)<=1+(n:Int)+ -1):=eI (fun h=>absurd h qd)
 rotate_left
 focus
  have O:Hid (0<=z->(L:Int)<=1+(n:Int)+z):=eI (fun h=>by omega)
 all_goals
  go_enter func11,ntmps11;go_wp2_with fail;go_loopw [11] (fun i wr=>∃(f:Nat),1<=f/\f<=L/\i=.i (f:Int)/\w.S wr/\Hid (∀i,1<=i->i<f->(i<=n->isInt (wd b i))/\(n<i->js (wd b i)))) (fun i _=>L-(intOf i).toNat)
  case atStart=>exact⟨1,aC _,om,rfl,aF _ _,eI (fun i l U=>absurd l om)⟩
  case round=>
   obtain⟨f,V,ai,rfl,S,D⟩:=hrel;by_cases s:f<L
   . have ag:(f:Int)<L:=om;have Y:wr.cell? (jj c (d+f))=some (.string (wd b f)):=(S.cell (a:=jj c (d+f)) (aG _ _ (B.out f s))).trans (B.out f s);have K:=Q.out f s;obtain⟨x,v⟩:∃x,wd b f=x:=⟨_,rfl⟩;rw[v] at Y K;have y:=eI v;clear v;by_cases ad:f<=n
     . have ab:(f:Int)<=n:=om;have ac:¬(n:Int)<f:=om;go_wp2_with fail;refine (ajS K).mono ?_;rintro e w2 ⟨r,rfl,t,N⟩;have q:=S.tr N;have o:=eI t;clear t;cases r
       . go_wp2;go_ret
         exact uJ.no (by
          rw[p.out];exact fun h=>by
           have h:=h.2.2.2 f V s;have:=h.1 ad;rw[y.out] at this;have:=o.out.2 this;simp at this) q
       . have E:Hid (∀i,1<=i->i<f+1->(i<=n->isInt (wd b i))/\(n<i->js (wd b i))):=eI (fun i l U=>by
          by_cases e:i=f
          . subst e;exact⟨fun _=>by rw[y.out];exact o.out.1 qz,fun h=>absurd h om⟩
          . exact D.out i l om)
         go_wp2;go_roundw
         case rel=>exact⟨f+1,om,om,by go_num,q,E⟩
         case measure=>exact yI
     . have ab:¬(f:Int)<=n:=om;have ac:(n:Int)<f:=om;go_wp2_with fail;refine (adE K).mono ?_;rintro e w2 ⟨r,rfl,t,N⟩;have q:=S.tr N;have o:=eI t;clear t;cases r
       . go_wp2;go_ret
         exact uJ.no (by
          rw[p.out];exact fun h=>by
           have h:=h.2.2.2 f V s;have:=h.2 om;rw[y.out] at this;have:=o.out.2 this;simp at this) q
       . have E:Hid (∀i,1<=i->i<f+1->(i<=n->isInt (wd b i))/\(n<i->js (wd b i))):=eI (fun i l U=>by
          by_cases e:i=f
          . subst e;exact⟨fun h=>absurd h om,fun _=>by rw[y.out];exact o.out.1 qz⟩
          . exact D.out i l om)
         go_wp2;go_roundw
         case rel=>exact⟨f+1,om,om,by go_num,q,E⟩
         case measure=>exact yI
   . have e:f=L:=om;subst e;have ag:¬((f:Int)<f):=om;go_wp2;go_ret
     exact uJ.yes (by
      rw[p.out];exact⟨by rw[C.out,F.out],om,O.out,D.out⟩) S
theorem alQ:∃i,Tryz.prog.info? 38=some i/\i.zero=some (.agg #[.i 0,.n])/\i.size=2/\i.bytes=32:=by
 have h:(Tryz.prog.info? 38).map (fun i=>(i.zero,i.size,i.bytes))=some (some (.agg #[.i 0,.n]),2,32):=by kernel_rfl
 obtain⟨i,a,h⟩:=eE.1 h;simp only[Prod.mk.injEq] at h;exact⟨i,a,h.1,h.2.1,h.2.2⟩
structure bc(w:World)(lo:Nat)(v:Value)(ls:List (Nat×List ByteArray))(xs:List Value):Prop where
 own:w.ownsRow lo 38 2 v ls.length xs
 at_:∀(j n:Nat) (ws:List ByteArray),ls[j]?=some (n,ws)->∃g cap,xs[j*2]?=some (.int .i64 (n:Int))/\xs[j*2+1]?=some (.slice (some ⟨g,0,none⟩) ws.length cap)/\(∀(i:Nat) (x:ByteArray),ws[i]?=some x->w.cell? ⟨g,i,none⟩=some (.string x))/\g<w.heap.size/\v.ownBlock≠some g/\ws.length<=cap
section
variable{w w' w1:World}{lo:Nat}{v v':Value}{ls:pR}{xs:List Value}
theorem bc.aA(h:bc w lo v ls xs)(s:w.S w'):bc w' lo v ls xs:=by
 refine⟨sE h.own s,fun j n m k=> ?_⟩;obtain⟨g,b,c,d,e,a,f⟩:=h.at_ j n m k;exact⟨g,b,c,d,fun i x l=>(s.cell (a:=jj g i) a).trans (e i x l),aS a s.size,f⟩
theorem bc.snoc(h:bc w lo v ls xs)(H:w.S w1)(K:w.heap.size<w1.heap.size)(g:w1.grownBy w' v.ownBlock){c:Nat}{ws:List ByteArray}(own:w'.ownsRow lo 38 2 v' (ls.length+1) (xs++[.i (n:Int),.s m ws.length c]))
 (C:v'.ownBlock=v.ownBlock∨v'.ownBlock=some w1.heap.size)(o:∀(i:Nat) (x:ByteArray),ws[i]?=some x->w.cell? (jj m i)=some (.string x))(hb:m<w.heap.size)(d:v.ownBlock≠some m)(D:ws.length<=c):bc w' lo v' (ls++[(n,ws)]) (xs++[.i (n:Int),.s m ws.length c]):=by
 have hl:=h.own.1;have z:=g.size;have p:∀ {m:Nat} {ws:List ByteArray},(∀(i:Nat) (x:ByteArray),ws[i]?=some x->w.cell? (jj m i)=some (.string x))->m<w.heap.size->v.ownBlock≠some m->(∀(i:Nat) (x:ByteArray),ws[i]?=some x->w'.cell? (jj m i)=some (.string x))/\m<w'.heap.size/\v'.ownBlock≠some m:=fun {m ws} o hb d=>by
  have E:=(g.block m om (fun e=>d e.symm)).trans (H.block m hb);refine⟨fun i x G=>(aO (a:=jj m i) E).trans (o i x G),om,fun e=> ?_⟩;rcases C with h | h
  . exact d (h.symm.trans e)
  . rw[e] at h;simp at h;omega
 refine⟨by rw[aT];exact own,fun j b I a=> ?_⟩;by_cases e:j=ls.length
 . subst e;rw[bK zR,uD] at a;simp only[List.getElem?_cons_zero,Option.some.injEq,Prod.mk.injEq] at a;obtain⟨rfl,rfl⟩:=a;obtain⟨f,k,l⟩:=p o hb d;refine⟨m,c, ?_, ?_,f,k,l,D⟩
   . rw[bK om,hl];simp
   . rw[bK om,hl];simp
 . have F:j<ls.length:=by
    have:=(bG.1 a).1;rw[aT] at this;simp at this;omega
   rw[bJ F] at a;obtain⟨r,q,s,t,u,y,A,B⟩:=h.at_ j b I a;obtain⟨f,k,l⟩:=p u y A;exact⟨r,q,by rw[bJ om];exact s,by rw[bJ om];exact t,f,k,l,B⟩
end
def cl(w:World)(g:Nat)(ls:List (Nat×List ByteArray)):Prop:=
 ∀(j n:Nat) (ws:List ByteArray),ls[j]?=some (n,ws)->w.cell? ⟨g,j*2,none⟩=some (.int .i64 (n:Int))/\∃q cap,w.cell? ⟨g,j*2+1,none⟩=some (.slice (some ⟨q,0,none⟩) ws.length cap)/\ws.length<=cap/\∀(i:Nat) (x:ByteArray),ws[i]?=some x->w.cell? ⟨q,i,none⟩=some (.string x)
theorem cl.aA{w w':World}{ls:pR}(h:cl w n ls)(s:w.S w'):cl w' n ls:=fun j g l k=>by
 obtain⟨a,q,e,b,f,c⟩:=h j g l k;exact⟨(s.cell (a:=jj n (j*2)) (aG _ _ a)).trans a,q,e,(s.cell (a:=jj n (j*2+1)) (aG _ _ b)).trans b,f,fun i x d=>(s.cell (a:=jj q i) (aG _ _ (c i x d))).trans (c i x d)⟩
theorem bc.l{w:World}{ls:pR}{p:List Value}(h:bc w n (.s g ls.length m) ls p):cl w g ls:=fun j r o e=>by
 have d:= @World.ownsRow.cells _ _ _ _ _ _ _ h.own;obtain⟨q,c,f,i,k,-,-,l⟩:=h.at_ j r o e;have a:=d (g:=g) rfl _ _ f;have b:=d (g:=g) rfl _ _ i;rw[Go.WideShapes.add_plain,aZ] at a b;exact⟨a,q,c,b,l,k⟩
theorem newL(w:World)(u U:Value)(t:TypeId):∀j b,([u,U]:List Value)[j]?=some b->(w.alloc (.cells #[u,U] t)).cell? (((jj w.heap.size 0):Addr).add j)=some b:=fun j b a=>by
 rw[Go.WideShapes.add_plain,aZ]
 rcases j with _ | _ | j
 . simp at a;subst a;simp[go_sem]
 . simp at a;subst a;simp[go_sem]
 . simp at a
theorem oneL(z:Int)(a:Option Addr)(n m:Nat):∀u∈([.i z,.slice a n m]:List Value),u.oneCell'=true:=by
 intro u b;simp at b;rcases b with rfl | rfl<;>rfl
theorem ajF{P:List ByteArray}{x:ByteArray}(h:P[n]?=some x):ip 0 (P.take (n+1))=ip 0 (P.take n)++(if ja x=[] then [] else [(n+1,ja x)]):=by
 have a:=(bG.1 h).1;rw[jE,h,af8,jR,uA om,aZ];simp only[Option.toList,ip]
def amD(w w':World)(P:List ByteArray)(e:Ending):Prop:=
 ∃g cap,e=.returned (.tuple #[.slice (some ⟨g,0,none⟩) (ip 0 P).length cap,.int .i64 (P.length:Int)])/\cl w' g (ip 0 P)/\w.Since w.heap.size w'/\(ip 0 P).length<=cap
theorem ajR{s:ByteArray}{w:World}(hs:s.size<=100000):
 Cl 10 #[.string s] w fun e n=>amD w n (jP 10 s) e:=by
 obtain⟨i0,hi,aq,ar,au⟩:=alQ;have sA:=fA w (.o #[] 38);have oA:(w.alloc (.o #[] 38)).ownsRow w.heap.size 38 2 (.s w.heap.size 0 0) 0 []:=iP w #[] 0 zR (aJ _) rfl;have ZA:=eI (show (w.alloc (.o #[] 38)).heap.size=w.heap.size+1 by simp);have ae:=pm 10 s;obtain⟨P,E⟩:∃P,jP 10 s=P:=⟨_,rfl⟩;have HZ:Hid (∀x∈P,x.size<=s.size):=eI (fun x r=>xF (by rw[E];exact r));rw[E] at ae⊢;have S:=eI E;go_enter func10,ntmps10;go_wp2_with fail;generalize w.alloc _=B at*;have aa:=@cf 10 s B om;refine aa.mono ?_;rintro e T ⟨v1,rfl,y,N⟩;have y:T.ownsRow B.heap.size 9 1 v1 P.length (P.map Value.string):=by rw[<-S.out];exact y
 have am:0<P.length:=by rw[<-S.out];exact cc 10 s
 obtain⟨a,cP,rfl,ah,-⟩:=y.form am;obtain⟨a8,bP,lP,-⟩:=agw.cells y;have Y:=eI a8;have af:Hid (w.heap.size<a):=eI (by have:=ZA.out;omega);have S1:=sA.tr N;have z1:=N.size;have o1:bc T w.heap.size (.s w.heap.size 0 0) [] []:=⟨sE oA N,fun j a7 ws h=>by simp at h⟩;go_wp2_with fail;go_loopw [4,6] (fun ax i wr=>∃k:Nat,k<=P.length/\i=.i (k:Int)/\w.S wr/\Hid (∀(j:Nat) (x:ByteArray),P[j]?=some x->wr.cell? (jj a j)=some (.string x))/\a<wr.heap.size/\∃(g b m:Nat) (ls:pR) (G:List Value),ax=.s g m b/\g≠a/\m<=k/\Hid (ls.length=m)/\Hid (ls=ip 0 (P.take k))/\bc wr w.heap.size (.s g m b) ls G) (fun _ i _=>P.length-(intOf i).toNat)
 case atStart=>exact⟨0,aJ _,rfl,S1,Y,lP,w.heap.size,0,0,[],[],rfl,by have:=af.out;omega,aC _,eI rfl,eI (by simp[ip]),o1⟩
 case round=>
  obtain⟨k,hk,rfl,F,I,p,g,b,m,ls,G,rfl,aj,a3,d,q,O⟩:=hrel;by_cases ai:k<P.length
  . have a2:(k:Int)<(P.length:Int):=om;obtain⟨x,r⟩:∃x,P[k]?=some x:=⟨_,aK ai⟩;have g0:=I.out k x r;have a5:=HZ.out x (cO r);have u:=ajF r;have ao:=vE x;have f:=@ajQ x wr om;have lg:=O.own.lt g rfl;clear r;by_cases t:ja x=[]
    . rw[aY t,iJ] at u;have D:=eI u;rw[t] at f;have f:Cl 34 #[.string x,.int .u8 32,.int .u8 32] wr fun e n=>∃g b,e=.returned (.s g 0 b)/\wr.S n:=f.mono (fun e n h=>by obtain⟨g,b,e,-,s⟩:=h;exact⟨g,b,e,s⟩);go_wp2_with fail;refine f.mono ?_;rintro e o ⟨A,z,rfl,c⟩;have H:=F.tr c;have v:=O.aA c;have z3:=c.size;have U:Hid (∀(j:Nat) (x:ByteArray),P[j]?=some x->o.cell? (jj a j)=some (.string x)):=eI (fun j x h=>(c.cell (a:=jj a j) p).trans (I.out j x h));have ab:Hid (ls=ip 0 (P.take (k+1))):=eI (by rw[D.out];exact q.out);go_wp2;go_roundw
      case rel=>exact⟨k+1,om,by go_num,H,U,om,g,b,m,ls,G,rfl,aj,om,d,ab,v⟩
      case measure=>exact yI
    . rw[aM t] at u;have D:=eI u;have an:=List.length_pos_iff.2 t;obtain⟨W,ba⟩:∃W,ja x=W:=⟨_,rfl⟩;rw[ba] at f ao an D;have a4:(0:Int)<(W.length:Int):=om;go_wp2_with fail;refine f.mono ?_;rintro e o ⟨A,z,rfl,o3,c⟩;have H:=F.tr c;have v:=O.aA c;have z3:=c.size;have z2:=F.size;obtain⟨a9,bw,lw,av⟩:=o3.cells;have a1:IntKind.i64.wrap ((k:Int)+1)=((k+1:Nat):Int):=(by rw[tR];omega);have Z:=eI a9;go_wp2_with (at_builtin;refine wpList_append_own_at _ rfl _ _ 32 rfl w.heap.size 38 i0 _ 2 32 underlying32 hi aq ar au rfl qd _ m G rfl (by have:=v.own;rw[d.out] at this;exact this.alloc _) (jj o.heap.size 0) 1 1 [.i ((k:Int)+1),.s A W.length z] rfl rfl (newL _ _ _ _) (oneL _ _ _ _) (by unfold maxLen;omega) om (by simp;omega) ?_);intro v' R M l al L;replace l:(o.alloc (.o #[.i ((k:Int)+1),.s A W.length z] 38)).grownBy R (Value.s g m b).ownBlock:=l;obtain⟨X,ag,rfl,ah,a0⟩:=M.form om;have Q:=fA o (.o #[.i ((k:Int)+1),.s A W.length z] 38);have zW:(o.alloc (.o #[.i ((k:Int)+1),.s A W.length z] 38)).heap.size=o.heap.size+1:=(by simp);have z5:=l.size;have S5:=(H.tr Q).grown l om (fun aw hq=>(O.own.lt aw hq).1);have bb:=((l.block a om (by simp[Value.ownBlock];omega)).trans (Q.block a om)).trans (c.block a p);have V:Hid (∀(j:Nat) (x:ByteArray),P[j]?=some x->R.cell? (jj a j)=some (.string x)):=eI (fun j x h=>(aO (a:=jj a j) bb).trans (I.out j x h));have ak:X≠a:=by
       rcases L with h | h
       . simp[Value.ownBlock] at h;omega
       . simp[Value.ownBlock] at h;omega
      have C:=v.snoc (n:=k+1) (ws:=W) Q om l (by rw[d.out];exact M) (by rw[zW];exact L) Z.out lw (by simp[Value.ownBlock];omega) av;have ad:Hid ((ls++[(k+1,W)]).length=m+1):=eI (by simp;exact d.out);have ac:Hid (ls++[(k+1,W)]=ip 0 (P.take (k+1))):=eI (by rw[D.out,q.out]);go_wp2;go_roundw
      case rel=>exact⟨k+1,om,by go_num,S5,V,om,X,ag,m+1,_,_,rfl,ak,om,ad,ac,C⟩
      case measure=>exact yI
  . have e:k=P.length:=om;subst e;have a6:¬((P.length:Int)<(P.length:Int)):=om;have C:=eI O;rw[List.take_length] at q;go_wp2;go_ret2;refine⟨g,b, ?_, ?_,F, ?_⟩
    . rw[<-q.out,d.out];rfl
    . have:=C.out;rw[<-d.out] at this;rw[<-q.out];exact this.l
    . have h9:=C.out.own;obtain⟨-,⟨K,-⟩ | ⟨g9,ay,az,K,-,-,hn,-⟩⟩:=h9
      . cases K
      . simp only[Value.slice.injEq] at K;rw[<-q.out,d.out];rw[d.out] at hn;omega
theorem an1{n:Nat}{a:Option Addr}{m c d:Nat}{b:List ByteArray}{w:World}(B:∀(j:Nat) (x:ByteArray),b[j]?=some x->a=jp m c/\w.cell? (jj m (c+j))=some (.string x))(F:∀x∈b,x.size<=100000)(hl:b.length<=100001):
 Cl 37 #[.slice a b.length d,.i ((n:Int)+1)] w fun e T=>uJ w (mQ n b) e T:=by
 have o:Hid (∀i,i<b.length->a=jp m c/\w.cell? (jj m (c+i))=some (.string (wd b i))):=eI (fun i f=>B i _ (cA f));have u:Hid (∀i,i<b.length->(wd b i).size<=100000):=eI (fun i f=>F _ (xm f));obtain⟨I,l⟩:∃P,P=mQ n b:=⟨_,rfl⟩;have p:Hid (I=(b.length=n+1/\n+1<=b.length/\∀i,i<n+1->js (wd b i))):=eI l;obtain⟨L,z⟩:∃L,b.length=L:=⟨_,rfl⟩;rw[<-l];rw[z] at hl o u p⊢;clear B F l z;by_cases C:L=n+1;rotate_left
 . have V:((L:Int)==(n:Int)+1)=false:=(by simp;omega);have W:¬((L:Int)=n+1):=om;go_enter func37,ntmps37;go_wp2;go_ret
   exact uJ.no (by
    rw[p.out];exact fun h=>C h.1) yD
 obtain⟨N,A⟩:∃N:Int,(n:Int)+1=N:=⟨_,rfl⟩;have O:N=(L:Int):=om;subst O;rw[A];have s:=eI C;clear C A;go_enter func37,ntmps37;go_wp2_with fail;go_loopw [5] (fun i wr=>∃(k:Nat),k<=L/\i=.i (k:Int)/\w.S wr/\Hid (∀i,i<k->js (wd b i))) (fun i _=>L-(intOf i).toNat)
 case atStart=>exact⟨0,aJ _,rfl,aF _ _,eI (fun i h=>absurd h om)⟩
 case round=>
  obtain⟨k,X,rfl,S,q⟩:=hrel;by_cases D:k<L
  . have Q:(k:Int)<L:=om;obtain⟨rfl,g⟩:=o.out k D;have M:wr.cell? (jj m (c+k))=some (.string (wd b k)):=(S.cell (a:=jj m (c+k)) (aG _ _ g)).trans g;have E:=u.out k D;obtain⟨x,K⟩:∃x,wd b k=x:=⟨_,rfl⟩;rw[K] at M E;have t:=eI K;clear K g;go_wp2_with fail;refine (adE E).mono ?_;rintro e Y ⟨r,rfl,G,R⟩;have y:=S.tr R;have v:=eI G;clear G;cases r
    . go_wp2;go_ret
      exact uJ.no (by
       rw[p.out];exact fun h=>by
        have:=h.2.2 k (by have:=s.out;omega);rw[t.out] at this;have:=v.out.2 this;simp at this) y
    . have H:Hid (∀i,i<k+1->js (wd b i)):=eI (fun i U=>by
       by_cases e:i=k
       . subst e;rw[t.out];exact v.out.1 qz
       . exact q.out i om)
      go_wp2;go_roundw
      case rel=>exact⟨k+1,om,by go_num,y,H⟩
      case measure=>exact yI
  . have e:k=L:=om;subst e;have Q:¬((k:Int)<k):=om;go_wp2;go_ret
    exact uJ.yes (by
     rw[p.out];have:=s.out;exact⟨this,om,fun i f=>q.out i om⟩) S
def aqo(w w':World)(ws:List ByteArray)(e:Ending):Prop:=
 ∃(g cap:Nat) (xs:List Value),e=.returned (.slice (some ⟨g,0,none⟩) ws.length cap)/\ji w' w.heap.size (.slice (some ⟨g,0,none⟩) ws.length cap) ws.length (wd ws) (fun _ q=>w.heap.size<=q) xs/\w.Since w.heap.size w'
theorem alI{a:Option Addr}{n m c:Nat}{b:List ByteArray}{w:World}(hc:∀(j:Nat) (x:ByteArray),b[j]?=some x->a=jp n m/\w.cell? (jj n (m+j))=some (.string x))(hz:∀x∈b,x.size<=100000)(hl:b.length<=100001):
 Cl 38 #[.slice a b.length c] w fun e w'=>aqo w w' b e:=by
 obtain⟨i0,h,ab,u,v⟩:=pr;have Q:Hid (∀i,i<b.length->a=jp n m/\w.cell? (jj n (m+i))=some (.string (wd b i))):=eI (fun i h=>hc i _ (cA h));have U:Hid (∀i,i<b.length->(wd b i).size<=100000):=eI (fun i h=>hz _ (xm h));have sA:=fA w (.o #[] 70);have oA:(w.alloc (.o #[] 70)).ownsRow w.heap.size 70 3 (.s w.heap.size 0 0) 0 []:=iP w #[] 0 zR (aJ _) rfl;go_enter func38,ntmps38;go_wp2_with fail;go_loopw [3,4] (fun af i wr=>∃(k g c:Nat) (B:List Value),k<=b.length/\i=.i (k:Int)/\af=.s g k c/\w.S wr/\Hid (ji wr w.heap.size (.s g k c) k (wd b) (fun _ q=>w.heap.size<=q) B)) (fun _ i _=>b.length-(intOf i).toNat)
 case atStart=>exact⟨0,w.heap.size,0,[],aJ _,rfl,rfl,sA,eI ⟨oA,fun i h=>absurd h om⟩⟩
 case round=>
  obtain⟨k,g,G,B,hk,rfl,rfl,S,O⟩:=hrel;by_cases H:k<b.length
  . have ae:(k:Int)<(b.length:Int):=om;obtain⟨rfl,F⟩:=Q.out k H;have ck:=(S.cell (a:=jj n (m+k)) (aG _ _ F)).trans F;have M:=U.out k H;have D:=@ai1 (wd b k) wr M;obtain⟨x,N⟩:∃x,wd b k=x:=⟨_,rfl⟩;rw[N] at ck M D;have C:=eI N;go_wp2_with fail;refine D.mono ?_;rintro e d ⟨aj,rfl,E,A⟩;have z:=E;obtain⟨v1,v2,g1,g2,rfl,V,W,-,-,-⟩:=E;obtain⟨f,s,p,Y1,rfl,-⟩:=V;obtain⟨l,t,r,Y2,rfl,-⟩:=W;have z:ry d (fun q=>wr.heap.size<=q) (.agg #[.bool (eP (wd b k)).1,.l f s p,.l l t r]) (wd b k):=(by rw[C.out];exact z);have z1:=A.size;have y:=O.out.aA A;have lg:=O.out.own.lt g rfl;obtain⟨nb,I⟩:∃ak,(eP x).1=ak:=⟨_,rfl⟩;have R:Hid ((eP (wd b k)).1=nb):=eI (by rw[C.out];exact I);rw[I];have hB:=S.size;go_wp2_with (at_builtin;refine wpList_append_own_at _ rfl _ _ 50 rfl w.heap.size 70 i0 _ 3 56 underlying50 h ab u v rfl qd _ _ _ rfl (y.own.alloc _) (jj d.heap.size 0) 1 1 [.bool nb,.l f s p,.l l t r] rfl rfl (bW _ _ _ _ _) (bV _ _ _ _ _ _ _) (by unfold maxLen;omega) om (by simp;omega) ?_);intro v' w2 K o ai aa;replace o:(d.alloc (.o #[.bool nb,.l f s p,.l l t r] 70)).grownBy w2 (Value.s g k G).ownBlock:=o;obtain⟨g',Z,rfl,ag,ah⟩:=K.form om;have P:=fA d (.o #[.bool nb,.l f s p,.l l t r] 70);have zW:(d.alloc (.o #[.bool nb,.l f s p,.l l t r] 70)).heap.size=d.heap.size+1:=(by simp);have z2:=o.size;have Y:=((S.tr A).trans (sM P om)).grown o om (fun q L=>(y.own.lt q L).1);have X:=y.snoc P om o (by rw[R.out];exact K) (by rw[zW];exact aa) (mH.imp z (fun q L hp=>⟨om,fun e=>by simp[Value.ownBlock] at e;omega⟩));have T:=eI X;go_wp2;go_roundw
    case rel=>exact⟨k+1,g',Z,_,om,by go_num,rfl,Y,T⟩
    case measure=>exact yI
  . have e:k=b.length:=om;subst e;have ae:¬((b.length:Int)<(b.length:Int)):=om;go_wp2;go_ret;exact⟨g,G,B,rfl,O.out,S⟩
theorem adx{k:List ByteArray}:vM k bB 2 0 0↔∃g j,k=[bB,g,j]/\isInt g/\isInt j:=by
 constructor
 . rintro⟨e,d,f,h4⟩;have f:=f (Int.le_refl _)
   match k,e,d,f,h4 with
   | [a,b,c],e,_,_,h4=>
     simp only[List.head?_cons,Option.some.injEq] at e;subst e;exact⟨b,c,rfl,(h4 1 om qz).1 om,(h4 2 om qz).1 om⟩
   | [],_,d,_,_=>simp at d
   | [_],_,d,_,_=>simp at d
   | [_,_],_,d,_,_=>simp at d
   | _::_::_::_::_,_,_,f,_=>simp only[fS] at f;omega
 . rintro⟨g,j,rfl,i1,i2⟩;refine⟨rfl,qz,fun _=>by simp,fun i e d=>⟨fun h=> ?_,fun h=> ?_⟩⟩
   . have:i=1∨i=2:=om;rcases this with rfl | rfl
     . exact i1
     . exact i2
   . simp at d;omega
theorem adw{g:List ByteArray}:vM g cr 1 0 0↔∃f,g=[cr,f]/\isInt f:=by
 constructor
 . rintro⟨d,c,e,h4⟩;have e:=e (Int.le_refl _)
   match g,d,c,e,h4 with
   | [a,b],d,_,_,h4=>
     simp only[List.head?_cons,Option.some.injEq] at d;subst d;exact⟨b,rfl,(h4 1 om qz).1 om⟩
   | [],_,c,_,_=>simp at c
   | [_],_,c,_,_=>simp at c
   | _::_::_::_,_,_,e,_=>simp only[fS] at e;omega
 . rintro⟨f,rfl,i1⟩;refine⟨rfl,qz,fun _=>by simp,fun i d c=>⟨fun h=> ?_,fun h=> ?_⟩⟩
   . have:i=1:=om;subst this;exact i1
   . simp at c;omega
structure aqs(ls:List (Nat×List ByteArray)):Prop where
 len:ls.length<=100001
 at_:∀(j n:Nat) (ws:List ByteArray),ls[j]?=some (n,ws)->0<ws.length/\ws.length<=100001/\∀x∈ws,x.size<=100000
theorem al4{L:List ByteArray}{r:Nat×List ByteArray}(h:r∈ip n L):∃l∈L,r.2=ja l/\ja l≠[]:=by
 induction L generalizing n with
 | nil=>simp[ip] at h
 | cons x xs ih=>
   rw[ip] at h;split at h
   . obtain⟨l,hl,e⟩:=ih h;exact⟨l,by simp[hl],e⟩
   . rename_i hx
     rcases fW.1 h with rfl | h
     . exact⟨x,qz,rfl,hx⟩
     . obtain⟨l,hl,e⟩:=ih h;exact⟨l,by simp[hl],e⟩
theorem apd{s:ByteArray}(f:s.size<=100000):aqs (ip 0 (jP 10 s)):=by
 refine⟨?_,fun j n g h=> ?_⟩
 . have:=af7 0 (jP 10 s);have:=pm 10 s;omega
 . obtain⟨l,hl,e,a⟩:=al4 (cO h);simp only at e;subst e;have c:=xF hl;have d:=vE l;exact⟨List.length_pos_iff.2 a,om,fun x b=>by have:=(aeW b).1;omega⟩
def ao5(w w':World)(rest:List (Nat×List ByteArray))(K:Nat)(e:Ending):Prop:=
 w.Since w.heap.size w'/\((∃v,e=.returned (.tuple #[v,.bool false])/\∀ms:List iQ,ms.length=K->¬kn ms rest [])∨
  ∃(ms:List iQ) (v:Value) (xs:List Value) (zs:List (List Value)),e=.returned (.tuple #[v,.bool true])/\ms.length=K/\kn ms rest []/\pP w' w.heap.size v ms.length (mD ms) xs zs)
theorem eA{ls:pR}(h:n<ls.length):ls.drop n=((ls[n]).1,(ls[n]).2)::ls.drop (n+1):=by
 rw[List.drop_eq_getElem_cons h]
theorem zY{w:World}{c:Nat}(s:w.Since n v)(h:n<=m):w.Since n (v.setCell ⟨m,c,none⟩ u):=by
 have b:=(jt.refl m v).set c u;exact⟨b.os.trans s.os,b.tape.trans s.tape,b.output.trans s.output,aU s.size b.size,fun q a=>(fN _ _ _ _ (fun e=>by simp at e;omega)).trans (s.block q a)⟩
theorem ab4{P:Program}{e:Region.Mode}{c:Array Oper}{Q:Exit->Act->World->Prop}{S:World->Prop}(I:Nat->Array Bool->Act->World->Prop)
 (k:∀b l a w,I b l a w->S w)
 (m:∀b l a w,I (b+1) l a w->∀i∈Region.ready e c l,∃o,c[i]?=some o/\∀d:Act->World->Prop,(∀a w,I b (l.setIfInBounds i true) a w->d a w)->if Region.wanted o (yielded c a.tmps)=true then Oper.wp P o a w d Q else d (a.put o.dst undef) w)
 (f:∀l a w,I 0 l a w->Region.ready e c l=[])
 (g:∀b l a w,I b l a w->Region.ready e c l=[]->Q .normal a w):
 ∀b l a w,I b l a w->wpAnyH P e c Q S b l a w
 | 0,l,a,w,h=>⟨f l a w h,g 0 l a w h (f l a w h)⟩
 | b+1,l,a,w,h=>⟨g _ l a w h,fun i p=>by
    obtain⟨o,r,q⟩:=m b l a w h i p;exact wpOp_step r fun d n=>q d fun a w j=>n a w ⟨k _ _ _ _ j,ab4 I k m f g b _ a w j⟩⟩
theorem akY{w:World}{e:TypeId}{c:Nat}{a:List Value}(h:w.ownsRow n e m u c a)(f:∀g,u.ownBlock=some g->v.heap[g]?=w.heap[g]?):v.ownsRow n e m u c a:=by
 obtain⟨hl,h | ⟨g,b,j,rfl,hb,d,i⟩⟩:=h
 . exact⟨hl,Or.inl h⟩
 . exact⟨hl,Or.inr ⟨g,b,j,rfl,hb,(f g (by simp[Value.ownBlock])).trans d,i⟩⟩
def Em(lo:Nat)(w:World)(t:Value):Prop:=∃b,t=.slice (some ⟨b,0,none⟩) 0 0/\b<w.heap.size/\w.ownsRow lo 70 3 t 0 []
theorem Em.aA{w w':World}(h:Em n w u)(s:w.S w'):Em n w' u:=by
 obtain⟨b,e,a,c⟩:=h;exact⟨b,e,aS a s.size,sE c s⟩
structure J7(w1:World)(R C:Nat)(l7 l15 l16 l17 l18 l19 l20:Bool)(t10 t40 t48 t49 t50 t51:Value)(w:World):Prop where
 S:w1.Since w1.heap.size w
 h7:l7=true->t40=.int .i64 (R:Int)
 h15:l15=true->t48=.int .i64 (C:Int)
 h16:l16=true->Em w1.heap.size w t49
 h17:l17=true->Em w1.heap.size w t50
 h18:l18=true->t51=.agg #[.int .i64 (R:Int),.int .i64 (C:Int),t49,t50]
 h19:l19=true->∃d,t10=.pointer (some ⟨d,0,none⟩)/\w1.heap.size<=d/\d<w.heap.size/\(l20=false->ie w d (.int .i64 0) (.int .i64 0) (.slice none 0 0) (.slice none 0 0))/\(l20=true->ie w d (.int .i64 (R:Int)) (.int .i64 (C:Int)) t49 t50)
 n1:l16=true->l17=true->t49≠t50
 n2:l16=true->l19=true->∀d,t10=.pointer (some ⟨d,0,none⟩)->t49≠ .slice (some ⟨d,0,none⟩) 0 0
 n3:l17=true->l19=true->∀d,t10=.pointer (some ⟨d,0,none⟩)->t50≠ .slice (some ⟨d,0,none⟩) 0 0
section
variable{w1:World}{R C:Nat}{l7 l15 l16 l17 l18 l19 l20:Bool}{t10 t40 t48 t49 t50 t51:Value}{w w':World}
theorem J7.grow(h:J7 w1 R C l7 l15 l16 l17 l18 l19 l20 t10 t40 t48 t49 t50 t51 w)(s:w.S w'):J7 w1 R C l7 l15 l16 l17 l18 l19 l20 t10 t40 t48 t49 t50 t51 w':=
 ⟨h.S.trans (sM s h.S.size),h.h7,h.h15,fun e=>(h.h16 e).aA s,fun e=>(h.h17 e).aA s,h.h18,fun e=>(by
   obtain⟨d,a,b,c,f,g⟩:=h.h19 e;exact⟨d,a,b,aS c s.size,fun e=>(f e).aA s,fun e=>(g e).aA s⟩),h.n1,h.n2,h.n3⟩
theorem J7.start(w:World)(n m:Nat)(u U d e f g:Value):J7 w n m false false false false false false false u U d e f g w:=
 ⟨.refl _ _,nofun,nofun,nofun,nofun,nofun,nofun,nofun,nofun,nofun⟩
theorem amg(h:w1.S w):Em w1.heap.size (w.alloc (.cells #[] 70)) (.s w.heap.size 0 0):=
 ⟨w.heap.size,rfl,qz,iP w #[] 0 h.size (aJ _) rfl⟩
theorem J7.op16(h:J7 w1 R C l7 l15 false l17 false l19 false t10 t40 t48 t49 t50 t51 w):J7 w1 R C l7 l15 true l17 false l19 false t10 t40 t48 (.s w.heap.size 0 0) t50 t51 (w.alloc (.cells #[] 70)):=
 have g:=h.grow (yD.alloc zR (.o #[] 70))
 ⟨g.S,g.h7,g.h15,fun _=>amg h.S,g.h17,nofun,fun e=>(by
   obtain⟨d,a,c,f,j,-⟩:=g.h19 e;exact⟨d,a,c,f,j,nofun⟩),fun _ e k=>(by
   obtain⟨b,a,c,-⟩:=h.h17 e;rw[a] at k;simp only[Value.slice.injEq,Option.some.injEq,Addr.mk.injEq] at k;omega),fun _ e d i k=>(by
   obtain⟨l,a,c,f,-⟩:=h.h19 e;rw[a] at i;simp only[Value.pointer.injEq,Option.some.injEq,Addr.mk.injEq,fI] at i;simp only[Value.slice.injEq,Option.some.injEq,Addr.mk.injEq,fI] at k;omega),g.n3⟩
theorem J7.op17(h:J7 w1 R C l7 l15 l16 false false l19 false t10 t40 t48 t49 t50 t51 w):J7 w1 R C l7 l15 l16 true false l19 false t10 t40 t48 t49 (.s w.heap.size 0 0) t51 (w.alloc (.cells #[] 70)):=
 have g:=h.grow (yD.alloc zR (.o #[] 70))
 ⟨g.S,g.h7,g.h15,g.h16,fun _=>amg h.S,nofun,fun e=>(by
   obtain⟨d,a,c,f,j,-⟩:=g.h19 e;exact⟨d,a,c,f,j,nofun⟩),fun e _ k=>(by
   obtain⟨b,a,c,-⟩:=h.h16 e;rw[a] at k;simp only[Value.slice.injEq,Option.some.injEq,Addr.mk.injEq] at k;omega),g.n2,fun _ e d i k=>(by
   obtain⟨l,a,c,f,-⟩:=h.h19 e;rw[a] at i;simp only[Value.pointer.injEq,Option.some.injEq,Addr.mk.injEq,fI] at i;simp only[Value.slice.injEq,Option.some.injEq,Addr.mk.injEq,fI] at k;omega)⟩
theorem J7.op19(h:J7 w1 R C l7 l15 l16 l17 l18 false false t10 t40 t48 t49 t50 t51 w):J7 w1 R C l7 l15 l16 l17 l18 true false (.p w.heap.size 0) t40 t48 t49 t50 t51 (w.alloc (.cells #[.i 0,.i 0,.n,.n] 52)):=
 have g:=h.grow (yD.alloc zR (.o #[.i 0,.i 0,.n,.n] 52))
 ⟨g.S,g.h7,g.h15,g.h16,g.h17,g.h18,fun _=>⟨w.heap.size,rfl,h.S.size,qz,fun _=>ie.new _ _ _ _ _ _,nofun⟩,g.n1,fun e _ d c k=>(by
   obtain⟨b,a,f,-⟩:=h.h16 e;rw[a] at k;simp only[Value.pointer.injEq,Option.some.injEq,Addr.mk.injEq,fI] at c;simp only[Value.slice.injEq,Option.some.injEq,Addr.mk.injEq,fI] at k;omega),fun e _ d c k=>(by
   obtain⟨b,a,f,-⟩:=h.h17 e;rw[a] at k;simp only[Value.pointer.injEq,Option.some.injEq,Addr.mk.injEq,fI] at c;simp only[Value.slice.injEq,Option.some.injEq,Addr.mk.injEq,fI] at k;omega)⟩
theorem J7.op20{z d:Value}(h:J7 w1 R C true true true true true true false (.p n 0) t40 t48 t49 t50 t51 w)(o:u=.i (R:Int))(p:U=.i (C:Int))(q:z=t49)(x:d=t50):
 J7 w1 R C true true true true true true true (.p n 0) t40 t48 t49 t50 t51 ((((w.setCell ⟨n,0,none⟩ u).setCell ⟨n,1,none⟩ U).setCell ⟨n,2,none⟩ z).setCell ⟨n,3,none⟩ d):=by
 subst o p q x;obtain⟨v,i,j,r,s,-⟩:=h.h19 rfl;simp only[Value.pointer.injEq,Option.some.injEq,Addr.mk.injEq,fI] at i;subst i;have M:eM w ((((w.setCell (jj n 0) (.i (R:Int))).setCell (jj n 1) (.i (C:Int))).setCell (jj n 2) z).setCell (jj n 3) d) n:=((((eM.refl w _).setCell 0 _).setCell 1 _).setCell 2 _).setCell 3 _;have k:=M.size;have f:∀ {t:Value},Em w1.heap.size w t->t≠ .s n 0 0->Em w1.heap.size ((((w.setCell (jj n 0) (.i (R:Int))).setCell (jj n 1) (.i (C:Int))).setCell (jj n 2) z).setCell (jj n 3) d) t:=fun {t} he hn=>by obtain⟨b,c,l,m⟩:=he;refine⟨b,c,by rw[k];exact l,akY m (fun g a=>M.other g (fun e=> ?_))⟩;rw[c] at a hn;simp[Value.ownBlock] at a;subst a e;exact hn rfl
 exact⟨h.S.trans (M.since j),h.h7,h.h15,fun e=>f (h.h16 e) (h.n2 rfl rfl n rfl),fun e=>f (h.h17 e) (h.n3 rfl rfl n rfl),h.h18,fun _=>⟨n,rfl,j,by rw[k];exact r,nofun,fun _=>((((s rfl).bE _).bH _).bF _).bX _⟩,h.n1,h.n2,h.n3⟩
end
def bA(l7 l15 l16 l17 l18 l19 l20:Bool):Nat->Bool
 | 7=> !l7&& !l15&& !l18&& !l20
 | 15=>l7&& !l15&& !l18&& !l20
 | 16=> !l16&& !l18&& !l20
 | 17=> !l17&& !l18&& !l20
 | 18=>l7&&l15&&l16&&l17&& !l18&& !l20
 | 19=> !l19&& !l20
 | 20=>l7&&l15&&l16&&l17&&l18&&l19&& !l20
 | _=>false
theorem amS{b c d e a:Bool}(h:bA f F b c d e a n=true):n=7∨n=15∨n=16∨n=17∨n=18∨n=19∨n=20:=by
 unfold bA at h;split at h<;>simp_all
def bM(l7 l15 l16 l17 l18 l19 l20:Bool):Nat:=(!l7).toNat+(!l15).toNat+(!l16).toNat+(!l17).toNat+(!l18).toNat+(!l19).toNat+(!l20).toNat
def ok7(l7 l15 l16 l17 l18 l19 l20:Bool):Bool:=(!l15 ||l7)&&(!l18 ||(l7&&l15&&l16&&l17))&&(!l20 ||(l18&&l19))
structure Two(w:World)(lo d:Nat)(vW vB:Value)(lW lB:List ByteArray)(xW xB:List Value):Prop where
 W:ji w lo vW lW.length (wd lW) (fun _ q=>lo<=q/\q≠d/\vB.ownBlock≠some q) xW
 B:ji w lo vB lB.length (wd lB) (fun _ q=>lo<=q/\q≠d/\vW.ownBlock≠some q) xB
 sep:∀g,vW.ownBlock=some g->vB.ownBlock≠some g
 dW:vW.ownBlock≠some d
 dB:vB.ownBlock≠some d
section
variable{w w':World}{lo d:Nat}{vW vW' vB:Value}{lW lB l:List ByteArray}{xW xB xr:List Value}
theorem uL.two{a:pR}(h:uL w lo d vW vB n a xW xB):Two w lo d vW vB (WL n a) (BL n a) xW xB:=⟨h.W,h.B,h.sep,h.dW,h.dB⟩
theorem Two.aff{a:pR}(h:Two w lo d vW vB (WL n a) (BL n a) xW xB):uL w lo d vW vB n a xW xB:=⟨h.W,h.B,h.sep,h.dW,h.dB⟩
theorem Two.swap(h:Two w lo d vW vB lW lB xW xB):Two w lo d vB vW lB lW xB xW:=⟨h.B,h.W,fun g e a=>h.sep g a e,h.dB,h.dW⟩
theorem Two.aA(h:Two w lo d vW vB lW lB xW xB)(s:w.S w'):Two w' lo d vW vB lW lB xW xB:=⟨h.W.aA s,h.B.aA s,h.sep,h.dW,h.dB⟩
theorem Two.put(h:Two w lo d vW vB lW lB xW xB)(s:jt d w w'):Two w' lo d vW vB lW lB xW xB:=
 ⟨h.W.dL s.c (fun _ e a=>h.dW (a▸e)) (fun _ _ b e=>b.2.1 e),h.B.dL s.c (fun _ e a=>h.dB (a▸e)) (fun _ _ b e=>b.2.1 e),h.sep,h.dW,h.dB⟩
theorem Two.add{c:Nat}(h:Two w lo d vW vB lW lB xW xB)(r:ji w c u n (wd l) (fun _ q=>m<=q) xr)(z:n<=l.length)(hl:lo<=c)(x:∀g,vW.ownBlock=some g->g<m)(f:∀g,vB.ownBlock=some g->g<m)(D:d<m)(F:lo<=m)(C:m<=w.heap.size)
 (g:w.grownBy w' vW.ownBlock)(own:w'.ownsRow lo 70 3 vW' (lW.length+n) (xW++xr))(A:vW'.ownBlock=vW.ownBlock∨vW'.ownBlock=some w.heap.size):Two w' lo d vW' vB (lW++l.take n) lB (xW++xr) xB:=by
 have o:=h.W.append (r.lower hl) g own A (fun i q _ _ a=>⟨⟨om,om,fun e=>by have:=f q e;omega⟩,fun e=>by have:=x q e;omega⟩);have p:ji w' lo vW' (lW++l.take n).length (wd (lW++l.take n)) (fun _ q=>lo<=q/\q≠d/\vB.ownBlock≠some q) (xW++xr):=by
  have t:(lW++l.take n).length=lW.length+n:=by rw[aT,jR,uA z]
  rw[t];refine o.congr (fun i E=> ?_);rw[vF];show (if i<lW.length then wd lW i else wd l (i-lW.length))=_;split
  . rfl
  . exact (eB om).symm
 have y:∀q,vW'.ownBlock=some q->vB.ownBlock≠some q:=fun q e b=>by
  rcases A with k | k
  . exact h.sep q (k.symm.trans e) b
  . rw[e] at k;simp at k;have:=f q b;omega
 have s:ji w' lo vB lB.length (wd lB) (fun _ q=>lo<=q/\q≠d/\vW'.ownBlock≠some q) xB:=by
  have B:=h.B.imp' (p':=fun _ q=>(lo<=q/\q≠d/\vW.ownBlock≠some q)/\vW'.ownBlock≠some q) (fun i q _ a j=>⟨j,fun e=>by
   rcases A with k | k
   . exact j.2.2 (k.symm.trans e)
   . rw[e] at k;simp at k;omega⟩)
  have v:=B.dL (Chg.cR g) (fun q e b=>h.sep q b e) (fun i q a b=>a.1.2.2 b);exact v.imp' (fun i q _ _ a=>⟨a.1.1,a.1.2.1,a.2⟩)
 exact⟨p,s,y,fun e=>by
  rcases A with k | k
  . exact h.dW (k.symm.trans e)
  . rw[e] at k;simp at k;omega,h.dB⟩
end
theorem ji.one{w:World}{x:ByteArray}(R:ry w (fun q=>n<=q) (.agg #[.bool f,u,U]) x)(hb:(eP x).1=f):
 ji (w.alloc (.cells #[.bool f,u,U] 70)) w.heap.size (.s w.heap.size 1 1) 1 (wd [x]) (fun _ q=>n<=q) [.bool f,u,U]:=by
 have s:=fA w (.o #[.bool f,u,U] 70);refine⟨⟨rfl,Or.inr ⟨w.heap.size,1, #[.bool f,u,U],rfl,aC _,heap_alloc_new w _,aC _,by unfold maxLen;omega,rfl,rfl⟩⟩,fun i k=> ?_⟩;have:i=0:=om;subst this;show ∃a h,_/\_/\_/\ry _ _ (.agg #[.bool (eP x).1,a,h]) x;rw[show (eP (wd [x] 0)).1=f from hb,hb];refine⟨u,U,rfl,rfl,rfl, ?_⟩;have c:=mH.imp (p':=fun q=>n<=q/\(Value.s w.heap.size 1 1).ownBlock≠some q) R (fun g j d=>⟨d,fun e=>by simp[Value.ownBlock] at e;omega⟩);exact mH.aA c s
theorem uR{P:Program}{w:World}{A:Array Oper}{h:Oper}{a:Act}{K:Act->World->Prop}{Q:Exit->Act->World->Prop}{E:Prop}(R:h.guard=none)(s x:Operand)(t:TypeId)
 (T:h.op=.call { callee:=.builtin .append,args:= #[s,x],argTypes:= #[t,t] })
 (n:Nat)(e:TypeId)(y:TypeInfo)(u:Value)(m c:Nat)(ac:P.underlying t=some (.slice e))(hi:P.info? e=some y)(hz:y.zero=some u)
 (X:y.size=m)(N:y.bytes=c)(aa:u.cells.size=m)(Y:0<m)
 (d k i:Nat)(v:List Value)(W:a.eval s=.s d i k)(U:w.ownsRow n e m (.s d i k) i v)
 (p:Addr)(j l:Nat)(f:List Value)(hx:a.eval x=.slice (some p) j l)(hl:f.length=j*m)(S:∀Z H,f[Z]?=some H->w.cell? (p.add Z)=some H)(C:∀H∈f,H.oneCell'=true)
 (I:i+j<=maxLen)(O:(i+j)*c<=140737488355328)(M:n<=w.heap.size)(o:Nat)(L:w.heap.size=o)
 (ad:∀g z q,q.ownsRow n e m (.s g (i+j) z) (i+j) (v++f)->w.grownBy q (some d)->(g=d∨g=o)->g<q.heap.size->K (a.put h.dst (.s g (i+j) z)) q):
 if Region.wanted h (yielded A a.tmps)=true then Oper.wp P h a w K Q else E:=by
 have hw:Region.wanted h (yielded A a.tmps)=true:=by simp[Region.wanted,R]
 rw[aY hw];obtain⟨v',q,V,r,F,G,b⟩:=run_append_own_at (P:=P) w n t h.type e y u m c ac hi hz X N aa Y _ i v U p j l f hl S C I O M;unfold Oper.wp execOp;simp only[T,resolve,invoke,builtin,Sem.run_bind,Sem.run_pure,tG,tN,dG,kC,W,hx,V];have D:=r;obtain⟨-,⟨B,-⟩ | ⟨g,z,ab,rfl,-⟩⟩:=D
 . have:=(G.1 B).1;simp at this
 . refine ad g z q r F ?_ (r.lt g rfl).2;rcases b with b | b
   . simp[Value.ownBlock] at b;exact Or.inl b
   . simp[Value.ownBlock] at b;exact Or.inr (b.trans L)
theorem alH{n m c d:Nat}{ls:pR}{w:World}(ce:cl w n ls)(br:aqs ls)(ec:c<=ls.length)(hK:d<=1000000):
 Calls Tryz.prog 12 #[.slice (some ⟨n,0,none⟩) ls.length m,.int .i64 (c:Int),.int .i64 (d:Int)] w fun e a=>ao5 w a (ls.drop c) d e:=by
 obtain⟨i0,T,ef,eg,eh⟩:=ai8;obtain⟨i1,cy,c6,c8,c9⟩:=pr;have sA:=fA w (.cells #[] 52);have oA:(w.alloc (.cells #[] 52)).ownsRow w.heap.size 52 4 (.slice (some ⟨w.heap.size,0,none⟩) 0 0) 0 []:=iP w #[] 0 zR (aJ _) rfl;have e4:=br.len;have HZ:=eI br;have HL:=eI ce;clear br ce;go_enter func12,ntmps12;go_wp2_with fail;go_loopw [1,8,9] (fun b9 db i wr=>∃(k p ak au:Nat) (b:List iQ) (xs:List Value) (zs:List (List Value)),k<=d/\p<=ls.length/\i=.int .i64 k/\b9=.int .i64 p/\db=.slice (some ⟨ak,0,none⟩) k au/\w.Since w.heap.size wr/\Hid (pP wr w.heap.size (.slice (some ⟨ak,0,none⟩) k au) b.length (mD b) xs zs)/\Hid (kn b (ls.drop c) (ls.drop p))/\Hid (b.length=k)) (fun _ _ i _=>d-(intOf i).toNat)
 case atStart=>exact⟨0,c,w.heap.size,0,[],[],[],aJ _,ec,rfl,rfl,rfl,sA,eI ⟨rfl,oA,fun i T=>absurd T qz⟩,eI rfl,eI rfl⟩
 case round=>
  obtain⟨k,p,ak,au,b,xs,zs,hk,hp,rfl,rfl,rfl,ar,bp,EM,X⟩:=hrel;by_cases ba:k<d
  . have ej:(k:Int)<d:=om;by_cases c3:p<ls.length;rotate_left
    . have ee:(ls.length:Int)<=p:=om;have aj:Hid (∀b:List iQ,b.length=d->¬kn b (ls.drop c) []):=eI (fun bc hl hm=>by
       obtain⟨b8,q,y⟩:=EM.out.next hm (by rw[X.out,hl];exact ba);obtain⟨_,_,_,e,_⟩:=y.ex;rw[List.drop_of_length_le om] at e;cases e)
      go_wp2;go_ret2;exact⟨ar,Or.inl ⟨_,rfl,aj.out⟩⟩
    have ee:¬(ls.length:Int)<=p:=om;have ff:(p:Int)<(ls.length:Int):=om;have HD:=eA c3;obtain⟨ad,hn⟩:∃ad,(ls[p]).1=ad:=⟨_,rfl⟩;obtain⟨ws,b6⟩:∃ws,(ls[p]).2=ws:=⟨_,rfl⟩;rw[hn,b6] at HD;have hg:ls[p]?=some (ad,ws):=(by rw[aK c3,<-hn,<-b6]);obtain⟨-,q,cq,Q,-,cw⟩:=(HL.out.aA ar) p ad ws hg;obtain⟨em,en,eo⟩:=HZ.out.at_ p ad ws hg;have HD:=eI HD;have JS:Calls Tryz.prog 11 #[.slice (some ⟨q,0,none⟩) ws.length cq,.string ⟨#[109,97,112]⟩,.int .i64 2,.int .i64 0,.int .i64 0] wr fun e a=>uJ wr (vM ws bB 2 0 0) e a:=@adD bB 2 0 0 (some ⟨q,0,none⟩) q 0 cq ws wr (fun j x z=>⟨rfl,by rw[aZ];exact cw j x z⟩) eo em en om om om om;have CW:=eI cw;have C1:=eI Q;clear hn b6 hg cw;go_wp2_with fail;refine JS.mono ?_;rintro e Y ⟨ae,rfl,ir,s1⟩;have IR:=eI ir;clear ir JS;have S1:=ar.tr s1;cases ae
    . have aj:Hid (∀b:List iQ,b.length=d->¬kn b (ls.drop c) []):=eI (fun bc hl hm=>by
       obtain⟨b8,q,y⟩:=EM.out.next hm (by rw[X.out,hl];exact ba);rw[HD.out] at y;obtain⟨N,O,e,j1,j2,_⟩:=y.head;have:=IR.out.2 (adx.2 ⟨N,O,e,j1,j2⟩);simp at this)
      clear IR;go_wp2;go_ret2;exact⟨S1,Or.inl ⟨_,rfl,aj.out⟩⟩
    obtain⟨N,O,rfl,j1,j2⟩:=adx.1 (IR.out.1 qz);have hR:=mF j1;have hC:=mF j2;obtain⟨R,eR⟩:∃R,dv N N.size=R:=⟨_,rfl⟩;obtain⟨C,eC⟩:∃C,dv O O.size=C:=⟨_,rfl⟩;have JR:∀a,Calls Tryz.prog 13 #[.string N] a fun e ca=>e=.returned (.int .i64 R)/\a.Since a.heap.size ca:=fun a=>by rw[<-eR];exact @eF N a j1
    have JC:∀a,Calls Tryz.prog 13 #[.string O] a fun e ca=>e=.returned (.int .i64 C)/\a.Since a.heap.size ca:=fun a=>by rw[<-eC];exact @eF O a j2
    rw[eR] at hR;rw[eC] at hC;have ER:=eI eR;have EC:=eI eC;have I1:=eI j1;have I2:=eI j2;clear eR eC j1 j2 IR Q;obtain⟨Q,k1,k2⟩:Y.cell? ⟨n,p*2+1,none⟩=some (.slice (some ⟨q,0,none⟩) 3 cq)/\Y.cell? ⟨q,1,none⟩=some (.string N)/\Y.cell? ⟨q,2,none⟩=some (.string O):=(by have L1:=(HL.out.aA ar).aA s1;have hg:ls[p]?=some (ad,[bB,N,O]):=(by have:=congrArg (fun aq=>aq[0]?) HD.out;simpa using this);obtain⟨-,q',ao,bs,-,aw⟩:=L1 p ad _ hg;have:=(s1.cell (a:=⟨n,p*2+1,none⟩) (aG _ _ C1.out)).trans C1.out;rw[this] at bs;simp only[Option.some.injEq,Value.slice.injEq,Addr.mk.injEq,fI,fM] at bs;obtain⟨rfl,rfl⟩:=bs;exact⟨this,aw 1 N rfl,aw 2 O rfl⟩);have KC:Hid (∀a,Y.Since Y.heap.size a->a.cell? ⟨n,p*2+1,none⟩=some (.slice (some ⟨q,0,none⟩) 3 cq)/\a.cell? ⟨q,1,none⟩=some (.string N)/\a.cell? ⟨q,2,none⟩=some (.string O)):=eI (fun a a4=>⟨(a4.cell (a:=⟨n,p*2+1,none⟩) (aG _ _ Q)).trans Q,(a4.cell (a:=⟨q,1,none⟩) (aG _ _ k1)).trans k1,(a4.cell (a:=⟨q,2,none⟩) (aG _ _ k2)).trans k2⟩);go_upto_region 7 with fail;go_cut [10] (fun b9 v=>∃f:Nat,b9=.pointer (some ⟨f,0,none⟩)/\∃(b1 b2:Nat),Hid (ie v f (.int .i64 R) (.int .i64 C) (.slice (some ⟨b1,0,none⟩) 0 0) (.slice (some ⟨b2,0,none⟩) 0 0))/\Y.Since Y.heap.size v/\Y.heap.size<=f/\Hid (uL v Y.heap.size f (.slice (some ⟨b1,0,none⟩) 0 0) (.slice (some ⟨b2,0,none⟩) 0 0) C [] [] []))
    case first=>
     have KD:=KC.out Y.drew (yD.drew);refine wp_region_held_drew (S:=fun a=>a.cell? ⟨n,p*2+1,none⟩=some (.slice (some ⟨q,0,none⟩) 3 cq)/\a.cell? ⟨q,1,none⟩=some (.string N)/\a.cell? ⟨q,2,none⟩=some (.string O)) kr KD (fun e3=> ?_);refine tk 0 33 ((.slice (some ⟨n,0,none⟩) ls.length m)) ?_;simp only[ap,la,lz,dI];refine tk 1 34 ((.int .i64 p)) ?_;simp only[ap,la,lz,dI];refine ta 2 35 (.pointer (some ⟨n,p*2,none⟩)) ?_ ?_
     . intro a r;try dsimp only at r
       go_simp
     simp only[ap,la,lz,dI];refine ta 3 36 (.pointer (some ⟨n,p*2+1,none⟩)) ?_ ?_
     . intro a r;try dsimp only at r
       go_simp
     simp only[ap,la,lz,dI];refine ta 4 37 (.slice (some ⟨q,0,none⟩) 3 cq) ?_ ?_
     . intro a r;try dsimp only at r
       go_simp
     simp only[ap,la,lz,dI];refine ta 5 38 (.pointer (some ⟨q,1,none⟩)) ?_ ?_
     . intro a r;try dsimp only at r
       go_simp
     simp only[ap,la,lz,dI];refine ta 6 39 (.string N) ?_ ?_
     . intro a r;try dsimp only at r
       go_simp
     simp only[ap,la,lz,dI];refine tk 8 41 ((.slice (some ⟨n,0,none⟩) ls.length m)) ?_;simp only[ap,la,lz,dI];refine tk 9 42 ((.int .i64 p)) ?_;simp only[ap,la,lz,dI];refine ta 10 43 (.pointer (some ⟨n,p*2,none⟩)) ?_ ?_
     . intro a r;try dsimp only at r
       go_simp
     simp only[ap,la,lz,dI];refine ta 11 44 (.pointer (some ⟨n,p*2+1,none⟩)) ?_ ?_
     . intro a r;try dsimp only at r
       go_simp
     simp only[ap,la,lz,dI];refine ta 12 45 (.slice (some ⟨q,0,none⟩) 3 cq) ?_ ?_
     . intro a r;try dsimp only at r
       go_simp
     simp only[ap,la,lz,dI];refine ta 13 46 (.pointer (some ⟨q,2,none⟩)) ?_ ?_
     . intro a r;try dsimp only at r
       go_simp
     simp only[ap,la,lz,dI];refine ta 14 47 (.string O) ?_ ?_
     . intro a r;try dsimp only at r
       go_simp
     simp only[ap,la,lz,dI];have dr:=uB Y
     refine ab4 (fun a9 aq ac v=>∃F D A B L t U aa af ag ah ai ab,aq= #[true,true,true,true,true,true,true,F,true,true,true,true,true,true,true,D,A,B,L,t,U]/\a9=bM F D A B L t U/\ok7 F D A B L t U=true/\
      ac={ tmps:= #[(.slice (some ⟨n,0,none⟩) ls.length m),(.int .i64 p),.int .i64 d,undef,undef,undef,u6,u7,.slice (some ⟨ak,0,none⟩) k au,.int .i64 k,aa,u11,u12,.slice (some ⟨w.heap.size,0,none⟩) 0 0,.int .i64 k,.int .i64 d,.bool true,u17,u18,(.int .i64 p),(.slice (some ⟨n,0,none⟩) ls.length m),.int .i64 (ls.length:Int),.bool false,.bool false,(.slice (some ⟨n,0,none⟩) ls.length m),(.int .i64 p),.pointer (some ⟨n,p*2,none⟩),.pointer (some ⟨n,p*2+1,none⟩),.slice (some ⟨q,0,none⟩) 3 cq,.bool true,.bool false,.bool false,u32,(.slice (some ⟨n,0,none⟩) ls.length m),(.int .i64 p),.pointer (some ⟨n,p*2,none⟩),.pointer (some ⟨n,p*2+1,none⟩),.slice (some ⟨q,0,none⟩) 3 cq,.pointer (some ⟨q,1,none⟩),.string N,af,(.slice (some ⟨n,0,none⟩) ls.length m),(.int .i64 p),.pointer (some ⟨n,p*2,none⟩),.pointer (some ⟨n,p*2+1,none⟩),.slice (some ⟨q,0,none⟩) 3 cq,.pointer (some ⟨q,2,none⟩),.string O,ag,ah,ai,ab,u52,u53,u54,u55,u56,u57,u58,u59,u60,u61,u62,u63,u64,u65,u66,u67,u68,u69,u70,u71,u72,u73,u74,u75,u76,u77,u78,u79,u80,u81,u82,u83,u84,u85,u86,u87,u88,u89,u90,u91,u92,u93,u94,u95,u96,u97,u98,u99,u100,u101,u102,u103,u104,u105,u106,u107,u108,undef,undef,undef,undef,undef],defers:=[] }/\
      J7 Y.drew R C F D A B L t U aa af ag ah ai ab v) ?_ ?_ ?_ ?_ _ _ _ _ ⟨_,_,_,_,_,_,_,_,_,_,_,_,_,rfl,rfl,rfl,rfl,J7.start _ _ _ _ _ _ _ _ _⟩
     . rintro a9 aq ac v ⟨F,D,A,B,L,t,U,aa,af,ag,ah,ai,ab,-,-,-,-,j⟩;exact KC.out v (dr.trans (sM j.S dr.size))
     . rintro a9 aq ac v ⟨F,D,A,B,L,t,U,aa,af,ag,ah,ai,ab,rfl,I,hk,rfl,j⟩ i T;have K:bA F D A B L t U i=true:=by
        revert i;refine tO.1 ?_;revert hk;clear I j;revert F D A B L t U;exact iD kr
       clear T;have d5:=amS K;rcases d5 with rfl | rfl | rfl | rfl | rfl | rfl | rfl
       . simp[bA] at K;obtain⟨⟨⟨rfl,rfl⟩,rfl⟩,rfl⟩:=K;refine⟨_,rfl,fun K' S=> ?_⟩;go_simp;refine mo (JR v) fun a s'=> ?_;refine S _ _ ⟨true,false,A,B,false,t,false,aa,_,ag,ah,ai,ab,rfl, ?_, ?_,rfl,{ j.grow s' with h7:=fun _=>rfl }⟩
         . simp[bM] at I⊢;omega
         . rfl
       . simp[bA] at K;obtain⟨⟨⟨rfl,rfl⟩,rfl⟩,rfl⟩:=K;refine⟨_,rfl,fun K' S=> ?_⟩;go_simp;refine mo (JC v) fun a s'=> ?_;refine S _ _ ⟨true,true,A,B,false,t,false,aa,af,_,ah,ai,ab,rfl, ?_, ?_,rfl,{ j.grow s' with h15:=fun _=>rfl }⟩
         . simp[bM] at I⊢;omega
         . rfl
       . simp[bA] at K;obtain⟨⟨rfl,rfl⟩,rfl⟩:=K;refine⟨_,rfl,fun K' S=> ?_⟩;go_simp;refine S _ _ ⟨F,D,true,B,false,t,false,aa,af,ag,_,ai,ab,rfl, ?_, ?_,rfl,j.op16⟩
         . simp[bM] at I⊢;omega
         . simpa [ok7] using hk
       . simp[bA] at K;obtain⟨⟨rfl,rfl⟩,rfl⟩:=K;refine⟨_,rfl,fun K' S=> ?_⟩;go_simp;refine S _ _ ⟨F,D,A,true,false,t,false,aa,af,ag,ah,_,ab,rfl, ?_, ?_,rfl,j.op17⟩
         . simp[bM] at I⊢;omega
         . simpa [ok7] using hk
       . simp[bA] at K;obtain⟨⟨⟨⟨⟨rfl,rfl⟩,rfl⟩,rfl⟩,rfl⟩,rfl⟩:=K;have dy:=j.h7 rfl;have dz:=j.h15 rfl;obtain⟨b1,ay,-⟩:=j.h16 rfl;obtain⟨b2,az,-⟩:=j.h17 rfl;subst dy dz ay az;refine⟨_,rfl,fun K' S=> ?_⟩;go_simp;refine S _ _ ⟨true,true,true,true,true,t,false,aa,_,_,_,_,_,rfl, ?_, ?_,rfl,{ j with h18:=fun _=>rfl }⟩
         . simp[bM] at I⊢;omega
         . rfl
       . simp[bA] at K;obtain⟨rfl,rfl⟩:=K;refine⟨_,rfl,fun K' S=> ?_⟩;go_simp;refine S _ _ ⟨F,D,A,B,L,true,false,_,af,ag,ah,ai,ab,rfl, ?_, ?_,rfl,j.op19⟩
         . simp[bM] at I⊢;omega
         . simpa [ok7] using hk
       . simp[bA] at K;obtain⟨⟨⟨⟨⟨⟨rfl,rfl⟩,rfl⟩,rfl⟩,rfl⟩,rfl⟩,rfl⟩:=K;obtain⟨f,ax,-,-,bx,-⟩:=j.h19 rfl;have d0:=j.h18 rfl;obtain⟨b1,ay,-⟩:=j.h16 rfl;obtain⟨b2,az,-⟩:=j.h17 rfl;subst ax d0 ay az;have bx:=bx rfl;have m0:=bx.c0;have f0:=bx.f 0;have m1:=bx.c1;have f1:=bx.f 1;have m2:=bx.c2;have f2:=bx.f 2;have m3:=bx.c3;have f3:=bx.f 3;refine⟨_,rfl,fun K' S=> ?_⟩;go_simp;refine S _ _ ⟨true,true,true,true,true,true,true,_,_,_,_,_,_,rfl, ?_, ?_,rfl,j.op20 rfl rfl rfl rfl⟩
         . simp[bM] at I⊢;exact I
         . rfl
     . rintro aq ac v ⟨F,D,A,B,L,t,U,aa,af,ag,ah,ai,ab,rfl,I,hk,rfl,j⟩;revert I;clear hk j;revert F D A B L t U;exact iD kr
     . rintro a9 aq ac v ⟨F,D,A,B,L,t,U,aa,af,ag,ah,ai,ab,rfl,I,hk,rfl,j⟩ K;have cu:(F&&(D&&(A&&(B&&(L&&(t&&U))))))=true:=by
        revert K;clear I j;revert hk;revert F D A B L t U;exact iD kr
       simp only[fT] at cu;obtain⟨rfl,rfl,rfl,rfl,rfl,rfl,rfl⟩:=cu;obtain⟨f,ax,hd,a0,-,bx⟩:=j.h19 rfl;obtain⟨b1,ay,e5,o1⟩:=j.h16 rfl;obtain⟨b2,az,e6,o2⟩:=j.h17 rfl;have N1:=j.n1 rfl rfl;have N2:=j.n2 rfl rfl f ax;have N3:=j.n3 rfl rfl f ax;subst ax ay az;have P:=eI (bx rfl);have AF:Hid (uL v Y.heap.size f (.slice (some ⟨b1,0,none⟩) 0 0) (.slice (some ⟨b2,0,none⟩) 0 0) C [] [] []):=eI ⟨⟨o1,fun i T=>absurd T (by simp[WL])⟩,⟨o2,fun i T=>absurd T (by simp[BL])⟩,fun ak e e'=>by
        simp[Value.ownBlock] at e e';subst e;exact N1 (by rw[e']),fun e=>by
        simp[Value.ownBlock] at e;exact N2 (by rw[e]),fun e=>by
        simp[Value.ownBlock] at e;exact N3 (by rw[e])⟩
       have SX:=dr.trans (sM j.S dr.size);have d3:Y.heap.size<=f:=hd;clear j o1 o2 bx K I hk;dsimp only;go_wp2_with fail;go_meet
       case rel=>exact⟨f,rfl,b1,b2,P,SX,d3,AF⟩
    case rest=>
     obtain⟨f,rfl,b1,b2,P,SX,hd,AF⟩:=hcut;have O1:=eI (bp.out.aA s1);clear KC Q k1 k2 bp C1 CW JR JC;obtain⟨u,bz⟩:∃u,Y.heap.size=u:=⟨_,rfl⟩;rw[bz] at SX hd AF;have a5:=eI bz;have fk:w.heap.size<=u:=(by have:=S1.size;omega);clear bz;have T0:=eI AF.out.two;have c0:=P.out.c0;have a0:f<wc.heap.size:=P.out.lt;by_cases fg:ls.length<=p+R
     . have hz:(ls.length:Int)<=p+(R:Int):=om;have aj:Hid (∀b:List iQ,b.length=d->¬kn b (ls.drop c) []):=eI (fun bc hl hm=>by
        obtain⟨b8,q,y⟩:=EM.out.next hm (by rw[X.out,hl];exact ba);rw[HD.out] at y;have Z:=y.short;rw[ER.out,List.length_drop] at Z;omega)
       have SW:=S1.tr (by rw[a5.out];exact SX);go_wp2;go_ret2;exact⟨SW,Or.inl ⟨_,rfl,aj.out⟩⟩
     have hz:¬(ls.length:Int)<=p+(R:Int):=om;go_wp2_with fail;clear c0;go_loopw [11] (fun i wr=>∃(j H l cW o W:Nat) (g:pR) (xW xB:List Value),j<=R/\i=.int .i64 ((j:Int)+1)/\Y.Since u wr/\f<wr.heap.size/\Hid (ie wr f (.int .i64 R) (.int .i64 C) (.slice (some ⟨H,0,none⟩) l cW) (.slice (some ⟨o,0,none⟩) j W))/\Hid (Two wr u f (.slice (some ⟨H,0,none⟩) l cW) (.slice (some ⟨o,0,none⟩) j W) (WL C g) (BL C g) xW xB)/\Hid (ls.drop (p+1)=g++ls.drop (p+(j+1)))/\Hid (g.length=j)/\Hid (∀ae∈g,mQ C ae.2)/\Hid ((WL C g).length=l)) (fun i _=>R+1-(intOf i).toNat)
     case atStart=>exact⟨0,b1,0,0,b2,0,[],[],[],aJ _,by go_num,SX,a0,P,T0,eI rfl,eI rfl,eI (fun ae K=>by simp at K),eI rfl⟩
     case round=>
      clear SX a0 P T0 AF;obtain⟨j,H,l,cW,o,W,g,xW,xB,hj,rfl,SX,a0,P,TW,EL,HJ,bo,a6⟩:=hrel;have ck:Y.Since Y.heap.size wr:=(by rw[a5.out];exact SX);have SW:=S1.tr ck;have b0:=P.out.c0;have al:=P.out.c1;by_cases d6:j<R
      . have ei:(j:Int)+1<=(R:Int):=om;obtain⟨E,hE⟩:∃E,E=p+(j+1):=⟨_,rfl⟩;have ct:E<ls.length:=om;have bm:=eA ct;obtain⟨c1,b3⟩:∃ad,(ls[E]).1=ad:=⟨_,rfl⟩;obtain⟨h,b7⟩:∃ws,(ls[E]).2=ws:=⟨_,rfl⟩;rw[b3,b7] at bm;have hg:ls[E]?=some (c1,h):=(by rw[aK ct,<-b3,<-b7]);obtain⟨-,q',ao,bw,e7,bu⟩:=HL.out E c1 h hg;have e1:=(SW.cell (a:=⟨n,E*2+1,none⟩) (aG _ _ bw)).trans bw;have bj:Hid (∀a,w.Since w.heap.size a->∀(jj:Nat) (x:ByteArray),h[jj]?=some x->a.cell? ⟨q',jj,none⟩=some (.string x)):=eI (fun a a4 jj x z=>(a4.cell (a:=⟨q',jj,none⟩) (aG _ _ (bu jj x z))).trans (bu jj x z));have aw:=bj.out wr SW;obtain⟨fm,dc,cb⟩:=HZ.out.at_ E c1 h hg;have cd:Hid (ls.drop (p+1)=g++(c1,h)::ls.drop (E+1)):=eI (by rw[EL.out,<-hE,bm]);have HE:Hid (p+(j+1+1)=E+1):=eI om;have qE:IntKind.i64.wrap ((p:Int)+((j:Int)+1))=(E:Int):=(by rw[tR];omega);have e2:(E:Int)<(ls.length:Int):=om;have e0:(0:Int)<=E:=om;have fh:h.length<=100001:=dc;have LX:=eI ((aG _ _ e1:n<wr.heap.size));have JR:=@an1 C (some ⟨q',0,none⟩) q' 0 ao h wr (fun jj x z=>⟨rfl,by rw[aZ];exact aw jj x z⟩) cb dc;have cn:=eI cb;clear b3 b7 hg bm hE aw cb bu bw;go_wp2_with fail;refine JR.mono ?_;rintro e M ⟨ae,rfl,ir,s3⟩;have IR:=eI ir;clear ir JR e1;have S3:=SW.tr s3;cases ae
        . have aj:Hid (∀b:List iQ,b.length=d->¬kn b (ls.drop c) []):=eI (fun bc hl hm=>by
           obtain⟨b8,q,y⟩:=EM.out.next hm (by rw[X.out,hl];exact ba);rw[HD.out] at y;have Z:=y.row cd.out (by rw[HJ.out,ER.out];exact d6);rw[EC.out] at Z;have:=IR.out.2 Z;simp at this)
          clear IR;go_wp2;go_ret2;exact⟨S3,Or.inl ⟨_,rfl,aj.out⟩⟩
        have b5:=IR.out.1 qz;have cz:h.length=C+1:=b5.1;have dn:=eI b5;clear IR b5;have av:=P.out.aA s3;have T3:=TW.out.aA s3;clear b0 al;have al:=av.c1;have a7:=av.c2;have dr:=uB M;have fi:M.drew.heap.size=M.heap.size:=rfl;have JN:Calls Tryz.prog 38 #[.slice (some ⟨q',0,none⟩) C ao] M.drew fun e a=>∃(g4 c4:Nat) (x4:List Value),e=.returned (.slice (some ⟨g4,0,none⟩) C c4)/\ji a M.heap.size (.slice (some ⟨g4,0,none⟩) C c4) C (wd h) (fun _ q=>M.heap.size<=q) x4/\M.Since M.heap.size a:=by
         have h1:=@alI (some ⟨q',0,none⟩) q' 0 ao (h.take C) M.drew (fun jj x z=>⟨rfl,by
          rw[aZ];rw[List.getElem?_take] at z;split at z
          . exact bj.out M.drew (S3.tr dr) jj x z
          . cases z⟩) (fun x z=>cn.out x (List.mem_of_mem_take z)) (by rw[jR];omega)
         have h3:(h.take C).length=C:=(by rw[jR];omega);rw[h3] at h1;refine h1.mono ?_;rintro e a ⟨g4,c4,x4,he,O4,s4⟩;rw[h3] at he O4;exact⟨g4,c4,x4,he,O4.congr (fun i T=>eB T),dr.tr s4⟩
        have ey:C<=ao:=om;have ez:(C:Int)<=ao:=om;have ex:¬((ao:Int)<C):=om;have d1:C<=100001:=om;have fd:l<=100001*100001:=(by have Z:=eX bo.out;rw[a6.out,HJ.out] at Z;rw[Z];exact dF om d1);have eu:u<=H/\H<wr.heap.size:=TW.out.W.own.lt H rfl;have es:u<=o/\o<wr.heap.size:=TW.out.B.own.lt o rfl;have d8:H≠f:=fun e=>TW.out.dW (by rw[e];rfl);have d9:o≠f:=fun e=>TW.out.dB (by rw[e];rfl);have z3:=s3.size;have f2:=av.f 2;have bn:=eI cz;clear cz;go_upto_region 16 with fail;go_cut [] (fun v=>∃(G V:Nat) (x5:List Value),Hid (ie v f (.int .i64 R) (.int .i64 C) (.slice (some ⟨G,0,none⟩) (l+C) V) (.slice (some ⟨o,0,none⟩) j W))/\Hid (Two v u f (.slice (some ⟨G,0,none⟩) (l+C) V) (.slice (some ⟨o,0,none⟩) j W) (WL C g++h.take C) (BL C g) (xW++x5) xB)/\Y.Since u v/\M.heap.size<=v.heap.size)
        case first=>
         have co:M.drew.cell? ⟨f,1,none⟩=some (.int .i64 C):=al;have eq:M.drew.cell? ⟨f,2,none⟩=some (.slice (some ⟨H,0,none⟩) l cW):=a7
         go_region_law
          (first
            | (refine uR (by rfl) _ _ 50 (by rfl) u 70 i1 _ 3 56 underlying50 cy c6 c8 c9 (by rfl) qd H cW l xW (by rfl) cj.out ⟨g4,0,none⟩ C c4 x4 (by rfl) d7 cf.out ch.out (by unfold maxLen;omega) om om w4.heap.size (by rfl) ?_
               intro G V w5 a3 s am fb;have bf:=cc.dL (Chg.cR s) (fun e=>d8 (by simpa using e));have p5:=bf.c2;have f5:=bf.f 2)
            | (go_simp
               go_at_call 38;with_reducible refine JN.mono ?_
               rintro e w4 ⟨g4,c4,x4,rfl,O4,s4⟩;have cc:=av.aA s4;have p4:=cc.c2;have d7:x4.length=C*3:=O4.own.1;have cf:=eI (@World.ownsRow.cells _ _ _ _ _ _ _ O4.own (g:=g4) rfl);have ch:=eI O4.oneCell;have cj:Hid (w4.ownsRow u 70 3 (.slice (some ⟨H,0,none⟩) l cW) l xW):=eI (by have:=(T3.aA s4).W.own;rw[a6.out] at this;exact this);have cg:=eI O4;have z4:=s4.size;clear O4))
         all_goals
          have T5:=(T3.aA s4).add cg.out (by rw[bn.out];omega) om (fun q e=>by simp[Value.ownBlock] at e;omega) (fun q e=>by simp[Value.ownBlock] at e;omega) om om z4 (w':=w5) (vW':=.slice (some ⟨G,0,none⟩) (l+C) V) s (by rw[a6.out];exact a3) (by
           rcases am with Z | Z
           . left;rw[Z];rfl
           . right;rw[Z];rfl)
          have BS:jt f w5 (w5.setCell ⟨f,2,none⟩ (.slice (some ⟨G,0,none⟩) (l+C) V)):=(jt.refl f w5).set 2 _;have T6:=eI (T5.put BS);have an:=eI (bf.bF (.slice (some ⟨G,0,none⟩) (l+C) V));have z5:=s.size;have z6:=BS.size;have S6:Y.Since u (w5.setCell ⟨f,2,none⟩ (.slice (some ⟨G,0,none⟩) (l+C) V)):=zY (((SX.trans (sM s3 om)).trans (sM s4 om)).grown s om (fun q y=>by simp at y;omega)) hd;have ek:M.heap.size<=(w5.setCell ⟨f,2,none⟩ (.slice (some ⟨G,0,none⟩) (l+C) V)).heap.size:=om;clear T5 BS a3 s am cg cf ch cj;go_wp2_with fail;go_meet
          case rel=>exact⟨G,V,x4,an,T6,S6,ek⟩
        case rest=>
        obtain⟨G,V,x5,an,T6,cm,fj⟩:=hcut;clear JN al a7 f2 av T3 P TW;have ds:Y.Since Y.heap.size wc:=(by rw[a5.out];exact cm);have dq:=S1.tr ds;have cr:C<h.length:=(by rw[bn.out];omega);have da:(wd h C).size<=100000:=cn.out _ (xm cr);have cx:=bj.out wc dq C _ (cA cr);have JM:=@ai1 (wd h C) wc.drew da;obtain⟨x,z⟩:∃x,wd h C=x:=⟨_,rfl⟩;rw[z] at cx da JM;have HX:=eI z;have ew:(C:Int)<(h.length:Int):=om;have ev:(0:Int)<=C:=om;have al:=an.out.c1;have a8:=an.out.c3;have f3:=an.out.f 3;have er:u<=G/\G<wc.heap.size:=T6.out.W.own.lt G rfl;have et:u<=o/\o<wc.heap.size:=T6.out.B.own.lt o rfl;clear z;go_wp2_with fail;have dx:=uB wc;have co:wc.drew.cell? ⟨f,1,none⟩=some (.int .i64 C):=al;have du:wc.drew.cell? ⟨f,3,none⟩=some (.slice (some ⟨o,0,none⟩) j W):=a8;have dw:wc.drew.cell? ⟨q',C,none⟩=some (.string x):=cx
        go_region_law
         (first
           | (refine uR (by rfl) _ _ 50 (by rfl) u 70 i1 _ 3 56 underlying50 cy c6 c8 c9 (by rfl) qd o W j xB (by rfl) ci.out ⟨w7.heap.size,0,none⟩ 1 1 [.bool nb,.slice a1 q1 Q,.slice a2 q2 c2] (by rfl) (by rfl) (bW _ _ _ _ _) (bV _ _ _ _ _ _ _) (by unfold maxLen;omega) om (by simp;omega) (w7.heap.size+1) qz ?_
              intro g7 c7 w8 a3 s am fc;have bi:=(bh.aA sW).dL (Chg.cR s) (fun e=>d9 (by simpa using e));have p8:=bi.c3;have f8:=bi.f 3)
           | (go_simp
              go_at_call 39;with_reducible refine JM.mono ?_
              rintro e w7 ⟨db,rfl,RV,s7⟩;have W7:=RV;obtain⟨v1,v2,g1,g2,rfl,N1,N2,-,-,-⟩:=RV;obtain⟨a1,q1,Q,Y1,rfl,-⟩:=N1;obtain⟨a2,q2,c2,Y2,rfl,-⟩:=N2;obtain⟨nb,bb⟩:∃dt,(eP x).1=dt:=⟨_,rfl⟩;have W7:Hid (ry w7 (fun q=>wc.heap.size<=q) (.agg #[.bool nb,.slice a1 q1 Q,.slice a2 q2 c2]) x):=eI (by rw[<-bb];exact W7);rw[bb];have dk:=eI bb;have u7:=dx.tr s7;have sW:=fA w7 (.cells #[.bool nb,.slice a1 q1 Q,.slice a2 q2 c2] 70);have bh:=an.out.aA u7;have p7:=bh.c3;have fl:=(bh.aA sW).c3;have ci:Hid ((w7.alloc (.cells #[.bool nb,.slice a1 q1 Q,.slice a2 q2 c2] 70)).ownsRow u 70 3 (.slice (some ⟨o,0,none⟩) j W) j xB):=eI (by have:=((T6.out.aA u7).aA sW).B.own;rw[dA,HJ.out] at this;exact this);have z7:=u7.size;clear bb s7))
        all_goals
         have zW:(w7.alloc (.cells #[.bool nb,.slice a1 q1 Q,.slice a2 q2 c2] 70)).heap.size=w7.heap.size+1:=by simp
         have T8:=(((T6.out.aA u7).aA sW).swap.add (ji.one W7.out dk.out) zR om (fun q e=>by simp[Value.ownBlock] at e;omega) (fun q e=>by simp[Value.ownBlock] at e;omega) om om om (w':=w8) (vW':=.slice (some ⟨g7,0,none⟩) (j+1) c7) s (by rw[dA,HJ.out];exact a3) (by
          rcases am with Z | Z
          . left;rw[Z];rfl
          . right;rw[Z,zW];rfl)).swap
         have BS:jt f w8 (w8.setCell ⟨f,3,none⟩ (.slice (some ⟨g7,0,none⟩) (j+1) c7)):=(jt.refl f w8).set 3 _
         have T9:Hid (Two (w8.setCell ⟨f,3,none⟩ (.slice (some ⟨g7,0,none⟩) (j+1) c7)) u f (.slice (some ⟨G,0,none⟩) (l+C) V) (.slice (some ⟨g7,0,none⟩) (j+1) c7) (WL C (g++[(c1,h)])) (BL C (g++[(c1,h)])) (xW++x5) (xB++[.bool nb,.slice a1 q1 Q,.slice a2 q2 c2])):=eI (by
          have Z:=T8.put BS;rw[cI,eG];show Two _ _ _ _ _ _ (BL C g++[wd h C]) _ _;rw[HX.out];exact Z)
         have dd:=eI (bi.bX (.slice (some ⟨g7,0,none⟩) (j+1) c7));have z8:=s.size;have z9:=BS.size;have S9:Y.Since u (w8.setCell ⟨f,3,none⟩ (.slice (some ⟨g7,0,none⟩) (j+1) c7)):=zY (((cm.trans (sM u7 om)).trans (sM sW om)).grown s om (fun q y=>by simp at y;omega)) hd;have el:f<(w8.setCell ⟨f,3,none⟩ (.slice (some ⟨g7,0,none⟩) (j+1) c7)).heap.size:=om;clear T8 BS a3 s am W7 ci JM al a8 co du dw f3 cx an T6;have dg:Hid ((g++[(c1,h)]).length=j+1):=eI (by simp;exact HJ.out);have dp:Hid (∀ae∈g++[(c1,h)],mQ C ae.2):=eI (fun ae K=>by
          rcases iX.1 K with K | K
          . exact bo.out ae K
          . simp at K;subst K;exact dn.out)
         have de:Hid (ls.drop (p+1)=(g++[(c1,h)])++ls.drop (p+(j+1+1))):=eI (by rw[cd.out,HE.out];simp);have dj:Hid ((WL C (g++[(c1,h)])).length=l+C):=eI (by rw[cI,aT,a6.out,jR,uA (by show C<=h.length;rw[bn.out];omega)]);go_wp2;go_roundw
         case rel=>exact⟨j+1,G,l+C,V,g7,c7,g++[(c1,h)],_,_,om,by go_num,S9,el,dd,T9,de,dg,dp,dj⟩
         case measure=>exact yI
      . have e:j=R:=om;subst e;have ei:¬((j:Int)+1<=(j:Int)):=om;have a7:=P.out.c2;have a8:=P.out.c3;have OO:=O1.out.aA ck;have fa:b.length<=1000000:=(by rw[X.out];omega);have df:=eI TW.out.aff.x;have z9:=SX.size;have lg:=OO.own.lt ak rfl;have bq:wr.ownsRow w.heap.size 52 4 (.slice (some ⟨ak,0,none⟩) k au) k xs:=(by have:=OO.own;rw[X.out] at this;exact this);have d4:=(O1.out.own.lt ak rfl).2;rw[a5.out] at d4;go_wp2_with (at_builtin;refine wpList_append_own_at _ rfl _ _ 23 rfl w.heap.size 52 i0 _ 4 64 underlying23 T ef eg eh rfl qd _ k xs rfl (bq.alloc _) ⟨wr.heap.size,0,none⟩ 1 1 [.int .i64 j,.int .i64 C,.slice (some ⟨H,0,none⟩) l cW,.slice (some ⟨o,0,none⟩) j W] rfl rfl (apV _ _ _ _ _ _) (apP _ _ _ _ _ _ _ _) (by unfold maxLen;omega) om (by simp;omega) ?_);intro v' w5 b4 s ea am;replace s:(wr.alloc (.cells #[.int .i64 j,.int .i64 C,.slice (some ⟨H,0,none⟩) l cW,.slice (some ⟨o,0,none⟩) j W] 52)).grownBy w5 (Value.slice (some ⟨ak,0,none⟩) k au).ownBlock:=s;obtain⟨g',cp,rfl,e8,e9⟩:=b4.form om;have sW:=fA wr (.cells #[.int .i64 j,.int .i64 C,.slice (some ⟨H,0,none⟩) l cW,.slice (some ⟨o,0,none⟩) j W] 52);have zW:(wr.alloc (.cells #[.int .i64 j,.int .i64 C,.slice (some ⟨H,0,none⟩) l cW,.slice (some ⟨o,0,none⟩) j W] 52)).heap.size=wr.heap.size+1:=(by simp);have z5:=s.size;have S5:=(SW.tr sW).grown s om (fun q y=>(bq.lt q y).1)
        have di:Hid (kn (b++[⟨j,C,g⟩]) (ls.drop c) (ls.drop (p+1+j))):=eI (EM.out.snoc (m:=⟨j,C,g⟩) (by
         rw[HD.out];refine⟨⟨ad,N,O, ?_,I1.out,I2.out,ER.out,EC.out⟩,HJ.out,bo.out⟩;rw[EL.out,show p+(j+1)=p+1+j by omega]))
        have dh:Hid ((b++[(⟨j,C,g⟩:iQ)]).length=k+1):=eI (by simp;exact X.out)
        have O5:=(OO.congr (D':=mD (b++[⟨j,C,g⟩])) (fun i T=>(eD T).symm)).snoc sW om s (by rw[vc,X.out];exact b4) (by rw[zW];exact am) (xW:=xW) (xB:=xB) (by
         rw[vc];exact df.out.imp (fun q y hp=>⟨om,fun e=>by simp[Value.ownBlock] at e;omega⟩))
        have dl:Hid (pP w5 w.heap.size (.slice (some ⟨g',0,none⟩) (k+1) cp) (b++[(⟨j,C,g⟩:iQ)]).length (mD (b++[⟨j,C,g⟩])) _ _):=eI (by rw[show (b++[(⟨j,C,g⟩:iQ)]).length=b.length+1 by simp];exact O5);have kd:w5.heap[f]?=wr.heap[f]?:=(s.block f om (by simp[Value.ownBlock];omega)).trans (sW.block f a0);have ep:w5.cell? ⟨f,0,none⟩=some (.int .i64 j):=(aO (a:=⟨f,0,none⟩) kd).trans b0;clear ea am b4 s O5 OO bq b0 al a7 a8 kd;go_wp2;go_roundw
        case rel=>exact⟨k+1,p+1+j,g',cp,b++[⟨j,C,g⟩],_,_,om,om,by go_num,by go_num,rfl,S5,dl,di,dh⟩
        case measure=>exact yI
  . have e:k=d:=om;subst e;have ej:¬((k:Int)<k):=om;by_cases ed:p=ls.length
    . subst ed;have d2:(((ls.length:Nat):Int)==((ls.length:Nat):Int))=true:=(by simp);go_wp2;go_ret2;exact⟨ar,Or.inr ⟨b,_,xs,zs,rfl,X.out,by have:=EM.out;rw[List.drop_length] at this;exact this,by have:=bp.out;rw[<-X.out] at this⊢;exact this⟩⟩
    . have d2:((p:Int)==((ls.length:Nat):Int))=false:=(by simp;omega);have fe:¬((p:Int)=((ls.length:Nat):Int)):=om;have aj:Hid (∀b:List iQ,b.length=k->¬kn b (ls.drop c) []):=eI (fun bc hl hm=>by
       have:=(EM.out.only hm (by rw[X.out,hl])).2;have Z:=congrArg List.length this;rw[List.length_drop] at Z;simp at Z;omega)
      go_wp2;go_ret2;exact⟨ar,Or.inl ⟨_,rfl,aj.out⟩⟩
theorem ki{d:Func}{p q:Tmp}(h:d.results= #[.cell p 25,.tmp q])(a:Array Value)(w:World)(n:Nat)(u:Value)
 (e:a.getD p undef=.p n 0)(B:ix w n u):(results d a).run Tryz.prog w=.ok (.tuple #[.agg #[u],a.getD q undef]) w:=by
 have f:a[p]?.getD undef=.p n 0:=by simpa using e
 have hl:=run_loadVar_mid (P:=Tryz.prog) w n 0 25 [u] _ (fun j v b=>by
  rcases j with _ | j
  . simp at b;subst b;exact B.c0
  . simp at b) underlying25 rfl dq
 simp[results,h,f,asAddr,hl]
def SnE(w w':World)(s:ByteArray)(ls:List (Nat×List ByteArray))(e:Ending):Prop:=
 (100000<s.size/\e=.returned (.tuple #[.agg #[.slice none 0 0],.int .i64 1]))∨
 (s.size<=100000/\(∀ms,¬lO (ls) ms)/\e=.returned (.tuple #[.agg #[.slice none 0 0],.int .i64 2]))∨
 (s.size<=100000/\∃ms,lO (ls) ms/\¬pH ms.length (mapA ms)/\e=.returned (.tuple #[.agg #[.slice none 0 0],.int .i64 3]))∨
 (s.size<=100000/\∃ms v xs zs,lO (ls) ms/\pH ms.length (mapA ms)/\e=.returned (.tuple #[.agg #[v],.int .i64 0])/\pP w' w.heap.size v ms.length (mD ms) xs zs)
theorem nu{s:ByteArray}{w:World}(hs:s.size<=9223372036854775807):
 Cl 4 #[.string s] w fun e m=>w.S m/\SnE w m s (ip 0 (jP 10 s)) e:=by
 have sA:=fA w (.cells #[.n] 25);have L:=ix.new w (.n) 25;have ZA:(w.alloc (.cells #[.n] 25)).heap.size=w.heap.size+1:=by simp
 have o:Hid (∀(f:World),w.S f->ix f w.heap.size (.n)->∀v:Value,ix (f.setCell (jj w.heap.size 0) v) w.heap.size v/\w.S (f.setCell (jj w.heap.size 0) v)):=eI (fun f Q ah v=>⟨⟨aQ _ _ _ ah.c0,fun q=>by simpa using ah.f q⟩,zY Q zR⟩);by_cases au:100000<s.size
 . have aw:(100000:Int)<(s.size:Int):=om;have E:=L.c0;have O:=L.f 0;go_enter func4,ntmps4;go_wp2;refine bO (ki rfl _ _ _ _ rfl L) rfl ?_;exact⟨sA,Or.inl ⟨au,rfl⟩⟩
 have aw:¬(100000:Int)<(s.size:Int):=om;have g:s.size<=100000:=om;have Z:=apd g;have C:=@ajR s (w.alloc (.cells #[.n] 25)) g;obtain⟨ls,aa⟩:∃ls,ip 0 (jP 10 s)=ls:=⟨_,rfl⟩;have an:=eI aa;unfold amD at C;rw[aa] at Z C⊢;have ar:=Z.len;go_enter func4,ntmps4;go_wp2_with fail;generalize w.alloc _=wA at*;refine C.mono ?_;rintro e f ⟨P,cl,rfl,a7,Q,-⟩;have S1:=sA.tr Q;have F:=L.aA Q;have HZ:=eI Z;obtain⟨N,hN⟩:∃N,ls.length=N:=⟨_,rfl⟩;rw[hN] at ar⊢;have A:=eI hN;by_cases ae:N=0
 . have he:=List.length_eq_zero_iff.1 (by rw[A.out];exact ae);have av:(N:Int)=0:=om;have p:Hid (∀b,¬lO ls b):=eI (fun b j=>by
    obtain⟨_,_,_,e,_⟩:=j;rw[he] at e;cases e)
   have E:=F.c0;have O:=F.f 0;obtain⟨c,d⟩:=o.out _ S1 F (.n);go_wp2;refine bO (ki rfl _ _ _ _ rfl c) rfl ?_;exact⟨d,Or.inr (Or.inl ⟨g,p.out,rfl⟩)⟩
 have av:¬(N:Int)=0:=om;have ac:0<ls.length:=by rw[A.out];omega
 have a5:(0:Int)<N:=om;have l:=eA ac;obtain⟨n,hn⟩:∃n,(ls[0]).1=n:=⟨_,rfl⟩;obtain⟨h,ad⟩:∃h,(ls[0]).2=h:=⟨_,rfl⟩;rw[hn,ad,List.drop_zero] at l;have hg:ls[0]?=some (n,h):=by rw[aK ac,<-hn,<-ad]
 obtain⟨-,q,cq,u,-,cw⟩:=a7 0 n h hg;obtain⟨a1,a2,al⟩:=HZ.out.at_ 0 n h hg;have l:=eI l;have JS:=@adD cr 1 0 0 (jp q 0) q 0 cq h f (fun ax ay hx=>⟨rfl,by rw[aZ];exact cw ax ay hx⟩) al a1 a2 om om om om;have CW:=eI cw;have am:=eI a7;rw[iT,aZ] at u;have C1:=eI u;go_wp2_with fail;refine JS.mono ?_;rintro e w2 ⟨r,rfl,ir,y⟩;have a0:=eI ir;have S2:=S1.tr y;have G:=F.aA y;clear ir JS u;cases r
 . have p:Hid (∀b,¬lO ls b):=eI (fun b j=>by
    obtain⟨n0,i,r,e,k,_⟩:=j;rw[l.out] at e;simp only[List.cons.injEq,Prod.mk.injEq] at e;have:=a0.out.2 (adw.2 ⟨i,e.1.2,k⟩);simp at this)
   have E:=G.c0;have O:=G.f 0;obtain⟨c,d⟩:=o.out _ S2 G (.n);go_wp2;refine bO (ki rfl _ _ _ _ rfl c) rfl ?_;exact⟨d,Or.inr (Or.inl ⟨g,p.out,rfl⟩)⟩
 obtain⟨i,rfl,k⟩:=adw.1 (a0.out.1 qz);have hK:=mF k;obtain⟨K,eK⟩:∃K,dv i i.size=K:=⟨_,rfl⟩;have a6:=@eF i w2 k;rw[eK] at a6 hK;have EK:=eI eK;have I1:=eI k;have u:=(y.cell (a:=jj P 1) (aG _ _ C1.out)).trans C1.out;have k1:w2.cell? (jj q 1)=some (.string i):=by have x:=CW.out 1 i rfl;exact (y.cell (a:=jj q 1) (aG _ _ x)).trans x
 go_wp2_with fail;refine mo a6 fun T s3=> ?_;have B:=S2.tr s3;have H:=G.aA s3;have W:Cl 12 #[.s P N cl,.i 1,.i (K:Int)] T fun e m=>ao5 T m (ls.drop 1) K e:=by have x:=@alH P cl 1 K ls T ((am.out.aA y).aA s3) HZ.out (by rw[A.out];omega) om;rw[A.out] at x;exact x
 go_wp2_with fail;refine W.mono ?_;rintro e U ⟨z,⟨v,rfl,ak⟩ | ⟨b,v,xs,zs,rfl,ai,aj,Y⟩⟩
 . have p:Hid (∀b,¬lO ls b):=eI (fun b j=>by
    obtain⟨n0,y1,r,e,k,hl,j⟩:=j;rw[l.out] at e;simp only[List.cons.injEq,Prod.mk.injEq,fI,fM] at e;obtain⟨⟨-,rfl⟩,e2⟩:=e;refine ak b (by rw[hl,EK.out]) ?_;rw[show ls.drop 1=r from e2];exact j)
   have D:=B.tr z;have t:=H.aA z;have E:=t.c0;have O:=t.f 0;obtain⟨c,d⟩:=o.out _ D t (.n);clear W ak;go_wp2;refine bO (ki rfl _ _ _ _ rfl c) rfl ?_;exact⟨d,Or.inr (Or.inl ⟨g,p.out,rfl⟩)⟩
 have D:=B.tr z;have t:=H.aA z;have V:lO ls b:=⟨n,i,ls.drop 1,l.out,I1.out,by rw[ai,EK.out],aj⟩;obtain⟨L1,L2,L3⟩:=lO.lims g (by rw[an.out];exact V);have HN:=eI V;have z3:w.heap.size<=T.heap.size:=by have:=B.size;omega
 obtain⟨a,a4,M,rfl,-,AF⟩:=Y.affs (fun X hi=>(L3 X hi).1) (fun X hi=>by have:=(L3 X hi).2;omega);have S:=fA U (.cells #[.slice a b.length M] 25);have bC:=ix.new U (.slice a b.length M) 25;have S5:=D.tr S;have b5:=t.aA S;have O5:=eI (Y.aA S);have az:=H.lt;have ag:=AF.aA S;have a3:Hid (U.heap.size≠w.heap.size):=eI (by have:=D.size;have:=z.size;have:=H.lt;omega);clear W ai aj V Y AF;go_wp2_with fail;generalize U.alloc _=w5 at*;refine (acJ om om ag).mono ?_;rintro e w6 ⟨r,rfl,i6,R⟩;have I6:=eI i6;have S6:=S5.tr R;have I:=b5.aA R;have ao:=bC.aA R;have E:=I.c0;have O:=I.f 0;have e0:=ao.c0;clear i6 ag;cases r
 . obtain⟨c,d⟩:=o.out _ S6 I (.n);go_wp2;refine bO (ki rfl _ _ _ _ rfl c) rfl ?_;exact⟨d,Or.inr (Or.inr (Or.inl ⟨g,b,HN.out,fun aq=>by have:=I6.out.2 aq;simp at this,rfl⟩))⟩
 . obtain⟨c,d⟩:=o.out _ S6 I (.slice a b.length M);have BT:jt w.heap.size w6 (w6.setCell (jj w.heap.size 0) (.slice a b.length M)):=(jt.refl _ w6).set 0 _;have O9:=eI (((O5.out.aA R).but BT az).lower z3);clear BT;go_wp2;refine bO (ki rfl _ _ _ _ rfl c) rfl ?_;refine⟨d,Or.inr (Or.inr (Or.inr ⟨g,b,_,xs,zs,HN.out,I6.out.1 qz,rfl,O9.out⟩))⟩
theorem amN(u:ByteArray):(jb u).size+(iN u).size<=u.size+1:=by
 unfold jb iN;split
 . show u.size+1<=u.size+1;omega
 . rw[ByteArray.size_extract,ByteArray.size_extract];omega
theorem akS(n:Nat):10^n<=2^(32*n):=by
 rw[Nat.pow_mul];exact Nat.pow_le_pow_left qd n
theorem alb{x:ByteArray}(h:js x):(q9 x).n+(q9 x).m<=x.size+1:=by
 unfold js at h;have b:(eP x).2.1<2^(32*(jb (runs x)).size)/\(eP x).2.2.1<2^(32*(iN (runs x)).size):=by
  have c:=akS (jb (runs x)).size;have d:=akS (iN (runs x)).size;obtain⟨m,k⟩:∃p,2^(32*(jb (runs x)).size)=p:=⟨_,rfl⟩;obtain⟨n,l⟩:∃p,2^(32*(iN (runs x)).size)=p:=⟨_,rfl⟩;rw[k] at c⊢;rw[l] at d⊢;unfold eP at h⊢;simp only at h⊢;split at h
  . cases h
  . rename_i h1
    split at h
    . cases h
    . rename_i h2
      split at h
      . cases h
      . rename_i h3
        simp only[aM h1,aM h2,aM h3];simp only[tH,kS,not_or,Bool.not_eq_false] at h1;have e:=ug (x:=jb (runs x)) (k:=(jb (runs x)).size) (fun j a=>lm h1.1 j a);have f:=ug (x:=iN (runs x)) (k:=(iN (runs x)).size) (fun j a=>lm h1.2 j a);have g:=iV (dv (jb (runs x)) (jb (runs x)).size) (Nat.gcd (dv (jb (runs x)) (jb (runs x)).size) (dv (iN (runs x)) (iN (runs x)).size));have i:=iV (dv (iN (runs x)) (iN (runs x)).size) (Nat.gcd (dv (jb (runs x)) (jb (runs x)).size) (dv (iN (runs x)) (iN (runs x)).size));exact⟨dD g (aS e c),dD i (aS f d)⟩
 have o:(q9 x).n<=(jb (runs x)).size:=yX b.1;have q:(q9 x).m<=(iN (runs x)).size:=yX b.2;have:=amN (runs x);have:=dd x;omega
def zK(l:List ByteArray):Nat:=(l.map fun x=>x.size+1).sum
theorem ahU:zK []=0:=rfl
theorem se(x:ByteArray)(l:List ByteArray):zK (x::l)=x.size+1+zK l:=by simp[zK]
theorem xk(a b:List ByteArray):zK (a++b)=zK a+zK b:=by simp[zK]
theorem ahV(l:List ByteArray):l.length<=zK l:=by
 induction l with
 | nil=>simp[zK]
 | cons x l ih=>rw[se,fS];omega
theorem ag5(f:ByteArray->Bool)(l:List ByteArray):zK (l.filter f)<=zK l:=by
 induction l with
 | nil=>simp[zK]
 | cons x l ih=>
   rw[List.filter_cons,se];split
   . rw[se];omega
   . omega
theorem aiT(l:ByteArray):zK (ja l)<=l.size+1:=by
 have h:=ag5 (fun p=>decide (0<p.size)) (jP 32 l);have e:=eg 32 l;unfold ja;exact aU h (Nat.le_of_eq e)
def xn(rest:List (Nat×List ByteArray)):Nat:=(rest.map fun r=>zK r.2).sum
theorem aeX(a b:pR):xn (a++b)=xn a+xn b:=by simp[xn]
theorem vI(a:Nat×List ByteArray)(b:pR):xn (a::b)=zK a.2+xn b:=by simp[xn]
theorem ajE(n:Nat)(L:List ByteArray):xn (ip n L)<=(L.map fun l=>l.size+1).sum:=by
 induction L generalizing n with
 | nil=>simp[ip,xn]
 | cons x xs ih=>
   have a:=ih (n+1);have b:=aiT x;rw[ip];simp only[dG,qI];split
   . omega
   . rw[vI];show zK (ja x)+_<=_;omega
theorem ahX{l:List ByteArray}(h:∀x∈l,js x):nU (qu l) l.length<=zK l:=by
 have c:∀n,n<=l.length->nU (qu l) n<=zK (l.take n):=fun n=>by
  induction n with
  | zero=>intro _;simp[nU]
  | succ n ih=>
    intro g;have d:=ih om;have e:wd l n=l[n]:=(by unfold wd;rw[fP,aK om];rfl);have f:=alb (h _ (xm (l:=l) (i:=n) om));have a:l.take (n+1)=l.take n++[wd l n]:=(by rw[jE,aK om,e];rfl);have b:nU (qu l) (n+1)=nU (qu l) n+((q9 (wd l n)).n+(q9 (wd l n)).m):=rfl;rw[a,xk,se,ahU,b];omega
 have:=c l.length zR;rw[List.take_length] at this;exact this
def iQ.z(m:iQ):Nat:=zK (WL m.C m.rs)+zK (BL m.C m.rs)
theorem ajk{k:pR}(h:∀r∈k,mQ n r.2):zK (WL n k)+zK (BL n k)=xn k:=by
 induction k with
 | nil=>simp[WL,BL,zK,xn]
 | cons r k ih=>
   have j:=ih (fun i g=>h i (by simp[g]));have hl:=(h r qz).1;have b:WL n (r::k)=r.2.take n++WL n k:=(by simp[WL]);have c:BL n (r::k)=wd r.2 n::BL n k:=(by simp[BL]);have d:r.2=r.2.take n++[wd r.2 n]:=(by have a:r.2.take (n+1)=r.2:=dV om;have f:wd r.2 n=r.2[n]:=(by unfold wd;rw[fP,aK om];rfl);rw[jE,aK om] at a;rw[f];exact a.symm);have e:zK r.2=zK (r.2.take n)+(zK [wd r.2 n]):=(by rw[<-xk,<-d]);rw[b,c,xk,se,vI,e,se,ahU];omega
theorem mI.eH{m:iQ}{a b:pR}(h:mI a m.R m.C m.rs b):m.z+xn b<=xn a:=by
 obtain⟨c,d,f,e,-⟩:=h.ex;have:=ajk h.rows;rw[e,vI,aeX];unfold iQ.z;omega
theorem kn.eH{e:List iQ}{a b:pR}(h:kn e a b):(e.map iQ.z).sum+xn b<=xn a:=by
 induction e generalizing a with
 | nil=>subst h;simp
 | cons m e ih=>
   obtain⟨r,c,d⟩:=h;have:=ih d;have:=c.eH;simp only[dG,qI];omega
theorem mI.sizez{m:iQ}{r a:pR}(h:mI r m.R m.C m.rs a):m.A.size<=2*m.z:=by
 have b:=ahX (ao3 h.rows);have c:=ahX (ao7 h.rows);have d:=ahV (WL m.C m.rs);have e:=ahV (BL m.C m.rs);show (WL m.C m.rs).length+nU (qu (WL m.C m.rs)) (WL m.C m.rs).length+((BL m.C m.rs).length+nU (qu (BL m.C m.rs)) (BL m.C m.rs).length)<=2*m.z;unfold iQ.z;omega
theorem ajc{i:List iQ}(h:∀m∈i,m.A.size<=2*m.z):vK (mapA i) i.length<=2*(i.map iQ.z).sum:=by
 have a:∀k,k<=i.length->vK (mapA i) k<=2*((i.take k).map iQ.z).sum:=fun k=>by
  induction k with
  | zero=>intro _;simp[vK]
  | succ k ih=>
    intro g;have d:=ih om;have e:mD i k=i[k]:=(by unfold mD;rw[fP,aK om];rfl);have f:=h i[k] (jB _);have b:vK (mapA i) (k+1)=vK (mapA i) k+(mapA i k).size:=rfl;have c:(mapA i k).size=i[k].A.size:=(by show (mD i k).A.size=_;rw[e]);rw[jE,aK om];simp only[Option.toList,eJ,List.sum_append,dG,kC,qI,List.sum_nil];omega
 have:=a i.length zR;rw[List.take_length] at this;exact this
theorem lO.limz{s:ByteArray}{l:List iQ}(h:lO (ip 0 (jP 10 s)) l):vK (mapA l) l.length<=2*(s.size+1):=by
 obtain⟨i,k,r,e,g,hl,b⟩:=h;have a:=ajE 0 (jP 10 s);rw[eg] at a;have d:=b.eH;rw[e,vI] at a;have f:=ajc (fun m c=>by obtain⟨r,j,h⟩:=b.all m c;exact h.sizez);omega
end Go.Proofs.YtinihjgnnlemmaaGreatDoor
