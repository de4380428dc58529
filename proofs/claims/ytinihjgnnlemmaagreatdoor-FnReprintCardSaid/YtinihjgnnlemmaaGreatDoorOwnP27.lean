import Derived.Test.YtinihjgnnlemmaaGreatDoorOwnP24
import Derived.Deep.Onto
set_option maxHeartbeats 6400000
set_option maxRecDepth 100000
set_option linter.unusedVariables false
namespace Go.Proofs.YtinihjgnnlemmaaGreatDoor
open Tryz Go.RowKit
variable{v W V:World}{n m c d k i j l o b p t r s g h e:Nat}{a A B:Option Addr}{X Y Z:Nat->Nat}{u U:Value}{f F:Bool}{z y:Int}{G:eQ}{P:Nat->Prop}{Q:Rat}{D:fQ}{R:fZ}
theorem mt{d:Func}{p c:Tmp}(h:d.results= #[.cell p 70,.tmp c])(b:Array Value)(w:World)(n:Nat)(u U z:Value)(e:b.getD p undef=.p n 0)(B:eS w n u U z):
 (results d b).run Tryz.prog w=.ok (.tuple #[.agg #[u,U,z],b.getD c undef]) w:=by
 have hl:=run_loadVar_mid (P:=Tryz.prog) w n 0 70 [u,U,z] _ (fun j v a=>by
  rcases j with _ | _ | _ | j
  . simp at a;subst a;exact B.c0
  . simp at a;subst a;exact B.c1
  . simp at a;subst a;exact B.c2
  . simp at a) underlying70 rfl cb
 rw[results_cell_tmp h,e];simp[asAddr,hl,Result.andThen]
theorem oW{P:Program}(w:World){E:Array Oper}{F:List Oper}{o:Oper}{v:Act}{Q:Exit->Act->World->Prop}(r:o.guard=none)(s x:Operand)(t:TypeId)
 (A:o.op=.call { callee:=.builtin .append,args:= #[s,x],argTypes:= #[t,t] })
 (n:Nat)(e:TypeId)(g:TypeInfo)(u:Value)(m c:Nat)(C:P.underlying t=some (.slice e))(y:P.info? e=some g)(S:g.zero=some u)
 (O:g.size=m)(K:g.bytes=c)(T:u.cells.size=m)(R:0<m)
 (U:Value)(d:Nat)(f:List Value)(B:v.eval s=U)(V:w.ownsRow n e m U d f)
 (a:Option Addr)(k i:Nat)(b:List Value)(D:v.eval x=.slice a k i)(hl:b.length=k*m)(N:a=none->k=0/\i=0)(M:∀q,a=some q->∀j z,b[j]?=some z->w.cell? (q.add j)=some z)(G:∀z∈b,z.oneCell'=true)
 (H:d+k<=maxLen)(L:(d+k)*c<=140737488355328)(I:n<=w.heap.size)
 (h:∀l p,p.ownsRow n e m l (d+k) (f++b)->w.grownBy p U.ownBlock->(l=.n↔U=.n/\k=0)->wpList P E Q F (v.put o.dst l) p):wpList P E Q (o::F) v w:=by
 rcases a with _ | q
 . obtain⟨rfl,rfl⟩:=N rfl;obtain rfl:b=[]:=List.length_eq_zero_iff.mp om;refine wpList_append_own_none r s x t A n e g m C y U d f B V D (h U w ?_ ?_ ?_)
   . rw[iJ];exact V
   . exact⟨rfl,rfl,rfl,aC _,fun _ _ _=>rfl⟩
   . simp
 . exact gK w r s x t A n e g u m c C y S O K T R U d f B V q k i b D hl (M q rfl) G H L I h
theorem aa3{w:World}(h:eO w a n m c X):∀b,a=some b->∀j u,(ll X c)[j]?=some u->w.cell? (b.add j)=some u:=by
 intro b e;subst e;exact acf h
theorem cd{w:World}{e:TypeId}{f:List Value}(h:w.ownsRow n e c u d f)(s:il m w v)(g:m<n):v.ownsRow n e c u d f:=
 h.kept (row:=some m) ⟨s.os,s.tape,s.output,s.size,fun k a b=>s.block k a (fun e=>b (by rw[e]))⟩ (Or.inr (fun e=>by have:=(h.lt m e).1;omega))
theorem ny{w:World}(h:w.ownsRow n 133 1 (.s m c d) c (ll X c)):c<=d/\eO w (jp m 0) m 0 c X/\∀o,w.frozen? (jj m o)=false:=by
 obtain⟨f,b,e,a,-,-,L,F⟩:=iu h qz;cases e;exact⟨a,L,F⟩
theorem aco{w:World}(hn:c<=16777216)(hm:j<=16777216)(ae:c<=d)(ad:j<=l)(aa:a=none->d=0)(ab:A=none->l=0)(hX:eO w a n m c X)(hY:eO w A k i j Y):
 Calls Tryz.prog 190 #[.agg #[.bool f,.slice a c d,.slice A j l]] w fun e U=>∃g h x y,e=.returned (.agg #[.bool f,.slice (some ⟨g,0,none⟩) c x,.slice (some ⟨h,0,none⟩) j y])/\U.ownsRow (w.heap.size+1+1) 133 1 (.slice (some ⟨g,0,none⟩) c x) c (ll X c)/\U.ownsRow (w.heap.size+1+1) 133 1 (.slice (some ⟨h,0,none⟩) j y) j (ll Y j)/\w.heap.size+1+1<=g/\g<h/\h<U.heap.size/\w.Since w.heap.size U:=by
 obtain⟨L,G,H,I,K⟩:=kT nF;have p:w.Since w.heap.size ((w.alloc (.cells #[.bool f,.slice a c d,.slice A j l] 70)).alloc (.cells #[.bool false,.slice none 0 0,.slice none 0 0] 70)):=(yD.alloc zR _).alloc qz _;have oA:eS ((w.alloc (.cells #[.bool f,.slice a c d,.slice A j l] 70)).alloc (.cells #[.bool false,.slice none 0 0,.slice none 0 0] 70)) w.heap.size (.bool f) (.slice a c d) (.slice A j l):=(eS.new w _ _ _ _).aA (yD.alloc zR _);have B:((w.alloc (.cells #[.bool f,.slice a c d,.slice A j l] 70)).alloc (.cells #[.bool false,.slice none 0 0,.slice none 0 0] 70)).Since ((w.alloc (.cells #[.bool f,.slice a c d,.slice A j l] 70)).alloc (.cells #[.bool false,.slice none 0 0,.slice none 0 0] 70)).heap.size (((w.alloc (.cells #[.bool f,.slice a c d,.slice A j l] 70)).alloc (.cells #[.bool false,.slice none 0 0,.slice none 0 0] 70)).alloc (.cells #[] 133)):=yD.alloc zR _;have ao:=p.trans (sM B p.size);have X1:=hX.aA ao;have u:=iP (e:=133) (size:=1) ((w.alloc (.cells #[.bool f,.slice a c d,.slice A j l] 70)).alloc (.cells #[.bool false,.slice none 0 0,.slice none 0 0] 70)) #[] 0 zR qd rfl;have C:((w.alloc (.cells #[.bool f,.slice a c d,.slice A j l] 70)).alloc (.cells #[.bool false,.slice none 0 0,.slice none 0 0] 70)).heap.size=w.heap.size+1+1:=by simp
 have ac:=iP (e:=133) (size:=1) ((w.alloc (.cells #[.bool f,.slice a c d,.slice A j l] 70)).alloc (.cells #[.bool false,.slice none 0 0,.slice none 0 0] 70)) #[] 0 zR qd rfl;rw[C] at u;have ai:=C;have rA:eS ((w.alloc (.cells #[.bool f,.slice a c d,.slice A j l] 70)).alloc (.cells #[.bool false,.slice none 0 0,.slice none 0 0] 70)) (w.heap.size+1) (.bool false) (.slice none 0 0) (.slice none 0 0):=by have:=eS.new (w.alloc (.cells #[.bool f,.slice a c d,.slice A j l] 70)) (.bool false) (.slice none 0 0) (.slice none 0 0) 70;simpa using this
 have D:=eI ai;clear C ai;go_enter func190,ntmps190;go_wp2_with (at_builtin;refine oW _ rfl _ _ 68 rfl (w.heap.size+1+1) 133 L (.int .u32 0) 1 4 underlying68 G H I K rfl qd _ 0 [] rfl u a c d (ll X c) rfl (by rw[vg];omega) (fun e=>by have:=aa e;omega) (aa3 X1) (eN X c) (by unfold maxLen;omega) om qz ?_);intro v1 R v E N;have q:((w.alloc (.cells #[.bool f,.slice a c d,.slice A j l] 70)).alloc (.cells #[.bool false,.slice none 0 0,.slice none 0 0] 70)).Since ((w.alloc (.cells #[.bool f,.slice a c d,.slice A j l] 70)).alloc (.cells #[.bool false,.slice none 0 0,.slice none 0 0] 70)).heap.size R:=B.grown E (aU zR B.size) (fun W t=>by
  have:=ac.lt W (by rw[D.out];exact t);exact this.1)
 have o:=p.trans (sM q p.size);have P:=oA.aA q;have r2:=rA.aA q;have aj:=eI N;clear E u N;generalize ((w.alloc (.cells #[.bool f,.slice a c d,.slice A j l] 70)).alloc (.cells #[.bool false,.slice none 0 0,.slice none 0 0] 70))=wA at*;have S:=fA R (.cells #[] 133);have SD:=o.trans (sM S o.size);have Y1:=hY.aA SD;have z:=iP (e:=133) (size:=1) R #[] 0 zR qd rfl;have Q:=P.aA S;have k2:=Q.c2;go_wp2_with (at_builtin;refine oW _ rfl _ _ 68 rfl R.heap.size 133 L (.int .u32 0) 1 4 underlying68 G H I K rfl qd _ 0 [] rfl z A j l (ll Y j) rfl (by rw[vg];omega) (fun e=>by have:=ab e;omega) (aa3 Y1) (eN Y j) (by unfold maxLen;omega) om S.size ?_);intro v3 Z V F O;have T:R.Since R.heap.size Z:=S.grown F S.size (fun W t=>(z.lt W t).1);have SE:=o.trans (sM T o.size);have o4:=P.aA T;have b:=r2.aA T;obtain⟨r,x,rfl,m1,b1,l1,L1,F1⟩:=iu v aj.out;obtain⟨s,y,rfl,m2,b2,l2,L2,F2⟩:=iu V O;have ak:=eI v;have al:=eI V;clear v V;clear F z O k2 Q;have j0:=o4.c0;have u0:=b.c0;have u1:=b.c1;have u2:=b.c2;have af:=b.f 0;have ag:=b.f 1;have ah:=b.f 2;go_wp2;have zC:=q.size;have zE:=T.size;have rC:=((b.bE (.bool f)).bH (.slice (some ⟨r,0,none⟩) c x)).bF (.slice (some ⟨s,0,none⟩) j y);refine bO (qi rfl _ _ _ _ _ _ rfl rC) rfl ?_;have M:eM Z _ (w.heap.size+1):=(((eM.refl Z _).setCell 0 (.bool f)).setCell 1 (.slice (some ⟨r,0,none⟩) c x)).setCell 2 (.slice (some ⟨s,0,none⟩) j y);have hz:=D.out;have zM:=M.size;have am:=cd (cd ak.out (il.aD w.heap.size T) om) (il.bL M) om;have an:=cd al.out (il.bL M) om;exact⟨r,s,x,y,rfl,am,an.mono om,om,om,om,SE.trans (M.since om)⟩
theorem xO(x y:Addr){w:World}(B:c<=16777216)(A:j<=16777216)(q:c<=d)(p:j<=l)(u:eO w (some x) n m c X)(v:eO w (some y) k i j Y):
 Cl 190 #[.agg #[.bool f,.slice (some x) c d,.slice (some y) j l]] w fun e r=>∃t C g h a b,e=.returned (.agg #[.bool f,.slice t c a,.slice C j b])/\c<=a/\j<=b/\(t=none->a=0)/\(C=none->b=0)/\
  eO r t g 0 c X/\eO r C h 0 j Y/\(0<c->∀o,r.frozen? (jj g o)=false)/\(0<j->∀o,r.frozen? (jj h o)=false)/\w.heap.size<=g/\g<h/\h<r.heap.size/\w.S r:=
 (aco B A q p (fun h=>by cases h) (fun h=>by cases h) u v).mono fun _ _ ⟨g,h,a,b,z,D,H,G,E,F,s⟩=>⟨_,_,g,h,a,b,z,(ny D).1,(ny H).1,fun h=>(by cases h),fun h=>(by cases h),(ny D).2.1,(ny H).2.1,fun _=>(ny D).2.2,fun _=>(ny H).2.2,om,E,F,s⟩
theorem il.grown{w:World}{b:Option Nat}(h:il n w v)(g:v.grownBy W b)(i:∀k,b=some k->w.heap.size<=k):il n w W:=
 ⟨g.os.trans h.os,g.tape.trans h.tape,g.output.trans h.output,aU h.size g.size,fun k a f=>(g.block k (aS a h.size) (fun e=>by have:=i k e.symm;omega)).trans (h.block k a f)⟩
theorem Rd.grown{w:World}{b:Option Nat}(h:Rd w n a m c d k X)(g:w.grownBy v b)(q:some n≠b)(hb:0<d->some m≠b):Rd v n a m c d k X:=by
 obtain⟨p,r,o⟩:=h.c1;have e:=g.block n h.lt q
 exact⟨(aO (w:=w) (a:=jj n 0) e).trans h.c0,⟨p,r,(aO (w:=w) (a:=jj n 1) e).trans o⟩,fun i=>(dK (w:=w) (a:=jj n i) e).trans (h.f i),
  fun j f=>⟨(h.code j f).1,(h.code j f).2.1,(aO (w:=w) (a:=jj m (c+j)) (g.block m (h.code.lt om) (hb om))).trans (h.code j f).2.2⟩,h.ne⟩
theorem Rd.mkd{w:World}(h:Rd w n a c d k i X)(M:eM w v m)(e:n≠m)(hb:0<k->c≠m):Rd v n a c d k i X:=by
 have O:=il.bL M;obtain⟨p,j,f⟩:=h.c1;exact⟨(O.cell (a:=jj n 0) h.lt e).trans h.c0,⟨p,j,(O.cell (a:=jj n 1) h.lt e).trans f⟩,fun b=>(O.frozen (a:=jj n b) h.lt e).trans (h.f b),h.code.bR O hb,h.ne⟩
theorem tP{w:World}(h:il n w v)(M:eM v W m)(g:w.heap.size<=m):il n w W:=
 ⟨M.os.trans h.os,M.tape.trans h.tape,M.output.trans h.output,by rw[M.size];exact h.size,fun k e f=>(M.other k om).trans (h.block k e f)⟩
theorem jx.otH{w:World}{B:Nat->Bool}(h:jx w a n m c B)(s:il d w v)(f:0<c->n≠d):jx v a n m c B:=
 fun j e=>⟨(h j e).1,(s.cell (a:=jj n (m+j)) (h.lt om) (f om)).trans (h j e).2⟩
structure Rp(w:World)(c:Nat)(a:Option Addr)(b off n cap:Nat)(X:Nat->Nat)(p:Nat):Prop where
 R:Rd w c a b off n cap X
 le:p<=n
 at_:w.cell? ⟨c,1,none⟩=some (.int .i64 p)
 bl:0<n->b<c
section
variable{w w' w1 w2:World}{c b off n cap p d:Nat}{a:Option Addr}{X:Nat->Nat}{row:Option Nat}
theorem Rp.aA(h:Rp w c a b off n cap X p)(s:w.S w'):Rp w' c a b off n cap X p:=
 ⟨h.R.aA s,h.le,(s.cell (a:=jj c 1) h.R.lt).trans h.at_,h.bl⟩
theorem Rp.grown(h:Rp w1 c a b off n cap X p)(g:w1.grownBy w2 row)(f:∀k,row=some k->c<k):Rp w2 c a b off n cap X p:=by
 have d:some c≠row:=fun e=>by have:=f c e.symm;omega
 exact⟨h.R.grown g d (fun i e=>by have:=f b e.symm;have:=h.bl i;omega),h.le,(aO (w:=w1) (a:=jj c 1) (g.block c h.R.lt d)).trans h.at_,h.bl⟩
theorem Rp.marked(h:Rp w c a b off n cap X p)(M:eM w w' d)(f:c<d):Rp w' c a b off n cap X p:=
 ⟨h.R.mkd M om (fun e=>by have:=h.bl e;omega),h.le,(M.cell (a:=jj c 1) (by show c≠d;omega)).trans h.at_,h.bl⟩
end
def nV(X:Nat->Nat)(n p:Nat):Nat:=if p<n then X p else 0
def nP(n p:Nat):Nat:=if p<n then p+1 else p
theorem jd{n:Nat}{a:Option Addr}{m c d k:Nat}{X:Nat->Nat}{i:Nat}{w:World}(r:d<=16777216)(R:Rp w n a m c d k X i):
 Cl 43 #[.p n 0] w fun e j=>∃v:Nat,nV X d i=v/\e=.returned (.i v)/\v<256/\Rp j n a m c d k X (nP d i)/\il n w j:=by
 have s:=R.R.c0;have f:=R.at_;have t:=R.R.f 1;unfold nV nP;by_cases b:i<d
 . rw[aY b,aY b];obtain⟨h,rfl,o⟩:=R.R.code i b;have q:(i:Int)<d:=om;obtain⟨x,g⟩:∃x,x=X i:=⟨_,rfl⟩;rw[<-g] at o h⊢;clear g;go_enter func43,ntmps43;go_wp2;go_quiet (fail);go_wp2;go_quiet (fail);go_wp2;go_ret;go_light;obtain⟨p,l⟩:=R.R.step b f ((Same.refl _).drewN _);exact⟨x,rfl,rfl,h,⟨p,b,aQ _ _ _ (by rw[((Same.refl w).drewN _).cell];exact f),R.bl⟩,l⟩
 . rw[aM b,aM b];go_enter func43,ntmps43;go_wp2;go_quiet (fail);go_wp2;go_ret;exact⟨0,rfl,rfl,om,R.aA (((Same.refl _).drewN _).since _),il.cI n ((Same.refl _).drewN _)⟩
theorem cP{w:World}(h:d<=16777216)(R:Rp w n a m c d k X i):
 Cl 107 #[.p n 0] w fun e g=>e=.returned (.i ((d-i:Nat):Int))/\Same w g:=by
 have j:=R.R.c0;have f:=R.at_;have b:=R.le;go_enter func107,ntmps107;go_wp2;go_quiet (fail);go_wp2;go_ret;go_light;exact⟨jq om,(Same.refl _).drewN _⟩
def lb3(X:Nat->Nat)(n v q:Nat):Nat->Nat×Nat
 | 0=>(v,q)
 | i+1=>((lb3 X n v q i).1*256 % 4294967296+nV X n (lb3 X n v q i).2,nP n (lb3 X n v q i).2)
def lb(X:Nat->Nat)(n p:Nat):Nat×Nat:=
 if nV X n p % 8=1 then (4294967295,nP n p) else if nV X n p % 8=2 then (2147483648,nP n p) else if nV X n p % 8=3 then (0,nP n p)
 else if nV X n p % 8=4 then (nV X n p/8,nP n p) else lb3 X n (nV X n p) (nP n p) 3
theorem ape{w:World}(E:d<=16777216)(R:Rp w n a m c d k X i):
 Cl 224 #[.p n 0] w fun e G=>e=.returned (.int .u32 ((lb X d i).1:Nat))/\(lb X d i).1<4294967296/\Rp G n a m c d k X (lb X d i).2/\il n w G:=by
 obtain⟨U,D⟩:∃x,lb X d i=x:=⟨_,rfl⟩;rw[D];have I:=eI D;go_enter func224,ntmps224;go_wp2_with fail;refine (jd E R).mono ?_;rintro e p ⟨v,N,rfl,Z,g,j⟩;obtain⟨l,F⟩:∃q,nP d i=q:=⟨_,rfl⟩;have b:=I.out;unfold lb at b;rw[N,F] at b;rw[F] at g;by_cases z:v % 8=1
 . rw[aY z] at b;have f:=eI b;have O:((v:Int) % 8==1)=true:=(by simp;omega);go_wp2_with fail;go_ret;rw[<-f.out];exact⟨rfl,qz,g,j⟩
 rw[aM z] at b;have O:((v:Int) % 8==1)=false:=by simp;omega
 by_cases A:v % 8=2
 . rw[aY A] at b;have f:=eI b;have P:((v:Int) % 8==2)=true:=(by simp;omega);go_wp2_with fail;go_ret;rw[<-f.out];exact⟨rfl,qz,g,j⟩
 rw[aM A] at b;have P:((v:Int) % 8==2)=false:=by simp;omega
 by_cases B:v % 8=3
 . rw[aY B] at b;have f:=eI b;have Q:((v:Int) % 8==3)=true:=(by simp;omega);go_wp2_with fail;go_ret;rw[<-f.out];exact⟨rfl,qz,g,j⟩
 rw[aM B] at b;have Q:((v:Int) % 8==3)=false:=by simp;omega
 by_cases C:v % 8=4
 . rw[aY C] at b;have f:=eI b;have S:((v:Int) % 8==4)=true:=(by simp;omega);go_wp2_with fail;go_ret;rw[<-f.out];exact⟨rfl,(by show v/8<4294967296;omega),g,j⟩
 rw[aM C] at b;have f:=eI b;have S:((v:Int) % 8==4)=false:=by simp;omega
 go_wp2_with fail
 . go_loopw [4,5] (fun q t wr=>∃(x h y:Nat),q=.int .u32 x/\x<4294967296/\t=.i h/\h<=3/\Hid (lb3 X d v l h=(x,y))/\Rp wr n a m c d k X y/\il n w wr) (fun _ t _=>3-(intOf t).toNat)
   case atStart=>exact⟨v,0,l,rfl,om,rfl,om,eI rfl,g,j⟩
   case round=>
    obtain⟨x,h,y,rfl,T,rfl,V,o,s,r⟩:=hrel;by_cases W:h<3
    . go_wp2_with fail;refine (jd E s).mono ?_;rintro e w2 ⟨u,M,rfl,Y,L,K⟩;have H:Hid (lb3 X d v l (h+1)=(x*256 % 4294967296+u,nP d y)):=eI (by rw[lb3,o.out,M]);go_wp2;go_roundw
      case rel=>go_light;exact⟨x*256 % 4294967296+u,h+1,nP d y,congrArg (Value.int .u32) om,om,by go_num,om,H,L,r.trans K⟩
      case measure=>exact yI
    . have e:h=3:=om;subst e;go_wp2;go_ret;rw[<-f.out,o.out];exact⟨rfl,T,s,r⟩
def ntQ(X:Nat->Nat)(n q:Nat):Nat->Nat
 | 0=>q
 | i+1=>(lb X n (ntQ X n q i)).2
def ntN(X:Nat->Nat)(n p:Nat):Nat:=if nV X n p % 5=4 then (if 10<4+(n-nP n p)/12 then 10 else 4+(n-nP n p)/12) else nV X n p % 6
def ntL(X:Nat->Nat)(n p:Nat):Nat:=ntN X n p+(if 224<=nV X n p then 1 else 0)
def ntD(X:Nat->Nat)(n p:Nat)(i:Nat):Nat:=if i<ntN X n p then (lb X n (ntQ X n (nP n p) i)).1 else 0
def ntP(X:Nat->Nat)(n p:Nat):Nat:=ntQ X n (nP n p) (ntN X n p)
theorem aop{n:Nat}{a:Option Addr}{m c d k:Nat}{X:Nat->Nat}{i:Nat}{w:World}(P:d<=16777216)(ba:Rp w n a m c d k X i):
 Cl 201 #[.p n 0] w fun e U=>∃g ao,e=.returned (.s g (ntL X d i) ao)/\ntL X d i<=ao/\ntL X d i<=11/\eO U (jp g 0) g 0 (ntL X d i) (ntD X d i)/\(∀j,j<ntL X d i->ntD X d i j<4294967296)/\w.heap.size<=g/\g<U.heap.size/\Rp U n a m c d k X (ntP X d i)/\il n w U:=by
 obtain⟨i0,hi,aq,ar,au⟩:=kT nF;have a1:=ba.R.lt;obtain⟨l,S⟩:∃q,nP d i=q:=⟨_,rfl⟩;obtain⟨N,O⟩:∃N,ntN X d i=N:=⟨_,rfl⟩;have am:=eI S;have HN:=eI O;have hD:∀L,L<N->ntD X d i L=(lb X d (ntQ X d l L)).1:=fun L bb=>by unfold ntD;rw[aY om,S]
 have ab:ntD X d i N=0:=by unfold ntD;rw[aM om]
 have hP:ntP X d i=ntQ X d l N:=by unfold ntP;rw[S,O]
 have hL:ntL X d i=N+(if 224<=nV X d i then 1 else 0):=by unfold ntL;rw[O]
 obtain⟨t,ac⟩:∃aw,ntD X d i=aw:=⟨_,rfl⟩;rw[ac] at hD ab;obtain⟨Z,ad⟩:∃a3,ntL X d i=a3:=⟨_,rfl⟩;rw[ac,hP,ad];have ak:Hid (Z=N+(if 224<=nV X d i then 1 else 0)):=eI (by rw[<-ad];exact hL);have HD:=eI hD;have aj:=eI ab;go_enter func201,ntmps201;go_wp2_with fail;refine (jd P ba).mono ?_;rintro e w1 ⟨v,ev,rfl,hv,r,C⟩;have p:=HN.out;unfold ntN at p;rw[am.out,ev] at p;rw[am.out] at r;have EV:=eI ev;clear ev;have a0:(v % 5=4/\10<4+(d-l)/12/\10=N)∨(v % 5=4/\¬10<4+(d-l)/12/\4+(d-l)/12=N)∨(¬v % 5=4/\v % 6=N):=by
  by_cases f:v % 5=4
  . rw[aY f] at p;by_cases s:10<4+(d-l)/12
    . rw[aY s] at p;exact Or.inl ⟨f,s,p⟩
    . rw[aM s] at p;exact Or.inr (Or.inl ⟨f,s,p⟩)
  . rw[aM f] at p;exact Or.inr (Or.inr ⟨f,p⟩)
 clear p;have a5:N<=10:=om;rcases a0 with ⟨f,s,F⟩ | ⟨f,s,F⟩ | ⟨f,F⟩
 focus
  have h1:((v:Int) % 5==4)=true:=by simp;omega
  have C4:=eI (show (10:Int)=N by omega);have u:=cP P r;obtain⟨q,E⟩:∃q,d-l=q:=⟨_,rfl⟩;rw[E] at u s;obtain⟨M,hM⟩:∃M:Nat,4+(q:Int)/12=(M:Int):=⟨4+q/12,om⟩;have az:(10:Int)<M:=om;have a7:q<=16777216:=om;clear f s F E;go_wp2_with fail;refine mo u fun w2 A=> ?_;have h:=C.trans (il.cI n A);have o:=r.aA (A.since _);go_wp2_with fail;rw[C4.out]
 rotate_left
 focus
  have h1:((v:Int) % 5==4)=true:=by simp;omega
  have hM:¬(10:Int)<N:=om;have bc:4+((d-l:Nat):Int)/12=(N:Int):=om;go_wp2_with fail;refine mo (cP P r) fun w2 A=> ?_;have h:=C.trans (il.cI n A);have o:=r.aA (A.since _);go_wp2_with fail
 rotate_left
 focus
  have h1:((v:Int) % 5==4)=false:=by simp;omega
  have bc:(v:Int) % 6=(N:Int):=om;have h:=C;have o:=r;go_wp2_with fail;rw[bc]
 rotate_left
 all_goals
  go_loopw [5,6] (fun av ai wr=>∃b:Nat,b<=N/\ai=.i b/\Hid (av≠ .n)/\wr.ownsRow w.heap.size 133 1 av b (ll t b)/\Hid (∀j,j<b->t j<4294967296)/\Rp wr n a m c d k X (ntQ X d l b)/\il n w wr) (fun _ ai _=>N-(intOf ai).toNat)
  case atStart=>exact⟨0,aJ _,rfl,eI qz,iP _ #[] 0 h.size qd rfl,eI (fun j hj=>absurd hj om),o.aA (fA _ _),h.trans (il.aD n (fA _ _))⟩
  case round=>
   obtain⟨b,a6,rfl,al,D,H,o,h⟩:=hrel;have a8:=h.size;by_cases a2:b<N
   . go_wp2_with fail;have u:=ape P o;obtain⟨x,ex⟩:∃x,(lb X d (ntQ X d l b)).1=x:=⟨_,rfl⟩;rw[ex] at u;refine mo u fun w3⟨hx,R3,I⟩=> ?_;have ah:=cd D I a1;have a9:=I.size;have an:=h.trans I;have EX:=eI ((HD.out b a2).trans ex);go_wp2_with (at_builtin;refine gK _ rfl _ _ 68 rfl w.heap.size 133 i0 (.int .u32 0) 1 4 underlying68 hi aq ar au rfl qd _ _ _ rfl (ah.alloc _) (jj w3.heap.size 0) 1 1 [.int .u32 x] rfl rfl (iq _ _ _) (one_one _ rfl) (by unfold maxLen;omega) om (by simp;omega) ?_);intro v' bf G y Q;rw[show ll t b++[.int .u32 x]=ll t (b+1) from by rw[tV,EX.out]] at G;have B:=fA w3 (.o #[.int .u32 x] 133);have z:=fun q E=>(ah.lt q E).1;have R:=(an.trans (il.aD n B)).grown y z;have T:=(R3.aA B).grown y (fun q e=>by have:=z q e;omega);have ay:=eI Q;have ax:Hid (∀j,j<b+1->t j<4294967296):=eI (fun j hj=>by
      by_cases e2:j=b
      . subst e2;rw[EX.out];exact hx
      . exact H.out j om)
     go_wp2;go_roundw
     case rel=>exact⟨b+1,om,by go_num,ay,G,ax,T,R⟩
     case measure=>exact yI
   . have e:b=N:=om;subst e;by_cases a4:(224:Int)<=v
     . have W:Hid (Z=b+1):=eI (by rw[ak.out,EV.out,aY om]);go_wp2_with (at_builtin;refine gK _ rfl _ _ 68 rfl w.heap.size 133 i0 (.int .u32 0) 1 4 underlying68 hi aq ar au rfl qd _ _ _ rfl (D.alloc _) (jj wr.heap.size 0) 1 1 [.int .u32 0] rfl rfl (iq _ _ _) (one_one _ rfl) (by unfold maxLen;omega) om (by simp;omega) ?_);intro v' bf G y Q;rw[show ll t b++[.int .u32 0]=ll t (b+1) from by rw[tV,aj.out];rfl] at G;have B:=fA wr (.o #[.int .u32 0] 133);have z:=fun q E=>(D.lt q E).1;have R:=(h.trans (il.aD n B)).grown y z;have T:=(o.aA B).grown y (fun q e=>by have:=z q e;omega);obtain⟨g,K,rfl,ag,V,af,Y,-⟩:=iu G Q;go_wp2;go_ret;rw[W.out];refine⟨g,K,rfl,ag,om,Y,fun j hj=> ?_,V,af,T,R⟩;by_cases e2:j=b
       . subst e2;rw[aj.out];omega
       . exact H.out j om
     . have W:Hid (Z=b):=eI (by rw[ak.out,EV.out,aM om,fV]);obtain⟨g,K,rfl,ag,V,af,Y,-⟩:=iu D al.out;go_wp2;go_ret;rw[W.out];exact⟨g,K,rfl,ag,om,Y,H.out,V,af,o,h⟩
theorem jM.marked{w:World}(h:jM w u f n m c d)(s:eM w v k)(r:k<c):jM v u f n m c d:=by
 obtain⟨l,q,g,p,e,a,b,o,i,j⟩:=h;exact⟨l,q,g,p,e,a.marked s om,b.marked s om,o,i,j⟩
theorem jM.low{w:World}(h:jM w u f n m c k)(r:d<=c):jM w u f n m d k:=by
 obtain⟨i,j,g,p,e,b,a,l,q,o⟩:=h;exact⟨i,j,g,p,e,b,a,om,om,o⟩
theorem jM.form{w:World}(h:jM w u f n m c d):∃a p j b o l,u=.agg #[.bool f,.slice a p j,.slice b o l]:=by
 obtain⟨e,i,g,k,rfl,⟨a,p,j,X,rfl,-⟩,⟨b,o,l,Y,rfl,-⟩,-⟩:=h;exact⟨a,p,j,b,o,l,rfl⟩
def fr(z:Int)(d:Nat):Bool×Nat×Nat:=(decide (z<0),z.natAbs/Nat.gcd z.natAbs d,d/Nat.gcd z.natAbs d)
theorem xQ{w:World}(N:-100000<=z)(O:z<=100000)(P:0<y)(Q:y<=100000):
 Cl 152 #[.i z,.i y] w fun e D=>∃v,e=.returned v/\jM D v (fr z y.toNat).1 (fr z y.toNat).2.1 (fr z y.toNat).2.2 w.heap.size 67108864/\w.S D:=by
 obtain⟨d,rfl⟩:∃d:Nat,y=(d:Int):=⟨y.toNat,om⟩;have C:=fA w yJ;have A:=eS.new w (.bool false) (.n) (.n) 70;obtain⟨k,t⟩:∃x,fr z ((d:Int)).toNat=x:=⟨_,rfl⟩;rw[t];have n:=eI t;by_cases R:z<0
 focus
  obtain⟨m,i,K⟩:∃m:Nat,z=-(m:Int)/\0<m:=⟨z.natAbs,om,om⟩;have h:=fun g=>@kj true m d g om om om;obtain⟨b,c⟩:∃f,(true&&m != 0)=f:=⟨_,rfl⟩
  have l:Hid (k=(b,m/Nat.gcd m d,d/Nat.gcd m d)):=eI (by
   rw[<-n.out,i,<-c];have:m≠0:=om;simp[fr,this,K])
  rw[c] at h
 rotate_left
 focus
  obtain⟨m,i⟩:∃m:Nat,z=(m:Int):=⟨z.toNat,om⟩;have h:=fun g=>@kj false m d g om om om;obtain⟨b,c⟩:∃f,(false&&m != 0)=f:=⟨_,rfl⟩
  have l:Hid (k=(b,m/Nat.gcd m d,d/Nat.gcd m d)):=eI (by
   rw[<-n.out,i,<-c];simp[fr])
  rw[c] at h
 rotate_left
 all_goals
  subst i;rw[l.out];have F:=eI h;go_enter func152,ntmps152;go_wp2_with fail;generalize (w.alloc _)=g at*;refine (F.out g).mono ?_;rintro e E ⟨v,rfl,o,B⟩;have j:=A.aA B;have S:=A.lt;have H:=C.tr B;obtain⟨p,a,r,q,u,s,I⟩:=o.form;subst I;have G:=eI o;have Z:=C.size;obtain⟨T,U,V⟩:=j.g;obtain⟨W,X,Y⟩:=j.k;go_wp2;have L:=((j.bE (.bool b)).bH (.l p a r)).bF (.l q u s);refine bO (qi rfl _ _ _ _ _ _ rfl L) rfl ?_;have M:eM E _ w.heap.size:=(((eM.refl E _).setCell 0 (.bool b)).setCell 1 (.l p a r)).setCell 2 (.l q u s);exact⟨_,rfl,(G.out.marked M om).low om,H.trans (M.since zR)⟩
theorem apS(n:Nat):(n % 2==1)=((n:Int) % 2==1):=by
 rw[gG,jJ,jJ];omega
def bgN(X:Nat->Nat)(n p:Nat):Nat:=lv (ntD X n (nP n p)) (ntL X n (nP n p))
def bgD(X:Nat->Nat)(n p:Nat):Nat:=lv (ntD X n (ntP X n (nP n p))) (ntL X n (ntP X n (nP n p)))
def bg(X:Nat->Nat)(n p:Nat):Bool×Nat×Nat:=
 (nV X n p % 2==1&&bgN X n p != 0,bgN X n p/Nat.gcd (bgN X n p) (if bgD X n p=0 then 1 else bgD X n p),(if bgD X n p=0 then 1 else bgD X n p)/Nat.gcd (bgN X n p) (if bgD X n p=0 then 1 else bgD X n p))
def bgP(X:Nat->Nat)(n p:Nat):Nat:=ntP X n (ntP X n (nP n p))
theorem aqj{w:World}(G:d<=16777216)(R:Rp w n a m c d k X i):
 Cl 164 #[.p n 0] w fun e L=>∃v,e=.returned v/\jM L v (bg X d i).1 (bg X d i).2.1 (bg X d i).2.2 w.heap.size 67108864/\Rp L n a m c d k X (bgP X d i)/\il n w L:=by
 have K:=fA w yJ;have rA:=eS.new w (.bool false) (.n) (.n) 70;have rl:=R.R.lt;have bl:=rA.lt;have RA:=R.aA K;obtain⟨BG,aa⟩:∃ay,bg X d i=ay:=⟨_,rfl⟩;rw[aa];have ac:=eI aa;unfold bgP;go_enter func164,ntmps164;go_wp2_with fail;generalize (w.alloc _)=wA at*;have zA:=K.size;refine (@jd n a m c d k X i wA G RA).mono ?_;rintro e w1 ⟨aq,ek,rfl,hk,R1,B⟩;have r1:=rA.bR B om;have ag:=(il.aD n K).trans B;have z1:=B.size;have EK:=eI ek;go_wp2_with fail;refine (@aop n a m c d k X _ w1 G R1).mono ?_;rintro e w2 ⟨g1,c1,rfl,a0,a1,L1,l1,a2,a4,R2,C⟩;have r2:=r1.bR C om;have ah:=ag.trans C;have z2:=C.size;have ad:=eI (show lv (ntD X d (nP d i)) (ntL X d (nP d i))=bgN X d i from rfl);generalize ntL X d (nP d i)=t1 at*;generalize ntD X d (nP d i)=D1 at*;go_wp2_with fail;refine (@i8 (jp g1 0) g1 0 t1 c1 D1 w2 om L1 l1).mono ?_;rintro e w3 ⟨Y,g3,j,c3,x,rfl,ar,a7,L3,au,av,e3,t⟩;have r3:=r2.aA t;have R3:=R2.aA t;have ai:=ah.trans (il.aD n t);have z3:=t.size;have an:0<j->n≠g3:=fun h=>by have:=au h;omega
 have P:=eI (e3.trans ad.out);go_wp2_with fail;refine (aop G R3).mono ?_;rintro e w4 ⟨g4,c4,rfl,a8,a9,L4,l4,ba,bb,R4,r⟩;have r4:=r3.bR r om;have aj:=ai.trans r;have z4:=r.size;have ae:=eI (show lv (ntD X d (ntP X d (nP d i))) (ntL X d (ntP X d (nP d i)))=bgD X d i from rfl);generalize ntL X d (ntP X d (nP d i))=t4 at*;generalize ntD X d (ntP X d (nP d i))=D4 at*;have T4:Tr w4 (.l Y j c3) j x:=⟨Y,g3,0,c3,rfl,ar,L3.otH r (fun h=>(an h).symm),av⟩;go_wp2_with fail;refine (i8 om L4 l4).mono ?_;rintro e N ⟨Z,g5,b,c5,y,rfl,aw,bc,L5,-,ax,e5,l⟩;have U:Tr N (.l Z b c5) b y:=⟨Z,g5,0,c5,rfl,aw,L5,ax⟩;have z:=eI (e5.trans ae.out);have H:=r4.aA l;have D:=R4.aA l;have E:=T4.aA l;have A:=aj.trans (il.aD n l);have z5:=l.size;obtain⟨s,ao⟩:∃am,((aq:Int) % 2==1)=am:=⟨_,rfl⟩;obtain⟨f,ab⟩:∃al,(if bgD X d i=0 then 1 else bgD X d i)=al:=⟨_,rfl⟩
 have HB:Hid (BG=(s&&bgN X d i != 0,bgN X d i/Nat.gcd (bgN X d i) f,f/Nat.gcd (bgN X d i) f)):=eI (by
  rw[<-ac.out];unfold bg;rw[ab,EK.out,apS,ao])
 have O:=eI ab;generalize bgN X d i=NN at*
 by_cases F:b=0
 focus
  subst F;go_wp2_with fail;refine (@li 1 _ qd).mono ?_;rintro e w6 ⟨v6,t6,B6,rfl,k6,V,g,p⟩;have r6:=H.aA p;have T:=D.aA p;have W:=E.aA p;have S:=A.trans (il.aD n p);have z6:=p.size;have q:=@me s _ _ j t6 x B6 w6 om om W V (by rw[g];decide);have o:(1:Nat)=f:=by rw[<-O.out,aY (by rw[<-z.out];rfl)]
  rw[g,P.out,o] at q;clear g V W E D H A o
 rotate_left
 focus
  have az:((b:Int)==0)=false:=by simp;omega
  have hp:=vu (nJ F) (by obtain⟨_,_,_,_,h1,_,_,h4⟩:=U;exact h4 (nJ F));have q:=@me s _ _ j b x y N om om E U hp;have o:bv y b=f:=by rw[<-O.out,aM (by rw[<-z.out];omega)];exact z.out
  rw[P.out,o] at q;have r6:=H;have T:=D;have S:=A;have z6:=aC N.heap.size
 rotate_left
 all_goals
  go_wp2_with fail;refine q.mono ?_;rintro e w7 ⟨v,rfl,Q,u⟩;have I:=r6.aA u;have R7:=T.aA u;have ak:=S.trans (il.aD n u);have z7:=u.size;obtain⟨a6,q6,c6,b6,m6,d6,g⟩:=Q.form;subst g;have af:=eI Q;generalize (s&&NN != 0)=f6 at*;obtain⟨u0,u1,u2⟩:=I.g;obtain⟨bf,bh,bi⟩:=I.k;go_wp2;have rC:=((I.bE (.bool f6)).bH (.l a6 q6 c6)).bF (.l b6 m6 d6);refine bO (qi rfl _ _ _ _ _ _ rfl rC) rfl ?_;have M:eM w7 _ w.heap.size:=(((eM.refl w7 _).setCell 0 (.bool f6)).setCell 1 (.l a6 q6 c6)).setCell 2 (.l b6 m6 d6);rw[HB.out];exact⟨_,rfl,(af.out.marked M om).low om,R7.marked M om,tP ak M zR⟩
def rt(X:Nat->Nat)(n p:Nat):(Bool×Nat×Nat)×Nat:=
 if 252<=nV X n p then (bg X n (nP n p),bgP X n (nP n p))
 else if 232<=nV X n p then (fr ((nV X n (nP n p):Int)*8+nV X n p-1100) (1+nV X n (nP n (nP n p))),nP n (nP n (nP n p)))
 else if 128<=nV X n p then (fr ((nV X n p:Int) % 9-4) 1,nP n p)
 else if 64<=nV X n p then (fr ((nV X n p:Int) % 11-5) (1+nV X n p % 4),nP n p)
 else if 44<=nV X n p then (fr ((nV X n p:Int)-54) 6,nP n p)
 else if 22<=nV X n p then (fr 1 1,nP n p)
 else if 12<=nV X n p then (fr (-1) 1,nP n p)
 else ((false,0,1),nP n p)
theorem apJ{w:World}(E:d<=16777216)(R:Rp w n a m c d k X i):
 Cl 119 #[.p n 0] w fun e O=>∃v,e=.returned v/\jM O v (rt X d i).1.1 (rt X d i).1.2.1 (rt X d i).1.2.2 w.heap.size 67108864/\Rp O n a m c d k X (rt X d i).2/\il n w O:=by
 have G:=fA w yJ;have rA:=eS.new w (.bool false) (.n) (.n) 70;have rl:=R.R.lt;have bl:=rA.lt;have aq:=R.aA G;obtain⟨u,K⟩:∃x,rt X d i=x:=⟨_,rfl⟩;rw[K];have an:=eI K;go_enter func119,ntmps119;go_wp2_with fail;generalize (w.alloc _)=wA at*;have zA:=G.size;refine (jd E aq).mono ?_;rintro e H ⟨b,ek,rfl,hk,r,C⟩;have r1:=rA.bR C om;have ae:=(il.aD n G).trans C;have z1:=C.size;have g:=an.out;unfold rt at g;rw[ek] at g;have ac:∀(t:(Bool×Nat×Nat)×Nat),t=u->∀(v:Value) (f:World),jM f v t.1.1 t.1.2.1 t.1.2.2 H.heap.size 67108864->Rp f n a m c d k X t.2->il n H f->Hid (jM f v u.1.1 u.1.2.1 u.1.2.2 H.heap.size 67108864)/\Rp f n a m c d k X u.2/\il n w f/\eS f w.heap.size (.bool false) (.n) (.n)/\H.heap.size<=f.heap.size:=fun t e v f hv hr N=>by subst e;exact⟨eI hv,hr,ae.trans N,r1.bR N om,N.size⟩
 have o:=eI ac;have ag:252<=b∨(¬252<=b/\232<=b)∨(¬232<=b/\128<=b)∨(¬128<=b/\64<=b)∨(¬64<=b/\44<=b)∨(¬44<=b/\22<=b)∨(¬22<=b/\12<=b)∨¬12<=b:=om;rcases ag with x | ⟨y,x⟩ | ⟨y,x⟩ | ⟨y,x⟩ | ⟨y,x⟩ | ⟨y,x⟩ | ⟨y,x⟩ | y
 focus
  rw[aY x] at g;have z:(252:Int)<=b:=om;have D:=eI g;go_wp2_with fail;refine (aqj E r).mono ?_;rintro e f ⟨v,rfl,h,l,ao⟩;obtain⟨j,l,q,F,s⟩:=o.out _ D.out v f h l ao
 rotate_left
 focus
  rw[aM om,aY x] at g;have A:¬(252:Int)<=b:=om;have z:(232:Int)<=b:=om;have D:=eI g;go_wp2_with fail;refine (jd E r).mono ?_;rintro e w2 ⟨k2,aa,rfl,ah,R2,S⟩;have E2:=eI aa;go_wp2_with fail;refine (jd E R2).mono ?_;rintro e w3 ⟨V,ab,rfl,ai,R3,T⟩;have E3:=eI ab;go_wp2_with fail;refine (xQ om om om om).mono ?_;rintro e f ⟨v,rfl,h,p⟩;have zz:=S.size;have am:=T.size
  obtain⟨j,l,q,F,s⟩:=o.out _ D.out v f (by
   rw[E2.out,E3.out,show 1+V=(1+(V:Int)).toNat by omega];exact h.low om) (R3.aA p) ((S.trans T).trans (il.aD n p))
 rotate_left
 focus
  rw[aM om,aM om,aY x] at g;have A:¬(232:Int)<=b:=om;have B:¬(252:Int)<=b:=om;have z:(128:Int)<=b:=om;have D:=eI g;go_wp2_with fail;refine (xQ om om om om).mono ?_;rintro e f ⟨v,rfl,h,p⟩;obtain⟨j,l,q,F,s⟩:=o.out _ D.out v f h (r.aA p) (il.aD n p)
 rotate_left
 focus
  rw[aM om,aM om,aM om,aY x] at g;have A:¬(128:Int)<=b:=om;have B:¬(252:Int)<=b:=om;have I:¬(232:Int)<=b:=om;have z:(64:Int)<=b:=om;have D:=eI g;go_wp2_with fail;refine (xQ om om om om).mono ?_;rintro e f ⟨v,rfl,h,p⟩;obtain⟨j,l,q,F,s⟩:=o.out _ D.out v f (by rw[show 1+b % 4=(1+(b:Int) % 4).toNat by omega];exact h) (r.aA p) (il.aD n p)
 rotate_left
 focus
  rw[aM om,aM om,aM om,aM om,aY x] at g;have A:¬(64:Int)<=b:=om;have B:¬(252:Int)<=b:=om;have I:¬(232:Int)<=b:=om;have P:¬(128:Int)<=b:=om;have z:(44:Int)<=b:=om;have D:=eI g;go_wp2_with fail;refine (xQ om om om om).mono ?_;rintro e f ⟨v,rfl,h,p⟩;obtain⟨j,l,q,F,s⟩:=o.out _ D.out v f h (r.aA p) (il.aD n p)
 rotate_left
 focus
  rw[aM om,aM om,aM om,aM om,aM om,aY x] at g;have A:¬(44:Int)<=b:=om;have B:¬(252:Int)<=b:=om;have I:¬(232:Int)<=b:=om;have P:¬(128:Int)<=b:=om;have y3:¬(64:Int)<=b:=om;have z:(22:Int)<=b:=om;have D:=eI g;go_wp2_with fail;refine (xQ om om om om).mono ?_;rintro e f ⟨v,rfl,h,p⟩;obtain⟨j,l,q,F,s⟩:=o.out _ D.out v f h (r.aA p) (il.aD n p)
 rotate_left
 focus
  rw[aM om,aM om,aM om,aM om,aM om,aM om,aY x] at g;have A:¬(22:Int)<=b:=om;have B:¬(252:Int)<=b:=om;have I:¬(232:Int)<=b:=om;have P:¬(128:Int)<=b:=om;have y3:¬(64:Int)<=b:=om;have y4:¬(44:Int)<=b:=om;have z:(12:Int)<=b:=om;have D:=eI g;go_wp2_with fail;refine (xQ om om om om).mono ?_;rintro e f ⟨v,rfl,h,p⟩;obtain⟨j,l,q,F,s⟩:=o.out _ D.out v f h (r.aA p) (il.aD n p);clear h p
 rotate_left
 focus
  rw[aM om,aM om,aM om,aM om,aM om,aM om,aM om] at g;have A:¬(12:Int)<=b:=om;have B:¬(252:Int)<=b:=om;have I:¬(232:Int)<=b:=om;have P:¬(128:Int)<=b:=om;have y3:¬(64:Int)<=b:=om;have y4:¬(44:Int)<=b:=om;have y5:¬(22:Int)<=b:=om;have D:=eI g;clear g y;go_wp2_with fail;refine (kv).mono ?_;rintro e f ⟨v,rfl,h,p⟩;obtain⟨j,l,q,F,s⟩:=o.out _ D.out v f h (r.aA p) (il.aD n p);clear h p
 rotate_left
 all_goals
  clear D o;obtain⟨W,q6,Z,Y,m6,Q,e6⟩:=j.out.form;subst e6;obtain⟨U,L⟩:∃af,u.1.1=af:=⟨_,rfl⟩;rw[L] at j⊢;have ad:=eI L;clear L;obtain⟨u0,u1,u2⟩:=F.g;obtain⟨aj,ak,al⟩:=F.k;go_wp2;have rC:=((F.bE (.bool U)).bH (.l W q6 Z)).bF (.l Y m6 Q);refine bO (qi rfl _ _ _ _ _ _ rfl rC) rfl ?_;have M:eM f _ w.heap.size:=(((eM.refl f _).setCell 0 (.bool U)).setCell 1 (.l W q6 Z)).setCell 2 (.l Y m6 Q);rw[ad.out];exact⟨_,rfl,(j.out.marked M om).low om,l.marked M om,tP q M zR⟩
theorem adt{a:Nat->Nat}(r:gu f X n Z c=true)(b:gu F Y m a d=true)(j:n=0):
 (jn f F (lv X n*lv a d) (lv Y m*lv Z c)&&fJ f F (lv X n*lv a d) (lv Y m*lv Z c) != 0)=F/\fJ f F (lv X n*lv a d) (lv Y m*lv Z c)/Nat.gcd (fJ f F (lv X n*lv a d) (lv Y m*lv Z c)) (lv Z c*lv a d)=lv Y m/\(lv Z c*lv a d)/Nat.gcd (fJ f F (lv X n*lv a d) (lv Y m*lv Z c)) (lv Z c*lv a d)=lv a d:=by
 subst j;unfold gu at r b;simp only[fT,nG,jJ,tH,Bool.and_eq_false_imp] at r b;have p:f=false:=by cases f;rfl;have:=r.1.2;simp at this
 have g:lv Z c=1:=by have:=r.2;simpa [lv] using this
 have q:=b.2;have i:F=true->lv Y m≠0:=fun e h=>by have k:=(km (ks.1 b.1.1.1.1)).2 h;have:=b.1.2 e;simp[k] at this
 subst p;have o:fJ false F (lv X 0*lv a d) (lv Y m*lv Z c)=lv Y m:=by
  simp only[lv,iT,g,iF,fJ];cases F
  . simp
  . have:=i rfl;simp;omega
 rw[o,g,dS,q,pI,pI];refine⟨?_,rfl,rfl⟩;simp only[lv,iT,iF,jn];cases F
 . simp
 . have:=i rfl;have l:0<lv Y m:=om;simp[l];omega
theorem ads{a:Nat->Nat}(b:gu f X n Z c=true)(g:gu F Y m a d=true)(j:m=0):
 (jn f F (lv X n*lv a d) (lv Y m*lv Z c)&&fJ f F (lv X n*lv a d) (lv Y m*lv Z c) != 0)=f/\fJ f F (lv X n*lv a d) (lv Y m*lv Z c)/Nat.gcd (fJ f F (lv X n*lv a d) (lv Y m*lv Z c)) (lv Z c*lv a d)=lv X n/\(lv Z c*lv a d)/Nat.gcd (fJ f F (lv X n*lv a d) (lv Y m*lv Z c)) (lv Z c*lv a d)=lv Z c:=by
 subst j;unfold gu at b g;simp only[fT,nG,jJ,tH,Bool.and_eq_false_imp] at b g;have o:F=false:=by cases F;rfl;have:=g.1.2;simp at this
 have i:lv a d=1:=by have:=g.2;simpa [lv] using this
 have p:=b.2;have q:f=true->lv X n≠0:=fun e h=>by have k:=(km (ks.1 b.1.1.1.1)).2 h;have:=b.1.2 e;simp[k] at this
 subst o;have l:fJ f false (lv X n*lv a d) (lv Y 0*lv Z c)=lv X n:=by
  simp only[lv,iT,i,iF,fJ];cases f
  . simp
  . simp
 rw[l,i,iF,iF,p,pI,pI];refine⟨?_,rfl,rfl⟩;simp only[lv,iT,jn];cases f
 . simp
 . have:=q rfl;simp;omega
theorem ah4(a V x y:Addr){q:Nat}{e:Nat->Nat}{w:World}(hn:c+p+j+s<=16777216)
 (R:wv w (some a) (some V) n m c d k i j l X Y)(v:wv w (some x) (some y) o b p q t r s g Z e)(an:gu f X c Y j=true)(ao:gu F Z p e s=true)(h0:c=0∨p=0):
 Cl 153 #[.agg #[.bool f,.slice (some a) c d,.slice (some V) j l],.agg #[.bool F,.slice (some x) p q,.slice (some y) s g]] w fun aj w'=>∃ar,aj=.returned ar/\
  jM w' ar (jn f F (lv X c*lv e s) (lv Z p*lv Y j)&&fJ f F (lv X c*lv e s) (lv Z p*lv Y j) != 0) (fJ f F (lv X c*lv e s) (lv Z p*lv Y j)/Nat.gcd (fJ f F (lv X c*lv e s) (lv Z p*lv Y j)) (lv Y j*lv e s)) ((lv Y j*lv e s)/Nat.gcd (fJ f F (lv X c*lv e s) (lv Z p*lv Y j)) (lv Y j*lv e s)) w.heap.size 67108864/\w.S w':=by
 have ah:w.heap.size+1+1≠w.heap.size:=om;obtain⟨S,zA,oA,pA,aq⟩:=bx w (.bool f) (.l (some a) c d) (.l (some V) j l) (.bool F) (.l (some x) p q) (.l (some y) s g) (.bool false) (.n) (.n);by_cases al:c=0
 . have K:=adt an ao al;rw[K.1,K.2.1,K.2.2];subst al;obtain⟨k0,k1,k2⟩:=pA.g;go_enter func153,ntmps153;go_wp2_with fail;generalize (((w.alloc _).alloc _).alloc _)=w1 at*;refine (xO x y om om v.nc v.mc (v.aA S).LX (v.aA S).LY).mono ?_;rintro aj h ⟨z,G,T,U,H,I,rfl,N,O,P,ai,D,ak,C,B,y1,y2,y3,u⟩;have Q:=aq.aA u;have W:=S.tr u;obtain⟨u0,u1,u2⟩:=Q.g;obtain⟨ae,af,ag⟩:=Q.k;go_wp2;have L:=((Q.bE (.bool F)).bH (.l z p H)).bF (.l G s I);refine bO (qi rfl _ _ _ _ _ _ rfl L) rfl ?_;have M:eM h _ (w.heap.size+1+1):=(((eM.refl h _).setCell 0 (.bool F)).setCell 1 (.l z p H)).setCell 2 (.l G s I);have E:gE h (.l z p H) T (lv Z p) 67108864:=⟨_,_,_,Z,rfl,N,om,P,D,C,v.lX,v.pX,rfl⟩;have A:gE h (.l G s I) U (lv e s) 67108864:=⟨_,_,_,e,rfl,O,om,ai,ak,B,v.lY,v.pY,rfl⟩;exact⟨_,rfl,⟨_,_,T,U,rfl,E.marked M om,A.marked M om,om,om,om⟩,W.trans (M.since om)⟩
 . have am:p=0:=om;have K:=ads an ao am;rw[K.1,K.2.1,K.2.2];subst am;have q1:((c:Int)==0)=false:=(by simp;omega);obtain⟨k0,k1,k2⟩:=oA.g;go_enter func153,ntmps153;go_wp2_with fail;generalize (((w.alloc _).alloc _).alloc _)=w1 at*;refine (xO a V om om R.nc R.mc (R.aA S).LX (R.aA S).LY).mono ?_;rintro aj h ⟨z,G,T,U,H,I,rfl,N,O,P,ai,D,ak,C,B,y1,y2,y3,u⟩;have Q:=aq.aA u;have W:=S.tr u;obtain⟨u0,u1,u2⟩:=Q.g;obtain⟨ae,af,ag⟩:=Q.k;go_wp2;have L:=((Q.bE (.bool f)).bH (.l z c H)).bF (.l G j I);refine bO (qi rfl _ _ _ _ _ _ rfl L) rfl ?_;have M:eM h _ (w.heap.size+1+1):=(((eM.refl h _).setCell 0 (.bool f)).setCell 1 (.l z c H)).setCell 2 (.l G j I);have E:gE h (.l z c H) T (lv X c) 67108864:=⟨_,_,_,X,rfl,N,om,P,D,C,R.lX,R.pX,rfl⟩;have A:gE h (.l G j I) U (lv Y j) 67108864:=⟨_,_,_,Y,rfl,O,om,ai,ak,B,R.lY,R.pY,rfl⟩;exact⟨_,rfl,⟨_,_,T,U,rfl,E.marked M om,A.marked M om,om,om,om⟩,W.trans (M.since om)⟩
theorem afZ(a E D G:Addr){q:Nat}{y:Nat->Nat}{w:World}(bc:c+p+j+s<=16777216)
 (R:wv w (some a) (some E) n m c d k i j l X Y)(x:wv w (some D) (some G) o b p q t r s g Z y)(h1:0<c)(h2:0<p)(hs:jo X c Y j=true)(a4:jo Z p y s=true):
 Cl 153 #[.agg #[.bool f,.slice (some a) c d,.slice (some E) j l],.agg #[.bool F,.slice (some D) p q,.slice (some G) s g]] w fun e v=>∃aj,e=.returned aj/\
  jM v aj (jn f F (lv X c*lv y s) (lv Z p*lv Y j)&&fJ f F (lv X c*lv y s) (lv Z p*lv Y j) != 0) (fJ f F (lv X c*lv y s) (lv Z p*lv Y j)/Nat.gcd (fJ f F (lv X c*lv y s) (lv Z p*lv Y j)) (lv Y j*lv y s)) ((lv Y j*lv y s)/Nat.gcd (fJ f F (lv X c*lv y s) (lv Z p*lv Y j)) (lv Y j*lv y s)) w.heap.size 67108864/\w.S v:=by
 have bh:w.heap.size+1+1≠w.heap.size:=om;obtain⟨sA,zA,oA,pA,rA⟩:=bx w (.bool f) (.l (some a) c d) (.l (some E) j l) (.bool F) (.l (some D) p q) (.l (some G) s g) (.bool false) (.n) (.n);obtain⟨s1,ay,az,an⟩:=nL.1 hs;obtain⟨t1,a0,a3,ao⟩:=nL.1 a4;obtain⟨aq,hx⟩:∃aq,aq=lv X c:=⟨_,rfl⟩;obtain⟨ac,hy⟩:∃ac,ac=lv Y j:=⟨_,rfl⟩;obtain⟨x',al⟩:∃x',x'=lv Z p:=⟨_,rfl⟩;obtain⟨y',ai⟩:∃y',y'=lv y s:=⟨_,rfl⟩;have am:0<ac*y':=by rw[hy,ai];exact fE R.den x.den
 rw[<-hx] at az;rw[<-hy] at an;rw[<-al] at a3;rw[<-ai] at ao;obtain⟨h,hp⟩:∃h,h=aq*y':=⟨_,rfl⟩;obtain⟨u,hr⟩:∃u,u=x'*ac:=⟨_,rfl⟩;obtain⟨ab,hq⟩:∃ab,ab=ac*y':=⟨_,rfl⟩;have bi:h<9223372036854775808:=by rw[hp];exact dD (dF (cZ az) (cZ ao)) om
 have bo:u<9223372036854775808:=by rw[hr];exact dD (dF (cZ a3) (cZ an)) om
 have bm:ab<9223372036854775808:=by rw[hq];exact dD (dF (cZ an) (cZ ao)) om
 have bj:IntKind.u64.wrap ((aq:Int)*(y':Int))=(h:Int):=by rw[<-dR,<-hp];exact gv h om
 have bp:IntKind.u64.wrap ((x':Int)*(ac:Int))=(u:Int):=by rw[<-dR,<-hr];exact gv u om
 have bn:IntKind.u64.wrap ((ac:Int)*(y':Int))=(ab:Int):=by rw[<-dR,<-hq];exact gv ab om
 rw[<-hq] at am;rw[<-hx,<-al,<-hy,<-ai,<-hp,<-hq,<-hr];obtain⟨sn,av⟩:∃ax,ax=jn f F h u:=⟨_,rfl⟩;obtain⟨st,aw⟩:∃ax,ax=fJ f F h u:=⟨_,rfl⟩;rw[<-av,<-aw];have ad:=eI av;have ae:=eI aw;clear av aw;have HX:=eI hx;have HY:=eI hy;have ar:=eI al;have au:=eI ai;clear az an a3 ao hx hy al ai hp hr hq;have K:((c:Int)==0)=false:=by simp;omega
 have L:((p:Int)==0)=false:=by simp;omega
 obtain⟨j0,j1,j2⟩:=oA.g;go_enter func153,ntmps153;go_wp2_with fail;generalize (((w.alloc _).alloc _).alloc _)=w1 at*;have I1:=@jk f (some a) (some E) n m c d k i j l X Y w1 om om (R.aA sA).LX (R.aA sA).LY R.lX R.lY;rw[hs] at I1;refine mo I1 fun w2 s2=> ?_;have S2:=sA.tr s2;have o2:=oA.aA s2;have p2:=pA.aA s2;have r2:=rA.aA s2;have z2:=s2.size;clear I1 j0 j1 j2 oA pA rA;obtain⟨k0,k1,k2⟩:=p2.g;have I2:=@jk F (some D) (some G) o b p q t r s g Z y w2 om om (x.aA S2).LX (x.aA S2).LY x.lX x.lY;rw[a4] at I2;go_wp2_with fail;refine mo I2 fun w3 s3=> ?_;have S3:=S2.tr s3;have o3:=o2.aA s3;have p3:=p2.aA s3;have r3:=r2.aA s3;have z3:=s3.size;clear I2 k0 k1 k2 o2 p2 r2;have aa:=And.intro o3.cells p3.cells;have H:=@im (some a) n m c d X w3.drew s1 (R.aA S3).LX R.lX;have B:=@im (some E) k i j l Y w3.drew ay (R.aA S3).LY R.lY;have I:=@im (some D) o b p q Z w3.drew t1 (x.aA S3).LX x.lX;have C:=@im (some G) t r s g y w3.drew a0 (x.aA S3).LY x.lY;rw[<-HX.out] at H;rw[<-HY.out] at B;rw[<-ar.out] at I;rw[<-au.out] at C;go_wp2
 go_region_held3 (fun v=>v.cell? (jj w.heap.size 0)=some (.bool f)/\v.cell? (jj w.heap.size 1)=some (.l (some a) c d)/\v.cell? (jj w.heap.size 2)=some (.l (some E) j l)/\v.cell? (jj (w.heap.size+1) 0)=some (.bool F)/\v.cell? (jj (w.heap.size+1) 1)=some (.l (some D) p q)/\v.cell? (jj (w.heap.size+1) 2)=some (.l (some G) s g)) (go_keep)
  (first
    | (go_at_call 150
       first
        | (with_reducible refine H.mono ?_;rintro e v4 ⟨rfl,rfl⟩)
        | (with_reducible refine C.mono ?_;rintro e v4 ⟨rfl,rfl⟩)))
 have S4:=gz S3;have o4:=o3.drew;have p4:=p3.drew;have r4:=r3.drew;clear aa H B I C o3 p3 r3;generalize w3.drew=w4 at*;have aa:=And.intro o4.cells p4.cells;have H:=@im (some a) n m c d X w4.drew s1 (R.aA S4).LX R.lX;have B:=@im (some E) k i j l Y w4.drew ay (R.aA S4).LY R.lY;have I:=@im (some D) o b p q Z w4.drew t1 (x.aA S4).LX x.lX;have C:=@im (some G) t r s g y w4.drew a0 (x.aA S4).LY x.lY;rw[<-HX.out] at H;rw[<-HY.out] at B;rw[<-ar.out] at I;rw[<-au.out] at C;go_wp2
 go_region_held3 (fun v=>v.cell? (jj w.heap.size 0)=some (.bool f)/\v.cell? (jj w.heap.size 1)=some (.l (some a) c d)/\v.cell? (jj w.heap.size 2)=some (.l (some E) j l)/\v.cell? (jj (w.heap.size+1) 0)=some (.bool F)/\v.cell? (jj (w.heap.size+1) 1)=some (.l (some D) p q)/\v.cell? (jj (w.heap.size+1) 2)=some (.l (some G) s g)) (go_keep)
  (first
    | (go_at_call 150
       first
        | (with_reducible refine I.mono ?_;rintro e v4 ⟨rfl,rfl⟩)
        | (with_reducible refine B.mono ?_;rintro e v4 ⟨rfl,rfl⟩)))
 have S5:=gz S4;have o5:=o4.drew;have p5:=p4.drew;have r5:=r4.drew;clear aa H B I C o4 p4 r4;generalize w4.drew=w5 at*;have aa:=And.intro o5.cells p5.cells;have H:=@im (some a) n m c d X w5.drew s1 (R.aA S5).LX R.lX;have B:=@im (some E) k i j l Y w5.drew ay (R.aA S5).LY R.lY;have I:=@im (some D) o b p q Z w5.drew t1 (x.aA S5).LX x.lX;have C:=@im (some G) t r s g y w5.drew a0 (x.aA S5).LY x.lY;rw[<-HX.out] at H;rw[<-HY.out] at B;rw[<-ar.out] at I;rw[<-au.out] at C;go_wp2
 go_region_held3 (fun v=>v.cell? (jj w.heap.size 0)=some (.bool f)/\v.cell? (jj w.heap.size 1)=some (.l (some a) c d)/\v.cell? (jj w.heap.size 2)=some (.l (some E) j l)/\v.cell? (jj (w.heap.size+1) 0)=some (.bool F)/\v.cell? (jj (w.heap.size+1) 1)=some (.l (some D) p q)/\v.cell? (jj (w.heap.size+1) 2)=some (.l (some G) s g)) (go_keep)
  (first
    | (go_at_call 150
       first
        | (with_reducible refine B.mono ?_;rintro e v4 ⟨rfl,rfl⟩)
        | (with_reducible refine mp C ?_)))
 have S6:=gz S5;have o6:=o5.drew;have p6:=p5.drew;have r6:=r5.drew;clear aa H B I C o5 p5 r5;generalize w5.drew=w6 at*;by_cases W:f=F
 . subst W;have V:sn=f:=(by rw[ad.out];simp[jn]);have e2:st=h+u:=(by rw[ae.out];simp[fJ]);clear ad ae;have ag:=eI V;clear V;subst e2;have O:=eI S6;have aa:=And.intro o6.cells p6.cells;have a5:IntKind.u64.wrap ((h:Int)+(u:Int))=((h+u:Nat):Int):=(by rw[<-rM];exact gv (h+u) om);have J5:=@kj f (h+u) ab w6 om om am;go_wp2_with fail;refine J5.mono ?_;rintro e A ⟨aj,rfl,⟨x1,x2,g6,h6,rfl,P,N,y1,y2,y3⟩,s6⟩;have ah:=P;have af:=N;obtain⟨Q,K,T,Y1,rfl,-⟩:=P;obtain⟨S,L,U,Y2,rfl,-⟩:=N;have z:=r6.aA s6;obtain⟨u0,u1,u2⟩:=z.g;obtain⟨a6,a7,a8⟩:=z.k;go_wp2;have S7:w.S A:=O.out.trans (sM s6 O.out.size);have rl:=r6.lt;have rC:=((z.bE (.bool (f&&(h+u) != 0))).bH (.l Q K T)).bF (.l S L U);refine bO (qi rfl _ _ _ _ _ _ rfl rC) rfl ?_;have M:eM A _ (w.heap.size+1+1):=(((eM.refl A _).setCell 0 (.bool (f&&(h+u) != 0))).setCell 1 (.l Q K T)).setCell 2 (.l S L U);exact⟨_,rfl,⟨_,_,g6,h6,by rw[ag.out],ah.marked M om,af.marked M om,om,om,y3⟩,S7.trans (M.since om)⟩
 . have bf:(f==F)=false:=(by simp[W]);by_cases ak:h<u
   . have a9:¬((u:Int)<=h):=om;have V:sn=F:=(by rw[ad.out];simp[jn,W,ak]);have e2:st=u-h:=(by rw[ae.out];simp[fJ,W,ak]);clear ad ae;have ag:=eI V;clear V;subst e2;have O:=eI S6;have aa:=And.intro o6.cells p6.cells;have a5:IntKind.u64.wrap ((u:Int)-(h:Int))=((u-h:Nat):Int):=(by rw[<-Int.ofNat_sub om];exact gv (u-h) om);clear W;have J5:=@kj F (u-h) ab w6 om om am;go_wp2_with fail;refine J5.mono ?_;rintro e A ⟨aj,rfl,⟨x1,x2,g6,h6,rfl,P,N,y1,y2,y3⟩,s6⟩;have ah:=P;have af:=N;obtain⟨Q,K,T,Y1,rfl,-⟩:=P;obtain⟨S,L,U,Y2,rfl,-⟩:=N;have z:=r6.aA s6;obtain⟨u0,u1,u2⟩:=z.g;obtain⟨a6,a7,a8⟩:=z.k;go_wp2;have S7:w.S A:=O.out.trans (sM s6 O.out.size);have rl:=r6.lt;have rC:=((z.bE (.bool (F&&(u-h) != 0))).bH (.l Q K T)).bF (.l S L U);refine bO (qi rfl _ _ _ _ _ _ rfl rC) rfl ?_;have M:eM A _ (w.heap.size+1+1):=(((eM.refl A _).setCell 0 (.bool (F&&(u-h) != 0))).setCell 1 (.l Q K T)).setCell 2 (.l S L U);exact⟨_,rfl,⟨_,_,g6,h6,by rw[ag.out],ah.marked M om,af.marked M om,om,om,y3⟩,S7.trans (M.since om)⟩
   . have a9:(u:Int)<=h:=om;have V:sn=f:=(by rw[ad.out];simp[jn,W,ak]);have e2:st=h-u:=(by rw[ae.out];simp[fJ,W,ak]);clear ad ae;have ag:=eI V;clear V;subst e2;have O:=eI S6;have aa:=And.intro o6.cells p6.cells;have a5:IntKind.u64.wrap ((h:Int)-(u:Int))=((h-u:Nat):Int):=(by rw[<-Int.ofNat_sub om];exact gv (h-u) om);clear W;have J5:=@kj f (h-u) ab w6 om om am;go_wp2_with fail;refine J5.mono ?_;rintro e A ⟨aj,rfl,⟨x1,x2,g6,h6,rfl,P,N,y1,y2,y3⟩,s6⟩;have ah:=P;have af:=N;obtain⟨Q,K,T,Y1,rfl,-⟩:=P;obtain⟨S,L,U,Y2,rfl,-⟩:=N;have z:=r6.aA s6;obtain⟨u0,u1,u2⟩:=z.g;obtain⟨a6,a7,a8⟩:=z.k;go_wp2;have S7:w.S A:=O.out.trans (sM s6 O.out.size);have rl:=r6.lt;have rC:=((z.bE (.bool (f&&(h-u) != 0))).bH (.l Q K T)).bF (.l S L U);refine bO (qi rfl _ _ _ _ _ _ rfl rC) rfl ?_;have M:eM A _ (w.heap.size+1+1):=(((eM.refl A _).setCell 0 (.bool (f&&(h-u) != 0))).setCell 1 (.l Q K T)).setCell 2 (.l S L U);exact⟨_,rfl,⟨_,_,g6,h6,by rw[ag.out],ah.marked M om,af.marked M om,om,om,y3⟩,S7.trans (M.since om)⟩
theorem Tr.bits{w:World}{A:Nat->Bool}(h:Tr w (.l a n m) n A):∃b d,n<=m/\jx w a b d n A/\(0<n->A (n-1)=true):=by
 obtain⟨k,b,d,c,e,g,i,j⟩:=h;cases e;exact⟨b,d,g,i,j⟩
theorem adJ(b7 W E u:Addr){q:Nat}{A:Nat->Nat}{w:World}(hn:c+p+j+s<=16777216)
 (R:wv w (some b7) (some W) n m c d k i j l X Y)(C:wv w (some E) (some u) o b p q t r s g Z A)(h1:0<c)(h2:0<p)(hs:jo X c Y j=false∨(jo X c Y j=true/\jo Z p A s=false)):
 Cl 153 #[.agg #[.bool f,.slice (some b7) c d,.slice (some W) j l],.agg #[.bool F,.slice (some E) p q,.slice (some u) s g]] w fun e a=>∃a4,e=.returned a4/\
  jM a a4 (jn f F (lv X c*lv A s) (lv Z p*lv Y j)&&fJ f F (lv X c*lv A s) (lv Z p*lv Y j) != 0) (fJ f F (lv X c*lv A s) (lv Z p*lv Y j)/Nat.gcd (fJ f F (lv X c*lv A s) (lv Z p*lv Y j)) (lv Y j*lv A s)) ((lv Y j*lv A s)/Nat.gcd (fJ f F (lv X c*lv A s) (lv Z p*lv Y j)) (lv Y j*lv A s)) w.heap.size 67108864/\w.S a:=by
 have b6:w.heap.size+1+1≠w.heap.size:=om;obtain⟨sA,zA,oA,pA,rA⟩:=bx w (.bool f) (.l (some b7) c d) (.l (some W) j l) (.bool F) (.l (some E) p q) (.l (some u) s g) (.bool false) (.n) (.n);have a6:=fE R.den C.den;obtain⟨B,hp⟩:∃B,B=lv X c*lv A s:=⟨_,rfl⟩;obtain⟨G,hr⟩:∃G,G=lv Z p*lv Y j:=⟨_,rfl⟩;obtain⟨bu,hq⟩:∃bu,bu=lv Y j*lv A s:=⟨_,rfl⟩;rw[<-hp,<-hr,<-hq];rw[<-hq] at a6;obtain⟨sn,bf⟩:∃bi,bi=jn f F B G:=⟨_,rfl⟩;obtain⟨st,bg⟩:∃bi,bi=fJ f F B G:=⟨_,rfl⟩;rw[<-bf,<-bg];have al:=eI bf;have am:=eI bg;have ch:=eI hp;have ci:=eI hr;have HQ:=eI hq;clear bf bg hp hr hq;have q1:((c:Int)==0)=false:=by simp;omega
 have q2:((p:Int)==0)=false:=by simp;omega
 obtain⟨j0,j1,j2⟩:=oA.g;go_enter func153,ntmps153;go_wp2_with fail;generalize (((w.alloc _).alloc _).alloc _)=w1 at*;have I1:=@jk f (some b7) (some W) n m c d k i j l X Y w1 om om (R.aA sA).LX (R.aA sA).LY R.lX R.lY;rcases hs with hs | ⟨hs,b3⟩
 focus
  rw[hs] at I1;refine mo I1 fun w3 ca=> ?_;have S3:=sA.tr ca;have o3:=oA.aA ca;have p3:=pA.aA ca;have r3:=rA.aA ca;clear I1 j0 j1 j2 oA pA rA
 rotate_left
 focus
  rw[hs] at I1;refine mo I1 fun w2 s2=> ?_;have S2:=sA.tr s2;have o2:=oA.aA s2;have cc:=pA.aA s2;have r2:=rA.aA s2;have z2:=s2.size;clear I1 j0 j1 j2 oA pA rA;obtain⟨k0,k1,k2⟩:=cc.g;have I2:=@jk F (some E) (some u) o b p q t r s g Z A w2 om om (C.aA S2).LX (C.aA S2).LY C.lX C.lY;rw[b3] at I2;go_wp2_with fail;refine mo I2 fun w3 ca=> ?_;have S3:=S2.tr ca;have o3:=o2.aA ca;have p3:=cc.aA ca;have r3:=r2.aA ca;have z3:=ca.size;clear I2 k0 k1 k2 o2 cc r2
 rotate_left
 all_goals
  have cb:=And.intro o3.cells p3.cells;have cj:=@i8 (some b7) n m c d X w3.drew om (R.aA S3).LX R.lX;go_wp2
  go_region_held3 (fun a=>a.cell? (jj w.heap.size 0)=some (.bool f)/\a.cell? (jj w.heap.size 1)=some (.l (some b7) c d)/\a.cell? (jj w.heap.size 2)=some (.l (some W) j l)/\a.cell? (jj (w.heap.size+1) 0)=some (.bool F)/\a.cell? (jj (w.heap.size+1) 1)=some (.l (some E) p q)/\a.cell? (jj (w.heap.size+1) 2)=some (.l (some u) s g)) (go_keep)
   (first
     | (go_at_call 101
        first
         | (with_reducible refine cj.mono ?_
            rintro e v4 ⟨a1,g1,m1,t1,B1,rfl,k1,k2,L1,-,p1,e1,h⟩;have D:w.S v4:=(gz S3).trans (sM h S3.size);have H:=o3.drew.aA h;have K:=p3.drew.aA h;have ah:=r3.drew.aA h;have y:=And.intro H.cells K.cells;have J2:=@i8 (some u) t r s g A v4 om (C.aA D).LY C.lY)
         | (with_reducible refine J2.mono ?_
            rintro e v5 ⟨a2,g2,m2,t2,B2,rfl,l1,l2,L2,-,cc,e2,v⟩;have ad:=D.tr v;have I:=H.aA v;have L:=K.aA v;have ai:=ah.aA v;have y:=And.intro I.cells L.cells;have b9:=@jK a1 a2 g1 0 m1 t1 g2 0 m2 t2 B1 B2 v5 om om (L1.aA v) L2;rw[e1,e2] at b9))
     | (go_at_call 143;(with_reducible refine b9.mono ?_);rintro e w4 ⟨gx,U,cx,Ox,rfl,P,f2,L6,f3,Q,e6,x⟩;have S4:=ad.tr x;have o4:=I.aA x;have p4:=L.aA x;have r4:=ai.aA x;have y:=And.intro o4.cells p4.cells;have bo:Tr w4 (.s gx U cx) U Ox:=⟨_,gx,0,cx,rfl,P,L6,Q⟩))
  have hx:U<=536870912:=om;have cf:=eI e6;clear cb y cj J2 b9 e6 e1 e2 P f2 f3 Q L6 x D ad H K ah I L ai h v L1 L2 k1 k2 l1 l2 p1 cc o3 p3 r3;have cb:=And.intro o4.cells p4.cells;have cj:=@i8 (some E) o b p q Z w4.drew om (C.aA S4).LX C.lX;go_wp2
  go_region_held3 (fun a=>a.cell? (jj w.heap.size 0)=some (.bool f)/\a.cell? (jj w.heap.size 1)=some (.l (some b7) c d)/\a.cell? (jj w.heap.size 2)=some (.l (some W) j l)/\a.cell? (jj (w.heap.size+1) 0)=some (.bool F)/\a.cell? (jj (w.heap.size+1) 1)=some (.l (some E) p q)/\a.cell? (jj (w.heap.size+1) 2)=some (.l (some u) s g)) (go_keep)
   (first
     | (go_at_call 101
        first
         | (with_reducible refine cj.mono ?_
            rintro e v4 ⟨a1,g1,m1,t1,B1,rfl,k1,k2,L1,-,p1,e1,h⟩;have D:w.S v4:=(gz S4).trans (sM h S4.size);have H:=o4.drew.aA h;have K:=p4.drew.aA h;have ah:=r4.drew.aA h;have aw:Tr v4 _ _ _:=Tr.aA (w:=w4.drew) bo h;have y:=And.intro H.cells K.cells;have J2:=@i8 (some W) k i j l Y v4 om (R.aA D).LY R.lY)
         | (with_reducible refine J2.mono ?_
            rintro e v5 ⟨a2,g2,m2,t2,B2,rfl,l1,l2,L2,-,cc,e2,v⟩;have ad:=D.tr v;have I:=H.aA v;have L:=K.aA v;have ai:=ah.aA v;have ax:=aw.aA v;have y:=And.intro I.cells L.cells;have b9:=@jK a1 a2 g1 0 m1 t1 g2 0 m2 t2 B1 B2 v5 om om (L1.aA v) L2;rw[e1,e2] at b9))
     | (go_at_call 143;(with_reducible refine b9.mono ?_);rintro e w5 ⟨gy,V,cy,Oy,rfl,P,f2,L6,f3,Q,e6,x⟩;have S5:=ad.tr x;have o5:=I.aA x;have p5:=L.aA x;have r5:=ai.aA x;have bp:=ax.aA x;have y:=And.intro o5.cells p5.cells;have br:Tr w5 (.s gy V cy) V Oy:=⟨_,gy,0,cy,rfl,P,L6,Q⟩))
  have hy:V<=536870912:=om;have cg:=eI e6;clear cb y cj J2 b9 e6 e1 e2 P f2 f3 Q L6 x D ad H K ah I L ai h v L1 L2 k1 k2 l1 l2 p1 cc o4 p4 r4;clear aw ax bo;have cb:=And.intro o5.cells p5.cells;have cj:=@i8 (some W) k i j l Y w5.drew om (R.aA S5).LY R.lY;go_wp2
  go_region_held3 (fun a=>a.cell? (jj w.heap.size 0)=some (.bool f)/\a.cell? (jj w.heap.size 1)=some (.l (some b7) c d)/\a.cell? (jj w.heap.size 2)=some (.l (some W) j l)/\a.cell? (jj (w.heap.size+1) 0)=some (.bool F)/\a.cell? (jj (w.heap.size+1) 1)=some (.l (some E) p q)/\a.cell? (jj (w.heap.size+1) 2)=some (.l (some u) s g)) (go_keep)
   (first
     | (go_at_call 101
        first
         | (with_reducible refine cj.mono ?_
            rintro e v4 ⟨a1,g1,m1,t1,B1,rfl,k1,k2,L1,-,p1,e1,h⟩;have D:w.S v4:=(gz S5).trans (sM h S5.size);have H:=o5.drew.aA h;have K:=p5.drew.aA h;have ah:=r5.drew.aA h;have aw:Tr v4 _ _ _:=Tr.aA (w:=w5.drew) bp h;have bq:Tr v4 _ _ _:=Tr.aA (w:=w5.drew) br h;have y:=And.intro H.cells K.cells;have J2:=@i8 (some u) t r s g A v4 om (C.aA D).LY C.lY)
         | (with_reducible refine J2.mono ?_
            rintro e v5 ⟨a2,g2,m2,t2,B2,rfl,l1,l2,L2,-,cc,e2,v⟩;have ad:=D.tr v;have I:=H.aA v;have L:=K.aA v;have ai:=ah.aA v;have ax:=aw.aA v;have bs:=bq.aA v;have y:=And.intro I.cells L.cells;have b9:=@jK a1 a2 g1 0 m1 t1 g2 0 m2 t2 B1 B2 v5 om om (L1.aA v) L2;rw[e1,e2] at b9))
     | (go_at_call 143;(with_reducible refine b9.mono ?_);rintro e w6 ⟨gd,td,cd,Od,rfl,P,f2,L6,f3,Q,e6,x⟩;have S6:=ad.tr x;have o6:=I.aA x;have p6:=L.aA x;have r6:=ai.aA x;have a9:=ax.aA x;have bc:=bs.aA x;have y:=And.intro o6.cells p6.cells;have a8:Tr w6 (.s gd td cd) td Od:=⟨_,gd,0,cd,rfl,P,L6,Q⟩))
  have hd:td<=536870912:=om;have Ed:=eI e6;clear cb y cj J2 b9 e6 e1 e2 P f2 f3 Q L6 x D ad H K ah I L ai h v L1 L2 k1 k2 l1 l2 p1 cc o5 p5 r5;clear aw ax bp bq bs br;by_cases ag:f=F
  . subst ag;obtain⟨bx,ox,lx,Lx,bj⟩:=a9.bits;obtain⟨bY,oy,ly,Ly,bm⟩:=bc.bits;have aq:Hid (sn=f):=eI (by rw[al.out];simp[jn]);have b8:Hid (st=(B+G)):=eI (by rw[am.out];simp[fJ]);clear al am;have cb:=And.intro o6.cells p6.cells;have J6:=@wW _ _ bx ox U cx bY oy V cy Ox Oy w6.drew om om Lx Ly;rw[cf.out,cg.out,<-ch.out,<-ci.out] at J6;go_wp2_with fail
    go_region_held3 (fun a=>a.cell? (jj w.heap.size 0)=some (.bool f)/\a.cell? (jj w.heap.size 1)=some (.l (some b7) c d)/\a.cell? (jj w.heap.size 2)=some (.l (some W) j l)/\a.cell? (jj (w.heap.size+1) 0)=some (.bool f)/\a.cell? (jj (w.heap.size+1) 1)=some (.l (some E) p q)/\a.cell? (jj (w.heap.size+1) 2)=some (.l (some u) s g)) (go_keep)
     (first
       | (go_at_call 142;(with_reducible refine J6.mono ?_);rintro e T ⟨gs,O,cs,Ds,rfl,P,f2,Ls,f3,Q,es,z⟩;have S8:w.S T:=(gz S6).trans (sM z S6.size);have o8:=o6.drew.aA z;have p8:=p6.drew.aA z;have r8:=r6.drew.aA z;have y:=And.intro o8.cells p8.cells;have av:Tr T _ _ _:=Tr.aA (w:=w6.drew) a8 z;have Ts:Tr T (.s gs O cs) O Ds:=⟨_,gs,0,cs,rfl,P,Ls,Q⟩;have J7:=@me f _ _ O td Ds Od T om om Ts av (by rw[Ed.out,<-HQ.out];exact a6);rw[es,Ed.out,<-HQ.out] at J7)
       | (go_at_call 104;(with_reducible refine J7.mono ?_);rintro e aj ⟨a4,rfl,⟨x1,x2,ay,az,rfl,ac,ce,y1,y2,y3⟩,S⟩;have ar:=ac;have ao:=ce;obtain⟨aa,qa,ae,Ya,rfl,-⟩:=ac;obtain⟨ab,qb,af,Yb,rfl,-⟩:=ce;have y:=And.intro (o8.aA S).cells (p8.aA S).cells;have N:=r8.aA S;obtain⟨u0,u1,u2⟩:=N.g;obtain⟨bw,bz,b0⟩:=N.k))
    all_goals go_wp2
    all_goals
     have au:=S8.tr S;have z9:=S8.size;have b1:=r8.lt;have rC:=((N.bE (.bool (f&&(B+G) != 0))).bH (.l aa qa ae)).bF (.l ab qb af);refine bO (qi rfl _ _ _ _ _ _ rfl rC) rfl ?_;have M:eM aj _ (w.heap.size+1+1):=(((eM.refl aj _).setCell 0 (.bool (f&&(B+G) != 0))).setCell 1 (.l aa qa ae)).setCell 2 (.l ab qb af);exact⟨_,rfl,⟨_,_,ay,az,by rw[aq.out,b8.out],by rw[b8.out];exact ar.marked M om,by rw[b8.out];exact ao.marked M om,om,om,y3⟩,au.trans (M.since om)⟩
  . have b4:(f==F)=false:=(by simp[ag]);obtain⟨bx,ox,lx,Lx,bj⟩:=a9.bits;obtain⟨bY,oy,ly,Ly,bm⟩:=bc.bits;have cb:=And.intro o6.cells p6.cells;have J5:=@pp _ _ bx ox U cx bY oy V cy Ox Oy w6 om om Lx Ly bj bm;rw[cf.out,cg.out,<-ch.out,<-ci.out] at J5;go_wp2_with fail;refine mo J5 fun w7 m7=> ?_;have s7:=m7.since w6.heap.size;have S7:=S6.tr s7;have o7:=o6.aA s7;have p7:=p6.aA s7;have r7:=r6.aA s7;have bn:=a8.aA s7;have Lx:=Lx.aA s7;have Ly:=Ly.aA s7;clear J5 cb o6 p6 r6 a8 a9 bc s7 m7;by_cases an:B<G
    . have b2:=yT an;have b5:¬((0:Int)<=lq B G):=om;have a3:U<=V:=by
       rcases jI V U with ak | ak
       . have:=vt (A:=Oy) (B:=Ox) ak bj;rw[cf.out,cg.out,<-ch.out,<-ci.out] at this;omega
       . exact ak
      have a0:bv Ox U<=bv Oy V:=(by rw[cf.out,cg.out,<-ch.out,<-ci.out];omega);have aq:Hid (sn=F):=eI (by rw[al.out];simp[jn,ag,an]);have b8:Hid (st=(G-B)):=eI (by rw[am.out];simp[fJ,ag,an]);clear al am;have cb:=And.intro o7.cells p7.cells;have J6:=@mX _ _ bY oy V cy bx ox U cx Oy Ox w7.drew om a3 Ly Lx a0;rw[cf.out,cg.out,<-ch.out,<-ci.out] at J6;clear ag a0 a3;go_wp2_with fail
      go_region_held3 (fun a=>a.cell? (jj w.heap.size 0)=some (.bool f)/\a.cell? (jj w.heap.size 1)=some (.l (some b7) c d)/\a.cell? (jj w.heap.size 2)=some (.l (some W) j l)/\a.cell? (jj (w.heap.size+1) 0)=some (.bool F)/\a.cell? (jj (w.heap.size+1) 1)=some (.l (some E) p q)/\a.cell? (jj (w.heap.size+1) 2)=some (.l (some u) s g)) (go_keep)
       (first
         | (go_at_call 188;(with_reducible refine J6.mono ?_);rintro e T ⟨gs,O,cs,Ds,rfl,P,f2,Ls,f3,Q,es,z⟩;have S8:w.S T:=(gz S7).trans (sM z S7.size);have o8:=o7.drew.aA z;have p8:=p7.drew.aA z;have r8:=r7.drew.aA z;have y:=And.intro o8.cells p8.cells;have av:Tr T _ _ _:=Tr.aA (w:=w7.drew) bn z;have Ts:Tr T (.s gs O cs) O Ds:=⟨_,gs,0,cs,rfl,P,Ls,Q⟩;have J7:=@me F _ _ O td Ds Od T om om Ts av (by rw[Ed.out,<-HQ.out];exact a6);rw[es,Ed.out,<-HQ.out] at J7)
         | (go_at_call 104;(with_reducible refine J7.mono ?_);rintro e aj ⟨a4,rfl,⟨x1,x2,ay,az,rfl,ac,ce,y1,y2,y3⟩,S⟩;have ar:=ac;have ao:=ce;obtain⟨aa,qa,ae,Ya,rfl,-⟩:=ac;obtain⟨ab,qb,af,Yb,rfl,-⟩:=ce;have y:=And.intro (o8.aA S).cells (p8.aA S).cells;have N:=r8.aA S;obtain⟨u0,u1,u2⟩:=N.g;obtain⟨bw,bz,b0⟩:=N.k))
      all_goals go_wp2
      all_goals
       have au:=S8.tr S;have z9:=S8.size;have b1:=r8.lt;have rC:=((N.bE (.bool (F&&(G-B) != 0))).bH (.l aa qa ae)).bF (.l ab qb af);refine bO (qi rfl _ _ _ _ _ _ rfl rC) rfl ?_;have M:eM aj _ (w.heap.size+1+1):=(((eM.refl aj _).setCell 0 (.bool (F&&(G-B) != 0))).setCell 1 (.l aa qa ae)).setCell 2 (.l ab qb af);exact⟨_,rfl,⟨_,_,ay,az,by rw[aq.out,b8.out],by rw[b8.out];exact ar.marked M om,by rw[b8.out];exact ao.marked M om,om,om,y3⟩,au.trans (M.since om)⟩
    . have b2:=vn (jV an);have a3:V<=U:=by
       rcases jI U V with ak | ak
       . have:=vt (A:=Ox) (B:=Oy) ak bm;rw[cf.out,cg.out,<-ch.out,<-ci.out] at this;omega
       . exact ak
      have a0:bv Oy V<=bv Ox U:=(by rw[cf.out,cg.out,<-ch.out,<-ci.out];omega);have aq:Hid (sn=f):=eI (by rw[al.out];simp[jn,ag,an]);have b8:Hid (st=(B-G)):=eI (by rw[am.out];simp[fJ,ag,an]);clear al am;have cb:=And.intro o7.cells p7.cells;have J6:=@mX _ _ bx ox U cx bY oy V cy Ox Oy w7.drew om a3 Lx Ly a0;rw[cf.out,cg.out,<-ch.out,<-ci.out] at J6;clear ag a0 a3;go_wp2_with fail
      go_region_held3 (fun a=>a.cell? (jj w.heap.size 0)=some (.bool f)/\a.cell? (jj w.heap.size 1)=some (.l (some b7) c d)/\a.cell? (jj w.heap.size 2)=some (.l (some W) j l)/\a.cell? (jj (w.heap.size+1) 0)=some (.bool F)/\a.cell? (jj (w.heap.size+1) 1)=some (.l (some E) p q)/\a.cell? (jj (w.heap.size+1) 2)=some (.l (some u) s g)) (go_keep)
       (first
         | (go_at_call 188;(with_reducible refine J6.mono ?_);rintro e T ⟨gs,O,cs,Ds,rfl,P,f2,Ls,f3,Q,es,z⟩;have S8:w.S T:=(gz S7).trans (sM z S7.size);have o8:=o7.drew.aA z;have p8:=p7.drew.aA z;have r8:=r7.drew.aA z;have y:=And.intro o8.cells p8.cells;have av:Tr T _ _ _:=Tr.aA (w:=w7.drew) bn z;have Ts:Tr T (.s gs O cs) O Ds:=⟨_,gs,0,cs,rfl,P,Ls,Q⟩;have J7:=@me f _ _ O td Ds Od T om om Ts av (by rw[Ed.out,<-HQ.out];exact a6);rw[es,Ed.out,<-HQ.out] at J7)
         | (go_at_call 104;(with_reducible refine J7.mono ?_);rintro e aj ⟨a4,rfl,⟨x1,x2,ay,az,rfl,ac,ce,y1,y2,y3⟩,S⟩;have ar:=ac;have ao:=ce;obtain⟨aa,qa,ae,Ya,rfl,-⟩:=ac;obtain⟨ab,qb,af,Yb,rfl,-⟩:=ce;have y:=And.intro (o8.aA S).cells (p8.aA S).cells;have N:=r8.aA S;obtain⟨u0,u1,u2⟩:=N.g;obtain⟨bw,bz,b0⟩:=N.k))
      all_goals go_wp2
      all_goals
       have au:=S8.tr S;have z9:=S8.size;have b1:=r8.lt;have rC:=((N.bE (.bool (f&&(B-G) != 0))).bH (.l aa qa ae)).bF (.l ab qb af);refine bO (qi rfl _ _ _ _ _ _ rfl rC) rfl ?_;have M:eM aj _ (w.heap.size+1+1):=(((eM.refl aj _).setCell 0 (.bool (f&&(B-G) != 0))).setCell 1 (.l aa qa ae)).setCell 2 (.l ab qb af);exact⟨_,rfl,⟨_,_,ay,az,by rw[aq.out,b8.out],by rw[b8.out];exact ar.marked M om,by rw[b8.out];exact ao.marked M om,om,om,y3⟩,au.trans (M.since om)⟩
theorem ajX(a x u y:Addr){q:Nat}{h:Nat->Nat}{w:World}(A:c+p+j+s<=16777216)
 (R:wv w (some a) (some x) n m c d k i j l X Y)(z:wv w (some u) (some y) o b p q t r s g Z h)(I:gu f X c Y j=true)(K:gu F Z p h s=true):
 Cl 153 #[.agg #[.bool f,.slice (some a) c d,.slice (some x) j l],.agg #[.bool F,.slice (some u) p q,.slice (some y) s g]] w fun e G=>∃v,e=.returned v/\
  jM G v (jn f F (lv X c*lv h s) (lv Z p*lv Y j)&&fJ f F (lv X c*lv h s) (lv Z p*lv Y j) != 0) (fJ f F (lv X c*lv h s) (lv Z p*lv Y j)/Nat.gcd (fJ f F (lv X c*lv h s) (lv Z p*lv Y j)) (lv Y j*lv h s)) ((lv Y j*lv h s)/Nat.gcd (fJ f F (lv X c*lv h s) (lv Z p*lv Y j)) (lv Y j*lv h s)) w.heap.size 67108864/\w.S G:=by
 by_cases H:c=0∨p=0
 . exact ah4 a x u y A R z I K H
 have B:0<c:=om;have C:0<p:=om;by_cases D:jo X c Y j=true
 . by_cases E:jo Z p h s=true
   . exact afZ a x u y A R z B C D E
   . exact adJ a x u y A R z B C (Or.inr ⟨D,by simpa using E⟩)
 . exact adJ a x u y A R z B C (Or.inl (by simpa using D))
theorem ua{w:World}(H:c<=16777216)(v:j<=16777216)(B:c<=d)(z:j<=l)(C:a=none->d=0)(D:A=none->l=0)(r:eO w a n m c X)(t:eO w A k i j Y):
 Cl 190 #[.agg #[.bool f,.slice a c d,.slice A j l]] w fun e p=>∃g h q b,e=.returned (.agg #[.bool f,.s g c q,.s h j b])/\c<=q/\j<=b/\
  eO p (jp g 0) g 0 c X/\eO p (jp h 0) h 0 j Y/\(0<c->∀o,p.frozen? (jj g o)=false)/\(0<j->∀o,p.frozen? (jj h o)=false)/\w.heap.size<=g/\g<h/\h<p.heap.size/\w.S p:=
 (aco H v B z C D r t).mono fun _ _ ⟨g,h,q,b,u,x,y,G,E,F,s⟩=>⟨g,h,q,b,u,(ny x).1,(ny y).1,(ny x).2.1,(ny y).2.1,fun _=>(ny x).2.2,fun _=>(ny y).2.2,om,E,F,s⟩
theorem adH{f:Bool}{a A:Option Addr}{n m c d k i j l:Nat}{X Y:Nat->Nat}{w:World}(hn:c<=16777216)(hm:j<=16777216)(ac:c<=d)(ab:j<=l)(ad:a=none->d=0)(ae:A=none->l=0)(ai:eO w a n m c X)(ah:eO w A k i j Y):
 Calls Tryz.prog 200 #[.agg #[.bool f,.slice a c d,.slice A j l]] w fun e N=>∃g h o b,e=.returned (.agg #[.bool (!f&&decide (0<c)),.slice (some ⟨g,0,none⟩) c o,.slice (some ⟨h,0,none⟩) j b])/\c<=o/\j<=b/\
  eO N (some ⟨g,0,none⟩) g 0 c X/\eO N (some ⟨h,0,none⟩) h 0 j Y/\w.heap.size<=g/\g<h/\h<N.heap.size/\w.Since w.heap.size N:=by
 have u:w.Since w.heap.size ((w.alloc (.cells #[.bool f,.slice a c d,.slice A j l] 70)).alloc (.cells #[.bool false,.slice none 0 0,.slice none 0 0] 70)):=(yD.alloc zR _).alloc qz _;have oA:eS ((w.alloc (.cells #[.bool f,.slice a c d,.slice A j l] 70)).alloc (.cells #[.bool false,.slice none 0 0,.slice none 0 0] 70)) w.heap.size (.bool f) (.slice a c d) (.slice A j l):=(eS.new w _ _ _ _).aA (yD.alloc zR _);have D:eS ((w.alloc (.cells #[.bool f,.slice a c d,.slice A j l] 70)).alloc (.cells #[.bool false,.slice none 0 0,.slice none 0 0] 70)) (w.heap.size+1) (.bool false) (.slice none 0 0) (.slice none 0 0):=by have:=eS.new (w.alloc (.cells #[.bool f,.slice a c d,.slice A j l] 70)) (.bool false) (.slice none 0 0) (.slice none 0 0) 70;simpa using this
 go_enter func200,ntmps200;go_wp2_with fail;generalize ((w.alloc (.cells #[.bool f,.slice a c d,.slice A j l] 70)).alloc (.cells #[.bool false,.slice none 0 0,.slice none 0 0] 70))=w1 at*;refine (ua hn hm ac ab ad ae (ai.aA u) (ah.aA u)).mono ?_;rintro e y ⟨g,h,o,b,rfl,Z,B,v,z,-,-,b1,b2,b3,t⟩;have p:=u.trans (sM t u.size);have z1:=D.lt;have O:=fA y (.cells #[.bool f,.slice (some ⟨g,0,none⟩) c o,.slice (some ⟨h,0,none⟩) j b] 70);have s:=eS.new y (.bool f) (.slice (some ⟨g,0,none⟩) c o) (.slice (some ⟨h,0,none⟩) j b) 70;have L:=(oA.aA t).aA O;have r3:=(D.aA t).aA O;have k0:=L.c0;have k1:=L.c1;have j0:=s.c0;have j1:=s.c1;have j2:=s.c2;have jf:=s.f 0;have af:w.heap.size≠y.heap.size:=om;have ag:w.heap.size+1≠y.heap.size:=om;have C:=D.aA t;cases f
 . by_cases G:0<c
   . have aa:(0:Int)<(c:Int):=om;have E:=fA y (.cells #[.bool true,.slice (some ⟨g,0,none⟩) c o,.slice (some ⟨h,0,none⟩) j b] 70);have M:=eS.new y (.bool true) (.slice (some ⟨g,0,none⟩) c o) (.slice (some ⟨h,0,none⟩) j b) 70;have x:=C.aA E;have q:=p.trans (sM E p.size);have H:=M.c0;have I:=M.c1;have K:=M.c2;have P:=x.c0;have Q:=x.c1;have R:=x.c2;have S:=x.f 0;have T:=x.f 1;have U:=x.f 2;go_wp2;have r:=((x.bE (.bool true)).bH (.slice (some ⟨g,0,none⟩) c o)).bF (.slice (some ⟨h,0,none⟩) j b);refine bO (qi rfl _ _ _ _ _ _ rfl r) rfl ?_;have F:eM (y.alloc (.cells #[.bool true,.slice (some ⟨g,0,none⟩) c o,.slice (some ⟨h,0,none⟩) j b] 70)) _ (w.heap.size+1):=(((eM.refl (y.alloc (.cells #[.bool true,.slice (some ⟨g,0,none⟩) c o,.slice (some ⟨h,0,none⟩) j b] 70)) _).setCell 0 (.bool true)).setCell 1 (.slice (some ⟨g,0,none⟩) c o)).setCell 2 (.slice (some ⟨h,0,none⟩) j b);have W:=F.size;have V:y.heap.size<=(y.alloc (.cells #[.bool true,.slice (some ⟨g,0,none⟩) c o,.slice (some ⟨h,0,none⟩) j b] 70)).heap.size:=E.size;exact⟨g,h,o,b,by simp[G],Z,B,(v.aA E).marked F (fun _=>by omega),(z.aA E).marked F (fun _=>by omega),om,om,om,q.trans (F.since om)⟩
   . have aa:¬(0:Int)<(c:Int):=om;have E:=fA y (.cells #[.bool false,.slice (some ⟨g,0,none⟩) c o,.slice (some ⟨h,0,none⟩) j b] 70);have M:=eS.new y (.bool false) (.slice (some ⟨g,0,none⟩) c o) (.slice (some ⟨h,0,none⟩) j b) 70;have x:=C.aA E;have q:=p.trans (sM E p.size);have H:=M.c0;have I:=M.c1;have K:=M.c2;have P:=x.c0;have Q:=x.c1;have R:=x.c2;have S:=x.f 0;have T:=x.f 1;have U:=x.f 2;go_wp2;have r:=((x.bE (.bool false)).bH (.slice (some ⟨g,0,none⟩) c o)).bF (.slice (some ⟨h,0,none⟩) j b);refine bO (qi rfl _ _ _ _ _ _ rfl r) rfl ?_;have F:eM (y.alloc (.cells #[.bool false,.slice (some ⟨g,0,none⟩) c o,.slice (some ⟨h,0,none⟩) j b] 70)) _ (w.heap.size+1):=(((eM.refl (y.alloc (.cells #[.bool false,.slice (some ⟨g,0,none⟩) c o,.slice (some ⟨h,0,none⟩) j b] 70)) _).setCell 0 (.bool false)).setCell 1 (.slice (some ⟨g,0,none⟩) c o)).setCell 2 (.slice (some ⟨h,0,none⟩) j b);have W:=F.size;have V:y.heap.size<=(y.alloc (.cells #[.bool false,.slice (some ⟨g,0,none⟩) c o,.slice (some ⟨h,0,none⟩) j b] 70)).heap.size:=E.size;exact⟨g,h,o,b,by simp[G],Z,B,(v.aA E).marked F (fun _=>by omega),(z.aA E).marked F (fun _=>by omega),om,om,om,q.trans (F.since om)⟩
 . have E:=fA y (.cells #[.bool false,.slice (some ⟨g,0,none⟩) c o,.slice (some ⟨h,0,none⟩) j b] 70);have M:=eS.new y (.bool false) (.slice (some ⟨g,0,none⟩) c o) (.slice (some ⟨h,0,none⟩) j b) 70;have x:=C.aA E;have q:=p.trans (sM E p.size);have H:=M.c0;have I:=M.c1;have K:=M.c2;have P:=x.c0;have Q:=x.c1;have R:=x.c2;have S:=x.f 0;have T:=x.f 1;have U:=x.f 2;go_wp2;have r:=((x.bE (.bool false)).bH (.slice (some ⟨g,0,none⟩) c o)).bF (.slice (some ⟨h,0,none⟩) j b);refine bO (qi rfl _ _ _ _ _ _ rfl r) rfl ?_;have F:eM (y.alloc (.cells #[.bool false,.slice (some ⟨g,0,none⟩) c o,.slice (some ⟨h,0,none⟩) j b] 70)) _ (w.heap.size+1):=(((eM.refl (y.alloc (.cells #[.bool false,.slice (some ⟨g,0,none⟩) c o,.slice (some ⟨h,0,none⟩) j b] 70)) _).setCell 0 (.bool false)).setCell 1 (.slice (some ⟨g,0,none⟩) c o)).setCell 2 (.slice (some ⟨h,0,none⟩) j b);have W:=F.size;have V:y.heap.size<=(y.alloc (.cells #[.bool false,.slice (some ⟨g,0,none⟩) c o,.slice (some ⟨h,0,none⟩) j b] 70)).heap.size:=E.size;exact⟨g,h,o,b,rfl,Z,B,(v.aA E).marked F (fun _=>by omega),(z.aA E).marked F (fun _=>by omega),om,om,om,q.trans (F.since om)⟩
theorem acU{a A B aa:Option Addr}{q:Nat}{u:Nat->Nat}{w:World}(hn:c+p+j+s<=16777216)
 (R:wv w a A n m c d k i j l X Y)(z:wv w B aa o b p q t r s g Z u)(ok:gu f X c Y j=true)(ac:gu F Z p u s=true)(h0:c=0∨p=0):
 Calls Tryz.prog 153 #[.agg #[.bool f,.slice a c d,.slice A j l],.agg #[.bool F,.slice B p q,.slice aa s g]] w fun ak w'=>∃ad,ak=.returned ad/\
  jM w' ad (jn f F (lv X c*lv u s) (lv Z p*lv Y j)&&fJ f F (lv X c*lv u s) (lv Z p*lv Y j) != 0) (fJ f F (lv X c*lv u s) (lv Z p*lv Y j)/Nat.gcd (fJ f F (lv X c*lv u s) (lv Z p*lv Y j)) (lv Y j*lv u s)) ((lv Y j*lv u s)/Nat.gcd (fJ f F (lv X c*lv u s) (lv Z p*lv Y j)) (lv Y j*lv u s)) w.heap.size 67108864/\w.Since w.heap.size w':=by
 have ah:w.heap.size+1+1≠w.heap.size:=om;obtain⟨T,zA,I,K,rA⟩:=bx w (.bool f) (.l a c d) (.l A j l) (.bool F) (.l B p q) (.l aa s g) (.bool false) (.slice none 0 0) (.slice none 0 0);by_cases al:c=0
 . have S:=adt ok ac al;rw[S.1,S.2.1,S.2.2];subst al;have k0:=K.c0;have k1:=K.c1;have k2:=K.c2;go_enter func153,ntmps153;go_wp2_with fail;generalize (((w.alloc _).alloc _).alloc _)=aj at*;refine (ua om om z.nc z.mc z.ac z.bc (z.aA T).LX (z.aA T).LY).mono ?_;rintro ak O ⟨x,y,P,Q,rfl,N,v,W,V,E,D,y1,y2,y3,U⟩;have e:=rA.aA U;have H:=T.tr U;have u0:=e.c0;have u1:=e.c1;have u2:=e.c2;have ae:=e.f 0;have af:=e.f 1;have ag:=e.f 2;go_wp2;have L:=((e.bE (.bool F)).bH (.l (some ⟨x,0,none⟩) p P)).bF (.l (some ⟨y,0,none⟩) s Q);refine bO (qi rfl _ _ _ _ _ _ rfl L) rfl ?_;have M:eM O _ (w.heap.size+1+1):=(((eM.refl O _).setCell 0 (.bool F)).setCell 1 (.l (some ⟨x,0,none⟩) p P)).setCell 2 (.l (some ⟨y,0,none⟩) s Q);have G:gE O (.l (some ⟨x,0,none⟩) p P) x (lv Z p) 67108864:=⟨_,_,_,Z,rfl,N,om,fun h=>(by cases h),W,E,z.lX,z.pX,rfl⟩;have C:gE O (.l (some ⟨y,0,none⟩) s Q) y (lv u s) 67108864:=⟨_,_,_,u,rfl,v,om,fun h=>(by cases h),V,D,z.lY,z.pY,rfl⟩;exact⟨_,rfl,⟨_,_,x,y,rfl,G.marked M om,C.marked M om,om,om,om⟩,H.trans (M.since om)⟩
 . have am:p=0:=om;have S:=ads ok ac am;rw[S.1,S.2.1,S.2.2];subst am;have q1:((c:Int)==0)=false:=(by simp;omega);have k0:=I.c0;have k1:=I.c1;have k2:=I.c2;go_enter func153,ntmps153;go_wp2_with fail;generalize (((w.alloc _).alloc _).alloc _)=aj at*;refine (ua om om R.nc R.mc R.ac R.bc (R.aA T).LX (R.aA T).LY).mono ?_;rintro ak O ⟨x,y,P,Q,rfl,N,v,W,V,E,D,y1,y2,y3,U⟩;have e:=rA.aA U;have H:=T.tr U;have u0:=e.c0;have u1:=e.c1;have u2:=e.c2;have ae:=e.f 0;have af:=e.f 1;have ag:=e.f 2;go_wp2;have L:=((e.bE (.bool f)).bH (.l (some ⟨x,0,none⟩) c P)).bF (.l (some ⟨y,0,none⟩) j Q);refine bO (qi rfl _ _ _ _ _ _ rfl L) rfl ?_;have M:eM O _ (w.heap.size+1+1):=(((eM.refl O _).setCell 0 (.bool f)).setCell 1 (.l (some ⟨x,0,none⟩) c P)).setCell 2 (.l (some ⟨y,0,none⟩) j Q);have G:gE O (.l (some ⟨x,0,none⟩) c P) x (lv X c) 67108864:=⟨_,_,_,X,rfl,N,om,fun h=>(by cases h),W,E,R.lX,R.pX,rfl⟩;have C:gE O (.l (some ⟨y,0,none⟩) j Q) y (lv Y j) 67108864:=⟨_,_,_,Y,rfl,v,om,fun h=>(by cases h),V,D,R.lY,R.pY,rfl⟩;exact⟨_,rfl,⟨_,_,x,y,rfl,G.marked M om,C.marked M om,om,om,om⟩,H.trans (M.since om)⟩
theorem adI{x:Option Addr}{q:Nat}{u:Nat->Nat}{w:World}(y:c+p+j+s<=16777216)
 (R:wv w a A n m c d k i j l X Y)(h:wv w B x o b p q t r s g Z u)(z:gu f X c Y j=true)(C:gu F Z p u s=true):
 Calls Tryz.prog 153 #[.agg #[.bool f,.slice a c d,.slice A j l],.agg #[.bool F,.slice B p q,.slice x s g]] w fun e E=>∃v,e=.returned v/\
  jM E v (jn f F (lv X c*lv u s) (lv Z p*lv Y j)&&fJ f F (lv X c*lv u s) (lv Z p*lv Y j) != 0) (fJ f F (lv X c*lv u s) (lv Z p*lv Y j)/Nat.gcd (fJ f F (lv X c*lv u s) (lv Z p*lv Y j)) (lv Y j*lv u s)) ((lv Y j*lv u s)/Nat.gcd (fJ f F (lv X c*lv u s) (lv Z p*lv Y j)) (lv Y j*lv u s)) w.heap.size 67108864/\w.Since w.heap.size E:=by
 by_cases D:c=0∨p=0
 . exact acU y R h z C D
 . obtain rfl:a=some ⟨n,m,none⟩:=(by have:=(R.LX 0 om).1;simpa using this);obtain rfl:A=some ⟨k,i,none⟩:=(by have:=(R.LY 0 R.m0).1;simpa using this);obtain rfl:B=some ⟨o,b,none⟩:=(by have:=(h.LX 0 om).1;simpa using this);obtain rfl:x=some ⟨t,r,none⟩:=(by have:=(h.LY 0 h.m0).1;simpa using this);exact ajX _ _ _ _ y R h z C
theorem akE(f F:Bool)(n m c d:Nat)(o:f=true->0<n)(k:F=true->0<m)(q:0<c↔0<m)(l:d=0↔fJ f (!F&&decide (0<c)) n m=0):
 (if (d:Int)=0 then (0:Int) else if (jn f (!F&&decide (0<c)) n m&&fJ f (!F&&decide (0<c)) n m != 0)=true then-1 else 1)=au f F n m:=by
 have j:decide (0<c)=decide (0<m):=by simp[q]
 rw[j] at l⊢;have p:((d:Int)=0)↔fJ f (!F&&decide (0<m)) n m=0:=om;simp only[p];rcases kD n m with a | a | a
 . cases f<;>cases F<;>rcases cQ m with b | b<;>simp_all[jn,fJ,au,lq]<;>(try omega)
 . cases f<;>cases F<;>rcases cQ m with b | b<;>simp_all[jn,fJ,au,lq]<;>(try omega)
 . have e:¬n<m:=om;have g:¬n-m=0:=om;have h:0<n:=om;have i:¬n=0:=om;cases f<;>cases F<;>rcases cQ m with b | b<;>simp[jn,fJ,au,lq,b,a,e,g,h,i]<;>(try (have:=k rfl;omega))<;>(try omega)
theorem acn{f:Bool}{a A:Option Addr}{n m c d:Nat}{w:World}:
 Cl 191 #[.agg #[.bool f,.slice a n m,.slice A c d]] w fun e g=>e=.returned (.i (if (n:Int)=0 then (0:Int) else if f=true then-1 else 1))/\w.S g:=by
 have b:=fA w (.o #[.bool f,.l a n m,.l A c d] 70);by_cases h:n=0
 . subst h;go_enter func191,ntmps191;go_wp2;go_ret;exact⟨rfl,b⟩
 . have j:((n:Int)==0)=false:=(by simp;omega);have i:¬((n:Int)=0):=om;rw[aM i];cases f
   . go_enter func191,ntmps191;go_wp2;go_ret;exact⟨rfl,b⟩
   . go_enter func191,ntmps191;go_wp2;go_ret;exact⟨rfl,b⟩
theorem ajo(d:gu f X n Y m=true):gu (!f&&decide (0<n)) X n Y m=true:=by
 unfold gu at*;cases f<;>rcases cQ n with h | h<;>simp_all<;>(try omega)
theorem aii(a:gu f X n Y m=true)(e:f=true)(b:0<n->X (n-1)≠0):0<lv X n:=by
 subst e;unfold gu at a;rcases cQ (lv X n) with h | h
 . have:=(km b).2 h;subst this;simp at a
 . exact h
theorem adG{G:Option Addr}{q:Nat}{x:Nat->Nat}{w:World}(hn:c+p+j+s<=16777216)
 (R:wv w a A n m c d k i j l X Y)(y:wv w B G o b p q t r s g Z x)(ok:gu f X c Y j=true)(ac:gu F Z p x s=true):
 Cl 163 #[.agg #[.bool f,.slice a c d,.slice A j l],.agg #[.bool F,.slice B p q,.slice G s g]] w fun e z=>∃v,e=.returned v/\
  jM z v (jn f (!F&&decide (0<p)) (lv X c*lv x s) (lv Z p*lv Y j)&&fJ f (!F&&decide (0<p)) (lv X c*lv x s) (lv Z p*lv Y j) != 0) (fJ f (!F&&decide (0<p)) (lv X c*lv x s) (lv Z p*lv Y j)/Nat.gcd (fJ f (!F&&decide (0<p)) (lv X c*lv x s) (lv Z p*lv Y j)) (lv Y j*lv x s)) ((lv Y j*lv x s)/Nat.gcd (fJ f (!F&&decide (0<p)) (lv X c*lv x s) (lv Z p*lv Y j)) (lv Y j*lv x s)) w.heap.size 67108864/\w.S z:=by
 have ae:w.heap.size+1+1≠w.heap.size:=om;obtain⟨U,zA,S,pA,rA⟩:=bx w (.bool f) (.l a c d) (.l A j l) (.bool F) (.l B p q) (.l G s g) (.bool false) (.n) (.n);have m1:=R.m0;have ag:=y.m0;obtain⟨W,P⟩:∃ad,ad=(jn f (!F&&decide (0<p)) (lv X c*lv x s) (lv Z p*lv Y j)&&fJ f (!F&&decide (0<p)) (lv X c*lv x s) (lv Z p*lv Y j) != 0):=⟨_,rfl⟩;have am:=eI P;clear P;have J1:=@adH F B G o b p q t r s g Z x (((w.alloc (.o #[.bool f,.l a c d,.l A j l] 70)).alloc (.o #[.bool F,.l B p q,.l G s g] 70)).alloc yJ).drew om om y.nc y.mc y.ac y.bc (y.aA (gz U)).LX (y.aA (gz U)).LY;go_enter func163,ntmps163;have af:=And.intro S.cells pA.cells;go_wp2_with fail;generalize (((w.alloc _).alloc _).alloc _)=w1 at*
 go_region_held3 (fun z=>z.cell? (jj w.heap.size 0)=some (.bool f)/\z.cell? (jj w.heap.size 1)=some (.l a c d)/\z.cell? (jj w.heap.size 2)=some (.l A j l)/\z.cell? (jj (w.heap.size+1) 0)=some (.bool F)/\z.cell? (jj (w.heap.size+1) 1)=some (.l B p q)/\z.cell? (jj (w.heap.size+1) 2)=some (.l G s g)) (go_keep)
  (first
    | (go_at_call 200;(with_reducible refine J1.mono ?_);rintro e w2 ⟨H,h,ao,aq,rfl,v1,v2,L1,L2,b1,b2,b3,I⟩;have C:=(gz U).trans (sM I U.size);have Q:=S.drew.aA I;have K:=pA.drew.aA I;have r2:=rA.drew.aA I;have kk:=And.intro Q.cells K.cells;have R2:wv w2 (jp H 0) (jp h 0) H 0 p ao h 0 s aq Z x:=⟨v1,v2,fun h=>(by cases h),fun h=>(by cases h),L1,L2,y.lX,y.lY,y.pX,y.pY,y.m0⟩;have an:=adI hn (R.aA C) R2 ok (ajo ac);rw[<-am.out] at an)
    | (go_at_call 153;(with_reducible refine an.mono ?_);rintro e w6 ⟨v,rfl,⟨x1,x2,g6,h6,rfl,V,L,y1,y2,y3⟩,T⟩;have ab:=V;have aa:=L;obtain⟨D,q1,N,Y1,rfl,-⟩:=V;obtain⟨E,q2,O,Y2,rfl,-⟩:=L;have kk:=And.intro (Q.aA T).cells (K.aA T).cells;have u:=r2.aA T;obtain⟨u0,u1,u2⟩:=u.g;obtain⟨ah,ai,aj⟩:=u.k))
 all_goals go_wp2
 all_goals
  have S6:=C.tr T;have zr:=r2.lt;have rC:=((u.bE (.bool W)).bH (.l D q1 N)).bF (.l E q2 O);refine bO (qi rfl _ _ _ _ _ _ rfl rC) rfl ?_;have M:eM w6 _ (w.heap.size+1+1):=(((eM.refl w6 _).setCell 0 (.bool W)).setCell 1 (.l D q1 N)).setCell 2 (.l E q2 O);exact⟨_,rfl,⟨_,_,g6,h6,by rw[am.out],ab.marked M om,aa.marked M om,om,om,y3⟩,S6.trans (M.since om)⟩
theorem ajW{y:Option Addr}{q:Nat}{C:Nat->Nat}{w:World}(hn:c+p+j+s<=16777216)
 (R:wv w a A n m c d k i j l X Y)(K:wv w B y o b p q t r s g Z C)(O:gu f X c Y j=true)(P:gu F Z p C s=true):
 Cl 155 #[.agg #[.bool f,.slice a c d,.slice A j l],.agg #[.bool F,.slice B p q,.slice y s g]] w fun e w'=>e=.returned (.i (au f F (lv X c*lv C s) (lv Z p*lv Y j)))/\w.S w':=by
 have M:w.S ((w.alloc (.o #[.bool f,.l a c d,.l A j l] 70)).alloc (.o #[.bool F,.l B p q,.l y s g] 70)):=(fA _ _).alloc qz _;have zA:((w.alloc (.o #[.bool f,.l a c d,.l A j l] 70)).alloc (.o #[.bool F,.l B p q,.l y s g] 70)).heap.size=w.heap.size+1+1:=by simp
 have oA:eS ((w.alloc (.o #[.bool f,.l a c d,.l A j l] 70)).alloc (.o #[.bool F,.l B p q,.l y s g] 70)) w.heap.size (.bool f) (.l a c d) (.l A j l):=(eS.new w _ _ _ _).aA (fA _ _);have pA:eS ((w.alloc (.o #[.bool f,.l a c d,.l A j l] 70)).alloc (.o #[.bool F,.l B p q,.l y s g] 70)) (w.heap.size+1) (.bool F) (.l B p q) (.l y s g):=by have:=eS.new (w.alloc (.o #[.bool f,.l a c d,.l A j l] 70)) (.bool F) (.l B p q) (.l y s g) 70;simpa using this
 have E:f=true->0<lv X c*lv C s:=fun e=>fE (aii O e R.pX) K.den;have N:F=true->0<lv Z p*lv Y j:=fun e=>fE (aii P e K.pX) R.den;have G:0<p↔0<lv Z p*lv Y j:=by
  have h1:=km K.pX;constructor
  . intro h;exact fE om R.den
  . intro h;rcases cQ p with e | e
    . rw[h1.1 e,iT] at h;omega
    . exact e
 have aa:=fE R.den K.den;obtain⟨z,I⟩:∃z,z=au f F (lv X c*lv C s) (lv Z p*lv Y j):=⟨_,rfl⟩;have u:=eI I;clear I;have ab:=And.intro oA.cells pA.cells;have v:=adG hn (R.aA M) (K.aA M) O P;go_enter func155,ntmps155;go_wp2_with fail;generalize ((w.alloc _).alloc _)=w1 at*;refine v.mono ?_;rintro e w2 ⟨ac,rfl,⟨x1,x2,g6,h6,rfl,T,S,y1,y2,y3⟩,s2⟩;have U:=M.tr s2;obtain⟨V,L,ae,Y1,rfl,-,-,-,-,-,-,Q,D⟩:=T;obtain⟨ad,q2,d2,Y2,rfl,-⟩:=S;have H:L=0↔fJ f (!F&&decide (0<p)) (lv X c*lv C s) (lv Z p*lv Y j)=0:=(km Q).trans (by rw[D];exact yN aa);have W:=eI (akE f F _ _ p L E N G H);have x:=@acn (jn f (!F&&decide (0<p)) (lv X c*lv C s) (lv Z p*lv Y j)&&fJ f (!F&&decide (0<p)) (lv X c*lv C s) (lv Z p*lv Y j) != 0) V ad L ae q2 d2 w2;rw[W.out,<-u.out] at x;clear v W H E N G Q D ab;go_wp2_with fail;refine mo x fun w3 s3=> ?_;go_wp2;go_ret;exact⟨jq u.out,U.tr s3⟩
def qn(q:Rat):Bool:=decide (q.num<0)
theorem bs(z:Int)(n:Nat)(a:n≠0):qn (Rat.normalize z n a)=decide (z<0)/\(Rat.normalize z n a).num.natAbs=z.natAbs/Nat.gcd z.natAbs n/\(Rat.normalize z n a).den=n/Nat.gcd z.natAbs n:=by
 have j:0<Nat.gcd z.natAbs n:=lQ _ om;rw[Rat.normalize_eq];obtain⟨k,m⟩:=jQ z.natAbs n;have l:∃t:Int,z=(Nat.gcd z.natAbs n:Int)*t:=by have:((Nat.gcd z.natAbs n:Nat):Int)∣z:=Int.ofNat_dvd_left.2 (jQ _ _);exact this
 obtain⟨t,b⟩:=l;have f:(0:Int)<(Nat.gcd z.natAbs n:Int):=om;have g:z/(Nat.gcd z.natAbs n:Int)=t:=by have c:=Int.mul_ediv_cancel_left t (show (Nat.gcd z.natAbs n:Int)≠0 by omega);rw[<-b] at c;exact c
 refine⟨?_, ?_,rfl⟩
 . unfold qn;show decide (z/(Nat.gcd z.natAbs n:Int)<0)=_;rw[g,tL];constructor
   . intro h;rw[b];exact Int.mul_neg_of_pos_of_neg f h
   . intro h;rcases Int.lt_or_le t 0 with e | e
     . exact e
     . have:=tF (Int.le_of_lt f) e;omega
 . show (z/(Nat.gcd z.natAbs n:Int)).natAbs=_;rw[g];have i:z.natAbs=Nat.gcd z.natAbs n*t.natAbs:=by
    have:=congrArg Int.natAbs b;rw[oZ,rT] at this;exact this
   rw[Nat.div_eq_of_eq_mul_right j i]
theorem a8(Q:Rat):Q.num=if qn Q then-(Q.num.natAbs:Int) else (Q.num.natAbs:Int):=by
 unfold qn;by_cases h:Q.num<0
 . simp[h];omega
 . simp[h];omega
theorem br(h:qn Q=true):0<Q.num.natAbs:=by
 unfold qn at h;have:=iD h;omega
theorem apa(f F:Bool)(n m:Nat):decide ((if f then-(n:Int) else n)*(if F then-(m:Int) else m)<0)=((f != F)&&n*m != 0)/\((if f then-(n:Int) else n)*(if F then-(m:Int) else m)).natAbs=n*m:=by
 constructor
 . rw[gG,jU];have b:(n:Int)*(m:Int)=((n*m:Nat):Int):=(by simp);cases f<;>cases F<;>simp only[if_true,iO,gX,Int.neg_mul,Int.mul_neg,Int.neg_neg,b]<;>generalize n*m=z<;>simp<;>omega
 . rw[oZ];cases f<;>cases F<;>simp
theorem aoD(f F:Bool)(n m:Nat)(b:f=true->0<n)(c:F=true->0<m):decide ((if f then-(n:Int) else n)+(if F then-(m:Int) else m)<0)=(jn f F n m&&fJ f F n m != 0)/\((if f then-(n:Int) else n)+(if F then-(m:Int) else m)).natAbs=fJ f F n m:=by
 unfold jn fJ;constructor
 . rw[gG,jU];cases f<;>cases F<;>simp
   . omega
   . by_cases h:n<m<;>simp[h]<;>omega
   . by_cases h:n<m<;>simp[h]<;>omega
   . have:=b rfl;omega
 . cases f<;>cases F<;>simp
   . omega
   . by_cases h:n<m<;>simp[h]<;>omega
   . by_cases h:n<m<;>simp[h]<;>omega
   . omega
theorem aoi(Q q:Rat):qn (Q*q)=((qn Q != qn q)&&Q.num.natAbs*q.num.natAbs != 0)/\(Q*q).num.natAbs=Q.num.natAbs*q.num.natAbs/Nat.gcd (Q.num.natAbs*q.num.natAbs) (Q.den*q.den)/\(Q*q).den=Q.den*q.den/Nat.gcd (Q.num.natAbs*q.num.natAbs) (Q.den*q.den):=by
 rw[Rat.mul_def];have h:=bs (Q.num*q.num) (Q.den*q.den) (Nat.mul_ne_zero Q.den_nz q.den_nz);have a:=apa (qn Q) (qn q) Q.num.natAbs q.num.natAbs;rw[<-a8,<-a8] at a;rw[a.1,a.2] at h;exact h
theorem e0(Q q:Rat):qn (Q+q)=(jn (qn Q) (qn q) (Q.num.natAbs*q.den) (q.num.natAbs*Q.den)&&fJ (qn Q) (qn q) (Q.num.natAbs*q.den) (q.num.natAbs*Q.den) != 0)/\
 (Q+q).num.natAbs=fJ (qn Q) (qn q) (Q.num.natAbs*q.den) (q.num.natAbs*Q.den)/Nat.gcd (fJ (qn Q) (qn q) (Q.num.natAbs*q.den) (q.num.natAbs*Q.den)) (Q.den*q.den)/\
 (Q+q).den=Q.den*q.den/Nat.gcd (fJ (qn Q) (qn q) (Q.num.natAbs*q.den) (q.num.natAbs*Q.den)) (Q.den*q.den):=by
 rw[Rat.add_def];have h:=bs (Q.num*q.den+q.num*Q.den) (Q.den*q.den) (Nat.mul_ne_zero Q.den_nz q.den_nz);have a:=aoD (qn Q) (qn q) (Q.num.natAbs*q.den) (q.num.natAbs*Q.den) (fun e=>fE (br e) (nJ q.den_nz)) (fun e=>fE (br e) (nJ Q.den_nz));have b:Q.num*(q.den:Int)=if qn Q then-((Q.num.natAbs*q.den:Nat):Int) else ((Q.num.natAbs*q.den:Nat):Int):=by
  conv=>lhs;rw[a8 Q]
  cases qn Q<;>simp[Int.neg_mul]
 have c:q.num*(Q.den:Int)=if qn q then-((q.num.natAbs*Q.den:Nat):Int) else ((q.num.natAbs*Q.den:Nat):Int):=by
  conv=>lhs;rw[a8 q]
  cases qn q<;>simp[Int.neg_mul]
 rw[<-b,<-c] at a;rw[a.1,a.2] at h;exact h
theorem aoj(Q:Rat)(h:Q.num.natAbs≠0):qn Q⁻¹ =qn Q/\Q⁻¹.num.natAbs=Q.den/\Q⁻¹.den=Q.num.natAbs:=by
 have a:Q.num≠0:=om;refine⟨?_, ?_, ?_⟩
 . unfold qn;rw[Rat.num_inv,tL];have b:(0:Int)<Q.den:=(by have:=Q.den_nz;omega);rcases Int.lt_or_lt_of_ne a with e | e
   . rw[Int.sign_eq_neg_one_of_neg e];omega
   . rw[Int.sign_eq_one_of_pos e];omega
 . rw[Rat.num_inv,oZ,rT];rcases Int.lt_or_lt_of_ne a with e | e
   . rw[Int.sign_eq_neg_one_of_neg e];simp
   . rw[Int.sign_eq_one_of_pos e];simp
 . rw[Rat.den_inv,aM a]
def aD(p q:Rat):Int:=if p<q then-1 else if q<p then 1 else 0
theorem apM(Q q:Rat):au (qn Q) (qn q) (Q.num.natAbs*q.den) (q.num.natAbs*Q.den)=aD Q q:=by
 have a:Q.num*(q.den:Int)=if qn Q then-((Q.num.natAbs*q.den:Nat):Int) else ((Q.num.natAbs*q.den:Nat):Int):=by
  conv=>lhs;rw[a8 Q]
  cases qn Q<;>simp[Int.neg_mul]
 have b:q.num*(Q.den:Int)=if qn q then-((q.num.natAbs*Q.den:Nat):Int) else ((q.num.natAbs*Q.den:Nat):Int):=by
  conv=>lhs;rw[a8 q]
  cases qn q<;>simp[Int.neg_mul]
 have c:qn Q=true->0<Q.num.natAbs*q.den:=fun e=>fE (br e) (nJ q.den_nz);have d:qn q=true->0<q.num.natAbs*Q.den:=fun e=>fE (br e) (nJ Q.den_nz);unfold aD au;simp only[Rat.lt_iff,a,b];generalize Q.num.natAbs*q.den=x at*;generalize q.num.natAbs*Q.den=y at*;unfold lq;cases hp:qn Q<;>cases hq:qn q<;>simp[hp,hq] at c d⊢ <;>(repeat' split)<;>omega
def pO(w:World)(v:Value)(q:Rat):Prop:=
 ∃a n ca b m cb ba oa bb ob X Y,v=.agg #[.bool (qn q),.slice a n ca,.slice b m cb]/\wv w a b ba oa n ca bb ob m cb X Y/\lv X n=q.num.natAbs/\lv Y m=q.den
theorem pO.aA{w w':World}{q:Rat}(h:pO w u q)(s:w.S w'):pO w' u q:=by
 obtain⟨a,n,e,b,m,f,c,k,d,l,X,Y,g,i,j⟩:=h;exact⟨a,n,e,b,m,f,c,k,d,l,X,Y,g,i.aA s,j⟩
def Qb(q:Rat)(k:Nat):Prop:=q.num.natAbs<4294967296^k/\q.den<4294967296^k
theorem Qb.more(h:Qb Q n)(a:n<=m):Qb Q m:=
 ⟨aS h.1 (dP qd a),aS h.2 (dP qd a)⟩
theorem ju(b:0<n->X (n-1)≠0)(h:lv X n<4294967296^m):n<=m:=by
 rcases jI m n with e | e
 . exfalso;have a:0<n:=om;have c:=rj X n a (b a);rw[Nat.pow_mul,show (2:Nat)^32=4294967296 by decide] at c;have d:(4294967296:Nat)^m<=4294967296^(n-1):=dP qd om;omega
 . exact e
theorem Qb.mul{q:Rat}(h:Qb Q n)(a:Qb q m):Qb (Q*q) (n+m):=by
 obtain⟨-,b,c⟩:=aoi Q q;unfold Qb;rw[b,c,iB];exact⟨dD (iV _ _) (qZ h.1 a.1),dD (iV _ _) (qZ h.2 a.2)⟩
theorem ajd(f F:Bool)(n m:Nat):fJ f F n m<=n+m:=by
 unfold fJ;split
 . omega
 . split<;>omega
theorem Qb.add{q:Rat}(h:Qb Q n)(a:Qb q m):Qb (Q+q) (n+m+1):=by
 obtain⟨-,b,c⟩:=e0 Q q;unfold Qb;rw[b,c,iH,iB];have e:=qZ h.1 a.2;have d:=qZ a.1 h.2;have f:=qZ h.2 a.2;rw[cJ (4294967296^m)] at d;generalize 4294967296^n*4294967296^m=B at*;have g:=ajd (qn Q) (qn q) (Q.num.natAbs*q.den) (q.num.natAbs*Q.den);refine⟨dD (iV _ _) om,dD (iV _ _) om⟩
theorem wv.ok{w:World}(R:wv w a A d n m k i j l o X Y)(c:lv X m=Q.num.natAbs)(b:lv Y l=Q.den):gu (qn Q) X m Y l=true:=by
 have r:=ks.2 R.pX;have s:=ks.2 R.pY;have t:=R.m0;have g:Nat.gcd (lv X m) (lv Y l)=1:=by rw[c,b];exact Q.reduced
 have f:(qn Q&&m==0)=false:=by
  cases hq:qn Q
  . rfl
  . have:=br hq;rw[<-c] at this;have h:=km R.pX;have:m≠0:=(by intro e;have:=h.1 e;omega);simp[this]
 unfold gu;rw[r,s,g,f];simp;omega
theorem ai5{q:Rat}{w:World}(i:Qb Q n)(j:Qb q m)(K:2*n+2*m<=16777216)(R:pO w u Q)(c:pO w U q):
 Cl 153 #[u,U] w fun e l=>∃k,e=.returned k/\jM l k (qn (Q+q)) (Q+q).num.natAbs (Q+q).den w.heap.size 67108864/\w.S l:=by
 obtain⟨a,W,F,b,v,H,B,S,D,p,X,Y,rfl,R,d,f⟩:=R;obtain⟨z,M,G,A,L,I,C,T,E,V,x,y,rfl,c,g,h⟩:=c;have N:=ju R.pX (by rw[d];exact i.1);have O:=ju R.pY (by rw[f];exact i.2);have P:=ju c.pX (by rw[g];exact j.1);have o:=ju c.pY (by rw[h];exact j.2);have J:=adI om R c (R.ok d f) (c.ok g h);obtain⟨r,s,t⟩:=e0 Q q;rw[d,f,g,h,<-r,<-s,<-t] at J;exact J
theorem agl(Q:Rat):(Q.den:Rat)≠0:=fun h=>Q.den_nz (by
 have a:((Q.den:Int):Rat)=((0:Int):Rat):=h;exact Int.ofNat_inj.1 (Rat.intCast_inj.1 a))
theorem uS(Q:Rat):Q*(Q.den:Rat)=(Q.num:Rat):=by
 have h:Q=(Q.num:Rat)/(Q.den:Rat):=by rw[<-Rat.mkRat_eq_div,Rat.mkRat_self]
 have a:(Q.num:Rat)/(Q.den:Rat)*(Q.den:Rat)=(Q.num:Rat):=Rat.div_mul_cancel (agl Q);rwa[<-h] at a
def kg(q:Rat)(T D:Nat):Prop:=∃t:Int,q*(D:Rat)=(t:Rat)/\t.natAbs<=T
theorem kg.base(Q:Rat):kg Q Q.num.natAbs Q.den:=by
 refine⟨Q.num, ?_,aC _⟩;exact uS Q
theorem kg.more(h:kg Q n c)(d:n<=m):kg Q m c:=by
 obtain⟨t,a,b⟩:=h;exact⟨t,a,aU b d⟩
theorem kg.add{q:Rat}(h:kg Q n c)(a:kg q m c):kg (Q+q) (n+m) c:=by
 obtain⟨t,b,f⟩:=h;obtain⟨u,d,e⟩:=a;refine⟨t+u,by rw[Rat.add_mul,b,d,Rat.intCast_add], ?_⟩;exact aU (Int.natAbs_add_le t u) (Nat.add_le_add f e)
theorem kg.mul{q:Rat}(h:kg Q n c)(b:kg q m d):kg (Q*q) (n*m) (c*d):=by
 obtain⟨t,a,g⟩:=h;obtain⟨u,e,f⟩:=b;refine⟨t*u, ?_,by rw[oZ];exact dF g f⟩;rw[Rat.natCast_mul,tT,<-a,<-e];rw[jY,jY,<-jY q,<-jY (c:Rat),Rat.mul_comm q (c:Rat)]
theorem kg.up(h:kg Q n m)(c:Nat):kg Q (n*c) (m*c):=by
 obtain⟨t,a,b⟩:=h;refine⟨t*c, ?_,by rw[oZ];exact dF b qz⟩;rw[Rat.natCast_mul,tT,<-jY,a];rfl
theorem kg.bound(h:kg Q n m)(d:0<m):Q.num.natAbs<=n/\Q.den<=m:=by
 obtain⟨t,g,p⟩:=h;have e:Q.num*(m:Int)=t*(Q.den:Int):=by
  have b:Q*(m:Rat)*(Q.den:Rat)=(t:Rat)*(Q.den:Rat):=by rw[g]
  rw[jY,Rat.mul_comm (m:Rat),<-jY,uS] at b;have i:((Q.num*(m:Int):Int):Rat)=((t*(Q.den:Int):Int):Rat):=by rw[tT,tT];exact b
  exact Rat.intCast_inj.1 i
 have a:Q.num.natAbs*m=t.natAbs*Q.den:=by have:=congrArg Int.natAbs e;rwa[oZ,oZ,rT,rT] at this
 have f:Q.den∣m:=by have j:Q.den∣Q.num.natAbs*m:=⟨t.natAbs,by rw[a,cJ]⟩;exact Nat.Coprime.dvd_of_dvd_mul_left (Nat.Coprime.symm Q.reduced) j
 refine⟨?_,Nat.le_of_dvd d f⟩;obtain⟨c,rfl⟩:=f;have k:0<c:=by
  rcases cQ c with h | h
  . subst h;simp at d
  . exact h
 have l:0<Q.den:=Q.den_pos;have o:t.natAbs=Q.num.natAbs*c:=by
  have:Q.den*(Q.num.natAbs*c)=Q.den*t.natAbs:=by rw[cJ Q.den t.natAbs,<-a,oO]
  exact (Nat.eq_of_mul_eq_mul_left l this).symm
 have:Q.num.natAbs<=Q.num.natAbs*c:=jC _ k;omega
theorem kg.qb(h:kg Q n m)(a:0<m)(b:n<4294967296^c)(d:m<4294967296^c):Qb Q c:=
 ⟨dD (h.bound a).1 b,dD (h.bound a).2 d⟩
def aa(q:Nat->Rat):Nat->Nat
 | 0=>1
 | n+1=>aa q n*(q n).den
def ab(q:Nat->Rat):Nat->Nat
 | 0=>1
 | n+1=>ab q n*((q n).num.natAbs+1)
theorem agk(q:Nat->Rat)(n:Nat):0<aa q n:=by
 induction n with
 | zero=>exact Nat.one_pos
 | succ n ih=>exact fE ih (q n).den_pos
theorem dx(q:Nat->Rat)(n:Nat):0<ab q n:=by
 induction n with
 | zero=>exact Nat.one_pos
 | succ n ih=>exact fE ih (oK _)
theorem qQ(q:Nat->Rat)(h:n<m):(q n).den∣aa q m:=by
 induction m with
 | zero=>omega
 | succ m ih=>
   rcases Nat.lt_succ_iff_lt_or_eq.1 h with h | h
   . exact oR (ih h) ⟨_,rfl⟩
   . subst h;exact⟨aa q n,cJ _ _⟩
def pz(q:Nat->Rat)(a:Nat):Nat->Nat
 | 0=>0
 | j+1=>pz q a j+(q (a+j)).num.natAbs
theorem xA(q:Nat->Rat)(n m c:Nat):pz q n (m+c)=pz q n m+pz q (n+m) c:=by
 induction c with
 | zero=>simp[pz]
 | succ c ih=>rw[<-fH,pz,pz,ih,fH n m c,fH]
theorem aje(q:Nat->Rat)(h:n+m<=c):pz q n m<=pz q 0 c:=by
 have b:=xA q 0 n m;have a:=xA q 0 (n+m) (c-(n+m));rw[show n+m+(c-(n+m))=c by omega] at a;rw[aZ] at b;omega
theorem ajf(q:Nat->Rat)(n:Nat):pz q 0 n+1<=ab q n:=by
 induction n with
 | zero=>exact aC _
 | succ n ih=>
   unfold pz ab;rw[aZ,fY,iF];have:=fU (q n).num.natAbs (dx q n);omega
def mu(b:Rat)(w v:Nat->Rat):Nat->Rat
 | 0=>b
 | j+1=>mu b w v j+w j*v j
theorem kg.term{p:Rat}{E:Nat}(h:kg Q n m)(b:p.den∣E):kg (p*Q) (p.num.natAbs*n*E) (m*E):=by
 obtain⟨Y,rfl⟩:=b;have a:=((kg.base p).mul h).up Y;rw[show p.den*m*Y=m*(p.den*Y) by rw[cJ p.den m,cS]] at a;exact a.more (dE _ (fU _ p.den_pos))
theorem kg.row{w v:Nat->Rat}(j:m<=n)(hb:Q.den∣c)(k:Nat)(g:∀b,b<k->(w b).den∣c)(f:∀b,b<k->kg (v b) n m)
 (e:Q.num.natAbs+pz w 0 k<=d):kg (mu Q w v k) (d*n*c) (m*c):=by
 have h:∀i,i<=k->kg (mu Q w v i) ((Q.num.natAbs+pz w 0 i)*n*c) (m*c):=by
  intro i
  induction i with
  | zero=>
    intro _;obtain⟨Y,rfl⟩:=hb;have a:=(kg.base Q).up (m*Y);rw[show Q.den*(m*Y)=m*(Q.den*Y) by rw[oO]] at a;refine a.more ?_;simp only[pz,fV];rw[cS];refine dE _ ?_;exact dF j (fU _ Q.den_pos)
  | succ i ih=>
    intro l;have a:=(ih om).add ((f i om).term (g i om));refine a.more ?_;rw[pz,aZ,<-bI,<-bI,fH];exact aC _
 exact (h k zR).more (aP _ (aP _ e))
def fZ.q(r:fZ):Rat:=mkRat (if r.neg then-(lv r.X r.n:Int) else lv r.X r.n) (lv r.Y r.m)
theorem aoX(f:Bool)(n m:Nat)(c:m≠0):qn (mkRat (if f then-(n:Int) else n) m)=(f&&n != 0)/\(mkRat (if f then-(n:Int) else n) m).num.natAbs=n/Nat.gcd n m/\(mkRat (if f then-(n:Int) else n) m).den=m/Nat.gcd n m:=by
 rw[<-Rat.normalize_eq_mkRat c];obtain⟨d,a,b⟩:=bs (if f then-(n:Int) else n) m c;have e:(if f then-(n:Int) else (n:Int)).natAbs=n:=by split<;>simp
 rw[e] at a b;refine⟨?_,a,b⟩;rw[d];cases f
 . simp
 . show decide (-(n:Int)<0)=(true&&n != 0);rw[gG];simp only[mG,Bool.true_and,nG];omega
theorem fZ.q_ok(h:R.ok=true):qn R.q=R.neg/\R.q.num.natAbs=lv R.X R.n/\R.q.den=lv R.Y R.m/\(0<R.n->R.X (R.n-1)≠0)/\(0<R.m->R.Y (R.m-1)≠0)/\0<R.m:=by
 unfold fZ.ok gu at h;simp only[fT,nG,jJ,tH,kS] at h;obtain⟨⟨⟨⟨g,i⟩,o⟩,j⟩,k⟩:=h;have c:=ks.1 g;have d:=ks.1 i;have m:0<R.m:=om;have l:lv R.Y R.m≠0:=fun e=>by have:=(km d).2 e;omega
 obtain⟨f,a,b⟩:=aoX R.neg (lv R.X R.n) (lv R.Y R.m) l;rw[k,pI] at a b;refine⟨?_,a,b,c,d,m⟩;unfold fZ.q;rw[f];cases hn:R.neg
 . rfl
 . have n:R.n≠0:=by
    rcases j with h | h
    . rw[hn] at h;cases h
    . simpa using h
   have:lv R.X R.n≠0:=fun e=>n ((km c).2 e);simp[this]
def i7(w:World)(p:Nat->Prop)(v:Value)(q:Rat):Prop:=
 ∃a n ca b m cb ba oa bb ob X Y,v=.agg #[.bool (qn q),.slice a n ca,.slice b m cb]/\wv w a b ba oa n ca bb ob m cb X Y/\lv X n=q.num.natAbs/\lv Y m=q.den/\(0<n->p ba)/\(0<m->p bb)
section
variable{w w':World}{p p':Nat->Prop}{v:Value}{q:Rat}{a:Option Addr}{b off n c:Nat}{Q:Nat->Rat}
theorem i7.aA(h:i7 w p v q)(s:w.S w'):i7 w' p v q:=by
 obtain⟨a,n,e,b,m,f,c,k,d,l,X,Y,g,i,j⟩:=h;exact⟨a,n,e,b,m,f,c,k,d,l,X,Y,g,i.aA s,j⟩
theorem i7.read(h:i7 w p v q):pO w v q:=by
 obtain⟨a,n,e,b,m,f,c,l,d,o,X,Y,g,i,j,k,-⟩:=h;exact⟨a,n,e,b,m,f,c,l,d,o,X,Y,g,i,j,k⟩
theorem i7.imp(h:i7 w p v q)(d:∀g,g<w.heap.size->p g->p' g):i7 w p' v q:=by
 obtain⟨a,n,i,b,m,j,e,t,f,u,X,Y,k,c,l,o,r,s⟩:=h;exact⟨a,n,i,b,m,j,e,t,f,u,X,Y,k,c,l,o,fun h=>d _ (c.LX.lt h) (r h),fun h=>d _ (c.LY.lt h) (s h)⟩
theorem i7.marked(h:i7 w p v q)(s:eM w w' c)(g:¬p c):i7 w' p v q:=by
 obtain⟨a,n,k,b,m,l,i,u,j,x,X,Y,o,R,r,t,d,f⟩:=h;exact⟨a,n,k,b,m,l,i,u,j,x,X,Y,o,⟨R.nc,R.mc,R.ac,R.bc,R.LX.marked s (fun h e=>g (e▸d h)),R.LY.marked s (fun h e=>g (e▸f h)),R.lX,R.lY,R.pX,R.pY,R.m0⟩,r,t,d,f⟩
theorem jM.rp{B M:Nat}(h:jM w v (qn q) q.num.natAbs q.den B M):i7 w (fun g=>B<=g) v q:=by
 obtain⟨C,D,g,k,rfl,⟨a,n,d,X,rfl,r,-,s,t,-,u,x,y⟩,⟨b,m,f,Y,rfl,i,-,j,l,-,o,p,c⟩,z,A,-⟩:=h;refine⟨a,n,d,b,m,f,g,0,k,0,X,Y,rfl,⟨r,i,s,j,t,l,u,o,x,p, ?_⟩,y,c,fun _=>z,fun _=>A⟩;rcases cQ m with e | e
 . subst e;have:=q.den_nz;rw[<-c] at this;exact absurd rfl this
 . exact e
structure bU(w:World)(p:Nat->Prop)(b off:Nat)(q:Rat)(x y:Value):Prop where
 c0:w.cell? ⟨b,off,none⟩=some (.bool (qn q))
 c1:w.cell? ⟨b,off+1,none⟩=some x
 c2:w.cell? ⟨b,off+2,none⟩=some y
 R:i7 w p (.agg #[.bool (qn q),x,y]) q
theorem bU.lt(h:bU w p b off q u U):b<w.heap.size:=aG _ _ h.c0
theorem bU.aA(h:bU w p b off q u U)(s:w.S w'):bU w' p b off q u U:=
 ⟨(s.cell (a:=jj b off) h.lt).trans h.c0,(s.cell (a:=jj b (off+1)) h.lt).trans h.c1,(s.cell (a:=jj b (off+2)) h.lt).trans h.c2,h.R.aA s⟩
def ij(w:World)(p:Nat->Prop)(a:Option Addr)(b off n:Nat)(Q:Nat->Rat):Prop:=
 ∀i,i<n->a=some ⟨b,off,none⟩/\∃x y,bU w p b (off+i*3) (Q i) x y
theorem ij.aA(h:ij w p a b off n Q)(s:w.S w'):ij w' p a b off n Q:=fun i e=>by
 obtain⟨c,x,y,d⟩:=h i e;exact⟨c,x,y,d.aA s⟩
theorem ij.imp(h:ij w p a b off n Q)(f:∀g,g<w.heap.size->p g->p' g):ij w p' a b off n Q:=fun i e=>by
 obtain⟨d,x,y,c⟩:=h i e;exact⟨d,x,y,c.c0,c.c1,c.c2,c.R.imp f⟩
end
theorem ph.qs{w:World}{R:Nat->fZ}(h:ph w n a m c d R)(A:ke R d):ij w (fun g=>n<=g) a m c d (fun i=>(R i).q):=fun i e=>by
 obtain⟨t,D,E,f,j,b⟩:=h i e;obtain⟨q,r,s,B,C,u⟩:=fZ.q_ok (A i e);obtain⟨o,y,v,k⟩:=b.L.LX;obtain⟨p,z,x,l⟩:=b.L.LY;exact⟨t,.l D (R i).n f,.l E (R i).m j,by rw[q];exact b.c0,b.c1,b.c2,D,(R i).n,f,E,(R i).m,j,o,y,p,z,(R i).X,(R i).Y,rfl,⟨b.L.nc,b.L.mc,b.L.ac,b.L.bc,k,l,b.L.lX,b.L.lY,B,C,u⟩,r.symm,s.symm,v,x⟩
theorem ai4{q:Rat}{w:World}(i:Qb Q n)(j:Qb q m)(F:2*n+2*m<=16777216)(R:pO w u Q)(c:pO w U q):
 Cl 155 #[u,U] w fun e k=>e=.returned (.i (aD Q q))/\w.S k:=by
 obtain⟨a,p,B,b,o,D,x,N,z,P,X,Y,rfl,R,d,f⟩:=R;obtain⟨t,H,C,v,G,E,y,O,A,l,r,s,rfl,c,g,h⟩:=c;have I:=ju R.pX (by rw[d];exact i.1);have K:=ju R.pY (by rw[f];exact i.2);have L:=ju c.pX (by rw[g];exact j.1);have M:=ju c.pY (by rw[h];exact j.2);have J:=ajW om R c (R.ok d f) (c.ok g h);rw[d,f,g,h,apM] at J;exact J
def a6(op:Int):Bool:=op==1 ||op==5 ||op==6
def az(op:Int):Bool:=op==6
def ya(op:Int):Bool:=op==1 ||op==3 ||op==6 ||op==7
def ut(op:Int):Bool:=op==4
def af(z:Int)(u:Bool):Prop:=if u then 1<=z/\z<=1000 else z=0
structure fQ.Form(d:fQ):Prop where
 o1:1<=d.op
 o7:d.op<=7
 k:af d.k (a6 d.op)
 s:af d.s (az d.op)
 b:ut d.op=false->d.b=0
 v:ya d.op=false->d.nv=0
 v3:d.op=3->d.nv=1
 v7:d.op=7->d.nv=4
 ok:ke d.V d.nv
def ar(d:fQ)(i:Nat):Prop:=0<=d.a/\d.a<i/\(ut d.op=true->0<=d.b/\d.b<i)
def iR(D:Nat->Int)(d:fQ):Int:=
 if d.op=1/\(d.nv:Int)≠d.k*(D d.a.toNat+1) then 14
 else if d.op=4/\D d.b.toNat≠D d.a.toNat then 14
 else if d.op=5/\D d.a.toNat % d.k≠0 then 14
 else if d.op=6/\(d.k>D d.a.toNat∨(d.nv:Int)≠d.k+1) then 14
 else if d.op=7/\(d.V 2).n=0 then 15
 else 0
def aqd(d:fQ):Decidable d.Form:= @decidable_of_iff _ (1<=d.op/\d.op<=7/\(if a6 d.op then 1<=d.k/\d.k<=1000 else d.k=0)/\(if az d.op then 1<=d.s/\d.s<=1000 else d.s=0)/\(ut d.op=false->d.b=0)/\(ya d.op=false->d.nv=0)/\(d.op=3->d.nv=1)/\(d.op=7->d.nv=4)/\∀i,i<d.nv->(d.V i).ok=true) ⟨fun⟨a,b,c,e,f,g,h,i,j⟩=>⟨a,b,c,e,f,g,h,i,j⟩,fun f=>⟨f.o1,f.o7,f.k,f.s,f.b,f.v,f.v3,f.v7,f.ok⟩⟩ inferInstance
def srcD(d:fQ)(i:Nat):Decidable (ar d i):=inferInstanceAs (Decidable (0<=d.a/\d.a<i/\(ut d.op=true->0<=d.b/\d.b<i)))
def kz(D:Nat->Int)(i:Nat)(d:fQ):Int:=
 haveI:=aqd d;haveI:=srcD d i;if ¬d.Form then 12 else if ¬ar d i then 13 else iR D d
def ld(D:Nat->Int)(d:fQ):Int:=
 if d.op=1 then d.k else if d.op=5 then D d.a.toNat/d.k else if d.op=6 then (D d.a.toNat-d.k)/d.s+1 else D d.a.toNat
def ng(g:eQ):Nat->Nat->Int
 | 0=>fun _=>g.inn
 | i+1=>fun j=>if j<=i then ng g i j else ld (ng g i) (g.N i)
theorem yO(G:eQ)(h:m<=n):ng G (n+1) m=ng G n m:=by
 show (if m<=n then _ else _)=_;rw[aY h]
theorem yP(G:eQ)(n:Nat):ng G (n+1) (n+1)=ld (ng G n) (G.N n):=by
 show (if n+1<=n then _ else _)=_;rw[aM om]
def nc(g:eQ)(k:Nat):Int:=kz (ng g k) (k+1) (g.N k)
def Dok(D:Nat->Int)(n:Nat):Prop:=∀j,j<n->1<=D j/\D j<=1000
theorem tg{c:Nat->Int}(h:kz c n D=0):D.Form/\ar D n/\iR c D=0:=by
 unfold kz at h;by_cases a:D.Form
 . by_cases b:ar D n
   . simp only[a,b,not_true_eq_false,iO] at h;exact⟨a,b,h⟩
   . simp[a,b] at h
 . simp[a] at h
theorem akk{D:Nat->Int}{d:fQ}(h:¬d.Form):kz D i d=12:=by unfold kz;simp[h]
theorem agq{D:Nat->Int}{d:fQ}(h:d.Form)(a:¬ar d i):kz D i d=13:=by unfold kz;simp[h,a]
theorem ahJ{D:Nat->Int}{d:fQ}(h:d.Form)(a:ar d n):kz D n d=iR D d:=by unfold kz;simp[h,a]
theorem aml{d:Nat->Int}(i:Dok d n)(h:kz d n D=0):1<=ld d D/\ld d D<=1000:=by
 obtain⟨f,⟨t,u,-⟩,c⟩:=tg h;have m:=i D.a.toNat om;generalize o:d D.a.toNat=x at m;unfold iR at c;unfold ld;rw[o] at c⊢;by_cases b:D.op=1
 . have:=f.k;rw[b] at this;rw[aY b];exact this
 by_cases g:D.op=5
 . have a:=f.k;rw[g] at a;have a:1<=D.k/\D.k<=1000:=a;rw[aM b,aY g];by_cases j:x % D.k=0
   . have e:=Int.mul_ediv_add_emod x D.k;rw[j] at e;generalize s:x/D.k=y at*;constructor
     . by_cases p:y<=0
       . have:D.k*y<=0:=Int.mul_nonpos_of_nonneg_of_nonpos om p;omega
       . omega
     . have:x/D.k<=x:=rI _ om;omega
   . exfalso;simp[g,j] at c
 by_cases k:D.op=6
 . have a:=f.k;have l:=f.s;rw[k] at a l;have a:1<=D.k/\D.k<=1000:=a;have l:1<=D.s/\D.s<=1000:=l;rw[aM b,aM g,aY k];by_cases j:D.k>x
   . exfalso;simp[k,j] at c
   . have q:0<=(x-D.k)/D.s:=qH om om;have r:(x-D.k)/D.s<=x-D.k:=rI _ om;omega
 rw[aM b,aM g,aM k];exact m
structure vA(g:eQ):Prop where
 i1:1<=g.inn
 i2:g.inn<=1000
 r0:0<=g.rounds
 r1:g.rounds<=1000
 l:(g.nl:Int)=g.inn
 h:(g.nh:Int)=g.inn
 n:g.nn<=1000
 okL:ke g.Lo g.nl
 okH:ke g.Hi g.nh
def pN(g:eQ)(j:Nat):Prop:=0<aD (g.Lo j).q (g.Hi j).q
def al(g:eQ)(n:Nat)(X:Nat->Int)(c a:Int):Prop:=
 (¬vA g/\n=0/\c=10/\a=0)∨
 (vA g/\∃j:Nat,(j:Int)<g.inn/\(∀i,i<j->¬pN g i)/\pN g j/\n=0/\c=11/\a=j)∨
 (vA g/\(∀j:Nat,(j:Int)<g.inn->¬pN g j)/\∃i,i<g.nn/\(∀k,k<i->nc g k=0)/\nc g i≠0/\n=0/\c=nc g i/\a=((i+1:Nat):Int))∨
 (vA g/\(∀j:Nat,(j:Int)<g.inn->¬pN g j)/\(∀k,k<g.nn->nc g k=0)/\¬(0<=g.out/\g.out<=g.nn)/\n=0/\c=16/\a=0)∨
 (vA g/\(∀j:Nat,(j:Int)<g.inn->¬pN g j)/\(∀k,k<g.nn->nc g k=0)/\(0<=g.out/\g.out<=g.nn)/\n=g.nn+1/\(∀j,j<n->X j=ng g g.nn j)/\c=0/\a=0)
theorem al.only{X p:Nat->Int}{c a:Int}(h:al G n X c a)(A:al G m p z y):m=n/\z=c/\y=a/\∀j,j<n->p j=X j:=by
 rcases h with ⟨d,rfl,rfl,rfl⟩ | ⟨d,j,F,H,u,rfl,rfl,rfl⟩ | ⟨d,k,i,B,D,r,rfl,rfl,rfl⟩ | ⟨d,k,x,l,rfl,rfl,rfl⟩ | ⟨d,k,x,l,rfl,e,rfl,rfl⟩<;>
 rcases A with ⟨f,rfl,rfl,rfl⟩ | ⟨f,t,K,I,v,rfl,rfl,rfl⟩ | ⟨f,g,q,C,E,s,rfl,rfl,rfl⟩ | ⟨f,g,w,o,rfl,rfl,rfl⟩ | ⟨f,g,w,o,rfl,L,rfl,rfl⟩
 all_goals first
  | exact absurd f d
  | exact absurd d f
  | exact absurd u (g _ F)
  | exact absurd v (k _ K)
  | exact absurd (w _ B) r
  | exact absurd (x _ C) s
  | exact absurd o l
  | exact absurd l o
  | exact⟨rfl,rfl,rfl,fun j b=>absurd b om⟩
  | exact⟨rfl,rfl,rfl,fun j b=>by rw[e j b,L j b]⟩
  | (have:t=j:=by
      rcases kD t j with h | h | h
      . exact absurd v (H _ h)
      . exact h
      . exact absurd u (I _ h)
     subst this;exact⟨rfl,rfl,rfl,fun j b=>absurd b om⟩)
  | (have:q=i:=by
      rcases kD q i with h | h | h
      . exact absurd (D _ h) s
      . exact h
      . exact absurd (E _ h) r
     subst this;exact⟨rfl,rfl,rfl,fun j b=>absurd b om⟩)
def fZ.lim(r:fZ):Prop:=(∀j,j<r.n->r.X j<4294967296)/\∀j,j<r.m->r.Y j<4294967296
theorem ph.lim{w:World}{R:Nat->fZ}(h:ph w n a m c d R):∀i,i<d->(R i).lim:=fun i j=>by
 obtain⟨-,k,e,f,g,b⟩:=h i j;exact⟨b.L.lX,b.L.lY⟩
theorem ail(e:R.ok=true)(l:R.lim):R.q.num.natAbs+1<=4294967296^R.n/\R.q.den<=4294967296^R.m:=by
 obtain⟨-,a,b,-⟩:=fZ.q_ok e;have c:=kI R.X R.n l.1;have d:=kI R.Y R.m l.2;rw[Nat.pow_mul,show (2:Nat)^32=4294967296 by decide] at c d;rw[a,b];omega
theorem acc{R:Nat->fZ}(a:ke R n)(l:∀i,i<n->(R i).lim):ab (fun i=>(R i).q) n*aa (fun i=>(R i).q) n<=4294967296^nU R n:=by
 induction n with
 | zero=>exact aC _
 | succ n ih=>
   have h:=ih (fun i d=>a i om) (fun i d=>l i om);obtain⟨b,c⟩:=ail (a n om) (l n om);rw[py,iB,iB];show ab _ n*((R n).q.num.natAbs+1)*(aa _ n*(R n).q.den)<=_;rw[Nat.mul_mul_mul_comm];exact dF h (dF b c)
theorem afh:(Tryz.prog.info? 64).map (·.size)=some 3:=by kernel_rfl
theorem acE{z y:Int}{a A:Option Addr}{n m c d:Nat}{w:World}:
 Cl 26 #[.agg #[.i z,.i y,.slice a n m,.slice A c d]] w fun e f=>e=.returned (.agg #[.i z,.i y,.slice a n m])/\w.S f:=by
 have g:w.S ((w.alloc (.o #[.i z,.i y,.l a n m,.l A c d] 52)).alloc (.o #[.i z,.i y,.l a n m] 64)):=(fA _ _).alloc qz _;have b:=eS.new (w.alloc (.o #[.i z,.i y,.l a n m,.l A c d] 52)) (.i z) (.i y) (.l a n m) 64;go_enter func26,ntmps26;go_wp2;rw[show (w.alloc (.o #[.i z,.i y,.l a n m,.l A c d] 52)).heap.size=w.heap.size+1 by simp] at b;refine bO (fB rfl underlying64 rfl afh _ _ _ _ _ _ rfl b) rfl ?_;exact⟨rfl,g⟩
def uC(q:Rat):Rat:=if qn q=true then 0 else q
theorem ajq(h:qn Q=true):uC Q=0:=by simp[uC,h]
theorem ajp(h:qn Q=false):uC Q=Q:=by simp[uC,h]
theorem agI(q:Nat->Rat)(n m:Nat):pz (fun c=>q (n+c)) 0 m=pz q n m:=by
 induction m with
 | zero=>rfl
 | succ m ih=>rw[pz,pz,ih,aZ]
theorem kg.zero(n m:Nat):kg 0 n m:=⟨0,by rw[Rat.zero_mul];rfl,aJ _⟩
theorem kg.relu(h:kg Q n m):kg (uC Q) n m:=by
 unfold uC;split
 . exact kg.zero n m
 . exact h
theorem th(h:n<4294967296^m):(nT n).1<=m:=ju (j8 n).2.1 (by rw[(j8 n).2.2];exact h)
def rd(q:Rat):fZ:=yk (qn q) q.num.natAbs q.den
def tr(q:Rat):Bool×Nat×Nat:=(qn q,q.num.natAbs,q.den)
def tq(t:Bool×Nat×Nat):Rat:=mkRat (if t.1 then-(t.2.1:Int) else t.2.1) t.2.2
theorem apE(Q:Rat):tq (tr Q)=Q:=by
 unfold tq tr qn;simp only[mG];rw[show (if Q.num<0 then-(Q.num.natAbs:Int) else (Q.num.natAbs:Int))=Q.num by split<;>omega];exact Rat.mkRat_self Q
theorem e1(z:Int)(n:Nat)(a:n≠0):fr z n=tr (mkRat z n):=by
 rw[<-Rat.normalize_eq_mkRat a];obtain⟨b,c,e⟩:=bs z n a;unfold tr;rw[b,c,e];rfl
theorem b1(a:d≠0)(e:z.natAbs<4294967296^k)(f:d<4294967296^k):Qb (mkRat z d) k:=by
 rw[<-Rat.normalize_eq_mkRat a];obtain⟨-,b,c⟩:=bs z d a;unfold Qb;rw[b,c];exact⟨dD (iV _ _) e,dD (iV _ _) f⟩
section
variable{X:Nat->Nat}{n:Nat}
theorem wQ(a:∀j,j<n->X j<256)(m:Nat):nV X n m<256:=by
 unfold nV;split
 . exact a _ ‹_›
 . omega
theorem aqb(a:∀j,j<n->X j<256)(m:Nat):(lb X n m).1<4294967296:=by
 have d:=wQ a m;have b:∀v q i,v<4294967296->(lb3 X n v q i).1<4294967296:=fun v q i c=>by
  cases i with
  | zero=>exact c
  | succ i=>
    have:=wQ a (lb3 X n v q i).2;show (lb3 X n v q i).1*256 % 4294967296+nV X n (lb3 X n v q i).2<4294967296;omega
 unfold lb;repeat' split
 all_goals first | exact b _ _ _ om | (simp only;omega)
theorem apN(h:n<=m):2^(32*n)<=4294967296^m:=by
 rw[show (4294967296:Nat)=2^32 by decide,<-Nat.pow_mul];exact dP qd om
theorem aol(a:∀j,j<n->X j<256)(m:Nat):lv (ntD X n m) (ntL X n m)<4294967296^11:=by
 have b:ntL X n m<=11:=by
  unfold ntL ntN;have:=wQ a m;repeat' split
  all_goals omega
 have c:=kI (ntD X n m) (ntL X n m) (fun j _=>by
  unfold ntD;split
  . exact aqb a _
  . omega)
 exact aS c (apN b)
theorem aqk(a:∀j,j<d->X j<256)(n:Nat):∃q,bg X d n=tr q/\Qb q 11:=by
 have b:(if bgD X d n=0 then 1 else bgD X d n)≠0:=by split<;>omega
 have e:(if (nV X d n % 2==1)=true then-(bgN X d n:Int) else (bgN X d n:Int)).natAbs=bgN X d n:=by split<;>omega
 have c:(if bgD X d n=0 then 1 else bgD X d n)<4294967296^11:=by
  split
  . exact Nat.one_lt_pow qd qd
  . exact aol a _
 refine⟨mkRat (if nV X d n % 2==1 then-(bgN X d n:Int) else bgN X d n) (if bgD X d n=0 then 1 else bgD X d n), ?_,b1 b ?_ c⟩
 . rw[<-e1 _ _ b];unfold bg fr;rw[e];refine Prod.ext ?_ rfl;show (nV X d n % 2==1&&bgN X d n != 0)=decide _;cases nV X d n % 2==1
   . simp
   . clear c;rw[gG];simp;omega
 . rw[e];exact aol a _
theorem apF(a:∀j,j<n->X j<256)(m:Nat):∃q,(rt X n m).1=tr q/\Qb q 11:=by
 have g:=wQ a m;have h:=wQ a (nP n m);have i:=wQ a (nP n (nP n m))
 have c:∀(z:Int) (d:Nat),z.natAbs<4294967296->d≠0->d<4294967296->∃q,fr z d=tr q/\Qb q 11:=fun z d f b e=>
  ⟨_,e1 z d b,(b1 (k:=1) b (by simpa using f) (by simpa using e)).more om⟩
 unfold rt;repeat' split
 . exact aqk a _
 all_goals first | exact c _ _ om om om | exact c 0 1 qd qd qd
theorem rU(a:∀j,j<n->X j<256)(m:Nat):(rt X n m).1=tr (tq (rt X n m).1)/\Qb (tq (rt X n m).1) 11:=by
 obtain⟨q,e,h⟩:=apF a m;rw[e,apE];exact⟨rfl,h⟩
end
theorem sH{w:World}(c:Qb Q n)(B:n<=4194304)(R:pO w u Q):
 Cl 190 #[u] w fun e k=>∃q,e=.returned q/\i7 k (fun g=>w.heap.size<=g) q Q/\w.S k:=by
 obtain⟨a,v,z,b,m,A,x,E,y,F,X,Y,rfl,R,d,f⟩:=R;have C:=ju R.pX (by rw[d];exact c.1);have D:=ju R.pY (by rw[f];exact c.2);refine (ua om om R.nc R.mc R.ac R.bc R.LX R.LY).mono ?_;rintro e k ⟨g,h,i,j,rfl,l,o,p,r,-,-,t,G,H,s⟩;exact⟨_,rfl,⟨_,v,i,_,m,j,g,0,h,0,X,Y,rfl,⟨l,o,(fun h=>by cases h),(fun h=>by cases h),p,r,R.lX,R.lY,R.pX,R.pY,R.m0⟩,d,f,fun _=>t,fun _=>by omega⟩,s⟩
theorem tZ{q:Rat}{w:World}(d:Qb Q n)(f:Qb q m)(Z:2*n+2*m<=16777216)(R:pO w u Q)(c:pO w U q):
 Cl 199 #[u,U] w fun e k=>∃h,e=.returned h/\i7 k (fun g=>w.heap.size<=g) h (Q*q)/\w.S k:=by
 obtain⟨a,v,E,b,p,G,A,P,C,S,X,Y,rfl,R,i,j⟩:=R;obtain⟨y,O,F,z,N,H,B,l,D,T,t,x,rfl,c,o,r⟩:=c;have W:=ju R.pX (by rw[i];exact d.1);have aa:=ju R.pY (by rw[j];exact d.2);have n3:=ju c.pX (by rw[o];exact f.1);have n4:=ju c.pY (by rw[r];exact f.2);have J:=@ajU (qn Q) (qn q) a b y z A P v E C S p G B l O F D T N H X Y t x w om R c;obtain⟨I,K,L⟩:=aoi Q q;rw[i,j,o,r,<-I,<-K,<-L] at J;exact J.mono fun _ _ ⟨h,M,V,s⟩=>⟨h,M,V.rp,s⟩
theorem sI{q:Rat}{w:World}(f:Qb Q n)(h:Qb q m)(d:2*n+2*m<=16777216)(R:pO w u Q)(b:pO w U q):
 Cl 153 #[u,U] w fun e i=>∃a,e=.returned a/\i7 i (fun g=>w.heap.size<=g) a (Q+q)/\w.S i:=
 (ai5 f h d R b).mono fun _ _ ⟨a,c,V,s⟩=>⟨a,c,V.rp,s⟩
theorem aiP(a:1<=k):Qb 0 k:=by
 have h:4294967296^1<=4294967296^k:=dP qd a;exact⟨aS qd h,aS qd h⟩
def lT(x:Nat->Rat)(a:Nat):Nat->Rat
 | 0=>x a
 | t+1=>if lT x a t<x (a+(t+1)) then x (a+(t+1)) else lT x a t
theorem ad2(x:Nat->Rat)(n m:Nat):∃s,s<=m/\lT x n m=x (n+s):=by
 induction m with
 | zero=>exact⟨0,aC _,rfl⟩
 | succ m ih=>
   obtain⟨s,c,b⟩:=ih;show ∃s,s<=m+1/\(if lT x n m<x (n+(m+1)) then x (n+(m+1)) else lT x n m)=x (n+s);by_cases h:lT x n m<x (n+(m+1))
   . exact⟨m+1,aC _,by rw[aY h]⟩
   . exact⟨s,om,by rw[aM h];exact b⟩
def fQ.w(d:fQ)(i:Nat):Rat:=(d.V i).q
def ov(d:fQ)(x z:Nat->Rat)(n:Nat)(e:Nat):Rat:=
 if d.op=1 then mu (d.w (e*(n+1)+n)) (fun t=>d.w (e*(n+1)+t)) x n
 else if d.op=2 then uC (x e)
 else if d.op=3 then (if qn (x e)=true then d.w 0*x e else x e)
 else if d.op=4 then x e+z e
 else if d.op=5 then lT x (e*d.k.toNat) (d.k.toNat-1)
 else if d.op=6 then mu (d.w d.k.toNat) d.w (fun t=>x (e*d.s.toNat+t)) d.k.toNat
 else d.w 0*(d.w 2)⁻¹ *(x e-d.w 1)+d.w 3
def aA(g:eQ)(X:Nat->Rat):Nat->Nat->Nat->Rat
 | 0=>fun _=>X
 | i+1=>fun j=>if j<=i then aA g X i j else ov (g.N i) (aA g X i (g.N i).a.toNat) (aA g X i (g.N i).b.toNat) (ng g i (g.N i).a.toNat).toNat
theorem ak1(G:eQ)(X:Nat->Rat)(h:m<=n):aA G X (n+1) m=aA G X n m:=by
 show (if m<=n then _ else _)=_;rw[aY h]
def tQ(d:fQ):Nat:=aa d.w d.nv
def zJ(d:fQ):Nat:=ab d.w d.nv
def ndF(d:fQ):Nat:=if d.op=7 then (d.w 0).den*(d.w 1).den*(d.w 3).den*(d.w 2).num.natAbs else tQ d
theorem anp(D:fQ):0<tQ D:=agk _ _
theorem aiu(D:fQ):0<zJ D:=dx _ _
theorem four(q:Nat->Rat):aa q 4=(q 0).den*(q 1).den*(q 2).den*(q 3).den/\ab q 4=((q 0).num.natAbs+1)*((q 1).num.natAbs+1)*((q 2).num.natAbs+1)*((q 3).num.natAbs+1):=by
 constructor
 . show 1*(q 0).den*(q 1).den*(q 2).den*(q 3).den=_;rw[dS]
 . show 1*_*_*_*_=_;rw[dS]
structure pi(d:fQ)(n m:Nat):Prop where
 f:d.Form
 c1:d.op=1->d.nv=d.k.toNat*(n+1)/\m=d.k.toNat
 c2:d.op=2->m=n
 c3:d.op=3->m=n
 c4:d.op=4->m=n
 c5:d.op=5->1<=d.k.toNat/\n=m*d.k.toNat
 c6:d.op=6->d.nv=d.k.toNat+1/\∀e,e<m->e*d.s.toNat+d.k.toNat<=n
 c7:d.op=7->m=n/\(d.w 2).num.natAbs≠0
theorem ano(h:pi D n m):0<ndF D:=by
 unfold ndF;by_cases a:D.op=7
 . rw[aY a];have:=(h.c7 a).2;exact fE (fE (fE (Rat.den_pos _) (Rat.den_pos _)) (Rat.den_pos _)) om
 . rw[aM a];exact anp D
theorem alk(h:pi D n m):ndF D<=zJ D*tQ D:=by
 unfold ndF;by_cases f:D.op=7
 . rw[aY f];have k:D.nv=4:=h.f.v7 f;unfold tQ zJ;rw[k,(four D.w).1,(four D.w).2];generalize (D.w 0).den=a at*;generalize (D.w 1).den=b at*;generalize (D.w 3).den=c at*;have j:0<(D.w 2).den:=Rat.den_pos _;generalize (D.w 2).den=e at*;generalize (D.w 2).num.natAbs=s at*;generalize (D.w 0).num.natAbs=p at*;generalize (D.w 1).num.natAbs=q at*;generalize (D.w 3).num.natAbs=r at*;have g:s<=(p+1)*(q+1)*(s+1)*(r+1):=by
    have l:s+1<=(p+1)*(q+1)*(s+1):=fU _ (fE (oK _) (oK _));have o:(p+1)*(q+1)*(s+1)<=(p+1)*(q+1)*(s+1)*(r+1):=jC _ (oK _);omega
   have i:a*b*c<=a*b*e*c:=(by rw[rN (a*b) e c];exact jC _ j);rw[cJ (a*b*c) s];exact dF g i
 . rw[aM f];exact fU _ (aiu D)
theorem kg.neg(h:kg Q n m):kg (-Q) n m:=by
 obtain⟨t,a,b⟩:=h;exact⟨-t,by rw[Rat.neg_mul,a,Rat.intCast_neg],by rw[qP];exact b⟩
theorem kg.sub{q:Rat}(h:kg Q n c)(a:kg q m c):kg (Q-q) (n+m) c:=by
 rw[gQ];exact h.add a.neg
theorem kg.inv(h:Q.num.natAbs≠0):kg Q⁻¹ Q.den Q.num.natAbs:=by
 have c:Q≠0:=fun e=>h (by rw[e];rfl);have e:Q⁻¹ *(Q.num:Rat)=(Q.den:Rat):=by rw[<-uS Q,<-jY,Rat.inv_mul_cancel Q c,Rat.one_mul]
 rcases Int.natAbs_eq Q.num with a | a
 . refine⟨Q.den, ?_,qz⟩;have:((Q.num.natAbs:Nat):Rat)=(Q.num:Rat):=by
    show (((Q.num.natAbs:Nat):Int):Rat)=(Q.num:Rat);rw[<-a]
   rw[this,e];rfl
 . refine⟨-(Q.den:Int), ?_,qz⟩;have b:((Q.num.natAbs:Nat):Int)=-Q.num:=om;have:((Q.num.natAbs:Nat):Rat)=-(Q.num:Rat):=by
    show (((Q.num.natAbs:Nat):Int):Rat)=-(Q.num:Rat);rw[b,Rat.intCast_neg]
   rw[this,Rat.mul_neg,e,Rat.intCast_neg];rfl
theorem adu(q:Nat->Rat)(n:Nat)(h:m<=c):pz q n m<=pz q n c:=by
 obtain⟨k,rfl⟩:=Nat.exists_eq_add_of_le h;rw[xA];omega
theorem di(D:fQ){a:Nat}(h:a+j<=D.nv):pz D.w a j+1<=zJ D:=by
 have b:=aje D.w h;have c:=ajf D.w D.nv;unfold zJ;omega
section
variable{d:fQ}{n m:Nat}{x z:Nat->Rat}{T D e:Nat}
theorem adP(h:pi d n m)(o:d.op=1)(f:D<=T)(g:∀j,j<n->kg (x j) T D)(r:e<m)(l:c<=n):
 kg (mu (d.w (e*(n+1)+n)) (fun t=>d.w (e*(n+1)+t)) x c) (zJ d*T*tQ d) (D*tQ d)/\kg (mu 0 (fun t=>d.w (e*(n+1)+t)) x c) (zJ d*T*tQ d) (D*tQ d):=by
 obtain⟨i,p⟩:=h.c1 o;have hl:e*(n+1)+(n+1)<=d.nv:=by rw[i,<-Nat.succ_mul];exact aP _ om
 have b:=agI d.w (e*(n+1)) c;have q:=adu d.w (e*(n+1)) l;have k:=di d hl;rw[pz] at k
 refine⟨kg.row f (qQ d.w om) c (fun j a=>qQ d.w (show e*(n+1)+j<d.nv by omega)) (fun j a=>g j om) (by rw[b];omega),
  kg.row f ⟨_,(dS _).symm⟩ c (fun j a=>qQ d.w (show e*(n+1)+j<d.nv by omega)) (fun j a=>g j om) (by rw[b];show 0+_<=_;omega)⟩
theorem agp(h:pi d n m)(p:d.op=6)(f:D<=T)(g:∀a,a<n->kg (x a) T D)(l:e<m)(o:c<=d.k.toNat):
 kg (mu (d.w d.k.toNat) d.w (fun t=>x (e*d.s.toNat+t)) c) (zJ d*T*tQ d) (D*tQ d)/\kg (mu 0 d.w (fun t=>x (e*d.s.toNat+t)) c) (zJ d*T*tQ d) (D*tQ d):=by
 obtain⟨q,i⟩:=h.c6 p;have r:=i e l;have s:=adu d.w 0 o;have k:=di d (a:=0) (j:=d.k.toNat+1) om;rw[pz,aZ] at k
 refine⟨kg.row f (qQ d.w om) c (fun a b=>qQ d.w (show a<d.nv by omega)) (fun a b=>g _ om) om,
  kg.row f ⟨_,(dS _).symm⟩ c (fun a b=>qQ d.w (show a<d.nv by omega)) (fun a b=>g _ om) (by show 0+_<=_;omega)⟩
theorem yn(h:pi d n m)(a:kg Q T D):kg Q (2*(zJ d*T*tQ d)) (D*ndF d):=by
 refine (a.up (ndF d)).more ?_;have b:=dE T (alk h);have c:T*(zJ d*tQ d)=zJ d*T*tQ d:=by rw[<-cS,cJ T]
 omega
theorem bm(a:d.op≠7):ndF d=tQ d:=by unfold ndF;rw[aM a]
theorem alf(h:pi d n m)(l:d.op=7)(o:D<=T)(B:kg (x e) T D):
 kg (d.w 0*(d.w 2)⁻¹ *(x e-d.w 1)+d.w 3) (2*(zJ d*T*tQ d)) (D*ndF d):=by
 have z:=(h.c7 l).2;have t:=(kg.base (d.w 0)).mul (kg.inv z);have u:kg (x e-d.w 1) (T*(d.w 1).den+(d.w 1).num.natAbs*D) (D*(d.w 1).den):=by refine (B.up _).sub ?_;have:=(kg.base (d.w 1)).up D;rwa[cJ (d.w 1).den D] at this
 have v:=(t.mul u).up (d.w 3).den;have w:kg (d.w 3) ((d.w 3).num.natAbs*((d.w 0).den*(d.w 2).num.natAbs*(D*(d.w 1).den))) ((d.w 0).den*(d.w 2).num.natAbs*(D*(d.w 1).den)*(d.w 3).den):=by have:=(kg.base (d.w 3)).up ((d.w 0).den*(d.w 2).num.natAbs*(D*(d.w 1).den));rwa[cJ (d.w 3).den] at this
 have y:=v.add w;have A:d.nv=4:=h.f.v7 l;have s:D*ndF d=(d.w 0).den*(d.w 2).num.natAbs*(D*(d.w 1).den)*(d.w 3).den:=by
  unfold ndF;rw[aY l]
  ac_rfl
 rw[s];refine y.more ?_;unfold zJ tQ;rw[A,(four d.w).1,(four d.w).2];have C:=(d.w 0).den_pos;have E:=(d.w 1).den_pos;have F:=(d.w 2).den_pos;have G:=(d.w 3).den_pos;generalize (d.w 0).den=f at*;generalize (d.w 1).den=a at*;generalize (d.w 2).den=i at*;generalize (d.w 3).den=k at*;generalize (d.w 0).num.natAbs=c at*;generalize (d.w 1).num.natAbs=b at*;generalize (d.w 2).num.natAbs=g at*;generalize (d.w 3).num.natAbs=j at*;have K:T*a+b*D<=T*((b+1)*a):=by
  have p:b*D<=b*T:=dE _ o;have q:b*T<=b*T*a:=jC _ E;have r:T*((b+1)*a)=b*T*a+T*a:=by
   rw[bI,fY,dS];congr 1
   ac_rfl
  omega
 have L:c*i*(T*a+b*D)*k<=(c+1)*(b+1)*(g+1)*(j+1)*T*(f*a*i*k):=by
  have p:c*i*(T*a+b*D)*k<=c*i*(T*((b+1)*a))*k:=aP _ (dE _ K);have q:c*i*(T*((b+1)*a))*k=c*(b+1)*(T*(a*i*k)):=by ac_rfl
  have r:(c+1)*(b+1)*(g+1)*(j+1)*T*(f*a*i*k)=(c+1)*(b+1)*(T*(a*i*k))*((g+1)*(j+1)*f):=by ac_rfl
  have H:c*(b+1)*(T*(a*i*k))<=(c+1)*(b+1)*(T*(a*i*k)):=aP _ (aP _ (oI _));have I:(c+1)*(b+1)*(T*(a*i*k))<=(c+1)*(b+1)*(T*(a*i*k))*((g+1)*(j+1)*f):=jC _ (fE (fE (oK _) (oK _)) C);omega
 have M:j*(f*g*(D*a))<=(c+1)*(b+1)*(g+1)*(j+1)*T*(f*a*i*k):=by
  have p:j*(f*g*(D*a))=j*g*(f*a)*D:=by ac_rfl
  have q:j*g*(f*a)*D<=j*g*(f*a)*T:=dE _ o;have r:(c+1)*(b+1)*(g+1)*(j+1)*T*(f*a*i*k)=(j+1)*(g+1)*(f*a)*T*((c+1)*(b+1)*(i*k)):=by ac_rfl
  have H:j*g*(f*a)*T<=(j+1)*(g+1)*(f*a)*T:=aP _ (aP _ (dF (oI _) (oI _)));have I:(j+1)*(g+1)*(f*a)*T<=(j+1)*(g+1)*(f*a)*T*((c+1)*(b+1)*(i*k)):=jC _ (fE (fE (oK _) (oK _)) (fE F G));omega
 omega
theorem alg(h:pi d n m)(g:D<=T)(a:∀c,c<n->kg (x c) T D)(y:d.op=4->∀c,c<m->kg (z c) T D)(i:e<m):
 kg (ov d x z n e) (2*(zJ d*T*tQ d)) (D*ndF d):=by
 unfold ov;by_cases j:d.op=1
 . rw[aY j,bm om];exact (adP h j g a i zR).1.more om
 rw[aM j];by_cases k:d.op=2
 . rw[aY k];exact yn h (a e (by have:=h.c2 k;omega)).relu
 rw[aM k];by_cases b:d.op=3
 . rw[aY b];have r:=a e (by have:=h.c3 b;omega);by_cases q:qn (x e)=true
   . rw[aY q,bm om];have E:=h.f.v3 b;have p:=r.term (p:=d.w 0) (E:=tQ d) (qQ d.w om);refine p.more ?_;have v:=di d (a:=0) (j:=1) om;rw[pz,pz,aZ,aZ] at v;have u:(d.w 0).num.natAbs*T*tQ d<=zJ d*T*tQ d:=aP _ (aP _ om);omega
   . rw[aM q];exact yn h r
 rw[aM b];by_cases f:d.op=4
 . rw[aY f,bm om];have A:=h.c4 f;have p:=((a e om).add (y f e i)).up (tQ d);refine p.more ?_;have u:(T+T)*tQ d<=2*(zJ d*T*tQ d):=by
    have G:T*tQ d<=zJ d*T*tQ d:=aP _ (fU _ (aiu d));rw[bI];omega
   exact u
 rw[aM f];by_cases l:d.op=5
 . rw[aY l];obtain⟨F,B⟩:=h.c5 l;obtain⟨s,C,w⟩:=ad2 x (e*d.k.toNat) (d.k.toNat-1);rw[w];refine yn h (a _ ?_);have:(e+1)*d.k.toNat<=m*d.k.toNat:=aP _ om;rw[bI,dS] at this;omega
 rw[aM l];by_cases o:d.op=6
 . rw[aY o,bm om];exact (agp h o g a i zR).1.more om
 rw[aM o];have t:d.op=7:=by have:=h.f.o1;have:=h.f.o7;omega
 exact alf h t g (a e (by have:=(h.c7 t).1;omega))
end
theorem aj1{d:Nat->Int}(w:Dok d n)(h:kz d n D=0):pi D (d D.a.toNat).toNat (ld d D).toNat:=by
 obtain⟨f,⟨F,G,H⟩,c⟩:=tg h;have z:=w D.a.toNat om;generalize g:d D.a.toNat=x at z;unfold iR at c;rw[g] at c;refine⟨f,fun o=> ?_,fun o=> ?_,fun o=> ?_,fun o=> ?_,fun o=> ?_,fun o=> ?_,fun o=> ?_⟩
 . have b:=f.k;rw[o] at b;have b:1<=D.k/\D.k<=1000:=b;by_cases a:(D.nv:Int)=D.k*(x+1)
   . refine⟨?_, ?_⟩
     . have u:D.k=(D.k.toNat:Int):=om;have m:x+1=((x.toNat+1:Nat):Int):=om;rw[u,m,<-dR] at a;exact Int.ofNat_inj.1 a
     . unfold ld;rw[aY o]
   . exfalso;simp[o,a] at c
 . unfold ld;rw[aM om,aM om,aM om,g]
 . unfold ld;rw[aM om,aM om,aM om,g]
 . unfold ld;rw[aM om,aM om,aM om,g]
 . have b:=f.k;rw[o] at b;have b:1<=D.k/\D.k<=1000:=b;by_cases a:x % D.k=0
   . refine⟨om, ?_⟩;unfold ld;rw[aM om,aY o,g];have e:=Int.mul_ediv_add_emod x D.k;rw[a,Int.add_zero] at e;have p:0<=x/D.k:=qH om om;obtain⟨y,l⟩:∃y:Nat,x/D.k=y:=⟨(x/D.k).toNat,om⟩;obtain⟨k,t⟩:∃k:Nat,D.k=k:=⟨D.k.toNat,om⟩;rw[l,t] at e;rw[l,t];rw[<-dR] at e;rw[iL,iL,<-e,iL,cJ]
   . exfalso;simp[o,a] at c
 . have b:=f.k;have i:=f.s;rw[o] at b i;have b:1<=D.k/\D.k<=1000:=b;have i:1<=D.s/\D.s<=1000:=i;by_cases a:D.k>x∨(D.nv:Int)≠D.k+1
   . exfalso;simp[o,a] at c
   . refine⟨om,fun e j=> ?_⟩;unfold ld at j;rw[aM om,aM om,aY o,g] at j;have p:0<=(x-D.k)/D.s:=qH om om;have q:(x-D.k)/D.s*D.s<=x-D.k:=Int.ediv_mul_le _ om;obtain⟨s,B⟩:∃s:Nat,D.s=s:=⟨D.s.toNat,om⟩;rw[B] at p q j⊢;obtain⟨y,l⟩:∃y:Nat,(x-D.k)/(s:Int)=y:=⟨((x-D.k)/(s:Int)).toNat,om⟩;rw[l] at j q;have A:e<=y:=om;have r:e*s<=y*s:=aP _ A;rw[<-dR] at q;rw[iL];omega
 . refine⟨by unfold ld;rw[aM om,aM om,aM om,g], ?_⟩;by_cases a:(D.V 2).n=0
   . exfalso;simp[o,a] at c
   . have E:=f.v7 o;obtain⟨-,m,-,C,-,-⟩:=fZ.q_ok (f.ok 2 om);show (D.V 2).q.num.natAbs≠0;rw[m];exact fun v=>a ((km C).2 v)
def gD(g:eQ)(x:Nat->Rat)(nx:Nat):Nat->Nat
 | 0=>aa x nx
 | i+1=>gD g x nx i*ndF (g.N i)
def gT(g:eQ)(x:Nat->Rat)(nx:Nat):Nat->Nat
 | 0=>ab x nx*1*aa x nx
 | i+1=>2*(zJ (g.N i)*gT g x nx i*tQ (g.N i))
section
variable{g:eQ}{x:Nat->Rat}{nx:Nat}
structure uH(g:eQ)(i:Nat):Prop where
 i1:1<=g.inn
 i2:g.inn<=1000
 z:∀k,k<i->nc g k=0
theorem uH.dok(h:uH g i):Dok (ng g i) (i+1):=by
 induction i with
 | zero=>exact fun j b=>⟨h.i1,h.i2⟩
 | succ i a=>
   have a:=a ⟨h.i1,h.i2,fun k c=>h.z k om⟩;intro j b;by_cases e:j=i+1
   . subst e;rw[yP];exact aml a (h.z i om)
   . rw[yO g om];exact a j om
theorem uH.shape(h:uH g n)(a:m<n):pi (g.N m) (ng g m (g.N m).a.toNat).toNat (ng g (m+1) (m+1)).toNat:=by
 rw[yP];exact aj1 (uH.dok (i:=m) ⟨h.i1,h.i2,fun j b=>h.z j om⟩) (h.z m a)
theorem api(h:uH g n):0<gD g x nx n:=by
 induction n with
 | zero=>exact agk _ _
 | succ n ih=>exact fE (ih ⟨h.i1,h.i2,fun k a=>h.z k om⟩) (ano (h.shape (iZ n)))
theorem c2(h:uH g n):gD g x nx n<=gT g x nx n:=by
 induction n with
 | zero=>
   show aa x nx<=ab x nx*1*aa x nx;rw[iF];exact fU _ (dx _ _)
 | succ n a=>
   have a:=a ⟨h.i1,h.i2,fun k d=>h.z k om⟩;have f:=alk (h.shape (iZ n));show gD g x nx n*ndF (g.N n)<=2*(zJ (g.N n)*gT g x nx n*tQ (g.N n));have b:=dF a f;have c:gT g x nx n*(zJ (g.N n)*tQ (g.N n))=zJ (g.N n)*gT g x nx n*tQ (g.N n):=(by ac_rfl);omega
end
section
variable{g:eQ}{X:Nat->fZ}{nx:Nat}
theorem agX(a:ke D.V D.nv)(l:∀i,i<D.nv->(D.V i).lim):zJ D*tQ D<=4294967296^nU D.V D.nv:=acc a l
theorem alV(h:uH g n)(p:ke X nx)(i:∀c,c<nx->(X c).lim)(d:∀k,k<n->∀c,c<(g.N k).nv->((g.N k).V c).lim):
 gT g (fun c=>(X c).q) nx n<=2^n*4294967296^(nU X nx+szN g.N n):=by
 induction n with
 | zero=>
   show ab (fun c=>(X c).q) nx*1*aa (fun c=>(X c).q) nx<=1*4294967296^(nU X nx+0);rw[iF,dS,fV];exact acc p i
 | succ n a=>
   have a:=a ⟨h.i1,h.i2,fun k m=>h.z k om⟩ (fun k m=>d k om);have f:=(tg (h.z n (iZ n))).1;have o:=agX f.ok (d n (iZ n));show 2*(zJ (g.N n)*gT g (fun c=>(X c).q) nx n*tQ (g.N n))<=2^(n+1)*4294967296^(nU X nx+szN g.N (n+1));have e:zJ (g.N n)*gT g (fun c=>(X c).q) nx n*tQ (g.N n)=gT g (fun c=>(X c).q) nx n*(zJ (g.N n)*tQ (g.N n)):=(by ac_rfl);rw[e,yc];have j:=dF a o;have l:4294967296^(nU X nx+szN g.N n)*4294967296^nU (g.N n).V (g.N n).nv<=4294967296^(nU X nx+(szN g.N n+(g.N n).size)):=(by rw[<-iB];refine dP qd ?_;unfold fQ.size;omega);have b:=dE (2^n) l;rw[iH,cJ (2^n) 2,cS 2];rw[<-cS] at b;exact dE 2 (aU j b)
theorem ak3(h:n<=32*m):2^n<=4294967296^m:=by
 rw[show (4294967296:Nat)=2^32 by decide,<-Nat.pow_mul];exact dP qd h
theorem amJ(h:n<=1001):2^n<=4294967296^32:=ak3 om
theorem aph{K:Nat}(h:uH g n)(e:n<=1001)(l:ke X nx)(j:∀c,c<nx->(X c).lim)(f:∀k,k<n->∀c,c<(g.N k).nv->((g.N k).V c).lim)(m:nU X nx+szN g.N n+32<K):
 gT g (fun c=>(X c).q) nx n<4294967296^K:=by
 have b:=alV h l j f;have a:=aP (4294967296^(nU X nx+szN g.N n)) (amJ e);rw[<-iB] at a;have d:(4294967296:Nat)^(32+(nU X nx+szN g.N n))<4294967296^K:=Nat.pow_lt_pow_right qd om;exact dD (aU b a) d
theorem kg.lim(h:kg Q n m)(f:0<m)(b:n<=c)(e:m<=c)(a:c<4294967296^d):Qb Q d:=
 h.qb f (dD b a) (dD e a)
end
def Ints(w:World)(a:Option Addr)(b off n:Nat)(X:Nat->Int):Prop:=∀j,j<n->a=some ⟨b,off,none⟩/\w.cell? ⟨b,off+j,none⟩=some (.int .i64 (X j))
section
variable{w w':World}{a:Option Addr}{b off n c:Nat}{X:Nat->Int}
theorem Ints.aA(h:Ints w a b off n X)(s:w.S w'):Ints w' a b off n X:=fun j c=>
 ⟨(h j c).1,(s.cell (a:=jj b (off+j)) (aG _ _ (h j c).2)).trans (h j c).2⟩
end
def uo(e:Ending)(p:Prop):Prop:=∃r:Bool,e=.returned (.bool r)/\(r=true↔p)
theorem gU(a:-9223372036854775808<=z)(b:z<=9223372036854775807):IntKind.i64.wrap z=z:=by
 rw[tR];omega
def Bq(lo:Nat)(w:World)(t x y z:Value):Prop:=∃c,t=.pointer (some ⟨c,0,none⟩)/\lo<=c/\ie w c x y z (.slice none 0 0)
structure J8(wA:World)(f f':Bool)(A B A' B':Value)(l0 l1 l2 l3 l4 l5 l6 l7:Bool)(t5 t6 t7 t8 t9 t10:Value)(w:World):Prop where
 S:wA.Since wA.heap.size w
 h0:l0=true->t7=.agg #[.bool f,A,B]
 h1:l1=true->t8=.agg #[.bool f,A,B,.slice none 0 0]
 h2:l2=true->t9=.agg #[.bool f',A',B']
 h3:l3=true->t10=.agg #[.bool f',A',B',.slice none 0 0]
 h4:l4=true->l6=false->Bq wA.heap.size w t5 (.bool false) (.slice none 0 0) (.slice none 0 0)
 h5:l5=true->l7=false->Bq wA.heap.size w t6 (.bool false) (.slice none 0 0) (.slice none 0 0)
 h6:l6=true->Bq wA.heap.size w t5 (.bool f) A B
 h7:l7=true->Bq wA.heap.size w t6 (.bool f') A' B'
 ne:l4=true->l5=true->t5≠t6
 b5:l4=true->∃c,t5=.pointer (some ⟨c,0,none⟩)/\c<w.heap.size
 b6:l5=true->∃c,t6=.pointer (some ⟨c,0,none⟩)/\c<w.heap.size
section
variable{wA:World}{f f':Bool}{A B A' B':Value}{l0 l1 l2 l3 l4 l5 l6 l7:Bool}{t5 t6 t7 t8 t9 t10:Value}{w w':World}
end
theorem ajV(x y:Addr){w:World}(H:c<=16777216)(F:j<=16777216)(I:c<=d)(G:j<=l)(D:eO w (some x) n m c X)(E:eO w (some y) k i j Y):
 Cl 236 #[.agg #[.bool f,.slice (some x) c d,.slice (some y) j l]] w fun e Z=>∃a b g h B C,e=.returned (.agg #[.bool f,.slice b j C,.slice a c B])/\c<=B/\j<=C/\(a=none->B=0)/\(b=none->C=0)/\
  eO Z a g 0 c X/\eO Z b h 0 j Y/\w.heap.size<=g/\g<h/\h<Z.heap.size/\w.S Z:=by
 have p:w.S ((w.alloc (.cells #[.bool f,.slice (some x) c d,.slice (some y) j l] 70)).alloc yJ):=(fA _ _).alloc qz _;have q:eS ((w.alloc (.cells #[.bool f,.slice (some x) c d,.slice (some y) j l] 70)).alloc yJ) (w.heap.size+1) (.bool false) (.n) (.n):=by have:=eS.new (w.alloc (.cells #[.bool f,.slice (some x) c d,.slice (some y) j l] 70)) (.bool false) (.n) (.n) 70;simpa using this
 go_enter func236,ntmps236;go_wp2_with fail;generalize (w.alloc _).alloc _=w1 at*;refine (xO x y H F I G (D.aA p) (E.aA p)).mono ?_;rintro e P ⟨a,b,g,h,B,C,rfl,K,L,N,O,u,v,-,-,T,U,V,r⟩;have z:=p.tr r;have z1:=q.lt;have Q:=fA P (.cells #[.bool f,.slice a c B,.slice b j C] 70);have R:=eS.new P (.bool f) (.slice a c B) (.slice b j C) 70;have o:=(q.aA r).aA Q;obtain⟨ad,k1,k2⟩:=R.g;obtain⟨u0,u1,u2⟩:=o.g;obtain⟨aa,ab,ac⟩:=o.k;have A:=z.tr Q;have s:(P.alloc (.cells #[.bool f,.slice a c B,.slice b j C] 70)).heap.size=P.heap.size+1:=by simp
 have t:=eI s;clear s;go_wp2;have S:=((o.bE (.bool f)).bH (.slice b j C)).bF (.slice a c B);have M:eM (P.alloc (.cells #[.bool f,.slice a c B,.slice b j C] 70)) _ (w.heap.size+1):=(((eM.refl (P.alloc (.cells #[.bool f,.slice a c B,.slice b j C] 70)) _).setCell 0 (.bool f)).setCell 1 (.slice b j C)).setCell 2 (.slice a c B);refine bO (qi rfl _ _ _ _ _ _ rfl S) rfl ?_;have W:=t.out;have zM:=M.size;exact⟨a,b,g,h,B,C,rfl,K,L,N,O,(u.aA Q).marked M (fun _=>by omega),(v.aA Q).marked M (fun _=>by omega),om,om,om,A.trans (M.since om)⟩
theorem ad1(Q:Rat):qn (-Q)=(!qn Q&&decide (0<Q.num.natAbs)):=by
 unfold qn;rw[qM];by_cases h:Q.num<0
 . have d:¬0<Q.num:=om;simp[h];omega
 . by_cases a:Q.num=0
   . simp[a]
   . have b:0<Q.num:=om;have c:0<Q.num.natAbs:=om;simp[h,c,b]
theorem ro{q:Rat}{w:World}(x:Qb Q n)(y:Qb q m)(aa:2*n+2*m<=16777216)(R:pO w u Q)(c:pO w U q):
 Cl 163 #[u,U] w fun e k=>∃b,e=.returned b/\i7 k (fun g=>w.heap.size<=g) b (Q-q)/\w.S k:=by
 obtain⟨a,v,M,l,p,O,H,Z,K,ob,X,Y,rfl,R,f,i⟩:=R;obtain⟨F,z,N,G,S,P,I,af,L,A,D,E,rfl,c,d,j⟩:=c;have T:=ju R.pX (by rw[f];exact x.1);have ab:=ju R.pY (by rw[i];exact x.2);have V:=ju c.pX (by rw[d];exact y.1);have W:=ju c.pY (by rw[j];exact y.2);have J:=adG om R c (R.ok f i) (c.ok d j);have C:(!qn q&&decide (0<z))=qn (-q):=by
  rw[ad1];have h:=km c.pX;rw[d] at h;have:decide (0<z)=decide (0<q.num.natAbs):=by rw[tL];omega
  rw[this]
 obtain⟨o,r,t⟩:=e0 Q (-q);rw[<-gQ,qM,Rat.neg_den,qP] at o r t;rw[C,f,i,d,j,<-o,<-r,<-t] at J;refine J.mono ?_;rintro e k ⟨b,rfl,B,s⟩;exact⟨b,rfl,B.rp,s⟩
theorem an6{w:World}(i:Qb Q n)(N:n<=4194304)(f:Q.num.natAbs≠0)(R:pO w u Q):
 Cl 236 #[u] w fun e c=>∃q,e=.returned q/\i7 c (fun g=>w.heap.size<=g) q Q⁻¹ /\w.S c:=by
 obtain⟨a,k,L,b,m,M,I,T,K,U,X,Y,rfl,R,d,l⟩:=R;have v:=ju R.pX (by rw[d];exact i.1);have S:=ju R.pY (by rw[l];exact i.2);have j:0<k:=by
  rcases cQ k with e | e
  . exact absurd ((km R.pX).1 e) (by rw[d];exact f)
  . exact e
 have C:=(R.LX 0 j).1;have eb:=(R.LY 0 R.m0).1;subst C eb;obtain⟨z,A,B⟩:=aoj Q f;refine (ajV _ _ om om R.nc R.mc R.LX R.LY).mono ?_;rintro e c ⟨r,t,g,h,x,y,rfl,D,E,F,G,o,p,H,O,P,s⟩;exact⟨_,rfl,⟨t,m,y,r,k,x,h,0,g,0,Y,X,by rw[z],⟨E,D,G,F,p,o,R.lY,R.lX,R.pY,R.pX,j⟩,by rw[A];exact l,by rw[B];exact d,fun _=>by omega,fun _=>H⟩,s⟩
theorem ij.part{w:World}{Q:Nat->Rat}(h:ij w P a n m c Q){F:Nat}(d:F+k<=c):ij w P (jp n (m+F*3)) n (m+F*3) k (fun t=>Q (F+t)):=fun i b=>by
 obtain⟨-,x,y,C⟩:=h (F+i) om;refine⟨rfl,x,y, ?_⟩;rw[show m+F*3+i*3=m+(F+i)*3 by omega];exact C
theorem Qb.neg(h:Qb Q n):Qb (-Q) n:=⟨by rw[qM,qP];exact h.1,by rw[Rat.neg_den];exact h.2⟩
theorem Qb.sub{q:Rat}(h:Qb Q n)(a:Qb q m):Qb (Q-q) (n+m+1):=by rw[gQ];exact h.add a.neg
def InP(x a b:Int):Prop:=a<=x/\x<=b
theorem pG{z y b:Int}{w:World}:Cl 40 #[.i z,.i y,.i b] w fun e c=>uo e (InP z y b)/\c=w:=by
 by_cases h:y<=z
 . by_cases d:z<=b
   . go_enter func40,ntmps40;go_wp2;go_ret;exact⟨⟨_,rfl,by unfold InP;simp<;>omega⟩,rfl⟩
   . go_enter func40,ntmps40;go_wp2;go_ret;exact⟨⟨_,rfl,by unfold InP;simp<;>omega⟩,rfl⟩
 . go_enter func40,ntmps40;go_wp2;go_ret;exact⟨⟨_,rfl,by unfold InP;simp<;>omega⟩,rfl⟩
theorem afU{w:World}:Cl 218 #[.i z] w fun e c=>uo e (a6 z=true)/\c=w:=by
 by_cases a:z=1
 . subst a;go_enter func218,ntmps218;go_wp2;go_ret;exact⟨⟨true,rfl,by decide⟩,rfl⟩
 by_cases b:z=5
 . subst b;go_enter func218,ntmps218;go_wp2;go_ret;exact⟨⟨true,rfl,by decide⟩,rfl⟩
 go_enter func218,ntmps218;go_wp2;go_ret;exact⟨⟨_,rfl,by unfold a6;simp<;>omega⟩,rfl⟩
theorem afT{w:World}:Cl 219 #[.i z] w fun e a=>uo e (az z=true)/\a=w:=by
 go_enter func219,ntmps219;go_wp2;go_ret;exact⟨⟨_,rfl,by unfold az;simp<;>omega⟩,rfl⟩
theorem afS{w:World}:Cl 220 #[.i z] w fun e d=>uo e (ya z=true)/\d=w:=by
 by_cases a:z=1
 . subst a;go_enter func220,ntmps220;go_wp2;go_ret;exact⟨⟨true,rfl,by decide⟩,rfl⟩
 by_cases b:z=3
 . subst b;go_enter func220,ntmps220;go_wp2;go_ret;exact⟨⟨true,rfl,by decide⟩,rfl⟩
 by_cases c:z=6
 . subst c;go_enter func220,ntmps220;go_wp2;go_ret;exact⟨⟨true,rfl,by decide⟩,rfl⟩
 go_enter func220,ntmps220;go_wp2;go_ret;exact⟨⟨_,rfl,by unfold ya;simp<;>omega⟩,rfl⟩
theorem afV{w:World}:Cl 193 #[.i z] w fun e a=>uo e (ut z=true)/\a=w:=by
 go_enter func193,ntmps193;go_wp2;go_ret;exact⟨⟨_,rfl,by unfold ut;simp<;>omega⟩,rfl⟩
theorem ui{a:Array Value}{w:World}(H:Cl n a w fun e c=>uo e (f=true)/\c=w)(h:f=F):Cl n a w fun e c=>e=.returned (.bool F)/\c=w:=
 H.mono (by
  rintro e c ⟨⟨r,rfl,d⟩,rfl⟩;subst h;refine⟨?_,rfl⟩;cases r<;>cases f<;>simp_all)
theorem ah1{z:Int}{f:Bool}{w:World}(h:a6 z=f):Cl 218 #[.i z] w fun e a=>e=.returned (.bool f)/\a=w:=ui (afU) h
theorem ah0{z:Int}{f:Bool}{w:World}(h:az z=f):Cl 219 #[.i z] w fun e a=>e=.returned (.bool f)/\a=w:=ui (afT) h
theorem ahz{z:Int}{f:Bool}{w:World}(h:ya z=f):Cl 220 #[.i z] w fun e a=>e=.returned (.bool f)/\a=w:=ui (afS) h
theorem acj{z:Int}{f:Bool}{w:World}(h:ut z=f):Cl 193 #[.i z] w fun e a=>e=.returned (.bool f)/\a=w:=ui (afV) h
def Vn(c z:Int)(m nv:Nat):Prop:=z=c->nv=m
theorem ak9(h:af z f):(z != 0)=f:=by
 cases f<;>simp[af] at h<;>simp<;>omega
theorem aia(h:af z f):InP z 0 1000:=by
 cases f<;>simp[af] at h<;>exact⟨om,om⟩
theorem ahZ(h:InP z 0 1000)(e:(z != 0)=f):af z f:=by
 obtain⟨b,c⟩:=h;subst e;by_cases a:z=0
 . subst a;simp[af]
 . simp[af,a];omega
theorem fkN{p:Prop}(h:p:=by
 go_wp2;go_ret;exact⟨⟨false,rfl,by simp only[gX,false_iff];exact NF.out⟩,SD⟩):p:=h
theorem fkM2{p:Prop}(h:p:=by
 clear m1;refine kl 6 13 ?_;refine kl 7 14 ?_;refine sk 8 15 ?_;simp only[ap,la,lz,ls];refine sk 9 16 ?_;simp only[ap,la,lz,ls];refine sk 10 17 ?_;simp only[ap,la,lz,ls];refine sk 11 18 ?_;simp only[ap,la,lz,ls];refine sk 12 19 ?_;simp only[ap,la,lz,ls];refine sk 13 20 ?_;simp only[ap,la,lz,ls];refine sk 14 21 ?_;simp only[ap,la,lz,ls];refine kl 15 22 ?_;refine wpAnyH_done kr ?_ _;exact fkN):p:=h
theorem fkM{p:Prop}(h:p:=by
 go_wp2_with fail;refine wp_region_held_drew (S:=fun w'=>w'.cell? (jj w.heap.size 0)=some (.i z)/\w'.cell? (jj w.heap.size 3)=some (.i v3)) kr ⟨p0,p3⟩ (fun hHeld=> ?_);refine kl 0 7 ?_;refine ta 1 8 (.i z) ?_ ?_
 . intro w' hSw;try dsimp only at hSw
   go_simp
 simp only[ap,la,lz,ls];refine kl 3 10 ?_;refine ta 4 11 (.i v3) ?_ ?_
 . intro w' hSw;try dsimp only at hSw
   go_simp
 simp only[ap,la,lz,ls];refine ta 5 12 (.bool kb) ?_ ?_
 . intro w' hSw;try dsimp only at hSw
   go_simp
 simp only[ap,la,lz,ls];refine tu 2 fun K hK=> ?_;go_simp;go_wp2_with (go_at_call 218;with_reducible refine mp JK ?_);refine hK.out _ _ ⟨p0,p3⟩ (fun h1=> ?_);clear hK K hHeld;cases uk<;>cases kb<;>first | exact absurd rfl m1 | exact fkM2):p:=h
theorem fkS{p:Prop}(h:p:=by
 go_wp2_with fail
 go_region_held3 (fun w'=>w'.cell? (jj w.heap.size 0)=some (.i z)/\w'.cell? (jj w.heap.size 3)=some (.i v3)/\w'.cell? (jj w.heap.size 4)=some (.i v4)) (go_keep)
  (first
    | (go_at_call 218;(with_reducible refine JK.mono ?_);rintro e w2 ⟨rfl,rfl⟩)
    | (go_at_call 219;with_reducible refine mp JS ?_))
 exact fkN):p:=h
theorem fkL{p:Prop}(h:p:=by
 have JA:=@vm a1 lo bV oV nv k1 V wA.drew om om (LV.aA NN);go_wp2_with fail;refine JA.mono ?_;rintro e w3 ⟨r,rfl,hr,s3⟩;have HR:=eI hr;clear hr;go_wp2;go_ret;exact⟨⟨r,rfl,HR.out.trans ⟨fun h=>⟨I0.out.1,I0.out.2,ahZ IK.out (HK.out.trans EK.out.symm),ahZ IS.out (HS.out.trans ES.out.symm),HB.out,HV.out,H3.out,H7.out,h⟩,fun f=>f.ok⟩⟩,SD.trans (sM s3 SD.size)⟩):p:=h
theorem fkV{p:Prop}(h:p:=by
 obtain⟨uv,ev⟩:∃x,ya z=x:=⟨_,rfl⟩;have JV:=@ahz z uv wA.drew ev;have EV:=eI ev;clear ev;go_wp2_with fail;refine mp JV ?_;clear JV;cases uv
 . have h3:¬z=3:=fun e=>by have:=EV.out;rw[e] at this;cases this
   have h7:¬z=7:=fun e=>by have:=EV.out;rw[e] at this;cases this
   have H3:=eI (show Vn 3 z 1 nv from fun e=>absurd e h3);have H7:=eI (show Vn 7 z 4 nv from fun e=>absurd e h7);by_cases hv:nv=0
   . have HV:=eI (show ya z=false->nv=0 from fun _=>hv);have vq:((nv:Int) != 0)=false:=(by simp;omega);clear hv;exact fkL
   . have vq:((nv:Int) != 0)=true:=(by simp;omega);have NF:=eI (show ¬(fQ.mk z v1 v2 v3 v4 nv V).Form from fun f=>hv (f.v EV.out));clear hv;exact fkN
 . have HV:=eI (show ya z=false->nv=0 from fun e=>by rw[EV.out] at e;cases e);by_cases h3:z=3
   . subst h3;have H7:=eI (show Vn 7 3 4 nv from fun e=>by cases e);by_cases hv:nv=1
     . have H3:=eI (show Vn 3 3 1 nv from fun _=>hv);have vq:((nv:Int) != 1)=false:=(by simp;omega);clear hv;exact fkL
     . have vq:((nv:Int) != 1)=true:=(by simp;omega);have NF:=eI (show ¬(fQ.mk 3 v1 v2 v3 v4 nv V).Form from fun f=>hv (f.v3 rfl));clear hv;exact fkN
   have H3:=eI (show Vn 3 z 1 nv from fun e=>absurd e h3);by_cases h7:z=7
   . subst h7;by_cases hv:nv=4
     . have H7:=eI (show Vn 7 7 4 nv from fun _=>hv);have vq:((nv:Int) != 4)=false:=(by simp;omega);clear hv;exact fkL
     . have vq:((nv:Int) != 4)=true:=(by simp;omega);have NF:=eI (show ¬(fQ.mk 7 v1 v2 v3 v4 nv V).Form from fun f=>hv (f.v7 rfl));clear hv;exact fkN
   have H7:=eI (show Vn 7 z 4 nv from fun e=>absurd e h7);exact fkL):p:=h
theorem fkR{p:Prop}(h:p:=by
 go_wp2_with fail
 go_region_held3 (fun w'=>w'.cell? (jj w.heap.size 0)=some (.i z)/\w'.cell? (jj w.heap.size 3)=some (.i v3)/\w'.cell? (jj w.heap.size 4)=some (.i v4)) (go_keep)
  (first
    | (go_at_call 218;(with_reducible refine JK.mono ?_);rintro e w2 ⟨rfl,rfl⟩)
    | (go_at_call 219;(with_reducible refine JS.mono ?_);rintro e w2 ⟨rfl,rfl⟩))
 clear q0 q1 q2 q3 q4 q5 JK JS hk hs;go_wp2_with fail;refine (@pG v3 0 1000 wA.drew).mono ?_;rintro e w2 ⟨⟨r,rfl,hr⟩,rfl⟩;cases r
 . have NF:=eI (show ¬(fQ.mk z v1 v2 v3 v4 nv V).Form from fun f=>absurd (hr.2 (aia f.k)) qz);clear hr;exact fkN
 have IK:=eI (hr.1 rfl);clear hr;go_wp2_with fail;refine (@pG v4 0 1000 wA.drew).mono ?_;rintro e w2 ⟨⟨r,rfl,hr⟩,rfl⟩;cases r
 . have NF:=eI (show ¬(fQ.mk z v1 v2 v3 v4 nv V).Form from fun f=>absurd (hr.2 (aia f.s)) qz);clear hr;exact fkN
 have IS:=eI (hr.1 rfl);clear hr;obtain⟨ub,eb⟩:∃x,ut z=x:=⟨_,rfl⟩;have JB:=@acj z ub wA.drew eb;have EB:=eI eb;clear eb;go_wp2_with fail;refine mp JB ?_;clear JB;cases ub
 . by_cases hb:v2=0
   . have bq:(v2 != 0)=false:=(by simp[hb]);have HB:=eI (show ut z=false->v2=0 from fun _=>hb);clear hb;exact fkV
   . have bq:(v2 != 0)=true:=(by simp[hb]);have NF:=eI (show ¬(fQ.mk z v1 v2 v3 v4 nv V).Form from fun f=>hb (f.b EB.out));clear hb;exact fkN
 . have HB:=eI (show ut z=false->v2=0 from fun e=>by rw[EB.out] at e;cases e);exact fkV):p:=h
theorem ae0{a1:Option Addr}{lo k1:Nat}{w:World}(l:D.size<=1048576)(H:b7 w lo D a1 k1):
 Cl 192 #[.agg #[.i D.op,.i D.a,.i D.b,.i D.k,.i D.s,.slice a1 D.nv k1]] w fun e w'=>uo e D.Form/\w.S w':=by
 obtain⟨z,v1,v2,v3,v4,nv,V⟩:=D;dsimp only;have C:nv+nU V nv<=1048576:=l;have j:=fA w (.o #[.i z,.i v1,.i v2,.i v3,.i v4,.l a1 nv k1] 144);have n:=fO.new w (.i z) (.i v1) (.i v2) (.i v3) (.i v4) (.l a1 nv k1) 144;obtain⟨bV,oV,-,LV⟩:=(H.aA j).LV;dsimp only at LV;clear H l;go_enter func192,ntmps192;go_wp2_with fail;generalize w.alloc _=wA at*;refine (pG).mono ?_;rintro e d ⟨⟨r,rfl,hr⟩,m⟩;have q:=m.symm;clear m;subst q;cases r
 . have NF:=eI (show ¬(fQ.mk z v1 v2 v3 v4 nv V).Form from fun f=>absurd (hr.2 ⟨f.o1,f.o7⟩) qz);have SD:=j;clear hr;exact fkN
 have I0:=eI (hr.1 rfl);clear hr;obtain⟨q0,q1,q2,q3,q4,q5⟩:=n.g;have NN:=uB wA;have t:=n.aA NN;obtain⟨p0,u,y,p3,A,B⟩:=t.g;have SD:=j.tr NN;obtain⟨uk,g⟩:∃x,a6 z=x:=⟨_,rfl⟩;obtain⟨c,i⟩:∃x,az z=x:=⟨_,rfl⟩;have JK:=@ah1 z uk wA.drew g;have JS:=@ah0 z c wA.drew i;have EK:=eI g;have ES:=eI i;clear g i;obtain⟨kb,hk⟩:∃x,(v3 != 0)=x:=⟨_,rfl⟩;obtain⟨o,hs⟩:∃x,(v4 != 0)=x:=⟨_,rfl⟩;have HK:=eI hk;have HS:=eI hs;by_cases m1:uk=kb
 case neg=>have NF:=eI (show ¬(fQ.mk z v1 v2 v3 v4 nv V).Form from fun f=>m1 (by rw[<-EK.out,<-HK.out];exact (ak9 f.k).symm));exact fkM
 subst m1;by_cases a:c=o
 case neg=>have NF:=eI (show ¬(fQ.mk z v1 v2 v3 v4 nv V).Form from fun f=>a (by rw[<-ES.out,<-HS.out];exact (ak9 f.s).symm));cases uk<;>cases c<;>cases o<;>first | exact absurd rfl a | (clear a;exact fkS)
 subst a;cases uk<;>cases c<;>exact fkR
theorem nkE{p:Prop}(h:p:=by
 go_wp2;go_ret;exact⟨jq E.out.symm,S3⟩):p:=h
theorem nkD{p:Prop}(h:p:=by
 have HE:=eI (ahJ (D:=D) F.out G.out);obtain⟨j,hj⟩:∃j:Nat,v1=j:=⟨v1.toNat,by have h:0<=v1/\v1<=i:=IA.out;omega⟩;subst hj;have hjn:j<i+1:=by have h:0<=(j:Int)/\(j:Int)<=i:=IA.out;omega
 obtain⟨x,hx⟩:∃x,D j=x:=⟨_,rfl⟩;have hDj:=hD j hjn;rw[hx] at hDj;obtain⟨ed,gx⟩:=(HD.aA S3) j hjn;rw[aZ,hx] at gx;subst ed;have hz2:(j:Int)<((i+1:Nat):Int):=om;have hc:op=1∨op=2∨op=3∨op=4∨op=5∨op=6∨op=7:=by have h1:1<=op:=F.out.o1;have h7:op<=7:=F.out.o7;omega
 rcases hc with rfl | rfl | rfl | rfl | rfl | rfl | rfl
 . have hk:0<=v3/\v3<=1000:=(by have h:1<=v3/\v3<=1000:=F.out.k;omega);have hv:nv<=1048576:=(by have h:nv+nU V nv<=1048576:=hd;omega);have y0:0<=v3*(x+1):=tF hk.1 om;have y1:v3*(x+1)<=1000*1001:=Int.mul_le_mul hk.2 om om om;obtain⟨y,hy⟩:∃y,v3*(x+1)=y:=⟨_,rfl⟩;rw[hy] at y0 y1;by_cases h:(nv:Int)=y
   . have E:=eI (HE.out.trans (c:=0) (by simp[iR,hx,hy,h]));have tq:((nv:Int) != y)=false:=(by simp[h]);clear h;exact nkE
   . have E:=eI (HE.out.trans (c:=14) (by simp[iR,hx,hy,h]));have tq:((nv:Int) != y)=true:=(by simp[h]);clear h;exact nkE
 . have E:=eI (HE.out.trans (c:=0) (by simp[iR]));exact nkE
 . have E:=eI (HE.out.trans (c:=0) (by simp[iR]));exact nkE
 . obtain⟨i2,hi2⟩:∃i2:Nat,v2=i2:=⟨v2.toNat,by have h:0<=v2/\v2<((i+1:Nat):Int):=G.out.2.2 rfl;omega⟩;subst hi2;have hi3:i2<i+1:=(by have h:0<=(i2:Int)/\(i2:Int)<((i+1:Nat):Int):=G.out.2.2 rfl;omega);obtain⟨-,gy⟩:=(HD.aA S3) i2 hi3;rw[aZ] at gy;have hz3:(i2:Int)<((i+1:Nat):Int):=om;obtain⟨y,hy⟩:∃y,D i2=y:=⟨_,rfl⟩;rw[hy] at gy;by_cases h:y=x
   . have E:=eI (HE.out.trans (c:=0) (by simp[iR,hx,hy,h]));have tq:(y != x)=false:=(by simp[h]);clear h;exact nkE
   . have E:=eI (HE.out.trans (c:=14) (by simp[iR,hx,hy,h]));have tq:(y != x)=true:=(by simp[h]);clear h;exact nkE
 . have hk:1<=v3/\v3<=1000:=F.out.k;have hk0:¬v3=0:=om;have p1:x.tmod v3=x % v3:=Int.tmod_eq_emod_of_nonneg om;obtain⟨y,hy⟩:∃y,y=x % v3:=⟨_,rfl⟩;rw[<-hy] at p1;by_cases h:y=0
   . have E:=eI (HE.out.trans (c:=0) (by rw[h] at hy;simp[iR,hx,<-hy]));have tq:(y != 0)=false:=(by simp[h]);clear h hy;exact nkE
   . have E:=eI (HE.out.trans (c:=14) (by rw[hy] at h;simp[iR,hx,h]));have tq:(y != 0)=true:=(by simp[h]);clear h hy;exact nkE
 . have hk:1<=v3/\v3<=1000:=F.out.k;have hv:nv<=1048576:=(by have h:nv+nU V nv<=1048576:=hd;omega);by_cases h:x<v3
   . have E:=eI (HE.out.trans (c:=14) (by simp[iR,hx,h]));exact nkE
   by_cases h2:(nv:Int)=v3+1
   . have E:=eI (HE.out.trans (c:=0) (by simp[iR,hx,h2]<;>omega))
     have tq:((nv:Int) != v3+1)=false:=(by simp[h2]);clear h2;exact nkE
   . have E:=eI (HE.out.trans (c:=14) (by simp[iR,hx,h2]));have tq:((nv:Int) != v3+1)=true:=(by simp[h2]);clear h2;exact nkE
 . have h4:=eI (show nv=4 from F.out.v7 rfl);obtain⟨bV,oV,-,LV⟩:=(M.L.aA S3).LV;obtain⟨ev,y1,y2,l1,l2,MV⟩:=LV 2 (by show 2<nv;rw[h4.out];omega);have mv1:=MV.c1;subst ev;have hz4:(2:Int)<(nv:Int):=(by rw[h4.out];decide);by_cases h:(V 2).n=0
   . have E:=eI (HE.out.trans (c:=15) (by simp[iR,h]));have tq:(((V 2).n:Int)==0)=true:=(by simp[h]);clear h;exact nkE
   . have E:=eI (HE.out.trans (c:=0) (by simp[iR,h]));have tq:(((V 2).n:Int)==0)=false:=(by simp;omega);clear h;exact nkE):p:=h
theorem acl{g:eQ}{Z:fQ}{a A:Option Addr}{m d l o b q:Nat}{B:Option Addr}{t i:Nat}{P:Option Addr}{bD r:Nat}{D:Nat->Int}{w:World}(hd:Z.size<=1048576)(M:an w m b (q+i*6) Z B t)(hi:i<g.nn)(aa:g.nn<=1000)(HD:Ints w P bD 0 (i+1) D)(hD:Dok D (i+1)):
 Cl 156 #[.agg #[.i g.inn,.i g.rounds,.slice a g.nl d,.slice A g.nh l,.slice (jp b q) g.nn o,.i g.out],.slice P (i+1) r,.i ((i+1:Nat):Int)] w fun e w'=>e=.returned (.i (kz D (i+1) Z))/\w.S w':=by
 obtain⟨op,v1,v2,v3,u,nv,V⟩:=Z;have S:=fA w (.o #[.i g.inn,.i g.rounds,.l a g.nl d,.l A g.nh l,.l (jp b q) g.nn o,.i g.out] 115);have zA:(w.alloc (.o #[.i g.inn,.i g.rounds,.l a g.nl d,.l A g.nh l,.l (jp b q) g.nn o,.i g.out] 115)).heap.size=w.heap.size+1:=by simp
 have N:=M.aA S;obtain⟨Y,ab,g2,g3,g4,g5⟩:=N.g;have hz:(i:Int)<(g.nn:Int):=om;go_enter func156,ntmps156;go_wp2_with fail;have sB:=(aF (w.alloc (.o #[.i g.inn,.i g.rounds,.l a g.nl d,.l A g.nh l,.l (jp b q) g.nn o,.i g.out] 115)).heap.size (w.alloc (.o #[.i g.inn,.i g.rounds,.l a g.nl d,.l A g.nh l,.l (jp b q) g.nn o,.i g.out] 115))).alloc zR (.o #[.i op,.i v1,.i v2,.i v3,.i u,.l B nv t] 144);have Q:=fO.new (w.alloc (.o #[.i g.inn,.i g.rounds,.l a g.nl d,.l A g.nh l,.l (jp b q) g.nn o,.i g.out] 115)) (.i op) (.i v1) (.i v2) (.i v3) (.i u) (.l B nv t) 144;rw[zA] at Q;have O:=S.tr sB;generalize (w.alloc _).alloc _=w2 at*;refine (ae0 hd (M.L.aA O)).mono ?_;rintro e H ⟨⟨C,rfl,f⟩,R⟩;have S3:=O.tr R;have W:=Q.aA R;clear Y ab g2 g3 g4 g5 N;cases C
 . have E:=eI (akk (D:=D) (i:=i+1) (d:=(fQ.mk op v1 v2 v3 u nv V)) (fun h=>by have:=f.2 h;cases this));clear f;exact nkE
 have F:=eI (f.1 rfl);clear f;obtain⟨q0,q1,q2,q3,q4,q5⟩:=W.g;go_wp2_with fail;refine (pG).mono ?_;rintro e U ⟨⟨C,rfl,f⟩,s⟩;have v:=s.symm;clear s;subst v;cases C
 . have E:=eI (agq (D:=D) (i:=i+1) F.out (fun h=>by have h2:0<=v1/\v1<((i+1:Nat):Int):=⟨h.1,h.2.1⟩;have:=f.2 (by unfold InP;omega);cases this));clear f;exact nkE
 have IA:=eI (f.1 rfl);clear f;obtain⟨T,eb⟩:∃x,ut op=x:=⟨_,rfl⟩;have K:=@acj op T H eb;have z:=eI eb;clear eb;go_wp2_with fail;refine mo K fun U s=> ?_;have v:=s.symm;clear s;subst v;clear K;have X:=eI (show 0<=v1/\v1<((i+1:Nat):Int) by have h:0<=v1/\v1<=i:=IA.out;omega);cases T
 . have G:=eI (show ar (fQ.mk op v1 v2 v3 u nv V) (i+1) from⟨X.out.1,X.out.2,fun h=>by have:=z.out.symm.trans h;cases this⟩);clear z;exact nkD
 go_wp2_with fail;refine (pG).mono ?_;rintro e U ⟨⟨C,rfl,f⟩,s⟩;have v:=s.symm;clear s;subst v;cases C
 . have E:=eI (agq (D:=D) (i:=i+1) F.out (fun h=>by have h2:0<=v2/\v2<((i+1:Nat):Int):=h.2.2 z.out;have:=f.2 (by unfold InP;omega);cases this));clear f;exact nkE
 have I:=eI (f.1 rfl);clear f;have G:=eI (show ar (fQ.mk op v1 v2 v3 u nv V) (i+1) from⟨X.out.1,X.out.2,fun _=>by have h:0<=v2/\v2<=i:=I.out;show 0<=v2/\v2<((i+1:Nat):Int);omega⟩);clear z I;exact nkD
def rh(op k s x:Int):Int:=if op=1 then k else if op=5 then x/k else if op=6 then (x-k)/s+1 else x
theorem wS{z y j b d x:Int}{a:Option Addr}{n m:Nat}{w:World}(Z:1<=x)(x2:x<=1000)(s:z=5->1<=b/\b<=1000)(u:z=6->1<=b/\b<=x/\1<=d/\d<=1000):
 Cl 109 #[.agg #[.i z,.i y,.i j,.i b,.i d,.slice a n m],.i x] w fun e Q=>e=.returned (.i (rh z b d x))/\w.S Q:=by
 by_cases v:z=1
 . subst v;have g:=fA w (.o #[.i 1,.i y,.i j,.i b,.i d,.l a n m] 144);have f:=eI (show rh 1 b d x=b from rfl);go_enter func109,ntmps109;go_wp2;go_ret;exact⟨jq f.out.symm,g⟩
 by_cases A:z=5
 . subst A;obtain⟨H,I⟩:=s rfl;have g:=fA w (.o #[.i 5,.i y,.i j,.i b,.i d,.l a n m] 144);have O:x.tdiv b=x/b:=qT om;have D:0<=x/b:=qH om om;have E:x/b<=x:=rI _ om;obtain⟨r,p⟩:∃r,r=x/b:=⟨_,rfl⟩;have f:=eI (show rh 5 b d x=r by rw[p];rfl);rw[<-p] at O D E;have X:¬b=0:=om;clear s u p;go_enter func109,ntmps109;go_wp2;go_ret;exact⟨jq f.out.symm,g⟩
 by_cases B:z=6
 . subst B;obtain⟨H,I,P,Y⟩:=u rfl;have g:=fA w (.o #[.i 6,.i y,.i j,.i b,.i d,.l a n m] 144);have C:=fO.new w (.i 6) (.i y) (.i j) (.i b) (.i d) (.l a n m) 144;go_enter func109,ntmps109;go_wp2_with fail;generalize w.alloc _=R at*;go_loopw [5,6] (fun c i wr=>∃k:Nat,k<=1000/\c=.i k/\i=.i k/\wr=R/\(0<k->((k:Int)-1)*d+b<=x)) (fun _ i _=>1001-(intOf i).toNat)
   case atStart=>exact⟨0,om,rfl,rfl,rfl,fun h=>absurd h om⟩
   case round=>
    obtain⟨k,W,rfl,rfl,rfl,hb⟩:=hrel;have T:=C.c3;have U:=C.c4;have L:0<=(k:Int)*d:=tF om om;have M:=Int.mul_le_mul om om om om;have q:((k:Int)-1)*d=(k:Int)*d-d:=(by rw[Int.sub_mul,Int.one_mul]);have N:(k:Int)<=k*d:=(by have:=Int.mul_le_mul_of_nonneg_left P (show 0<=(k:Int) by omega);omega);obtain⟨t,l⟩:∃t,t=(k:Int)*d:=⟨_,rfl⟩;rw[<-l] at L M q N;rw[q] at hb;have o:=eI l;have S:=l.symm;clear l q;by_cases G:t+b<=x
    . go_wp2;go_roundw
      case rel=>exact⟨k+1,om,by go_num,by go_num,(by first | rfl | trivial),fun _=>by rw[show (((k+1:Nat):Int)-1)=(k:Int) by omega,<-o.out];exact G⟩
      case measure=>exact yI
    . have K:0<k:=by
       rcases cQ k with e | e
       . subst e;exfalso;have:t=0:=(by rw[o.out];simp);omega
       . exact e
      have V:=hb K;have F:(x-b)/d=(k:Int)-1:=(by rw[Int.ediv_eq_iff_of_pos om];rw[Int.sub_mul,Int.one_mul,<-o.out];constructor<;>omega);have f:=eI (show rh 6 b d x=(k:Int) by unfold rh;rw[aM qd,aM qd,aY rfl,F];omega);go_wp2;go_ret;exact⟨jq f.out.symm,g⟩
 have g:=fA w (.o #[.i z,.i y,.i j,.i b,.i d,.l a n m] 144);have f:=eI (show rh z b d x=x by unfold rh;rw[aM v,aM A,aM B]);go_enter func109,ntmps109;go_wp2;go_ret;exact⟨jq f.out.symm,g⟩
def bd(k:Nat)(z:Int):Int:=if k % 6=0 then z else if k % 6=1 then z+1 else if k % 6=2 then-1 else if k % 6=3 then 0 else if k % 6=4 then 1000+(k:Int)/6 % 3 else (k:Int)/6
structure aqn(w:World)(p:Nat->Prop)(b off:Nat)(f:Bool)(g h:Nat)(a1:Option Addr)(n1 k1:Nat)(a2:Option Addr)(n2 k2:Nat)(X Y:Nat->Nat):Prop where
 c0:w.cell? ⟨b,off,none⟩=some (.bool f)
 c1:w.cell? ⟨b,off+1,none⟩=some (.slice a1 n1 k1)
 c2:w.cell? ⟨b,off+2,none⟩=some (.slice a2 n2 k2)
 L1:eO w a1 g 0 n1 X
 L2:eO w a2 h 0 n2 Y
 s1:n1<=8388608
 s2:n2<=8388608
 lg:0<n1->p g/\∀o,w.frozen? ⟨g,o,none⟩=false
 lh:0<n2->p h/\∀o,w.frozen? ⟨h,o,none⟩=false
 ne:0<n1->0<n2->g≠h
def aqm(w:World)(b k n:Nat)(p:Nat->Nat->Prop):Prop:=∀i,k<=i->i<n->∃f g h a1 n1 k1 a2 n2 k2 X Y,aqn w (p i) b (i*3) f g h a1 n1 k1 a2 n2 k2 X Y
def aqq(w:World)(b n:Nat)(p:Nat->Nat->Prop)(K:Nat->Nat):Prop:=∀i,i<n->∃g h a1 n1 k1 a2 n2 k2,aqn w (p i) b (i*3) (decide (K i % 3=0)) g h a1 n1 k1 a2 n2 k2 (fun j=>(K i+1+j) % 4294967296) (fun j=>(K i+1+n1+j) % 4294967296)/\K (i+1)=K i+1+n1+n2
structure DisP(n:Nat)(p:Nat->Nat->Prop)(b:Nat):Prop where
 one:∀i j q,i<n->j<n->p i q->p j q->i=j
 nb:∀i q,i<n->p i q->q≠b
def e2(b n:Nat)(p:Nat->Nat->Prop)(q:Nat):Prop:=0<n/\(q=b∨∃i,i<n/\p i q)
structure LQ(w:World)(a:Option Addr)(g n:Nat)(p:Nat->Nat->Prop):Prop where
 ha:0<n->a=some ⟨g,0,none⟩
 f:0<n->∀o,w.frozen? ⟨g,o,none⟩=false
 Q:aqm w g 0 n p
 D:DisP n p g
structure LM(w:World)(a:Option Addr)(g n:Nat)(p:Nat->Nat->Prop)(K:Nat->Nat):Prop where
 ha:0<n->a=some ⟨g,0,none⟩
 M:aqq w g n p K
section
variable{w w':World}{S:Nat->Prop}{a:Option Addr}{g n:Nat}{p:Nat->Nat->Prop}{K:Nat->Nat}
theorem LQ.aA(h:LQ w a g n p)(s:w.S w'):LQ w' a g n p:=by
 refine⟨h.ha,fun c o=> ?_,fun i y z=> ?_,h.D⟩
 . obtain⟨r,e,f,m,v,t,q,x,u,k,l,b⟩:=h.Q 0 zR c;have d:=aG _ _ b.c0;rw[s.frozen (a:=jj g o) d];exact h.f c o
 . obtain⟨r,e,f,m,v,t,q,x,u,k,l,b⟩:=h.Q i y z;have d:=aG _ _ b.c0;refine⟨r,e,f,m,v,t,q,x,u,k,l,(s.cell (a:=jj g (i*3)) d).trans b.c0,(s.cell (a:=jj g (i*3+1)) d).trans b.c1,(s.cell (a:=jj g (i*3+2)) d).trans b.c2,b.L1.aA s,b.L2.aA s,b.s1,b.s2,fun c=>⟨(b.lg c).1,fun o=> ?_⟩,fun c=>⟨(b.lh c).1,fun o=> ?_⟩,b.ne⟩
   . have j:=aG _ _ (b.L1 0 c).2;rw[s.frozen (a:=jj e o) j];exact (b.lg c).2 o
   . have j:=aG _ _ (b.L2 0 c).2;rw[s.frozen (a:=jj f o) j];exact (b.lh c).2 o
end
structure AM(w:World)(p:Nat->Prop)(c i K K':Nat)(aW:Option Addr)(gW nW cW:Nat)(pW:Nat->Nat->Prop)(kW:Nat->Nat)(aB:Option Addr)(gB nB cB:Nat)(pB:Nat->Nat->Prop)(kB:Nat->Nat):Prop where
 c0:w.cell? ⟨c,i*4,none⟩=some (.int .i64 (K:Int))
 c1:w.cell? ⟨c,i*4+1,none⟩=some (.int .i64 ((K:Int)+1))
 c2:w.cell? ⟨c,i*4+2,none⟩=some (.slice aW nW cW)
 c3:w.cell? ⟨c,i*4+3,none⟩=some (.slice aB nB cB)
 W:LM w aW gW nW pW kW
 B:LM w aB gB nB pB kB
 inW:∀q,e2 gW nW pW q->p q
 inB:∀q,e2 gB nB pB q->p q
 sz:nW+nB<=1048576
 k0:kW 0=K+2
 k1:kB 0=kW nW
 k2:K'=kB nB
 z1:kW nW<=K+2+nW*16777217
 z2:K'<=K+2+(nW+nB)*16777217
section
variable{w w':World}{S p:Nat->Prop}{c i K K':Nat}{v0 v1:Value}{aW aB:Option Addr}{gW nW cW gB nB cB:Nat}{pW pB:Nat->Nat->Prop}{kW kB:Nat->Nat}
end
end Go.Proofs.YtinihjgnnlemmaaGreatDoor
