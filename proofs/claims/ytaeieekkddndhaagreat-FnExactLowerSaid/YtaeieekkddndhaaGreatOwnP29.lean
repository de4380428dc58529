import Derived.Test.YtaeieekkddndhaaGreatOwnP28
set_option maxHeartbeats 6400000
set_option maxRecDepth 100000
namespace Go.Proofs.YtaeieekkddndhaaGreat
open Tryz Go.RowKit
variable{w v W V:World}{n m c d k i j l o b p q t r s g h e:Nat}{a A B:Option Addr}{u U:Value}{z y:Int}{G:be}{P:Nat->Prop}{Q:Rat}{D:dA}
theorem uL:∀ {r:Row},(r.map Prod.fst).Nodup->∀ {x:Int×Rat},x∈r->eO r x.1=x.2
 | [],_,_,h=>by simp at h
 | t::r,nd,x,h=>by
   rw[jc];rw[dG,jP] at nd
   rcases fW.1 h with rfl | h
   . rw[aY rfl]
   . rw[aM (fun e=>nd.1 (by rw[e];exact dT.2 ⟨x,h,rfl⟩))]
     exact uL nd.2 h
theorem afK{r:Row}(c:ic n r)(h:¬(-1<=z/\z<n)):eO r z=0:=qo (fun a=>by
 obtain⟨x,b,rfl⟩:=dT.1 a;exact h (c.lo x b))
theorem tg(n m:Nat):i7 0 n m:=⟨0,by rw[uC];rfl,aJ _⟩
theorem aiJ{W x y:Nat->Rat}:∀ {k:Nat},(∀t,t<k->x t=y t)->il Q W x k=il Q W y k
 | 0,_=>rfl
 | k+1,h=>by rw[il,il,aiJ (fun t a=>h t om),h k om]
def uh(R:List Row)(t:Nat):Row:=R.getD t []
theorem my{R:List Row}{r:Row}(h:R[n]?=some r):uh R n=r:=by unfold uh;rw[List.getD,h];rfl
theorem ef(R:List Row):(List.range R.length).map (uh R)=R:=by
 refine jF (fun e=> ?_);rw[cY];by_cases a:e<R.length
 . rw[fK a,aK a];exact congrArg some (my (aK a))
 . rw[dJ (by simpa using a),dJ (by simpa using a)];rfl
theorem akO(R:List Row)(n:Nat):(List.range (R.length-n)).map (fun t=>uh R (n+t))=R.drop n:=by
 refine jF (fun e=> ?_);rw[cY,pM];by_cases a:e<R.length-n
 . rw[fK a,aK (show n+e<R.length by omega)];exact congrArg some (my (aK om))
 . rw[dJ (by simpa using a),dJ om];rfl
structure rP(m T D n:Nat)(V:(Nat->Rat)->Nat->Rat)(R:List Row):Prop where
 val:∀h,R.map (ij h)=(List.range n).map (V h)
 ok:∀r∈R,ic m r
 rep:∀r∈R,∀z,i7 (eO r z) T D
section
variable{m T D n:Nat}{V V':(Nat->Rat)->Nat->Rat}{R:List Row}
theorem rP.len(H:rP m T D n V R):R.length=n:=by simpa using congrArg List.length (H.val (fun _=>0))
theorem rP.at_(H:rP m T D n V R){r:Row}(a:R[c]?=some r):ic m r/\(∀h,ij h r=V h c)/\∀z,i7 (eO r z) T D:=by
 have b:=cO a;have d:c<n:=by have:=(bG.1 a).1;rw[H.len] at this;exact this
 refine⟨H.ok r b,fun h=> ?_,H.rep r b⟩;have:=congrArg (fun L=>L[c]?) (H.val h);simp only[cY,a,fK d,kJ,Option.some.injEq] at this;exact this
theorem rP.rd(H:rP m T D n V R)(b:c<n):ic m (uh R c)/\(∀h,ij h (uh R c)=V h c)/\∀z,i7 (eO (uh R c) z) T D:=by
 have a:=aK (show c<R.length by rw[H.len];exact b);rw[my a];exact H.at_ a
theorem rP.of(hl:R.length=n)(h:∀(e:Nat) (r:Row),R[e]?=some r->ic m r/\(∀h,ij h r=V h e)/\∀z,i7 (eO r z) T D):rP m T D n V R:=by
 refine⟨fun q=>jF (fun e=> ?_),fun r a=> ?_,fun r a=> ?_⟩
 . rw[cY,cY];by_cases b:e<n
   . have a:=aK (show e<R.length by omega);rw[a,fK b];exact congrArg some ((h e _ a).2.1 q)
   . rw[dJ om,dJ (by simp;omega)];rfl
 . obtain⟨e,b⟩:=List.mem_iff_getElem?.1 a;exact (h e r b).1
 . obtain⟨e,b⟩:=List.mem_iff_getElem?.1 a;exact (h e r b).2.2
theorem rP.qD(H:rP m T D n V R)(e:∀h x,x<n->V h x=V' h x):rP m T D n V' R:=⟨fun h=>(H.val h).trans (fG (fun x a=>e h x (dU.1 a))),H.ok,H.rep⟩
theorem rP.up(H:rP m T D n V R)(e:∀q,i7 q T D->i7 q c d):rP m c d n V R:=⟨H.val,H.ok,fun r b z=>e _ (H.rep r b z)⟩
end
structure b4(m n:Nat)(b:Rat)(W:Nat->Rat)(X:Nat->Row):Prop where
 ok:∀t,t<n->ic m (X t)
 qS:∀(z:Int) (k:Nat),-1<=z->z<m->k<=n->Qb (il (if z=-1 then b else 0) W (fun t=>eO (X t) z) k) 1048640
 qW:∀t,t<n->Qb (W t) 1048640
 qX:∀t,t<n->∀x∈X t,Qb x.2 1048640
def MxL(m n:Nat)(b:Nat->Rat)(W:Nat->Nat->Rat)(X:Nat->Nat->Row)(R:List Row):Prop:=∀(e:Nat) (r:Row),R[e]?=some r->ic m r/\(∀h,ij h r=il (b e) (W e) (fun t=>ij h (X e t)) n)/\∀z:Int,-1<=z->z<m->eO r z=il (if z=-1 then b e else 0) (W e) (fun t=>eO (X e t) z) n
theorem MxL.nil(n m:Nat)(b:Nat->Rat)(W:Nat->Nat->Rat)(X:Nat->Nat->Row):MxL n m b W X []:=fun e r h=>by simp at h
theorem MxL.snoc{b:Nat->Rat}{W:Nat->Nat->Rat}{X:Nat->Nat->Row}{R:List Row}{r:Row}(h:MxL n m b W X R)(g:R.length=c)(e:ic n r)(d:∀h,ij h r=il (b c) (W c) (fun t=>ij h (X c t)) m)(f:∀z:Int,-1<=z->z<n->eO r z=il (if z=-1 then b c else 0) (W c) (fun t=>eO (X c t) z) m):MxL n m b W X (R++[r]):=fun x y a=>by
 subst g
 by_cases i:x<R.length
 . rw[bJ i] at a
   exact h x y a
 . have:x=R.length:=by
    have:=(bG.1 a).1;simp at this;omega
   subst this;simp at a;subst a;exact⟨e,d,f⟩
def mN(d:dA)(na:Nat):Nat:=if d.op=1 then na else if d.op=6 then d.k.toNat else 1
def mB(d:dA)(na e:Nat):Rat:=if d.op=1 then d.w (e*(na+1)+na) else if d.op=6 then d.w d.k.toNat else d.w 3-d.w 0*(d.w 2)⁻¹ *d.w 1
def mW(d:dA)(na e t:Nat):Rat:=if d.op=1 then d.w (e*(na+1)+t) else if d.op=6 then d.w t else d.w 0*(d.w 2)⁻¹
def mI(d:dA)(e t:Nat):Nat:=if d.op=1 then t else if d.op=6 then e*d.s.toNat+t else e
theorem b2(o:D.op=1)(n:Nat):mN D n=n/\(∀e,mB D n e=D.w (e*(n+1)+n))/\(∀e,mW D n e=fun t=>D.w (e*(n+1)+t))/\∀e t,mI D e t=t:=by
 unfold mN mB mI;refine⟨aY o,fun _=>aY o,fun e=>funext fun t=> ?_,fun _ _=>aY o⟩;unfold mW;exact aY o
theorem b1(o:D.op=6)(n:Nat):mN D n=D.k.toNat/\(∀e,mB D n e=D.w D.k.toNat)/\(∀e,mW D n e=D.w)/\∀e t,mI D e t=e*D.s.toNat+t:=by
 unfold mN mB mI;have a:¬D.op=1:=om;refine⟨by rw[aM a,aY o],fun _=>by rw[aM a,aY o],fun e=>funext fun t=> ?_,fun _ _=>by rw[aM a,aY o]⟩;unfold mW;rw[aM a,aY o]
theorem b0(o:D.op=7)(n:Nat):mN D n=1/\(∀e,mB D n e=D.w 3-D.w 0*(D.w 2)⁻¹ *D.w 1)/\(∀e,mW D n e=fun _=>D.w 0*(D.w 2)⁻¹)/\∀e t,mI D e t=e:=by
 unfold mN mB mI;have a:¬D.op=1:=om;have b:¬D.op=6:=om;refine⟨by rw[aM a,aM b],fun _=>by rw[aM a,aM b],fun e=>funext fun t=> ?_,fun _ _=>by rw[aM a,aM b]⟩;unfold mW;rw[aM a,aM b]
theorem eH(o:D.op=1∨D.op=6∨D.op=7)(x z:Nat->Rat)(n m:Nat):il (mB D n m) (mW D n m) (fun t=>x (mI D m t)) (mN D n)=lu D x z n m:=by
 unfold lu;rcases o with o | o | o
 . obtain⟨b,c,g,h⟩:=b2 o n;rw[aY o,b,c,g];simp only[h]
 . obtain⟨b,c,g,h⟩:=b1 o n;rw[aM om,aM om,aM om,aM om,aM om,aY o,b,c,g];simp only[h]
 . obtain⟨b,c,g,h⟩:=b0 o n;rw[aM om,aM om,aM om,aM om,aM om,aM om,b,c,g];simp only[h,il];generalize D.w 0*(D.w 2)⁻¹ =f;rw[gQ,gQ,Rat.mul_add,Rat.mul_neg,pK (D.w 3),pK (f*x m),jK,pK (D.w 3),<-jK]
theorem eL(S:oM D n m)(o:D.op=1∨D.op=6∨D.op=7)(e:c<m)(f:d<mN D n):mI D c d<n:=by
 rcases o with o | o | o
 . obtain⟨b,-,-,a⟩:=b2 o n;rw[a];omega
 . obtain⟨b,-,-,a⟩:=b1 o n;have:=(S.c6 o).2 c e;rw[a];omega
 . obtain⟨b,-,-,a⟩:=b0 o n;have:=(S.c7 o).1;rw[a];omega
theorem ajK(h:oM D n m)(i:D.op=7)(q:i7 Q c d):i7 (D.w 0*(D.w 2)⁻¹ *Q) (2*(yA D*c*ui D)) (d*ndF D):=by
 have o:=(h.c7 i).2;have l:=(((i7.base (D.w 0)).mul (i7.inv o)).mul q).up ((D.w 1).den*(D.w 3).den);have p:D.nv=4:=h.f.v7 i;have k:d*ndF D=(D.w 0).den*(D.w 2).num.natAbs*d*((D.w 1).den*(D.w 3).den):=by
  unfold ndF;rw[aY i]
  ac_rfl
 rw[k];refine l.more ?_;have j:=yO D (a:=0) (j:=1) om;rw[pQ,pQ,aZ,aZ] at j;unfold ui;rw[p,(four D.w).1];have r:=(D.w 0).den_pos;generalize yA D=N at*;generalize (D.w 0).den=g at*;generalize (D.w 1).den=a at*;generalize (D.w 2).den=b at*;generalize (D.w 3).den=e at*;generalize (D.w 0).num.natAbs=f at*;have s:f*b*c*(a*e)=f*(c*(a*b*e)):=by ac_rfl
 have t:N*c*(g*a*b*e)=N*(c*(a*b*e))*g:=by ac_rfl
 have u:f*(c*(a*b*e))<=N*(c*(a*b*e)):=aP _ om;have v:N*(c*(a*b*e))<=N*(c*(a*b*e))*g:=jC _ r;omega
section
variable{g:be}{k:Nat}
theorem eK(E:iy g)(l:k<g.nn)(o:(g.N k).op=1∨(g.N k).op=6∨(g.N k).op=7){x:Nat->Rat}(m:∀c,c<vD g (g.N k).a.toNat->i7 (x c) (bT g k) (bD g k))(i:n<vD g (k+1))(f:j<=mN (g.N k) (vD g (g.N k).a.toNat)):
 i7 (il (mB (g.N k) (vD g (g.N k).a.toNat) n) (mW (g.N k) (vD g (g.N k).a.toNat) n) (fun t=>x (mI (g.N k) n t)) j) (bT g (k+1)) (bD g (k+1))/\i7 (il 0 (mW (g.N k) (vD g (g.N k).a.toNat) n) (fun t=>x (mI (g.N k) n t)) j) (bT g (k+1)) (bD g (k+1)):=by
 have S:=(E.nd l).sh;have q:bD g k<=bT g k:=b3 (E.jS (cZ l));have p:bT g (k+1)=2*(yA (g.N k)*bT g k*ui (g.N k)):=rfl;have e:bD g (k+1)=bD g k*ndF (g.N k):=rfl;rcases o with o | o | o
 . obtain⟨a,h,b,d⟩:=b2 o (vD g (g.N k).a.toNat);rw[a] at f;rw[h,b,p,e,aw om];simp only[d];have r:=ec S o q m i f;exact⟨r.1.more om,r.2.more om⟩
 . obtain⟨a,h,b,d⟩:=b1 o (vD g (g.N k).a.toNat);rw[a] at f;rw[h,b,p,e,aw om];simp only[d];have r:=ey S o q m i f;exact⟨r.1.more om,r.2.more om⟩
 . obtain⟨a,h,b,d⟩:=b0 o (vD g (g.N k).a.toNat);have u:=(S.c7 o).1;have s:=m n om;rw[a] at f;rcases (show j=0∨j=1 by omega) with rfl | rfl
   . refine⟨?_,tg _ _⟩;have r:=uN E l (x:=fun _=>0) (z:=fun _=>0) (fun _ _=>tg _ _) (fun _ _ _=>tg _ _) i;rw[<-eH (.inr (.inr o)),a,il,il,mS,jH] at r;exact r
   . constructor
     . have r:=uN E l (x:=x) (z:=fun _=>0) m (fun _ _ _=>tg _ _) i;rw[<-eH (.inr (.inr o)),a] at r;exact r
     . rw[il,il,jM,b,d,p,e];exact ajK S o s
theorem rP.mix(E:iy g)(j:k<g.nn)(o:(g.N k).op=1∨(g.N k).op=6∨(g.N k).op=7){V:(Nat->Rat)->Nat->Nat->Rat}{A R:List Row}(b:rP n (bT g k) (bD g k) (vD g (g.N k).a.toNat) (fun h=>V h (g.N k).a.toNat) A)(hl:R.length=vD g (k+1))
 (m:MxL n (mN (g.N k) (vD g (g.N k).a.toNat)) (mB (g.N k) (vD g (g.N k).a.toNat)) (mW (g.N k) (vD g (g.N k).a.toNat)) (fun e t=>uh A (mI (g.N k) e t)) R):
 rP n (bT g (k+1)) (bD g (k+1)) (vD g (k+1)) (fun h=>lu (g.N k) (V h (g.N k).a.toNat) (V h (g.N k).b.toNat) (vD g (g.N k).a.toNat)) R:=by
 have S:=(E.nd j).sh;refine rP.of hl (fun e r l=> ?_);have i:e<vD g (k+1):=by have:=(bG.1 l).1;omega
 obtain⟨f,p,q⟩:=m e r l;refine⟨f,fun h=> ?_,fun z=> ?_⟩
 . rw[p h,<-eH o];exact aiJ (fun t u=>(b.rd (eL S o i u)).2.1 h)
 . by_cases a:-1<=z/\z<n
   . rw[q z a.1 a.2];have r:=eK E j o (x:=fun c=>eO (uh A c) z) (fun c s=>(b.rd s).2.2 z) i zR;by_cases d:z=-1
     . rw[aY d];exact r.1
     . rw[aM d];exact r.2
   . rw[afK f a];exact tg _ _
theorem th(E:iy g)(b:g.size<=1048576)(e:∀k,k<g.nn->∀c,c<(g.N k).nv->((g.N k).V c).lim)(a:k<=g.nn)(h:i7 Q (bT g k) (bD g k)):Qb Q 1048640:=
 bq (E.jS (i:=k) a) (by have:=E.head.n;omega) (fun d f=>e d om) (by
  have:=og (A:=g.N) (show k<=g.nn by omega);unfold be.size at b;omega) h
theorem rP.mixOk(E:iy g)(d:g.size<=1048576)(f:∀k,k<g.nn->∀c,c<(g.N k).nv->((g.N k).V c).lim)(a:k<g.nn)(o:(g.N k).op=1∨(g.N k).op=6∨(g.N k).op=7){V:(Nat->Rat)->Nat->Rat}{A:List Row}(l:rP n (bT g k) (bD g k) (vD g (g.N k).a.toNat) V A)(h:m<vD g (k+1)):
 b4 n (mN (g.N k) (vD g (g.N k).a.toNat)) (mB (g.N k) (vD g (g.N k).a.toNat) m) (mW (g.N k) (vD g (g.N k).a.toNat) m) (fun t=>uh A (mI (g.N k) m t)):=by
 have S:=(E.nd a).sh;refine⟨fun t i=>(l.rd (eL S o h i)).1,fun z j e p v=> ?_,fun t i=> ?_,fun t i x w=> ?_⟩
 . have r:=eK E a o (x:=fun c=>eO (uh A c) z) (fun c u=>(l.rd u).2.2 z) h v;by_cases q:z=-1
   . rw[aY q];exact th E d f (k:=k+1) a r.1
   . rw[aM q];exact th E d f (k:=k+1) a r.2
 . rcases o with o | o | o
   . obtain⟨e,p,b,s⟩:=b2 o (vD g (g.N k).a.toNat);rw[b];refine E.qw d f k a _ ?_;obtain⟨C,D⟩:=S.c1 o;have:=aP (vD g (g.N k).a.toNat+1) (show m+1<=(g.N k).k.toNat by omega);rw[bI,dS] at this;omega
   . obtain⟨e,p,b,s⟩:=b1 o (vD g (g.N k).a.toNat);rw[b];have:=(S.c6 o).1;exact E.qw d f k a _ om
   . obtain⟨e,p,b,s⟩:=b0 o (vD g (g.N k).a.toNat);rw[b];have r:=(eK E a (.inr (.inr o)) (x:=fun _=>1) (fun _ _=>lG (E.jS (cZ a)) (sE (z:=1) rfl qd)) h (j:=1) om).2;rw[il,il,jM,b,oG] at r;exact th E d f (k:=k+1) a r
 . obtain⟨y,-,B⟩:=l.rd (eL S o h i);rw[<-uL y.nd w];exact th E d f (cZ a) (B _)
theorem rP.add(E:iy g)(b:k<g.nn)(o:(g.N k).op=4){V:(Nat->Rat)->Nat->Nat->Rat}{A B R:List Row}(a:rP n (bT g k) (bD g k) (vD g (g.N k).a.toNat) (fun h=>V h (g.N k).a.toNat) A)(f:rP n (bT g k) (bD g k) (vD g (g.N k).b.toNat) (fun h=>V h (g.N k).b.toNat) B)(hl:R.length=A.length)(s:bc n A B R):
 rP n (bT g (k+1)) (bD g (k+1)) (vD g (k+1)) (fun h=>lu (g.N k) (V h (g.N k).a.toNat) (V h (g.N k).b.toNat) (vD g (g.N k).a.toNat)) R:=by
 have S:=(E.nd b).sh;have t:=S.c4 o;have eb:=(E.nd b).b4 o;have i:∀(x z:Nat->Rat) (q e:Nat),lu (g.N k) x z q e=x e+z e:=fun x z q e=>by unfold lu;rw[aM om,aM om,aM om,aY o]
 refine rP.of (by rw[hl,a.len,t]) (fun e r p=> ?_);have w:e<vD g (k+1):=by have:=(bG.1 p).1;rw[hl,a.len] at this;omega
 obtain⟨G,H,l,hb,j,u,v⟩:=s e r p;obtain⟨-,y,D⟩:=a.at_ l;obtain⟨-,C,F⟩:=f.at_ hb;refine⟨j,fun h=>by rw[u,y,C,i],fun z=> ?_⟩;by_cases d:-1<=z/\z<n
 . rw[v z d.1 d.2];have r:=uN E b (x:=fun c=>eO (uh A c) z) (z:=fun c=>eO (uh B c) z) (fun c m=>(a.rd m).2.2 z) (fun _ c m=>(f.rd om).2.2 z) w;rw[i,my l,my hb] at r;exact r
 . rw[afK j d];exact tg _ _
end
theorem ajB{a:List Rat}{t:Int×Rat}(h:t∈cL z a):t.2∈a:=by
 induction a generalizing z with
 | nil=>simp[cL] at h
 | cons q a ih=>
   simp only[cL] at h;split at h
   . exact iA _ (ih h)
   . rcases fW.1 h with rfl | h
     . exact iQ ..
     . exact iA _ (ih h)
theorem dj{a:List Rat}(d:-1<=z)(h:∀q∈a,i7 q n m)(y:Int):i7 (eO (cL z a) y) n m:=by
 by_cases c:y∈(cL z a).map Prod.fst
 . obtain⟨x,b,rfl⟩:=dT.1 c;rw[uL (ys (m:=(z+a.length).toNat) d om).nd b];exact h _ (ajB b)
 . rw[qo c];exact tg _ _
theorem rP.uM(X:Nat->Nat)(b:List Rat)(hF:∀e,e<d->X e+b.length<=n)(g:∀q∈b,i7 q m c):rP n m c d (fun h e=>pk h (X e:Int) b) ((List.range d).map fun e=>cL (X e:Int) b):=by
 refine rP.of qz (fun e r a=> ?_);rw[cY] at a;by_cases f:e<d
 . rw[fK f] at a;simp only[kJ,Option.some.injEq] at a;subst a;have:=hF e f;exact⟨ys om om,fun h=>cg h _ _,dj om g⟩
 . rw[dJ (by simpa using f)] at a;simp at a
theorem vg(h:Nat->Rat)(n:Nat):ak h (n:Int)=h n:=by unfold ak;rw[aM om];rfl
theorem afR(h:Nat->Rat)(n:Nat):pk h (n:Int) [1]=h n:=by
 simp only[pk];rw[vg,kG,jH]
theorem ej(h:Nat->Rat)(n:Nat)(Q:Rat):pk h (n:Int) [1,-Q]=h n-Q*h (n+1):=by
 simp only[pk];rw[show (n:Int)+1=((n+1:Nat):Int) from rfl,vg,vg,kG,jH,Rat.neg_mul,gQ]
theorem akV(h:Nat->Rat)(n:Nat):pk h (n:Int) [1,1,-1]=h n+h (n+1)-h (n+2):=by
 simp only[pk];rw[show (n:Int)+1=((n+1:Nat):Int) from rfl,show ((n+1:Nat):Int)+1=((n+2:Nat):Int) from rfl,vg,vg,vg,kG,kG,jH,Rat.neg_mul,kG,gQ,jK]
structure vz(m:Nat)(F:(Nat->Rat)->List Rat)(R:List Row):Prop where
 val:∀h,R.map (ij h)=F h
 ok:∀r∈R,ic m r
theorem vz.append{F G:(Nat->Rat)->List Rat}{A B:List Row}(b:vz n F A)(c:vz n G B):vz n (fun h=>F h++G h) (A++B):=
 ⟨fun h=>by rw[eJ,b.val,c.val],fun r a=>by rcases iX.1 a with a | a;exact b.ok r a;exact c.ok r a⟩
def nL(R:List Row):List Row:=R.flatMap fun r=>[r,jz r]
theorem rP.both{V:(Nat->Rat)->Nat->Rat}{R:List Row}(H:rP n m c d V R):vz n (fun h=>jt (V h) d) (nL R):=by
 refine⟨fun h=> ?_,fun r a=> ?_⟩
 . unfold nL jt;have f:(List.range d).flatMap (fun e=>[V h e,-V h e])=((List.range d).map (V h)).flatMap fun q=>[q,-q]:=by rw[rG]
   rw[f,<-H.val h,rG,List.map_flatMap];congr 1;funext r;simp only[dG,kC];rw[fa]
 . obtain⟨x,b,a⟩:=iK.1 a;simp only[fW,jA,qO] at a;rcases a with rfl | rfl
   . exact H.ok r b
   . exact bN (H.ok x b)
theorem vz.flat{L:List Nat}{f:Nat->List Row}{F:(Nat->Rat)->Nat->List Rat}(H:∀j∈L,vz n (fun h=>F h j) (f j)):vz n (fun h=>L.flatMap (F h)) (L.flatMap f):=by
 refine⟨fun h=> ?_,fun r b=> ?_⟩
 . rw[List.map_flatMap]
   induction L with
   | nil=>rfl
   | cons j L ih=>
     rw[qK,qK,ih (fun j a=>H j (iA _ a)),(H j (iQ ..)).val h]
 . obtain⟨j,a,b⟩:=iK.1 b;exact (H j a).ok r b
theorem vz.amap{g:be}{R:List Row}(H:vz ((eS g).getD t 0) (je g t) R):
 amap g t=(R.length,(eS g).getD t 0,(List.range (R.length*(eS g).getD t 0)).map (br ((eS g).getD t 0) (uh R)),(List.range R.length).map fun r=>eO (uh R r) (-1)):=by
 unfold Go.Proofs.YtaeieekkddndhaaGreat.amap;generalize (eS g).getD t 0=m at*;have j:∀h r,r<R.length->(je g t h).getD r 0=ij h (uh R r)/\ic m (uh R r):=fun h r a=>by have d:R[r]?=some _:=aK a;rw[<-H.val h,List.getD,cY,d,my d];exact⟨rfl,H.ok _ (cO d)⟩
 have k:(aE g t).length=R.length:=by unfold aE;rw[<-H.val,bS]
 have i:∀r,r<R.length->(aE g t).getD r 0=eO (uh R r) (-1):=fun r a=>by obtain⟨f,b⟩:=j (gv (-1)) r a;unfold aE;rw[f,(cd b).1]
 rw[k];refine congrArg (Prod.mk _) (congrArg (Prod.mk _) ?_);congr 1
 . refine fG (fun x c=> ?_);have c:=dU.1 c;have o:0<m:=nJ (fun e=>by subst e;simp at c);have f:x % m<m:=iS _ o;have b:x/m<R.length:=Nat.div_lt_of_lt_mul (by rw[cJ];exact c);unfold wF br;simp only;rw[i _ b];obtain⟨l,n⟩:=j (gv ((x % m:Nat):Int)) (x/m) b;rw[l,(cd n).2 _ f,Rat.add_sub_cancel]
 . exact fG (fun r a=>i r (dU.1 a))
structure ug(g:be)(t k:Nat)(V:(Nat->Rat)->Nat->Nat->Rat)(K:Nat->Prop)(X:Nat->List Row):Prop where
 st:t=(dH g k).length
 on:∀h,je g t h=mz g 0 (fun _ _=>0) (g.nn-k) (k+1) (V h)
 kn:∀j,K j->rP ((eS g).getD t 0) (bT g k) (bD g k) (vD g j) (fun h=>V h j) (X j)
 src:∀j,j<=k->k<bL g j->K j
 out:g.out.toNat<=k->K g.out.toNat
def idR(n:Nat):List Row:=(List.range n).map fun (e:Nat)=>cL (e:Int) [1]
def rF(g:be)(i j:Nat):List Row:=(List.range (vD g j)).map fun e=>cL ((ga g i j+2*e:Nat):Int) [1,-1]
theorem yp(n m:Nat)(a:vn G c)(d:n=bT G c)(b:m=bD G c):i7 1 n m/\i7 (-1) n m:=by
 subst d b;have h:=sE (z:=1) rfl qd;exact⟨lG a h,lG a h.neg⟩
section
variable{g:be}{t k:Nat}{V:(Nat->Rat)->Nat->Nat->Rat}{K:Nat->Prop}{X:Nat->List Row}
theorem ug.start(E:iy g):ug g 0 0 (fun h _=>h) (fun j=>j=0) (fun _=>idR (vD g 0)):=by
 refine⟨rfl,fun h=> ?_,fun j a=> ?_,fun j a _=>by omega,fun h=>by omega⟩
 . unfold je;rw[aY rfl];rfl
 . subst a;refine (rP.uM (fun e=>e) [1] (fun e c=> ?_) (fun q b=> ?_)).qD (fun h x _=>afR h x)
   . show e+1<=vD g 0;exact c
   . simp only[List.mem_singleton] at b;subst b;exact (yp _ _ (E.jS (aJ _)) rfl rfl).1
theorem ug.skip(E:iy g)(h:ug g t k V K X)(c:k<g.nn)(a:¬fo g (k+1)=true):ug g t (k+1) V K X:=by
 refine⟨by rw[uJ a];exact h.st,fun q=> ?_,fun j b=>(h.kn j b).up (fun _ r=>yq E c r),fun j d f=> ?_,fun i=> ?_⟩
 . rw[h.on q,show g.nn-k=(g.nn-(k+1))+1 by omega,mz,aY (by simpa using a)]
 . by_cases e:j=k+1
   . subst e;exact absurd ((eo E).2 (.inr om)) a
   . exact h.src j om om
 . by_cases e:g.out.toNat=k+1
   . exact absurd (e▸dY g) a
   . exact h.out om
theorem acR(h:(jv g m).length=(jv g n).length):∀x,n<=x->x<m->¬fo g (x+1)=true:=fun x c d f=>by
 obtain⟨r,i⟩:=y9 g c;obtain⟨b,j⟩:=y9 g (a:=x+1) (b:=m) d;have e:=mt g x;rw[aY f] at e;have k:=congrArg List.length i;have l:=congrArg List.length j;have a:=congrArg List.length e;simp only[aT,fS,mR] at k l a;omega
theorem ug.uH(E:iy g):∀(d:Nat) {k a:Nat},a=k+d->a<=g.nn->(∀x,k<=x->x<a->¬fo g (x+1)=true)->ug g t k V K X->ug g t a V K X
 | 0,k,a,e,_,_,h=>by subst e;exact h
 | d+1,k,a,e,h1,h2,h=>ug.uH E d (k:=k+1) om h1 (fun x b=>h2 x om) (h.skip E om (h2 k om om))
theorem ug.take(E:iy g)(h:ug g t k V K X)(f:k<g.nn)(b:fo g (k+1)=true)(a:isStep (g.N k)=false){R:List Row}
 (c:rP ((eS g).getD t 0) (bT g (k+1)) (bD g (k+1)) (vD g (k+1)) (fun q=>lu (g.N k) (V q (g.N k).a.toNat) (V q (g.N k).b.toNat) (vD g (g.N k).a.toNat)) R):
 ug g t (k+1) (fun q=>wj g (V q) (k+1)) (fun j=>j=k+1∨K j) (fun j=>if j=k+1 then R else X j):=by
 refine⟨?_,fun q=> ?_,fun j d=> ?_,fun j i l=> ?_,fun m=> ?_⟩
 . have e:fQ g k=[]:=by
    unfold isStep at a;simp only[qQ,kS,rJ,pF] at a;unfold fQ;rw[aY b,aM om];split
    . rw[igE,dif_neg om];rfl
    . rfl
   show t=(dH g k++fQ g k).length;rw[e,iJ];exact h.st
 . rw[h.on q,show g.nn-k=(g.nn-(k+1))+1 by omega,mz,aM (by simp[b]),aM (by rw[cF,a];simp)]
 . by_cases e:j=k+1
   . subst e;rw[aY rfl];refine c.qD (fun q x _=> ?_);unfold wj;rw[aY rfl];rfl
   . rw[aM e];refine ((h.kn j (d.resolve_left e)).up (fun _ r=>yq E f r)).qD (fun q x _=> ?_);unfold wj;rw[aM e]
 . by_cases e:j=k+1
   . exact .inl e
   . exact .inr (h.src j om om)
 . by_cases e:g.out.toNat=k+1
   . exact .inl e
   . exact .inr (h.out om)
theorem ug.forget(h:ug g t (k+1) V K X){S:List Int}(d:∀j:Nat,(j:Int)∈S->j<=k)(f:k+1<=g.out.toNat):ug g t (k+1) V (fun j=>K j/\¬((j:Int)∈S/\bL g j=k+1)) X:=
 ⟨h.st,h.on,fun j e=>h.kn j e.1,fun j a c=>⟨h.src j a c,fun b=>by omega⟩,fun a=>⟨h.out a,fun b=>by have:=d _ b.1;omega⟩⟩
theorem ug.neu(h:ug g t k V K X)(c:k<g.nn)(a:fo g (k+1)=true)(b:isStep (g.N k)=true)(q:Nat->Rat):je g t q=aW g (V q) 0 (fun _ _=>0) (k+1):=by
 rw[h.on q,show g.nn-k=(g.nn-(k+1))+1 by omega,mz,aM (by simp[a]),aY (by rw[cF,b])]
theorem ug.last(h:ug g t g.nn V K X):vz ((eS g).getD t 0) (je g t) (X g.out.toNat)∨¬K g.out.toNat:=by
 by_cases a:K g.out.toNat
 . refine .inl ⟨fun q=> ?_,(h.kn _ a).ok⟩;rw[(h.kn _ a).val q,h.on q,uD,mz]
 . exact .inr a
theorem uU(_:iy g)(d:k<g.nn)(_:fo g (k+1)=true){s:Nat×Nat}(a:(fQ g k)[j]?=some s):(bP g)[(dH g k).length+j]?=some s:=by
 have b:=(bG.1 a).1;obtain⟨r,c⟩:=vF g (a:=k+1) (b:=g.nn) om;unfold bP;rw[c,show dH g (k+1)=dH g k++fQ g k from rfl,dZ,bK om,show (dH g k).length+j-(dH g k).length=j by omega,bJ b];exact a
theorem alI(_:iy g)(_:n<=g.nn)(f:c=mD g (n,m))(a:i7 1 d k/\i7 (-1) d k)(j:i<n)(hl:n<bL g i)(_:Nat):rP c d k (vD g i) (fun q=>nZ g n m q i) (rF g n i):=by
 have o:ga g n i+2*vD g i<=c:=by
  have h:ga g n (i+1)<=ga g n n:=dW j;have p:ga g n (i+1)=ga g n i+2*vD g i:=by show wK _ _ _ _+(if n<bL g i then _ else _)=_;rw[aY hl];rfl
  have l:c=ga g n n+si g n m:=f;omega
 refine (rP.uM (fun e=>ga g n i+2*e) [1,-1] (fun e r=> ?_) (fun q b=> ?_)).qD (fun q x _=> ?_)
 . show ga g n i+2*e+2<=c;omega
 . simp only[fW,jA,qO] at b;rcases b with rfl | rfl
   . exact a.1
   . exact a.2
 . rw[ej,kG];unfold nZ;rw[aM om]
theorem ug.behind(E:iy g)(b:k<g.nn)(p:fo g (k+1)=true)(d:(bP g)[t]?=some (k+1,n))(m:¬((g.N k).op=5/\2<n))(r:t+1=(dH g (k+1)).length){R:List Row}{X:Nat->List Row}(l:∀j,j<=k->k+1<bL g j->X j=rF g (k+1) j)
 (f:rP (mD g (k+1,n)) (bT g (k+1)) (bD g (k+1)) (vD g (k+1)) (fun q=>zf g (k+1) n q) R):
 ug g (t+1) (k+1) (fun q=>nZ g (k+1) n q) (fun j=>j=k+1∨(j<=k/\k+1<bL g j)) (fun j=>if j=k+1 then R else X j):=by
 have c:=kx d;have o:=yp _ _ (E.jS (i:=k+1) b) rfl rfl;refine⟨r,fun q=> ?_,fun j a=> ?_,fun j s h=> ?_,fun u=> ?_⟩
 . unfold je;rw[aM om,cF,List.getD,d];simp only[gI];rw[cF,aM m]
 . rw[c];by_cases e:j=k+1
   . subst e;rw[aY rfl];refine f.qD (fun q x _=> ?_);unfold nZ;rw[aY rfl]
   . rw[aM e];have a:=a.resolve_left e;rw[l j a.1 a.2];exact alI E b rfl o om a.2 0
 . by_cases e:j=k+1
   . exact .inl e
   . exact .inr ⟨om,h⟩
 . have:=tu E p;exact .inl om
end
section
variable{P:Program}{md:Region.Mode}{ops:Array Oper}{Q:Exit->Act->World->Prop}{S:World->Prop}{L:Nat}{listed:Array Bool}
theorem an3{a:Act}{c d:Oper}(l:Region.ready md ops listed=[i,j])(p:ops[i]?=some c)(q:ops[j]?=some d)
 (e:∀b:Act->World->Prop,Shut (∀a w,(i≠L->S w)->mQ P md ops Q S L n (listed.setIfInBounds i true) a w->b a w)->if Region.wanted c (yielded ops a.tmps)=true then Oper.wp P c a w b Q else b (a.put c.dst undef) w)
 (o:∀b:Act->World->Prop,Shut (∀a w,(j≠L->S w)->mQ P md ops Q S L n (listed.setIfInBounds j true) a w->b a w)->if Region.wanted d (yielded ops a.tmps)=true then Oper.wp P d a w b Q else b (a.put d.dst undef) w):mQ P md ops Q S L (n+1) listed a w:=by
 refine⟨fun h=>(by rw[l] at h;cases h),fun x m=> ?_⟩;rw[l] at m;have:x=i∨x=j:=by simpa using m
 rcases this with rfl | rfl
 . exact wpOp_step p (fun b f=>e b (fun a w g k=>f a w ⟨g,k⟩))
 . exact wpOp_step q (fun b f=>o b (fun a w g k=>f a w ⟨g,k⟩))
end
section
variable{w w':World}{P P' T K:Nat->Prop}{M:List (Int×Value)}{X:Nat->List Row}
theorem Kn.wide(h:Kn w P M K X)(d:∀q,q<w.heap.size->P q->P' q):Kn w P' M K X:=⟨h.nd,fun j k=>by
 obtain⟨a,b,o,n,m,e,f,g,c,i⟩:=h.at_ j k;exact⟨a,b,o,n,m,e,f,g,c.imp KR.ok d,fun l=>d b (c.lt KR.ok om) (i l)⟩⟩
theorem Kn.over(h:Kn w P M K X)(b:∀x,K x->x≠n):Kn w P (qc (n:Int) u M) K X:=⟨cf.2 h.nd,fun x a=>by
 rw[cq,aM (fun e=>b x a om)];exact h.at_ x a⟩
theorem Gr.own{o:Option Nat}(g:w.grownBy w' o):Gr (fun q=>o=some q) w w':=⟨g.os,g.tape,g.output,g.size,fun q b a=>g.block q b (fun e=>a (by first | exact e | exact e.symm))⟩
end
def nfR(X:Nat->List Row)(L:List Int):List Row:=L.flatMap fun z=>nL (X z.toNat)
theorem el(X:Nat->List Row)(L:List Int)(n:Nat):nfR X (L++[(n:Int)])=nfR X L++nL (X n):=by
 unfold nfR;rw[iG];simp
theorem tb(R:List Row):(nL R).length=2*R.length:=by
 unfold nL
 induction R with
 | nil=>rfl
 | cons r R ih=>rw[qK,aT,ih,fS];simp;omega
theorem ady{R:List Row}{r:Row}(h:R[n]?=some r):nL (R.take (n+1))=nL (R.take n)++[r,jz r]:=by
 rw[jE,h];unfold nL;rw[iG];simp
theorem aiO(G:be)(n:Nat)(X:Nat->List Row):nfR X (go (bL G) n n)=(xV G n).flatMap fun j=>nL (X j):=by
 unfold nfR go xV;rw[rG];simp
theorem eG{X:Nat->List Row}:∀j,(∀x,x<j->n<bL G x->(X x).length=vD G x)->(nfR X (go (bL G) n j)).length=ga G n j
 | 0,_=>rfl
 | j+1,h=>by
   have b:=eG j (fun x c=>h x om)
   by_cases a:n<bL G j
   . rw[vi a,el,aT,b,tb,h j om a]
     show _=wK _ _ _ _+(if n<bL G j then _ else _)
     rw[aY a]
     rfl
   . rw[yV a,b]
     show _=wK _ _ _ _+(if n<bL G j then _ else _)
     rw[aM a]
     rfl
structure StI(w wr:World)(P:Nat->Prop)(cc:Nat)(ob:Option Obj)(bb cn kn:Nat)(v:Value)(N Lc:List Row)(Me:List (Int×Value))(K:Nat->Prop)(Y:Nat->List Row):Prop where
 s:w.Since w.heap.size wr
 b1:w.heap.size<=bb
 n1:cn≠bb
 n2:v.ownBlock≠some cn
 n3:v.ownBlock≠some bb
 x0:cc<wr.heap.size/\cc≠bb/\cc≠cn
 x3:v.ownBlock≠some cc
 X:wr.heap[cc]?=ob
 Z:jm wr bb Me
 kk:Kn wr (fun q=>(w.heap.size<=q/\q≠bb/\q≠cn)/\v.ownBlock≠some q) Me K Y
 G:∃xn,GL KR (fun q=>(P q/\q<w.heap.size)∨(w.heap.size<=q/\q≠bb/\v.ownBlock≠some q)) wr w.heap.size (.slice (some ⟨cn,0,none⟩) N.length kn) N xn
 C:∃base xs,w.heap.size<=base/\base<=wr.heap.size/\GL KR (fun q=>w.heap.size<=q/\q≠bb/\q≠cn) wr base v Lc xs
section
variable{w wr w1 w2 w3:World}{P K:Nat->Prop}{cc bb cn kn:Nat}{ob:Option Obj}{v:Value}{N Lc:List Row}{Me:List (Int×Value)}{Y:Nat->List Row}
theorem StI.lt(I:StI w wr P cc ob bb cn kn v N Lc Me K Y):w.heap.size<=cn/\cn<wr.heap.size:=by
 obtain⟨a,G⟩:=I.G;exact G.lt
theorem StI.vlt(I:StI w wr P cc ob bb cn kn v N Lc Me K Y)(h:v.ownBlock=some n):w.heap.size<=n/\n<wr.heap.size:=by
 obtain⟨a,e,c,d,C⟩:=I.C;have:=C.own.lt n h;omega
theorem StI.bH(I:StI w wr P cc ob bb cn kn v N Lc Me K Y)(a:wr.S w1):StI w w1 P cc ob bb cn kn v N Lc Me K Y:=by
 obtain⟨d,G⟩:=I.G;obtain⟨b,e,c,f,C⟩:=I.C;have z:=a.size;exact⟨I.s.trans (sM a I.s.size),I.b1,I.n1,I.n2,I.n3,⟨by have:=I.x0;omega,I.x0.2⟩,I.x3,(a.block _ I.x0.1).trans I.X,I.Z.bH a,I.kk.gr (T:=fun _=>False) (Gr.of a) (fun _ _ h=>h),⟨d,G.bH KR.ok a⟩,⟨b,e,c,om,C.bH KR.ok a⟩⟩
theorem StI.imp(I:StI w wr P cc ob bb cn kn v N Lc Me K Y){K':Nat->Prop}(h:∀x,K' x->K x):StI w wr P cc ob bb cn kn v N Lc Me K' Y:=
 ⟨I.s,I.b1,I.n1,I.n2,I.n3,I.x0,I.x3,I.X,I.Z,I.kk.imp h (fun _ _=>rfl),I.G,I.C⟩
theorem StI.put(I:StI w w1 P cc ob bb cn kn v N Lc Me K Y){Z:List Row}(hb:w.heap.size<=n)(_:n<=w1.heap.size)(A:Apv KR (fun q=>w.heap.size<=q/\q≠bb/\q≠cn) w1 n v d Z m c w2)(E:∀x,K x->x≠j)
 (y:jm w3 bb (qc (j:Int) (.s m d c) Me))(z:w2.grownBy w3 (some bb)):StI w w3 P cc ob bb cn kn (.s m d c) N Z (qc (j:Int) (.s m d c) Me) K Y:=by
 obtain⟨⟨Q,p⟩,B,D,R⟩:=A;obtain⟨O,G⟩:=I.G;have g:=Gr.own B;have a:=Gr.gb z;have H:=G.lt;have S:=p.lt;have L:=I.Z.lt;have M:=I.b1;have t:=I.n1;have F:=I.s.size;have W:=g.size;have f:∀q,q<w1.heap.size->v.ownBlock≠some q->q≠m:=fun q k h e=>by
  rcases D with r | r
  . exact h (by rw[r,e])
  . omega
 have s:∀q,v.ownBlock=some q->w.heap.size<=q:=fun q h=>(I.vlt h).1;have u:w.S w2:=Gr.since I.s g s F;have T:cn≠m:=f cn H.2 I.n2;have U:bb≠m:=f bb L I.n3;have l:=I.x0;have V:cc≠m:=f cc l.1 I.x3;refine⟨Gr.since u a (fun q h=>by omega) u.size,M,t,by simp[Value.ownBlock];omega,by simp[Value.ownBlock];omega,⟨by have:=a.size;omega,l.2⟩,by simp[Value.ownBlock];omega,(a.block _ om l.2.1).trans ((g.block _ l.1 I.x3).trans I.X),y, ?_,⟨O, ?_⟩,⟨n,Q,hb,by have:=a.size;omega,p.gr KR.ok a (fun b h=>by simp[Value.ownBlock] at h;omega) (fun q _ h=>h.2.1)⟩⟩
 . have X:=I.kk.wide (P':=fun q=>((w.heap.size<=q/\q≠bb/\q≠cn)/\v.ownBlock≠some q)/\q≠m) (fun q k h=>⟨h,f q k h.2⟩);have o:=(X.gr g (fun q h e=>h.1.2 e)).gr a (fun q h e=>h.1.1.2.1 e);exact (o.wide (fun q _ h=>⟨h.1.1,by simp[Value.ownBlock];have:=h.2;omega⟩)).over E
 . have X:=G.imp KR.ok (P':=fun q=>((P q/\q<w.heap.size)∨(w.heap.size<=q/\q≠bb/\v.ownBlock≠some q))/\(q<w.heap.size∨q≠m)) (fun q k h=>⟨h,by
    rcases h with h | h
    . exact .inl h.2
    . exact .inr (f q k h.2.2)⟩)
   have o:=(X.gr KR.ok g (fun b h e=>I.n2 (by simp[Value.ownBlock] at h;rw[h];exact e)) (fun q _ h e=>by
    rcases h.1 with h | h
    . have:=s q e;omega
    . exact h.2.2 e)).gr KR.ok a (fun b h e=>t (by simp[Value.ownBlock] at h;omega)) (fun q _ h e=>by
    rcases h.1 with h | h
    . omega
    . exact h.2.1 e)
   exact o.imp KR.ok (fun q _ h=>by
    rcases h.1 with i | i
    . exact .inl i
    . refine .inr ⟨i.1,i.2.1, ?_⟩;rcases h.2 with C | C
      . omega
      . simp[Value.ownBlock];omega)
theorem StI.app(I:StI w w1 P cc ob bb cn kn v N Lc Me K Y){L':List Row}(p:L'.length=m)(A:Apd KR (fun q=>(P q/\q<w.heap.size)∨(w.heap.size<=q/\q≠bb/\v.ownBlock≠some q)) w1 w.heap.size cn N.length m (N++L') n c w2):StI w w2 P cc ob bb n c v (N++L') Lc Me K Y:=by
 obtain⟨⟨t,k⟩,E,x,y⟩:=A;obtain⟨B,G⟩:=I.G;obtain⟨l,s,o,u,C⟩:=I.C;have a:=Gr.gb E;have z:=G.lt;have i:=I.Z.lt;have r:=I.s.size;have D:=a.size;have j:=I.n1;have g:∀q,q<w1.heap.size->q≠cn->q≠n:=fun q d h e=>om;refine⟨Gr.since I.s a (fun q h=>by omega) r,I.b1,(g bb i (fL j)).symm,fun h=> ?_,I.n3,⟨by have:=I.x0;omega,I.x0.2.1,g cc I.x0.1 I.x0.2.2⟩,I.x3,(a.block _ I.x0.1 I.x0.2.2).trans I.X,I.Z.lV (a.block bb i (fL j)), ?_,⟨t,by rw[aT,p];exact k⟩,⟨l,s,o,om, ?_⟩⟩
 . exact g n (I.vlt h).2 (fun e=>I.n2 (by rw[<-e];exact h)) rfl
 . have f:=I.kk.wide (P':=fun q=>((w.heap.size<=q/\q≠bb/\q≠cn)/\v.ownBlock≠some q)/\q≠n) (fun q d h=>⟨h,g q d h.1.2.2⟩);exact (f.gr a (fun q h e=>h.1.1.2.2 e)).wide (fun q _ h=>⟨⟨h.1.1.1,h.1.1.2.1,h.2⟩,h.1.2⟩)
 . have f:=C.imp KR.ok (P':=fun q=>(w.heap.size<=q/\q≠bb/\q≠cn)/\q≠n) (fun q d h=>⟨h,g q d h.2.2⟩);exact (f.gr KR.ok a (fun b h e=>I.n2 (by rw[h,e])) (fun q _ h e=>h.1.2.2 e)).imp KR.ok (fun q _ h=>⟨h.1.1,h.1.2.1,h.2⟩)
theorem StI.next(I:StI w wr P cc ob bb cn kn (.s n m c) N Lc Me K Y)(f:ql (d:Int) Me=some (.s n m c))(g:Y d=Lc)(hl:Lc.length=m):StI w wr P cc ob bb cn kn (.n) N [] Me (fun x=>x=d∨K x) Y:=by
 obtain⟨z,G⟩:=I.G;obtain⟨A,F,B,D,C⟩:=I.C;have E:=C.lt;have i:=I.n2;have k:=I.n3;simp[Value.ownBlock] at i k;refine⟨I.s,I.b1,I.n1,by simp[Value.ownBlock],by simp[Value.ownBlock],I.x0,by simp[Value.ownBlock],I.X,I.Z,⟨I.kk.nd,fun x o=> ?_⟩,⟨z,G.imp KR.ok (fun q _ h=> ?_)⟩,⟨wr.heap.size,[],I.s.size,aC _,GL.none _ _ _ _⟩⟩
 . by_cases e:x=d
   . subst e;refine⟨_,n,0,m,c,f,by rw[g,hl],C.cap,by rw[g];exact (C.ml KR.ok).imp KR.ok (fun q _ h=>⟨h.1,by simp[Value.ownBlock]⟩),fun _=>⟨⟨om,k,i⟩,by simp[Value.ownBlock]⟩⟩
   . obtain⟨a,b,y,j,v,p,r,s,t,u⟩:=I.kk.at_ x (o.resolve_left e);exact⟨a,b,y,j,v,p,r,s,t.imp KR.ok (fun q _ h=>⟨h.1,by simp[Value.ownBlock]⟩),fun l=>⟨(u l).1,by simp[Value.ownBlock]⟩⟩
 . rcases h with h | h
   . exact .inl h
   . exact .inr ⟨h.1,h.2.1,by simp[Value.ownBlock]⟩
end
section
variable{w:World}{bl:Nat}{g:be}{aL aH aN:Option Addr}{kL kH kN:Nat}{vd vu vk vm:Value}{wd:Int}
theorem Lob.set8(h:Lob w bl g aL aH aN kL kH kN vd vu wd vk vm)(z:Int):Lob (w.setCell ⟨bl,8,none⟩ (.i z)) bl g aL aH aN kL kH kN vd vu z vk vm:=
 ⟨(bR w bl qd _).trans h.c0,(bR w bl qd _).trans h.c1,(bR w bl qd _).trans h.c2,(bR w bl qd _).trans h.c3,(bR w bl qd _).trans h.c4,(bR w bl qd _).trans h.c5,(bR w bl qd _).trans h.c6,(bR w bl qd _).trans h.c7,aQ _ _ _ h.c8,(bR w bl qd _).trans h.c9,(bR w bl qd _).trans h.ca,fun k=>by rw[((aV.refl w bl).setCell 8 (.i z)).frozen];exact h.f k⟩
theorem Lob.set9(h:Lob w bl g aL aH aN kL kH kN vd vu wd vk vm)(u:Value):Lob (w.setCell ⟨bl,9,none⟩ u) bl g aL aH aN kL kH kN vd vu wd u vm:=
 ⟨(bR w bl qd _).trans h.c0,(bR w bl qd _).trans h.c1,(bR w bl qd _).trans h.c2,(bR w bl qd _).trans h.c3,(bR w bl qd _).trans h.c4,(bR w bl qd _).trans h.c5,(bR w bl qd _).trans h.c6,(bR w bl qd _).trans h.c7,(bR w bl qd _).trans h.c8,aQ _ _ _ h.c9,(bR w bl qd _).trans h.ca,fun k=>by rw[((aV.refl w bl).setCell 9 u).frozen];exact h.f k⟩
theorem Lob.seta(h:Lob w bl g aL aH aN kL kH kN vd vu wd vk vm)(u:Value):Lob (w.setCell ⟨bl,10,none⟩ u) bl g aL aH aN kL kH kN vd vu wd vk u:=
 ⟨(bR w bl qd _).trans h.c0,(bR w bl qd _).trans h.c1,(bR w bl qd _).trans h.c2,(bR w bl qd _).trans h.c3,(bR w bl qd _).trans h.c4,(bR w bl qd _).trans h.c5,(bR w bl qd _).trans h.c6,(bR w bl qd _).trans h.c7,(bR w bl qd _).trans h.c8,(bR w bl qd _).trans h.c9,aQ _ _ _ h.ca,fun k=>by rw[((aV.refl w bl).setCell 10 u).frozen];exact h.f k⟩
end
def zh(N:List Row)(m:Nat):Nat×Nat×List Rat×List Rat:=(N.length,m,(List.range (N.length*m)).map (br m (uh N)),(List.range N.length).map fun r=>eO (uh N r) (-1))
def wQ(g:be)(i:Nat)(X:Nat->List Row)(O:List Row):List Row:=(xV g i).flatMap (fun j=>nL (X j))++O
def aow(bl:Nat)(g:be)(aL aH aN:Option Addr)(kL kH kN:Nat)(vd vu vm:Value)(i nN base:Nat)(Nq:Nat->Prop)(A:List (Nat×Nat×List Rat×List Rat))(a:Nat×Nat×List Rat×List Rat)(w:World)(e:Ending)(w':World):Prop:=
 e=.returned (.tuple #[])/\∃bm cm km M xa,w.heap.size<=bm/\Lob w' bl g aL aH aN kL kH kN vd vu (nN:Int) (.map (some bm)) (.slice (some ⟨cm,0,none⟩) (A.length+1) km)/\jm w' bm M/\Kn w' (fun q=>w.heap.size<=q/\q≠bm/\q≠cm) M (fun j=>j<i/\i<bL g j) (rF g i)/\
  GL KA (fun q=>q≠bl/\q≠bm/\Nq q) w' base (.slice (some ⟨cm,0,none⟩) (A.length+1) km) (A++[a]) xa/\Gr (fun q=>q=bl∨vm.ownBlock=some q) w w'/\(vm.ownBlock=some cm∨w.heap.size<=cm)/\cm≠bm/\cm≠bl
theorem eX{bl:Nat}{g:be}(E:iy g){lo:Nat}{aL aH aN:Option Addr}{kL kH kN bd kd bu ku:Nat}{vm:Value}{bm i m no nN base:Nat}{ao:Option Addr}{bo oo ko:Nat}{O:List Row}{P K Nq:Nat->Prop}(X:Nat->List Row){M:List (Int×Value)}{A:List (Nat×Nat×List Rat×List Rat)}{xa:List Value}{w:World}(L:Low w bl g lo aL aH aN kL kH kN bd kd bu ku (m:Int) (.map (some bm)) vm)(hi:i<=g.nn)(Z:jm w bm M)(KN:Kn w P M K X)
 (MO:ML KR w P ao bo oo O)(hO:O.length=no)(ho1:1<=no)(hK:∀j,j<i->i<bL g j->K j/\(X j).length=vD g j/\∀r∈X j,ic m r)(okO:∀r∈O,ic m r)(hP:∀q,P q->q≠bl/\vm.ownBlock≠some q/\Nq q)(hNq:∀q,w.heap.size<=q->Nq q)
 (GA:GL KA (fun q=>q≠bl/\q≠bm/\Nq q) w base vm A xa)(hb:base<=w.heap.size)(hvb:vm.ownBlock≠some bl)(hm:m<=20000)(hm1:1<=m)(hnN:ga g i i+no=nN)(hn2:nN<=20000)(hA:A.length<=1000000):
 Calls Tryz.prog 148 #[.pointer (some ⟨bl,0,none⟩),.int .i64 (i:Int),.slice ao no ko] w (aow bl g aL aH aN kL kH kN (.slice (some ⟨bd,0,none⟩) (g.nn+1) kd) (.slice (some ⟨bu,0,none⟩) (g.nn+1) ku) vm i nN base Nq A (zh (wQ g i X O) m) w):=by
 have hnn:=E.head.n;have hmm:= @run_makeMap Tryz.prog;have hmt:=underlying107;have hkk:=underlying3;obtain⟨ws,hws⟩:∃x,x=(w.alloc (.o #[] 163)).alloc (.map #[] 0):=⟨_,rfl⟩;have sA:=cV w (.o #[] 163);have zA:(w.alloc (.o #[] 163)).heap.size=w.heap.size+1:=by simp
 have sB:=(aF _ (w.alloc (.o #[] 163))).alloc zR (.map #[] 0);rw[<-hws] at sB;have sS:=sA.trans (sM sB sA.size);have zS:ws.heap.size=w.heap.size+2:=by rw[hws];simp
 have Z0:jm ws (w.heap.size+1) []:=by rw[hws,<-zA];exact jm.made _
 have G0:GL KR (fun q=>(P q/\q<w.heap.size)∨(w.heap.size<=q/\q≠w.heap.size+1/\(Value.slice none 0 0).ownBlock≠some q)) ws w.heap.size (.l (some ⟨w.heap.size,0,none⟩) 0 0) [] []:=(GL.new KR _ w).bH KR.ok sB;have JC:=acj E (L.bH sS) hi;have hcl:=vl (bL g) i i;have HWS:=aR hws;have HE:=aR E;have HK:=aR hK;have HOK:=aR okO;have HP:=aR hP;have HO:=aR hO;have HNN:=aR hnN;clear hws hK okO hP hO hnN sB;go_enter func148,ntmps148;go_wp2_with fail;rw[<-HWS.out];refine JC.mono ?_;rintro e w2 ⟨cc,kc,xc,rfl,GC,s2⟩;clear JC;have MC:=(GC.ml KI.ok).imp KI.ok (p':=fun _=>False);have lC:=GC.lt;generalize hn:(go (bL g) i i).length=n at*;have HN:=aR hn;have S2:=sS.trans (sM s2 sS.size);have MC:=GC.ml KI.ok;have I0:StI w w2 P cc (w2.heap[cc]?) (w.heap.size+1) w.heap.size 0 (.slice none 0 0) [] [] [] (fun _=>False) (rF g i):=⟨S2,om,om,by simp[Value.ownBlock],by simp[Value.ownBlock],⟨lC.2,om,om⟩,by simp[Value.ownBlock],rfl,Z0.bH s2,⟨qz,fun _ h=>h.elim⟩,⟨[],G0.bH KR.ok s2⟩,⟨w2.heap.size,[],S2.size,aC _,GL.none _ _ _ _⟩⟩;generalize hob:w2.heap[cc]?=ob at*;have HOB:=aR hob;generalize hbb:w.heap.size+1=bb at*;have hbb2:w.heap.size<bb:=om;have bln:=L.B.lt;have bmn:bm<w.heap.size:=Z.lt;have HLKZ:∀(wq:World) (Me:List (Int×Value)) (j:Nat) (v:Value),jm wq bb Me->(ql (j:Int) Me).getD (.slice none 0 0)=v->(Instr.lookup 107 (.map (some bb)) (.int .i64 j) false).run Tryz.prog wq=.ok v wq:=fun wq Me j v hZ hv=>by have:=hZ.look (P:=Tryz.prog) (mty:=107) (kt:=3) (et:=118) (zv:=.slice none 0 0) hmt hkk kr false (z:=(j:Int));rw[show ((iN (j:Int) Me).map Prod.snd).getD (.slice none 0 0)=v from hv] at this;exact this
 have HLZ:=aR HLKZ;clear hn hob hbb G0 Z0 sS sA zA zS GC HLKZ s2;go_wp2_with fail;go_loopw [6,18] (fun u q wr=>∃t:Nat,t<=n/\q=.int .i64 t/\∃cn kn nn Me,u=.l (some ⟨cn,0,none⟩) nn kn/\nn=(nfR X ((go (bL g) i i).take t)).length/\nn<=20000/\StI w wr P cc ob bb cn kn (.slice none 0 0) (nfR X ((go (bL g) i i).take t)) [] Me (fun x=>(x:Int)∈(go (bL g) i i).take t) (rF g i)/\∀z∈Me.map Prod.fst,z∈(go (bL g) i i).take t) (fun _ q _=>n-(intOf q).toNat)
 case atStart=>exact⟨0,aJ _,rfl,w.heap.size,0,0,[],rfl,rfl,om,I0.imp (fun x h=>by simp at h),qz⟩
 case round=>
  obtain⟨t,ht,rfl,cn,kn,nn,Me,rfl,hnn',hn20,I,hkey⟩:=hrel;have HNL:=aR hnn';clear hnn';by_cases htl:t<n
  . obtain⟨z,hz⟩:∃z,(go (bL g) i i)[t]?=some z:=⟨_,aK (by rw[HN.out];exact htl)⟩;obtain⟨j,rfl,hj,hj2,hj3⟩:=sP hz;obtain⟨kj,lj,okj⟩:=HK.out j hj hj2;obtain⟨aj,bj,oj,nj,cj,vj,lj',ljc,MJ,pJ⟩:=KN.at_ j kj;have dj:=HE.out.i9 (j:=j) om;have hnj:nj=vD g j:=om;have MJ':=MJ.imp KR.ok (p':=fun q=>P q/\q<w.heap.size) (fun q hq hp=>⟨hp,hq⟩);have IX:=I.X;have lcc:=I.x0;have c1:=(MC.int hz).2;rw[aZ] at c1;have c1:=(aO (w:=w2) (a:=⟨cc,t,none⟩) (IX.trans HOB.out.symm)).trans c1;have c9:=(L.bH I.s).B.c9;have lkj:(Instr.lookup 107 (.map (some bm)) (.int .i64 j) false).run Tryz.prog wr=.ok (.l aj nj cj) wr:=by
     have:=(Z.bH I.s).look (P:=Tryz.prog) (mty:=107) (kt:=3) (et:=118) (zv:=.slice none 0 0) hmt hkk kr false (z:=(j:Int));rw[show ((iN (j:Int) M).map Prod.snd).getD (.slice none 0 0)=.l aj nj cj from by show (ql (j:Int) M).getD _=_;rw[vj];rfl] at this;exact this
    have ejl:nn=ga g i j:=(by rw[HNL.out,hj3];exact eG j (fun x hx h=>(HK.out x om h).2.1));have hwid:ga g i j+2*nj<=nN:=(by have h1:ga g i (j+1)<=ga g i i:=dW hj;have h2:ga g i (j+1)=ga g i j+2*vD g j:=(by show wK _ _ _ _+(if i<bL g j then _ else _)=_;rw[aY hj2];rfl);have:=HNN.out;omega);have hjC:((j:Nat):Int)∉(go (bL g) i i).take t:=(by rw[hj3];unfold go;intro h;obtain⟨x,hx,e⟩:=dT.1 h;have:=dU.1 (mP.1 hx).1;omega);have eT:(go (bL g) i i).take (t+1)=(go (bL g) i i).take t++[(j:Int)]:=(by rw[jE,hz];rfl);have HTJ:=aR (And.intro hjC (And.intro eT (And.intro hkey ejl)));have HOKJ:=aR okj;have HVJ:=aR (And.intro lj (And.intro hnj dj));have HJ3:=aR hj3;have hz1:(t:Int)<n:=om;have lI:=I.lt;have lIb:=I.b1;clear hjC eT hkey ejl okj lj lj' dj hnj hj3 hz IX vj;have oJ:ga g i j<=20000:=om;generalize hOJ:ga g i j=OJ at*;have HOJ:=aR hOJ;clear hOJ;go_wp2_with fail;go_loopw [6,29] (fun u q wr=>∃e:Nat,e<=nj/\q=.int .i64 e/\∃cn kn nn v Me,u=.l (some ⟨cn,0,none⟩) nn kn/\nn=OJ+2*e/\StI w wr P cc ob bb cn kn v (nfR X ((go (bL g) i i).take t)++nL ((X j).take e)) ((rF g i j).take e) Me (fun x=>(x:Int)∈(go (bL g) i i).take t) (rF g i)/\(∀z∈Me.map Prod.fst,z∈(go (bL g) i i).take (t+1))/\(ql (j:Int) Me).getD (.slice none 0 0)=v/\(e=0∨ql (j:Int) Me=some v)/\(e=0∨∃g' cp,v=.l (some ⟨g',0,none⟩) e cp)) (fun _ q _=>nj-(intOf q).toNat)
    case atStart=>exact⟨0,aJ _,rfl,cn,kn,nn,.slice none 0 0,Me,rfl,by have:=HTJ.out.2.2.2;have:=HOJ.out;omega,by rw[List.take_zero,List.take_zero];exact (iJ (nfR X ((go (bL g) i i).take t))).symm▸I,fun z hz=>by rw[HTJ.out.2.1];exact List.mem_append_left _ (HTJ.out.2.2.1 z hz),by rw[eB (fun h=>HTJ.out.1 (HTJ.out.2.2.1 _ h))];rfl,.inl rfl,.inl rfl⟩
    case round=>
     obtain⟨e,he,rfl,cn,kn,nn,v,Me,rfl,hnn',I,hkey,hval,hvs,hvg⟩:=hrel;by_cases hel:e<nj
     . obtain⟨r,hr⟩:∃r,(X j)[e]?=some r:=⟨_,aK (by have:=HVJ.out;omega)⟩;obtain⟨eA,_,⟨aA,bA,oA,kA,rfl,hkA,hpA,MAr⟩,hcA⟩:=(MJ'.bH KR.ok I.s) e r hr;have cA:=hcA 0 _ rfl;rw[show oj+e*KR.sz+0=oj+e by show oj+e*1+0=_;omega] at cA;subst eA;have hrl:r.length<=20001:=(by have:=(HOKJ.out r (cO hr)).len;omega);have HB2:=aR (ady hr);have HVV:=aR (And.intro hkey (And.intro hvs hvg));have HNE:=aR hnn';have hnb:nn<=20000:=om;clear hr hcA hkey hvs hvg hnn';generalize hnr:r.length=nr at*;have HNR:=aR hnr;clear hnr;have hz2:(e:Int)<nj:=om;have dr:=ue wr;have Id:=I.bH dr;have HLK:=aR (show ∀wq,jm wq bb Me->_ from fun wq hq=>HLZ.out wq Me j v hq hval);clear hval;have zI:=I.s.size;have zd:wr.drew.heap.size=wr.heap.size:=rfl;go_wp2_with fail;refine bQ 14 (fun w'=>jm w' bb Me) kr Id.Z (fun hHeld=> ?_);refine tX 0 33 ?_;refine tX 1 34 ?_;refine tX 2 35 ?_;refine tX 3 36 ?_;refine aa9 (i:=4) (d:=some 37) (v:=v) rfl kr kr kr (fun _ _ _ h=>h) kr yE ?_ ?_
       focus
        intro wq hSw;have hL:=HLK.out wq hSw;exact yG
       refine tX 5 38 ?_;refine tX 6 39 ?_;refine uX 7 fun K hK=> ?_;go_simp;go_wp2_with (go_at_call 108;(with_reducible refine (rt).mono ?_);rintro e wa ⟨ua,rfl,Ra,sa⟩);obtain⟨a2,n2,c2,b2,m2,d2,-,-,-,-,-,-,e2,-⟩:=id Ra;subst e2;have Ia:=Id.bH sa;refine hK.out _ _ (fun _=>Ia.Z) ?_;clear hK K;refine uX 8 fun K hK=> ?_;go_simp;go_wp2_with (go_at_call 108;(with_reducible refine (rt).mono ?_);rintro e wb ⟨ub,rfl,Rb,sb⟩);obtain⟨a3,n3,c3,b3,m3,d3,-,-,-,-,-,-,e3,-⟩:=id Rb;subst e3;have Ib:=Ia.bH sb;refine hK.out _ _ (fun _=>Ib.Z) ?_;clear hK K;refine uX 9 fun K hK=> ?_;go_simp;go_wp2_with (go_at_call 149;(with_reducible refine (pm Rb).mono ?_);rintro e wz ⟨rfl,sz⟩);have Iz:=Ib.bH sz;have RA:=(Ra.bH sb).bH sz;have RB:=(Rb.bH sz).flip;have za:=sa.size;have zb:=sb.size;have zz:=sz.size;refine hK.out _ _ (fun _=>Iz.Z) ?_;clear hK K;refine uX 10 fun K hK=> ?_;go_simp;have sV:=cV wz (.o #[.bool (qn (1:Rat)),.l a2 n2 c2,.l b2 m2 d2,.bool (qn (-1:Rat)),.l a3 n3 c3,.l b3 m3 d3] 83);have QV:dQ (wz.alloc (.o #[.bool (qn (1:Rat)),.l a2 n2 c2,.l b2 m2 d2,.bool (qn (-1:Rat)),.l a3 n3 c3,.l b3 m3 d3] 83)) (fun q=>wr.heap.size<=q) (some ⟨wz.heap.size,0,none⟩) wz.heap.size 0 2 (fun t=>if t=0 then 1 else-1):=(show ML KQ _ _ _ _ _ ((List.range 2).map fun t=>if t=0 then (1:Rat) else-1) from ML.two KQ.ok (c:=[.bool (qn (1:Rat)),.l a2 n2 c2,.l b2 m2 d2]) (d:=[.bool (qn (-1:Rat)),.l a3 n3 c3,.l b3 m3 d3]) (x:=(1:Rat)) (y:=(-1:Rat)) ⟨_,_,rfl,RA.imp (fun q _ h=>by omega)⟩ ⟨_,_,rfl,RB.imp (fun q _ h=>by omega)⟩ 83).fn;have Iv:=Iz.bH sV;have zV:=sV.size;refine hK.out _ _ (fun _=>Iv.Z) ?_;clear hK K;generalize wz.alloc _=wV at*;have JP:=@ti (nn:Int) (some ⟨wz.heap.size,0,none⟩) wz.heap.size 0 2 2 _ (fun t=>if t=0 then 1 else-1) wV QV om om om;rw[show (List.range 2).map (fun t:Nat=>if t=0 then (1:Rat) else-1)=[1,-1] from rfl] at JP;have hPl:=dB (nn:Int) [1,-1];have HPL:=aR (show cL ((ga g i j+2*e:Nat):Int) [1,-1]=cL (nn:Int) [1,-1] by rw[HNE.out,HOJ.out]);generalize hPLe:cL (nn:Int) [1,-1]=pl at*;have HPE:=aR hPLe;clear hPLe;refine uX 11 fun K hK=> ?_;go_simp;go_wp2_with (go_at_call 107;(with_reducible refine JP.mono ?_);rintro e w8 ⟨c8,k8,x8,rfl,G8,s8⟩);have I8:=Iv.bH s8;have z8:=s8.size;have l8:=G8.lt;have cap8:=G8.cap;have M8:=G8.ml KT.ok;refine hK.out _ _ (fun _=>I8.Z) ?_;clear hK K JP QV;refine uX 12 fun K hK=> ?_;go_simp;have sX:=cV w8 (.o #[.l (some ⟨c8,0,none⟩) pl.length k8] 163);have I9:=I8.bH sX;have zX:=sX.size;refine hK.out _ _ (fun _=>I9.Z) ?_;clear hK K;refine uX 13 fun K hK=> ?_;obtain⟨base9,x9,hb9,hb9',C9⟩:=I9.C;have vlt:=fun (b:Nat) (h:v.ownBlock=some b)=>(I.vlt h).2;have lZb:=I.Z.lt;have lcn:=I.lt;refine cv (m:=1) (n:=e) KR.ok C9 (by unfold rF;rw[jR,bS,cT];have:=HVJ.out;omega) (ML.one (p:=fun q=>(w.heap.size<=q/\q≠bb/\q≠cn)/\v.ownBlock≠some q) KR.ok (c:=[.l (some ⟨c8,0,none⟩) pl.length k8]) (x:=pl) ⟨_,c8,0,k8,rfl,cap8,fun _=>⟨⟨om,om,om⟩,fun h=>by have:=vlt _ h;omega⟩,M8.imp KT.ok (fun q _ hq=>⟨⟨om,om,om⟩,fun h=>by have:=vlt _ h;omega⟩)⟩ 163) rfl (.inr qd) om hb9' rfl _ _ rfl rfl rfl ?_;intro g' cap' wA A9;have ZA:jm wA bb Me:=I9.Z.lV ((Gr.own A9.2.1).block bb I9.Z.lt I9.n3);refine hK.out _ _ (fun _=>ZA) ?_;clear hK K;obtain⟨wU,hu,ZU,gU⟩:=ZA.put (P:=Tryz.prog) hmt hkk (z:=(j:Int)) (bf om) (.l (some ⟨g',0,none⟩) (e+1) cap');refine uX 14 fun K hK=> ?_;go_simp;refine hK.out _ _ (fun h=>absurd rfl h) ?_;clear hK K;refine wG kr ?_ _;have IU:=I9.put (j:=j) hb9 hb9' A9 (fun x hx h=>HTJ.out.1 (by rw[<-h];exact hx)) ZU gU;have mv:∀q,q<w.heap.size->wU.heap[q]?=wr.heap[q]?:=fun q hq=>(IU.s.block q hq).trans (I.s.block q hq).symm;have zU:wr.heap.size<=wU.heap.size:=(by have:=A9.2.1.size;have:=gU.size;omega);have MU:=MAr.move KT.ok zU (fun h=>mv _ (hpA (by rw[HNR.out] at h;exact h)).2) (fun q _ h=>mv q h.2);have JN:=@uT aA bA oA nr kA (fun q=>P q/\q<w.heap.size) r wU MU HNR.out om;have hNl:(nfR X ((go (bL g) i i).take t)++nL ((X j).take e)).length=nn:=by rw[aT,tb,jR,HNE.out];have h1:=HTJ.out.2.2.2;have h2:=HNL.out;have h3:=HVJ.out;omega
       have HNl:=aR hNl;have HKE:=aR (show ∀z∈(qc (j:Int) (.l (some ⟨g',0,none⟩) (e+1) cap') Me).map Prod.fst,z∈(go (bL g) i i).take (t+1) from fun z hz=>by
        rcases (cf.1 z).1 hz with h | h
        . rw[HTJ.out.2.1,h];simp
        . exact HVV.out.1 z h)
       have HVA:=aR (show ql (j:Int) (qc (j:Int) (.l (some ⟨g',0,none⟩) (e+1) cap') Me)=some (.l (some ⟨g',0,none⟩) (e+1) cap') by rw[cq,aY rfl]);generalize qc (j:Int) (.l (some ⟨g',0,none⟩) (e+1) cap') Me=Me' at*;clear hNl A9 ZA ZU gU hu C9 M8 G8 I9 I8 Iv Iz Ib Ia Id I RA RB Ra Rb MAr;go_wp2_with fail;refine JN.mono ?_;rintro e' wN ⟨cX,kX,xX,rfl,GX,sX2⟩;clear JN;have IN:=IU.bH sX2;have zN:=sX2.size;have lX:=GX.lt;have capX:=GX.cap;have MX:=GX.ml KT.ok;have sQ:=cV wN (.o #[.l aA nr kA,.l (some ⟨cX,0,none⟩) nr kX] 163);have IQ:=IN.bH sQ;obtain⟨xn,GN⟩:=IQ.G;rw[HNl.out] at GN;have lcn:=IU.lt;have lZb:=IU.Z.lt;have vlt:=fun (b:Nat) (h:(Value.slice (some ⟨g',0,none⟩) (e+1) cap').ownBlock=some b)=>(IU.vlt h).2;have bU:=IU.b1;have zwU:=IU.s.size;have vge:=fun (b:Nat) (h:(Value.slice (some ⟨g',0,none⟩) (e+1) cap').ownBlock=some b)=>(IU.vlt h).1;go_wp2_with (at_builtin;refine kv ?_);intro _;refine jg (m:=2) KR.ok GN HNl.out (ML.two (p:=fun q=>((P q/\q<w.heap.size)∨(w.heap.size<=q/\q≠bb/\(Value.slice (some ⟨g',0,none⟩) (e+1) cap').ownBlock≠some q))/\q≠cn) KR.ok (c:=[.l aA nr kA]) (d:=[.l (some ⟨cX,0,none⟩) nr kX]) (x:=r) (y:=jz r) ⟨aA,bA,oA,kA,by rw[HNR.out],by rw[HNR.out];exact hkA,fun h=>⟨.inl (hpA (by rw[HNR.out] at h;exact h)),by have:=(hpA (by rw[HNR.out] at h;exact h)).2;omega⟩,((MU.bH KT.ok sX2).imp KT.ok (fun q _ h=>⟨.inl h,om⟩))⟩ ⟨_,cX,0,kX,by rw[show (jz r).length=nr by unfold jz;rw[bS];exact HNR.out],by rw[show (jz r).length=nr by unfold jz;rw[bS];exact HNR.out];exact capX,fun _=>⟨.inr ⟨om,om,fun h=>by have:=vlt _ h;omega⟩,om⟩,MX.imp KT.ok (fun q _ h=>⟨.inl h.1,om⟩)⟩ 163) rfl rfl _ _ rfl rfl rfl om ?_;intro c' k' w' AP;have IA:=IQ.app (m:=2) (L':=[r,jz r]) rfl (by rw[HNl.out];exact AP)
       have HIA:=aR (show StI w w' P cc ob bb c' k' (.l (some ⟨g',0,none⟩) (e+1) cap') (nfR X ((go (bL g) i i).take t)++nL ((X j).take (e+1))) ((rF g i j).take (e+1)) Me' (fun x=>(x:Int)∈(go (bL g) i i).take t) (rF g i) by
        have e1:(rF g i j).take (e+1)=(rF g i j).take e++[pl]:=(by rw[jE];congr 1;unfold rF;rw[cY,fK (by have:=HVJ.out;omega),<-HPL.out];rfl);rw[HB2.out,e1,<-dZ];exact IA)
       clear IA IQ IN IU AP GN MX GX MU;go_wp2;go_roundw
       case rel=>exact⟨e+1,om,by go_num,c',k',nn+2,_,Me',rfl,by have:=HNE.out;omega,HIA.out,HKE.out,by rw[HVA.out];rfl,.inr HVA.out,.inr ⟨g',cap',rfl⟩⟩
       case measure=>exact yI
     . have ee:e=nj:=om;subst ee;have hz2:¬(e:Int)<e:=om;have e0:e≠0:=(by have:=HVJ.out;omega);obtain⟨g',cp,rfl⟩:=hvg.resolve_left e0;have fl:(rF g i j).take e=rF g i j:=dV (by unfold rF;rw[bS,cT];have:=HVJ.out;omega);have fx:(X j).take e=X j:=dV (by have:=HVJ.out;omega);rw[fl,fx] at I;have IN:=(I.next (hvs.resolve_left e0) rfl (by unfold rF;rw[bS,cT];have:=HVJ.out;omega)).imp (K':=fun x=>(x:Int)∈(go (bL g) i i).take (t+1)) (fun x hx=>by
        rw[HTJ.out.2.1] at hx;rcases iX.1 hx with h | h
        . exact .inr h
        . simp at h;exact .inl om)
       have HIN:=aR (show StI w wr P cc ob bb cn kn (.slice none 0 0) (nfR X ((go (bL g) i i).take (t+1))) [] Me (fun x=>(x:Int)∈(go (bL g) i i).take (t+1)) (rF g i) by rw[HTJ.out.2.1,el,<-HTJ.out.2.1];exact IN)
       have HLN:=aR (show nn=(nfR X ((go (bL g) i i).take (t+1))).length by
        rw[HTJ.out.2.1,el,aT,tb];have h1:=HTJ.out.2.2.2;have h2:=HNL.out;have h3:=HVJ.out;omega)
       have HKY:=aR hkey;have hnb:nn<=20000:=om;clear IN I hkey fl fx hnn' hval hvs;go_wp2;go_roundw
       case rel=>exact⟨t+1,om,by go_num,cn,kn,nn,Me,rfl,HLN.out,hnb,HIN.out,HKY.out⟩
       case measure=>exact yI
  . have et:t=n:=om;subst et;have hz1:¬(t:Int)<t:=om;have full:(go (bL g) i i).take t=go (bL g) i i:=dV (by rw[HN.out];exact aC _);rw[full] at I;have hNl:(nfR X (go (bL g) i i)).length=nn:=(by rw[HNL.out,full]);have hoff:nn=ga g i i:=(by rw[<-hNl];exact eG i (fun x hx h=>(HK.out x hx h).2.1));have hwN:=HNN.out;have vlo:=fun (b:Nat) (h:vm.ownBlock=some b)=>(GA.own.lt b h).2;have lI:=I.lt;have lZb:=I.Z.lt;obtain⟨r0,hr0⟩:∃r,O[0]?=some r:=⟨_,aK (by rw[HO.out];omega)⟩;have eao:=(MO 0 r0 hr0).1;subst eao;have MOw:=(MO.imp KR.ok (p':=fun q=>((P q/\q<w.heap.size)∨(w.heap.size<=q/\q≠bb/\(Value.slice none 0 0).ownBlock≠some q))/\q≠cn) (fun q hq hp=>⟨.inl ⟨hp,hq⟩,om⟩)).bH KR.ok I.s;obtain⟨xn,GN⟩:=I.G;rw[hNl] at GN;have HNl:=aR hNl;have HOF:=aR hoff;have hnn1:nn+no=nN:=om;have HNN1:=aR hnn1;clear hNl hoff full hr0 hnn1 hwN;go_wp2_with (at_builtin;refine kv ?_);intro _;refine jg (m:=no) KR.ok GN HNl.out MOw HO.out rfl _ _ rfl rfl rfl (by have:=HNN1.out;omega) ?_;intro c' k' w3 AP;rw[HNN1.out];have IA:=I.app (m:=no) (L':=O) HO.out (by rw[HNl.out];exact AP);rw[aiO] at IA;have EL:(wQ g i X O).length=nN:=by
     unfold wQ;rw[<-aiO,aT,HNl.out,HO.out];exact HNN1.out
    have IA:StI w w3 P cc ob bb c' k' (.slice none 0 0) (wQ g i X O) [] Me (fun x=>(x:Int)∈go (bL g) i i) (rF g i):=IA;have okN:∀r,r<nN->ic m (uh (wQ g i X O) r):=fun r hr=>by
     have h1:(wQ g i X O)[r]?=some _:=aK (by rw[EL];exact hr);rw[my h1];have h2:=cO h1;generalize (wQ g i X O)[r]'_=x at h2⊢;rcases iX.1 h2 with h | h
     . obtain⟨j,hj,h⟩:=iK.1 h;have hj2:=mP.1 hj;have ok:=(HK.out j (dU.1 hj2.1) (by simpa using hj2.2)).2.2;obtain⟨y,hy,h⟩:=iK.1 h;simp only[fW,jA,qO] at h;rcases h with rfl | rfl
       . exact ok _ hy
       . exact bN (ok _ hy)
     . exact HOK.out _ h
    obtain⟨xN,GM⟩:=IA.G;have MM:=GM.ml KR.ok;have MM':ML KR w3 (fun q=>((P q/\q<w.heap.size)∨(w.heap.size<=q/\q≠bb/\(Value.slice none 0 0).ownBlock≠some q))/\q≠c') (some ⟨c',0,none⟩) c' 0 ((List.range nN).map (uh (wQ g i X O))):=(by rw[<-EL,ef];exact MM);have HEL:=aR EL;have dr:=ue w3;have Id:=IA.bH dr;have zd:w3.drew.heap.size=w3.heap.size:=rfl;have Bd:=(L.bH Id.s).B;have JM:=@aiT bl g aL aH aN kL kH kN _ _ _ vm nN m (some ⟨c',0,none⟩) c' 0 k' (uh (wQ g i X O)) _ w3.drew Bd (MM'.bH KR.ok dr) okN hm hm1 om (by have:=HNN1.out;omega);have GAd:=(GA.imp KA.ok (P':=fun q=>q≠bl/\q≠bb/\Nq q) (fun q hq h=>⟨h.1,om,h.2.2⟩)).bH KA.ok Id.s;have lA:=IA.lt;have lZA:=IA.Z.lt;have zI3:=IA.s.size;have HJ:=aR JM;clear JM MM MM' GM xN EL GN MOw AP I okN;go_wp2_with fail;refine bQ 12 (fun w'=>w'.cell? ⟨bl,10,none⟩=some vm) kr Bd.ca (fun hHeld=> ?_);refine tX 0 58 ?_;refine tX 1 59 ?_;refine tX 2 60 ?_;refine tX 3 61 ?_;refine tX 4 62 ?_;refine tX 5 63 ?_;refine tX 6 64 ?_;refine uX 7 fun K hK=> ?_;go_simp;go_wp2_with (go_at_call 70;(with_reducible refine HJ.out.mono ?_);rintro e wm ⟨cw,kw,cb,kb,rfl,h1,h2,h3,h4,h5,h6,MW',MB',sm⟩);have Bm:=Bd.bH sm;have Gm:=GAd.bH KA.ok sm;have Im:=Id.bH sm;have zm:=sm.size;have sV:=cV wm (.o #[.int .i64 nN,.int .i64 m,.l (some ⟨cw,0,none⟩) (nN*m) kw,.l (some ⟨cb,0,none⟩) nN kb] 58);have zV:=sV.size;refine hK.out _ _ (fun _=>Bm.ca) ?_;clear hK K hHeld;refine uX 8 fun K hK=> ?_;go_simp;refine hK.out _ _ (fun _=>(Bm.bH sV).ca) ?_;clear hK K;refine uX 9 fun K hK=> ?_;have hpr:∀q,((((P q/\q<w.heap.size)∨(w.heap.size<=q/\q≠bb/\(Value.slice none 0 0).ownBlock≠some q))/\q≠c')∨w3.drew.heap.size<=q)->(q≠bl/\q≠bb/\Nq q)/\vm.ownBlock≠some q:=fun q h=>by
     rcases h with ⟨h | h,-⟩ | h
     . have:=HP.out q h.1;exact⟨⟨this.1,om,this.2.2⟩,this.2.1⟩
     . exact⟨⟨om,h.2.1,hNq q h.1⟩,fun e=>by have:=vlo _ e;omega⟩
     . exact⟨⟨om,om,hNq q om⟩,fun e=>by have:=vlo _ e;omega⟩
    refine cv (m:=1) (n:=A.length) KA.ok (Gm.bH KA.ok sV) rfl (ML.one (p:=fun q=>(q≠bl/\q≠bb/\Nq q)/\vm.ownBlock≠some q) KA.ok (c:=[.int .i64 nN,.int .i64 m,.l (some ⟨cw,0,none⟩) (nN*m) kw,.l (some ⟨cb,0,none⟩) nN kb]) (x:=zh (wQ g i X O) m) ⟨cw,kw,cb,kb,by unfold zh;simp only[bS,cT,HEL.out],by unfold zh;simp only[bS,cT,HEL.out];exact h1,by unfold zh;simp only[bS,cT,HEL.out];exact h2,hpr cw (.inr h3),hpr cb (.inr h4),h5,h6,by unfold zh;rw[HEL.out];exact MW'.imp KQ.ok (fun q _ hq=>hpr q hq),by unfold zh;rw[HEL.out];exact MB'.imp KQ.ok (fun q _ hq=>hpr q hq)⟩ 58) rfl (.inr qd) om om rfl _ _ rfl rfl rfl ?_;intro cm km wP A9;have gP:=Gr.own A9.2.1;have BP:=(Bm.bH sV).lV (gP.block _ (Bm.bH sV).lt hvb);refine hK.out _ _ (fun _=>BP.ca) ?_;clear hK K;refine uX 10 fun K hK=> ?_;go_simp;refine hK.out _ _ (fun _=>BP.ca) ?_;clear hK K;refine uX 11 fun K hK=> ?_;go_simp;refine hK.out _ _ (fun _=>BP.ca) ?_;clear hK K;refine uX 12 fun K hK=> ?_;have m72:=BP.ca;have f72:=BP.f 10;go_simp;refine hK.out _ _ (fun h=>absurd rfl h) ?_;clear hK K m72 f72;refine wG kr ?_ _;obtain⟨⟨xp,GP⟩,grP,hatP,hltP⟩:=A9;have IV:=Im.bH sV;have zP:=gP.size;have lZV:=IV.Z.lt;have hcm:cm≠bb/\cm≠bl/\(vm.ownBlock=some cm∨w.heap.size<=cm)/\∀q,w.heap.size<=q->q<(wm.alloc (.o #[.int .i64 nN,.int .i64 m,.l (some ⟨cw,0,none⟩) (nN*m) kw,.l (some ⟨cb,0,none⟩) nN kb] 58)).heap.size->q≠cm:=by
     rcases hatP with h | h
     . have:=vlo _ h;exact⟨om,fun e=>hvb (by rw[h,e]),.inl h,fun q _ _=>by omega⟩
     . exact⟨om,om,.inr om,fun q _ _=>by omega⟩
    have gB:Gr (fun q=>q=bl) wP (((wP.setCell ⟨bl,10,none⟩ (.l (some ⟨cm,0,none⟩) (A.length+1) km)).setCell ⟨bl,8,none⟩ (.int .i64 (nN:Int))).setCell ⟨bl,9,none⟩ (.map (some bb))):=((Gr.put (T:=fun q=>q=bl) (Gr.refl _ _) (.inl rfl) 10 (.l (some ⟨cm,0,none⟩) (A.length+1) km)).put (.inl rfl) 8 (.int .i64 nN)).put (.inl rfl) 9 (.map (some bb));have BS:=BP.seta (.l (some ⟨cm,0,none⟩) (A.length+1) km);have BS8:=BS.set8 (nN:Int);have BF:=aR (BS8.set9 (.map (some bb)));have ZF:=aR ((IV.Z.lV (gP.block _ IV.Z.lt (fun e=>by have:=vlo _ e;omega))).lV (gB.block bb om om));have GF:=aR (GP.gr KA.ok gB (fun b h=>by simp[Value.ownBlock] at h;have:=hcm.2.1;omega) (fun q _ h=>h.1));have KF:=aR (show Kn _ (fun q=>w.heap.size<=q/\q≠bb/\q≠cm) Me (fun j=>j<i/\i<bL g j) (rF g i) from (((IV.kk.wide (P':=fun q=>w.heap.size<=q/\q≠bb/\q≠cm) (fun q hq h=>⟨h.1.1,h.1.2.1,hcm.2.2.2 q h.1.1 hq⟩)).gr gP (fun q h e=>by have:=vlo _ e;omega)).gr gB (fun q h e=>by omega)).imp (fun x hx=>agQ hx.1 hx.2) (fun _ _=>rfl));have RF:=aR (((Gr.of (T:=fun q=>q=bl∨vm.ownBlock=some q) IV.s).trans gP (fun q _ h=>.inr h)).trans gB (fun q _ h=>.inl h));have HCM:=aR hcm;have k8:=BS.c8;have kf:=BS.f;have k9:=BS8.c9;have kf8:=BS8.f;clear gP gB GP grP hatP hcm IV Im Id IA Bm Bd BP Gm GAd MW' MB' hpr;go_wp2;go_end0;exact⟨rfl,bb,cm,km,Me,xp,om,BF.out,ZF.out,KF.out,GF.out,RF.out,HCM.out.2.2.1,HCM.out.1,HCM.out.2.1⟩
theorem cU{bl:Nat}(E:iy G){wd:Int}(H:b=o+1)(L:Low v bl G n a A B m c d k i j l wd u U)(t:Eld w v G n a A B m c d k bl j)(I:o<G.nn):
 Cl 61 #[.p bl 0,.i (b:Int)] v fun e Y=>∃g h x p,e=.returned (.agg #[.i (G.N o).op,.i (G.N o).a,.i (G.N o).b,.i (G.N o).k,.i (G.N o).s,.slice g (G.N o).nv p])/\(G.N o).nv<=p/\dQ w (fun q=>q<w.heap.size) g h x (G.N o).nv (G.N o).w/\v.S Y:=by
 have Q:=E.head.n;obtain⟨O,oN,-,y⟩:=t.G.LN;obtain⟨F,g,p,r⟩:=y o I;obtain⟨h,x,-,z⟩:=r.L.LV;have C:=aR ((z.qs (E.nd I).sh.f.ok).imp (p':=fun q=>q<w.heap.size) (fun q N _=>N));have M:=aR r.L.nc;have f:=r.bH t.s;subst F;have s:=cV v (.o #[.i (G.N o).op,.i (G.N o).a,.i (G.N o).b,.i (G.N o).k,.i (G.N o).s,.l g (G.N o).nv p] 87);have bx:=dL.new v (.i (G.N o).op) (.i (G.N o).a) (.i (G.N o).b) (.i (G.N o).k) (.i (G.N o).s) (.l g (G.N o).nv p) 87;have R:(o:Int)<(G.nn:Int):=om;have S:(b:Int)-1=(o:Int):=om;have P:=L.B.c4;obtain⟨V,W,X,aa,ab,m5⟩:=f.g;have K:=aR bx;have D:=aR s;have T:=L.B.lt;have Z:=f.lt;clear bx s;clear H L y f r z t;go_enter func61,ntmps61;go_wp2;refine bO (ol rfl underlying87 rfl kr _ _ v.heap.size _ _ _ _ _ _ rfl K.out) rfl ?_;exact⟨g,h,x,p,rfl,M.out,C.out,D.out⟩
theorem af6{bl:Nat}{g:be}(E:iy g){lo:Nat}{aL aH aN:Option Addr}{kL kH kN bd kd bu ku:Nat}{wd:Int}{vm:Value}{bm k i m ja na KD:Nat}(hi:i=k+1)(hja:(g.N k).a=ja)(hK:(g.N k).k=KD){P K:Nat->Prop}(X:Nat->List Row){M:List (Int×Value)}{w0 w:World}(L:Low w bl g lo aL aH aN kL kH kN bd kd bu ku wd (.map (some bm)) vm)(e0:Eld w0 w g lo aL aH aN kL kH kN bd bl bu)(Z:jm w bm M)(hk:k<g.nn)
 (KN:Kn w P M K X)(hP:∀q,w.heap.size<=q->P q)(hP0:∀q,q<w0.heap.size->P q)(hPm:¬P bm)(ka:K ja)(hm:m<=999999)(hln:(X ja).length=na)(hna:na<=1000)(hKD:KD<=1000)(hnv:(g.N k).nv=KD*(na+1))
 (HM:∀e,e<KD->b4 m na ((g.N k).w (e*(na+1)+na)) (fun t=>(g.N k).w (e*(na+1)+t)) (uh (X ja))):
 Cl 109 #[.p bl 0,.i (i:Int)] w (de w bm i P K X M fun R=>R.length=KD/\MxL m na (fun e=>(g.N k).w (e*(na+1)+na)) (fun e t=>(g.N k).w (e*(na+1)+t)) (fun _=>uh (X ja)) R):=by
 have hnn:=E.head.n;have JD:=cU E hi L e0 hk;rw[hja,hK] at JD;obtain⟨aa,ba,oa,na',ca,va,laq,lca,MA,pA⟩:=KN.at_ ja ka;have hna':na'=na:=om;subst hna';have MA':ML KR w P aa ba oa ((List.range na').map (uh (X ja))):=by rw[<-laq,ef];exact MA
 have HQ:=aR HM;have HNV:=aR hnv;have hnb:(g.N k).nv<=1000*1001:=by rw[hnv];exact dF hKD om
 have E0:=aR e0.s;have P0:=aR hP0;clear HM laq hln hnv MA e0 hP0;have HE:=aR E;have HI:=aR hi;clear hi hja hK E;have lm:=Z.lt;generalize hnvG:(g.N k).nv=nv at*;generalize hwG:(g.N k).w=W at*;clear hnvG hwG;go_enter func109,ntmps109;go_wp2_with fail;refine JD.mono ?_;rintro e w3 ⟨a3,b3,o3,k3,rfl,hk3,QV,s3⟩;clear JD;obtain⟨w5,e5⟩:∃x,x=w3.alloc (.o #[.i (g.N k).op,.i (ja:Int),.i (g.N k).b,.i (KD:Int),.i (g.N k).s,.l a3 nv k3] 87):=⟨_,rfl⟩;have s5:w3.S w5:=by rw[e5];exact (aF w3.heap.size w3).alloc zR _
 have B5:dL w5 w3.heap.size (.i (g.N k).op) (.i (ja:Int)) (.i (g.N k).b) (.i (KD:Int)) (.i (g.N k).s) (.l a3 nv k3):=by rw[e5];exact dL.new _ _ _ _ _ _ _ _
 have E5:=aR e5;clear e5;go_wp2_with fail;rw[<-E5.out];have S5:=s3.tr s5;have L5:=L.bH S5;have Z5:=Z.bH S5;have c9:=L5.B.c9;have p1:=B5.c1;have lk:∀(wq:World) (j:Nat) (v:Value),jm wq bm M->ql (j:Int) M=some v->(Instr.lookup 107 (.map (some bm)) (.i (j:Int)) false).run Tryz.prog wq=.ok v wq:=fun wq j v hZ hv=>by have:=hZ.look (P:=Tryz.prog) (mty:=107) (kt:=3) (et:=118) (zv:=.n) underlying107 underlying3 kr false (z:=(j:Int));unfold ql at hv;rw[hv] at this;exact this
 have dr:∀wq:World,wq.S wq.drew:=fun wq=>(aF wq.heap.size wq).drew;have k1:=lk w5.drew ja _ (Z5.bH (dr _)) va;have sN:=cV w5 (.o #[] 163);have k2:=lk (w5.alloc (.o #[] 163)).drew ja _ ((Z5.bH sN).bH (dr _)) va;have GN:=GL.new KR P w5;have c9b:=(L5.bH sN).B.c9;have p1b:=(B5.bH sN).c1;have p3b:=(B5.bH sN).c3;clear lk;go_region;all_goals go_wp2_with fail
 all_goals (
  obtain⟨w6,e6⟩:∃x,x=(w5.alloc (.o #[] 163)).drew:=⟨_,rfl⟩;rw[<-e6];have s6:w5.S w6:=by rw[e6];exact sN.tr (dr _)
  have G6:GL KR P w6 w5.heap.size (.s w5.heap.size 0 0) [] []:=by rw[e6];exact GN.bH KR.ok (dr _)
  clear e6 k1 k2 c9 p1 c9b p1b p3b GN sN;have S6:=S5.tr s6;have B6:=B5.bH s6;have z5:=S5.size;have z6:=s6.size;have lB:=B5.lt;have z3:=s3.size;go_loopw [6,22] (fun u q wr=>∃t:Nat,t<=KD/\q=.i (t:Int)/\w6.Since w5.heap.size wr/\∃cy ky xs R,u=.s cy t ky/\R.length=t/\GL KR P wr w5.heap.size (.s cy t ky) R xs/\MxL m na' (fun e=>W (e*(na'+1)+na')) (fun e t=>W (e*(na'+1)+t)) (fun _=>uh (X ja)) R) (fun _ q _=>KD-(intOf q).toNat)
  case atStart=>exact⟨0,aJ _,rfl,sM yD s6.size,w5.heap.size,0,[],[],rfl,rfl,G6,MxL.nil _ _ _ _ _⟩
  case round=>
   obtain⟨t,ht,rfl,sr,cy,ky,xs,R,rfl,hR,GR,AR⟩:=hrel;have lty:=GR.lt;have Sr:=S6.trans (sM sr z5);have HR:=aR hR;clear hR;by_cases htl:t<KD
   . obtain⟨F,hF⟩:∃F,F=t*(na'+1):=⟨_,rfl⟩;have hFl:F+(na'+1)<=nv:=(by rw[HNV.out,hF,<-Nat.succ_mul];exact aP _ htl);have eF:(t:Int)*((na':Int)+1)=(F:Int):=(by rw[hF,dR];rfl);have hq:=HQ.out t htl;rw[<-hF] at hq;have HF:=aR hF;clear hF;have E9:w0.S wr:=E0.out.trans (sM Sr E0.out.size);obtain⟨ea3,xb,yb,CB⟩:=QV (F+na') om;subst ea3;obtain⟨a8,n8,c8,b8,m8,d8,-,-,-,-,-,-,ea,-⟩:=CB.R;simp only[ag3,fM] at ea;obtain⟨rfl,rfl⟩:=ea;have Br:=B6.lV (w':=wr) (sr.block _ om);have p5:=Br.c5;have f1:(F:Int)<=nv:=om;have f2:(F:Int)<=k3:=om;have f3:(nv:Int)<=k3:=om;have f4:¬(k3:Int)-(F:Int)=0:=om;have eo:o3+(F+na')*3=o3+F*3+na'*3:=om;have sd:=dr wr;have E9d:=E9.tr sd;have Cr:=CB.bH E9d;have l3:=CB.lt;have zE:=E0.out.size;have g0:=Cr.c0;have g1:=Cr.c1;have g2:=Cr.c2;rw[eo] at g0 g1 g2;have f5:(na':Int)<((nv-F:Nat):Int):=om;have f6:(na':Int)<=((k3-F:Nat):Int):=om;have hz1:(t:Int)<KD:=om;have Srd:=Sr.tr sd;have zr:=sr.size;have JS:=@cC m na' na' (W (F+na')) (.l a8 n8 c8) (.l b8 m8 d8) (jp b3 (o3+F*3)) b3 (o3+F*3) (k3-F) aa ba oa ca (fun t=>W (F+t)) (uh (X ja)) (fun q=>q<w0.heap.size) wr.drew (CB.R.bH E9d) (((QV.part om).imp (fun _ _ _=>trivial)).bH E9d) ((MA'.imp KR.ok (fun _ _ _=>trivial)).bH KR.ok Srd) zR om hm hq.ok (fun t ht=>by have:=(hq.ok t ht).len;omega) hq.qS hq.qW hq.qX;have Gd:=GR.bH KR.ok sd;have zd:wr.drew.heap.size=wr.heap.size:=rfl;clear hq QV CB;go_wp2_with fail
     go_region_held3 (fun w'=>w'.cell? (jj b3 (o3+F*3+na'*3))=some (.bool (qn (W (F+na'))))/\w'.cell? (jj b3 (o3+F*3+na'*3+1))=some (.l a8 n8 c8)/\w'.cell? (jj b3 (o3+F*3+na'*3+2))=some (.l b8 m8 d8)) (go_keep)
      (first
        | (go_at_call 147;(with_reducible refine JS.mono ?_);rintro e w7 ⟨c7,k7,x7,r,rfl,G7,ok7,v7,q7,s7⟩;have l7:=G7.lt;have z7:=s7.size;have cap7:=G7.cap;have M7:=G7.ml KT.ok;have C7:=Cr.bH s7;have i0:=C7.c0;have i1:=C7.c1;have i2:=C7.c2;rw[eo] at i0 i1 i2;have Gd7:=Gd.bH KR.ok s7;have sX:=cV w7 (.o #[.s c7 r.length k7] 163);have z8:=sX.size)
        | (refine mr (m:=1) KR.ok (Gd7.bH KR.ok sX) HR.out (ML.one (p:=fun q=>P q/\q≠cy) KR.ok (c:=[.s c7 r.length k7]) (x:=r) ⟨_,c7,0,k7,rfl,cap7,fun _=>⟨hP c7 om,om⟩,M7.imp KT.ok (fun q _ hq=>by rcases hq.1 with h | h;exact⟨P0.out q h,om⟩;exact⟨hP q om,om⟩)⟩ 163) rfl rfl _ _ rfl rfl rfl om ?_
           rintro c' k' w' ⟨⟨xs',G'⟩,gr,hat,hlt'⟩;have hne:b3≠cy:=om;have y0:=cK gr i0 hne;have y1:=cK gr i1 hne;have y2:=cK gr i2 hne))
     have HT:=aR (show MxL m na' (fun e=>W (e*(na'+1)+na')) (fun e t=>W (e*(na'+1)+t)) (fun _=>uh (X ja)) (R++[r]) from AR.snoc HR.out ok7 (fun h=>by rw[<-HF.out];exact v7 h) (fun z h1 h2=>by rw[<-HF.out];exact q7 z h1 h2));have HSn:=aR (eI (((sr.trans (sM sd om)).trans (sM s7 om)).trans (sM sX om)) gr om om);clear AR ok7 v7 q7 G7 M7;all_goals go_wp2
     all_goals go_roundw
     case rel=>exact⟨t+1,om,by go_num,HSn.out,c',k',xs',R++[r],rfl,by rw[aT,HR.out];rfl,G',HT.out⟩
     case measure=>exact yI
   . have et:t=KD:=om;subst et;have hz1:¬(t:Int)<t:=om;have Zr:=Z.bH Sr;obtain⟨wp,hrun,Zp,gp⟩:=Zr.put (P:=Tryz.prog) (mty:=107) (kt:=3) (et:=118) (z:=(i:Int)) underlying107 underlying3 (bf (by have:=HI.out;omega)) (.s cy t ky);have c9r:=(L.bH Sr).B.c9;have Kr:=KN.gr (T:=fun q=>q=bm) (Gr.of Sr) (fun q hq e=>hPm (e▸hq));have Mr:=(GR.ml KR.ok).imp KR.ok (p':=P) (fun q _ hq=>hq.1);have Kp:=Kr.put i HR.out GR.cap Mr (fun _=>hP cy om);have Kq:=Kp.gr (Gr.gb gp) (fun q hq e=>hPm (e▸hq));have FIN:=aR (And.intro Zp (And.intro Kq ((Gr.of (T:=fun q=>q=bm) Sr).trans (Gr.gb gp) (fun q _ h=>h))));clear Zp Kq gp Kp Kr Mr;go_wp2;go_end0;exact⟨cy,t,ky,R,rfl,HR.out,⟨HR.out,AR⟩,FIN.out.1,FIN.out.2.1,FIN.out.2.2⟩)
theorem ahl{bl:Nat}{g:be}(E:iy g){lo:Nat}{aL aH aN:Option Addr}{kL kH kN bd kd bu ku:Nat}{wd:Int}{vm:Value}{bm k i m ja na DI KC SC:Nat}(hi:i=k+1)(hja:(g.N k).a=ja)(hK:(g.N k).k=KC)(hSC:(g.N k).s=SC)(hDI:vD g i=DI){P K:Nat->Prop}(X:Nat->List Row){M:List (Int×Value)}{w0 w:World}(L:Low w bl g lo aL aH aN kL kH kN bd kd bu ku wd (.map (some bm)) vm)(e0:Eld w0 w g lo aL aH aN kL kH kN bd bl bu)(Z:jm w bm M)(hk:k<g.nn)
 (KN:Kn w P M K X)(hP:∀q,w.heap.size<=q->P q)(hP0:∀q,q<w0.heap.size->P q)(hPm:¬P bm)(ka:K ja)(hm:m<=999999)(hln:(X ja).length=na)(hna:na<=1000)(hnv:(g.N k).nv=KC+1)(hsh:∀e,e<DI->e*SC+KC<=na)(hK1:1<=KC)
 (HM:∀e,e<DI->b4 m KC ((g.N k).w KC) (g.N k).w (fun t=>uh (X ja) (e*SC+t))):
 Cl 114 #[.p bl 0,.i (i:Int)] w (de w bm i P K X M fun R=>R.length=DI/\MxL m KC (fun _=>(g.N k).w KC) (fun _=>(g.N k).w) (fun e t=>uh (X ja) (e*SC+t)) R):=by
 have hnn:=E.head.n;have JD:=cU E hi L e0 hk;rw[hja,hK,hSC] at JD;obtain⟨aa,ba,oa,na',ca,va,laq,lca,MA,pA⟩:=KN.at_ ja ka;have hna':na'=na:=om;subst hna';have HQ:=aR HM;have HNV:=aR hnv;have HSH:=aR hsh;have HLA:=aR laq;have HD:=aR hDI;have hDI1:DI<=1000:=by rw[<-hDI];exact (E.i9 (j:=i) om).2
 have cD:=L.d (j:=i) om;rw[hDI] at cD;have E0:=aR e0.s;have P0:=aR hP0;clear HM laq hln hnv e0 hP0 hsh hDI;have HE:=aR E;have HI:=aR hi;clear hi hja hK hSC E;have lm:=Z.lt;generalize hnvG:(g.N k).nv=nv at*;generalize hwG:(g.N k).w=W at*;clear hnvG hwG;go_enter func114,ntmps114;go_wp2_with fail;refine JD.mono ?_;rintro e w3 ⟨a3,b3,o3,k3,rfl,hk3,QV,s3⟩;clear JD;obtain⟨w5,e5⟩:∃x,x=w3.alloc (.o #[.i (g.N k).op,.i (ja:Int),.i (g.N k).b,.i (KC:Int),.i (SC:Int),.l a3 nv k3] 87):=⟨_,rfl⟩;have s5:w3.S w5:=by rw[e5];exact (aF w3.heap.size w3).alloc zR _
 have B5:dL w5 w3.heap.size (.i (g.N k).op) (.i (ja:Int)) (.i (g.N k).b) (.i (KC:Int)) (.i (SC:Int)) (.l a3 nv k3):=by rw[e5];exact dL.new _ _ _ _ _ _ _ _
 have E5:=aR e5;clear e5;go_wp2_with fail;rw[<-E5.out];have S5:=s3.tr s5;have L5:=L.bH S5;have Z5:=Z.bH S5;have c9:=L5.B.c9;have p1:=B5.c1;have lk:∀(wq:World) (j:Nat) (v:Value),jm wq bm M->ql (j:Int) M=some v->(Instr.lookup 107 (.map (some bm)) (.i (j:Int)) false).run Tryz.prog wq=.ok v wq:=fun wq j v hZ hv=>by have:=hZ.look (P:=Tryz.prog) (mty:=107) (kt:=3) (et:=118) (zv:=.n) underlying107 underlying3 kr false (z:=(j:Int));unfold ql at hv;rw[hv] at this;exact this
 have dr:∀wq:World,wq.S wq.drew:=fun wq=>(aF wq.heap.size wq).drew;have k1:=lk w5.drew ja _ (Z5.bH (dr _)) va;have sN:=cV w5 (.o #[] 163);have k2:=lk (w5.alloc (.o #[] 163)).drew ja _ ((Z5.bH sN).bH (dr _)) va;have GN:=GL.new KR P w5;have c9b:=(L5.bH sN).B.c9;have p1b:=(B5.bH sN).c1;have c6b:=(L5.bH sN).B.c6;have d6b:=(L5.bH sN).d (j:=i) (by have:=HI.out;omega);rw[HD.out] at d6b;have hzi:(i:Int)<(g.nn:Int)+1:=by have:=HI.out;omega
 have hzi2:(i:Int)<((g.nn+1:Nat):Int):=by have:=HI.out;omega
 clear lk;go_region;all_goals go_wp2_with fail
 all_goals (
  obtain⟨w6,e6⟩:∃x,x=(w5.alloc (.o #[] 163)).drew:=⟨_,rfl⟩;rw[<-e6];have s6:w5.S w6:=by rw[e6];exact sN.tr (dr _)
  have G6:GL KR P w6 w5.heap.size (.s w5.heap.size 0 0) [] []:=by rw[e6];exact GN.bH KR.ok (dr _)
  clear e6 k1 k2 c9 p1 c9b p1b c6b d6b GN sN;have S6:=S5.tr s6;have B6:=B5.bH s6;have z5:=S5.size;have z6:=s6.size;have lB:=B5.lt;have z3:=s3.size;go_loopw [6,26] (fun u q wr=>∃t:Nat,t<=DI/\q=.i (t:Int)/\w6.Since w5.heap.size wr/\∃cy ky xs R,u=.s cy t ky/\R.length=t/\GL KR P wr w5.heap.size (.s cy t ky) R xs/\MxL m KC (fun _=>W KC) (fun _=>W) (fun e t=>uh (X ja) (e*SC+t)) R) (fun _ q _=>DI-(intOf q).toNat)
  case atStart=>exact⟨0,aJ _,rfl,sM yD s6.size,w5.heap.size,0,[],[],rfl,rfl,G6,MxL.nil _ _ _ _ _⟩
  case round=>
   obtain⟨t,ht,rfl,sr,cy,ky,xs,R,rfl,hR,GR,AR⟩:=hrel;have lty:=GR.lt;have Sr:=S6.trans (sM sr z5);have HR:=aR hR;clear hR;by_cases htl:t<DI
   . obtain⟨F,hF⟩:∃F,F=t*SC:=⟨_,rfl⟩;have hFl:F+KC<=na':=(by rw[hF];exact HSH.out t htl);have eF:(t:Int)*(SC:Int)=F:=(by rw[hF,dR]);have hq:=HQ.out t htl;rw[<-hF] at hq;have HF:=aR hF;clear hF;have hnvE:=HNV.out;have E9:w0.S wr:=E0.out.trans (sM Sr E0.out.size);obtain⟨ea3,xb,yb,CB⟩:=QV KC om;subst ea3;obtain⟨a8,n8,c8,b8,m8,d8,-,-,-,-,-,-,ea,-⟩:=CB.R;simp only[ag3,fM] at ea;obtain⟨rfl,rfl⟩:=ea;obtain⟨rA,hrA⟩:∃r,(X ja)[0]?=some r:=⟨_,aK (by rw[HLA.out];omega)⟩;have eA:=(MA 0 rA hrA).1;subst eA;clear hrA;have MD:=(MA.drop F rfl);rw[<-akO,HLA.out] at MD;have Br:=B6.lV (w':=wr.drew) (sr.block _ om);have p3:=Br.c3;have p4:=Br.c4;have p5:=Br.c5;have f1:(KC:Int)<nv:=om;have f2:(KC:Int)<=k3:=om;have f3:(F:Int)<=na':=om;have f4:(F:Int)<=ca:=om;have f5:(na':Int)<=ca:=om;have f6:¬(ca:Int)-(F:Int)=0:=om;have f7:¬ca-F=0:=om;have fb:¬ca=F:=om;have f8:¬(k3:Int)=0:=om;have f9:¬k3=0:=om;have qF:IntKind.i64.wrap ((t:Int)*(SC:Int))=(F:Int):=(by rw[eF];exact fO om om);have sd:=dr wr;have E9d:=E9.tr sd;have Cr:=CB.bH E9d;have l3:=CB.lt;have zE:=E0.out.size;have g0:=Cr.c0;have g1:=Cr.c1;have g2:=Cr.c2;have hz1:(t:Int)<DI:=om;have Srd:=Sr.tr sd;have zr:=sr.size;have QK:dQ w0 (fun q=>q<w0.heap.size) (jp b3 o3) b3 o3 KC W:=fun x hx=>QV x om;have JS:=@cC m KC (na'-F) (W KC) (.l a8 n8 c8) (.l b8 m8 d8) (jp b3 o3) b3 o3 k3 (jp ba (oa+F)) ba (oa+F) (ca-F) W (fun t=>uh (X ja) (F+t)) (fun q=>q<w0.heap.size) wr.drew (CB.R.bH E9d) ((QK.imp (fun _ _ _=>trivial)).bH E9d) ((((show oa+F*KR.sz=oa+F from by show oa+F*1=_;omega)▸MD).imp KR.ok (fun _ _ _=>trivial)).bH KR.ok Srd) om om hm hq.ok (fun t ht=>by have:=(hq.ok t ht).len;omega) hq.qS hq.qW hq.qX;have Gd:=GR.bH KR.ok sd;have zd:wr.drew.heap.size=wr.heap.size:=rfl;clear hq QV CB MD hnvE eF;go_wp2_with fail
     go_region_held3 (fun w'=>w'.cell? (jj b3 (o3+KC*3))=some (.bool (qn (W KC)))/\w'.cell? (jj b3 (o3+KC*3+1))=some (.l a8 n8 c8)/\w'.cell? (jj b3 (o3+KC*3+2))=some (.l b8 m8 d8)/\w'.cell? (jj w3.heap.size 3)=some (.i (KC:Int))/\w'.cell? (jj w3.heap.size 4)=some (.i (SC:Int))/\w'.cell? (jj w3.heap.size 5)=some (.l (jp b3 o3) nv k3)) (go_keep)
      (first
        | (go_at_call 147;(with_reducible refine JS.mono ?_);rintro e w7 ⟨c7,k7,x7,r,rfl,G7,ok7,v7,q7,s7⟩;have l7:=G7.lt;have z7:=s7.size;have cap7:=G7.cap;have M7:=G7.ml KT.ok;have C7:=Cr.bH s7;have i0:=C7.c0;have i1:=C7.c1;have i2:=C7.c2;have B7:=Br.bH s7;have i3:=B7.c3;have i4:=B7.c4;have i5:=B7.c5;have Gd7:=Gd.bH KR.ok s7;have sX:=cV w7 (.o #[.s c7 r.length k7] 163);have z8:=sX.size)
        | (refine mr (m:=1) KR.ok (Gd7.bH KR.ok sX) HR.out (ML.one (p:=fun q=>P q/\q≠cy) KR.ok (c:=[.s c7 r.length k7]) (x:=r) ⟨_,c7,0,k7,rfl,cap7,fun _=>⟨hP c7 om,om⟩,M7.imp KT.ok (fun q _ hq=>by rcases hq.1 with h | h;exact⟨P0.out q h,om⟩;exact⟨hP q om,om⟩)⟩ 163) rfl rfl _ _ rfl rfl rfl om ?_
           rintro c' k' w' ⟨⟨xs',G'⟩,gr,hat,hlt'⟩;have hne:b3≠cy:=om;have y0:=cK gr i0 hne;have y1:=cK gr i1 hne;have y2:=cK gr i2 hne;have hn3:w3.heap.size≠cy:=om;have y3:=cK gr i3 hn3;have y4:=cK gr i4 hn3;have y5:=cK gr i5 hn3))
     have HT:=aR (show MxL m KC (fun _=>W KC) (fun _=>W) (fun e t=>uh (X ja) (e*SC+t)) (R++[r]) from AR.snoc HR.out ok7 (fun h=>by rw[<-HF.out];exact v7 h) (fun z h1 h2=>by rw[<-HF.out];exact q7 z h1 h2));have HSn:=aR (eI (((sr.trans (sM sd om)).trans (sM s7 om)).trans (sM sX om)) gr om om);clear AR ok7 v7 q7 G7 M7;all_goals go_wp2
     all_goals go_roundw
     case rel=>exact⟨t+1,om,by go_num,HSn.out,c',k',xs',R++[r],rfl,by rw[aT,HR.out];rfl,G',HT.out⟩
     case measure=>exact yI
   . have et:t=DI:=om;subst et;have hz1:¬(t:Int)<t:=om;have Zr:=Z.bH Sr;obtain⟨wp,hrun,Zp,gp⟩:=Zr.put (P:=Tryz.prog) (mty:=107) (kt:=3) (et:=118) (z:=(i:Int)) underlying107 underlying3 (bf (by have:=HI.out;omega)) (.s cy t ky);have c9r:=(L.bH Sr).B.c9;have Kr:=KN.gr (T:=fun q=>q=bm) (Gr.of Sr) (fun q hq e=>hPm (e▸hq));have Mr:=(GR.ml KR.ok).imp KR.ok (p':=P) (fun q _ hq=>hq.1);have Kp:=Kr.put i HR.out GR.cap Mr (fun _=>hP cy om);have Kq:=Kp.gr (Gr.gb gp) (fun q hq e=>hPm (e▸hq));have FIN:=aR (And.intro Zp (And.intro Kq ((Gr.of (T:=fun q=>q=bm) Sr).trans (Gr.gb gp) (fun q _ h=>h))));clear Zp Kq gp Kp Kr Mr;go_wp2;go_end0;exact⟨cy,t,ky,R,rfl,HR.out,⟨HR.out,AR⟩,FIN.out.1,FIN.out.2.1,FIN.out.2.2⟩)
structure ao(w:World)(b:Nat)(f:Rat)(x y:Value)(w':World):Prop where
 s:w.Since w.heap.size w'
 l:w.heap.size<=b
 B:cR w' b (.bool (qn f)) x y
 R:fJ w' (fun q=>w.heap.size<=q) (.agg #[.bool (qn f),x,y]) f
theorem ao.of{a e z:Value}(s:w.S v)(hb:w.heap.size<=b)(B:cR v b a e z)(R:fJ v (fun q=>w.heap.size<=q/\q≠b) (.agg #[.bool (qn Q),u,U]) Q):ao w b Q u U (((v.setCell ⟨b,0,none⟩ (.bool (qn Q))).setCell ⟨b,1,none⟩ u).setCell ⟨b,2,none⟩ U):=by
 have g:=((Gr.put (T:=fun q=>q=b) (Gr.refl _ v) (.inl rfl) 0 (.bool (qn Q))).put (.inl rfl) 1 u).put (.inl rfl) 2 U;exact⟨Gr.since s g (fun q h=>by omega) s.size,hb,((B.gH _).gM _).gZ _,(R.blocks (fun q d c=>g.block q d c.2)).imp (fun q _ h=>h.1)⟩
theorem ao.late{t:TypeId}(s:w.S v)(R:fJ v (fun q=>w.heap.size<=q) (.agg #[.bool (qn Q),u,U]) Q):ao w v.heap.size Q u U (v.alloc (.cells #[.bool (qn Q),u,U] t)):=by
 have b:=cV v (.o #[.bool (qn Q),u,U] t);exact⟨s.tr b,s.size,cR.new v _ _ _ t,R.bH b⟩
theorem ahk{bl:Nat}{g:be}(E:iy g){lo:Nat}{aL aH aN:Option Addr}{kL kH kN bd kd bu ku:Nat}{wd:Int}{vm:Value}{bm k i m ja na:Nat}(hi:i=k+1)(hja:(g.N k).a=ja){K:Nat->Prop}(X:Nat->List Row){M:List (Int×Value)}{w0 w:World}(L:Low w bl g lo aL aH aN kL kH kN bd kd bu ku wd (.map (some bm)) vm)(e0:Eld w0 w g lo aL aH aN kL kH kN bd bl bu)(Z:jm w bm M)(hk:k<g.nn)
 (KN:Kn w P M K X)(hP:∀q,w.heap.size<=q->P q)(hPm:¬P bm)(ka:K ja)(hm:m<=999999)(hln:(X ja).length=na)(hna:na<=1000)(hnv:(g.N k).nv=4)(hw2:((g.N k).w 2).num.natAbs≠0)(qw:∀x,x<4->Qb ((g.N k).w x) 1048640)(qf:Qb ((g.N k).w 0*((g.N k).w 2)⁻¹) 1048640)
 (HM:∀e,e<na->b4 m 1 ((g.N k).w 3-(g.N k).w 0*((g.N k).w 2)⁻¹ *(g.N k).w 1) (fun _=>(g.N k).w 0*((g.N k).w 2)⁻¹) (fun _=>uh (X ja) e)):
 Cl 115 #[.p bl 0,.i (i:Int)] w (de w bm i P K X M fun R=>R.length=na/\MxL m 1 (fun _=>(g.N k).w 3-(g.N k).w 0*((g.N k).w 2)⁻¹ *(g.N k).w 1) (fun _ _=>(g.N k).w 0*((g.N k).w 2)⁻¹) (fun e _=>uh (X ja) e) R):=by
 have hnn:=E.head.n;have JD:=cU E hi L e0 hk;rw[hja] at JD;obtain⟨aa,ba,oa,na',ca,va,laq,lca,MA,pA⟩:=KN.at_ ja ka;have hna':na'=na:=om;subst hna';have HQ:=aR HM;have HLA:=aR laq;have E0:=aR e0.s;have QF:=aR qf;have QW:=aR qw;have HW2:=aR hw2;clear HM laq hln e0 qf qw hw2;have HE:=aR E;have HI:=aR hi;clear hi hja E;have lm:=Z.lt;rw[hnv] at JD;clear hnv;generalize hwG:(g.N k).w=W at*;clear hwG;go_enter func115,ntmps115;go_wp2_with fail;refine JD.mono ?_;rintro e w3 ⟨a3,b3,o3,k3,rfl,hk3,QV,s3⟩;clear JD;obtain⟨ea3,x0,y0,C0⟩:=QV 0 om;subst ea3;obtain⟨-,x1,y1,C1⟩:=QV 1 om;obtain⟨-,x2,y2,C2⟩:=QV 2 om;obtain⟨-,x3,y3,C3⟩:=QV 3 om;obtain⟨p0a,p0n,p0c,p0b,p0m,p0d,-,-,-,-,-,-,ea,-⟩:=C0.R;simp only[ag3,fM] at ea;obtain⟨rfl,rfl⟩:=ea;obtain⟨p1a,p1n,p1c,p1b,p1m,p1d,-,-,-,-,-,-,ea,-⟩:=C1.R;simp only[ag3,fM] at ea;obtain⟨rfl,rfl⟩:=ea;obtain⟨p2a,p2n,p2c,p2b,p2m,p2d,-,-,-,-,-,-,ea,-⟩:=C2.R;simp only[ag3,fM] at ea;obtain⟨rfl,rfl⟩:=ea;obtain⟨p3a,p3n,p3c,p3b,p3m,p3d,-,-,-,-,-,-,ea,-⟩:=C3.R;simp only[ag3,fM] at ea;obtain⟨rfl,rfl⟩:=ea;obtain⟨w5,e5⟩:∃x,x=w3.alloc (.o #[.i (g.N k).op,.i (ja:Int),.i (g.N k).b,.i (g.N k).k,.i (g.N k).s,.l (jp b3 o3) 4 k3] 87):=⟨_,rfl⟩;have s5:w3.S w5:=by rw[e5];exact (aF w3.heap.size w3).alloc zR _
 have B5:dL w5 w3.heap.size (.i (g.N k).op) (.i (ja:Int)) (.i (g.N k).b) (.i (g.N k).k) (.i (g.N k).s) (.l (jp b3 o3) 4 k3):=by rw[e5];exact dL.new _ _ _ _ _ _ _ _
 have E5:=aR e5;clear e5;go_wp2_with fail;rw[<-E5.out];have S5:=s3.tr s5;have dr:∀wq:World,wq.S wq.drew:=fun wq=>(aF wq.heap.size wq).drew;have E5w:=E0.out.trans (sM S5 E0.out.size);have sZ:=cV w5 yJ;have bZ:=cR.new w5 (.bool false) (.n) (.n) 83;have zZ:(w5.alloc yJ).heap.size=w5.heap.size+1:=by simp
 have p5:=B5.c5;have D0:=C0.bH E5w;have D1:=C1.bH E5w;have D2:=C2.bH E5w;have D3:=C3.bH E5w;rw[show o3+0*3=o3 from rfl] at D0;rw[show o3+1*3=o3+3 from rfl] at D1;rw[show o3+2*3=o3+6 from rfl] at D2;rw[show o3+3*3=o3+9 from rfl] at D3;have g0:=D0.c0;have g1:=D0.c1;have g2:=D0.c2;have h0:=D2.c0;have h1:=D2.c1;have h2:=D2.c2;have J1:=aaK (w:=w5.drew) (aJ _) trivial (QW.out 0 om) (QW.out 2 om) om HW2.out (D0.R.bH (dr _)).read (D2.R.bH (dr _)).read;have J2:=aaK (w:=(w5.alloc yJ).drew) (aJ _) trivial (QW.out 0 om) (QW.out 2 om) om HW2.out ((D0.R.bH sZ).bH (dr _)).read ((D2.R.bH sZ).bH (dr _)).read;rw[Rat.div_def] at J1 J2;generalize hfG:W 0*(W 2)⁻¹ =f at*;have HFG:=aR hfG;clear hfG;have zd:w5.drew.heap.size=w5.heap.size:=rfl;have lB5:=B5.lt;have lC3:=C0.lt;have zE5:=E5w.size;have q1:w5.heap.size≠w3.heap.size:=om;have q2:w5.heap.size≠b3:=om;have zd2:(w5.alloc yJ).drew.heap.size=w5.heap.size+1:=zZ;refine pack (fun a a' w'=>∃bF fa fn fc fb fm fd,a'=((((((((((a.put (some 13) (.p w3.heap.size 5)).put (some 14) (.l (jp b3 o3) 4 k3)).put (some 15) (.p b3 o3)).put (some 16) (.agg #[.bool (qn (W 0)),.l p0a p0n p0c,.l p0b p0m p0d])).put (some 17) (.p w3.heap.size 5)).put (some 18) (.l (jp b3 o3) 4 k3)).put (some 19) (.p b3 (o3+6))).put (some 20) (.agg #[.bool (qn (W 2)),.l p2a p2n p2c,.l p2b p2m p2d])).put (some 21) (.agg #[.bool (qn (f)),.l fa fn fc,.l fb fm fd])).put (some 5) (.p bF 0))/\ao w5 bF f (.l fa fn fc) (.l fb fm fd) w') ?_ ?_
 . go_region_held3 (fun w'=>w'.cell? (jj w3.heap.size 5)=some (.l (jp b3 o3) 4 k3)/\w'.cell? (jj b3 o3)=some (.bool (qn (W 0)))/\w'.cell? (jj b3 (o3+1))=some (.l p0a p0n p0c)/\w'.cell? (jj b3 (o3+2))=some (.l p0b p0m p0d)/\w'.cell? (jj b3 (o3+6))=some (.bool (qn (W 2)))/\w'.cell? (jj b3 (o3+7))=some (.l p2a p2n p2c)/\w'.cell? (jj b3 (o3+8))=some (.l p2b p2m p2d)) (go_keep)
    (first
      | (go_at_call 153;(with_reducible refine J1.mono ?_);rintro e w6 ⟨u6,rfl,R6,s6⟩;have T6:=(dr w5).trans (sM s6 (dr w5).size);have z6:=T6.size;have r1:w6.heap.size≠w3.heap.size:=om;have r2:w6.heap.size≠b3:=om;have i5:=(B5.bH T6).c5;have D06:=D0.bH T6;have D26:=D2.bH T6;have j0:=D06.c0;have j1:=D06.c1;have j2:=D06.c2;have j3:=D26.c0;have j4:=D26.c1;have j5:=D26.c2;obtain⟨fa,fn,fc,fb,fm,fd,-,-,-,-,-,-,e6,-⟩:=id R6;subst e6;have FF:=aR (ao.late (t:=83) T6 R6))
      | (go_at_call 153;(with_reducible refine J2.mono ?_);rintro e w6 ⟨u6,rfl,R6,s6⟩;have T6:=(sZ.tr (dr _)).trans (sM s6 om);have z6:=T6.size;have r1:w6.heap.size≠w3.heap.size:=om;have r2:w6.heap.size≠b3:=om;have i5:=(B5.bH T6).c5;have D06:=D0.bH T6;have D26:=D2.bH T6;have j0:=D06.c0;have j1:=D06.c1;have j2:=D06.c2;have j3:=D26.c0;have j4:=D26.c1;have j5:=D26.c2;have bZ6:=(bZ.bH (dr _)).bH s6;obtain⟨x0,x1,x2⟩:=bZ6.g;have xf:=bZ6.f;obtain⟨fa,fn,fc,fb,fm,fd,-,-,-,-,-,-,e6,-⟩:=id R6;subst e6;have FF:=aR (ao.of T6 zR bZ6 (R6.imp (p':=fun q=>w5.heap.size<=q/\q≠w5.heap.size) (fun q _ h=>⟨om,om⟩)))))
   all_goals (refine⟨_,fa,fn,fc,fb,fm,fd, ?_,FF.out⟩;first | rfl | (simp only[ap,la,lz,ls]))
 rintro a' w7 ⟨bF,fa,fn,fc,fb,fm,fd,rfl,F7⟩;simp only[ap,la,lz,ls];have B7:=B5.bH F7.s;have s7:=F7.s;have z7:=s7.size;have E7:=E5w.tr s7;have S7:=S5.tr s7;have D1:=C1.bH E7;have D3:=C3.bH E7;rw[show o3+1*3=o3+3 from rfl] at D1;rw[show o3+3*3=o3+9 from rfl] at D3;have lF:=F7.B.lt;have sZ:=cV w7 yJ;have bZ:=cR.new w7 (.bool false) (.n) (.n) 83;have zZ:(w7.alloc yJ).heap.size=w7.heap.size+1:=by simp
 have TD:=dr w7;have TZ:=sZ.tr (dr _);have nB:=B7.bH yD;have n1:=D1.bH yD;have n3:=D3.bH yD;have nF:=F7.B.bH yD;have ni5:=nB.c5;have na:=n1.c0;have nb:=n1.c1;have nc:=n1.c2;have nd:=n3.c0;have ne:=n3.c1;have nf:=n3.c2;obtain⟨ng,nh,nj⟩:=nF.g;have J1:=xD (w:=w7.drew) (aJ _) trivial QF.out (QW.out 1 om) om (F7.R.bH TD).read (D1.R.bH TD).read;have J2:=xD (w:=(w7.alloc yJ).drew) (aJ _) trivial QF.out (QW.out 1 om) om (F7.R.bH TZ).read (D1.R.bH TZ).read;have zd3:w7.drew.heap.size=w7.heap.size:=rfl;have zd4:=zZ;have t1:w7.heap.size≠w3.heap.size:=om;have t2:w7.heap.size≠b3:=om;have t3:w7.heap.size≠bF:=om;generalize hbG:W 3-f*W 1=b at*;have HBG:=aR hbG;clear hbG;go_wp2_with fail;refine pack (fun a a' w'=>∃bD ha hn hc hb hm' hd da dn dc db dm dd,a'=((((((((((((a.put (some 22) (.p w3.heap.size 5)).put (some 23) (.l (jp b3 o3) 4 k3)).put (some 24) (.p b3 (o3+9))).put (some 25) (.agg #[.bool (qn (W 3)),.l p3a p3n p3c,.l p3b p3m p3d])).put (some 26) (.agg #[.bool (qn (f)),.l fa fn fc,.l fb fm fd])).put (some 27) (.p w3.heap.size 5)).put (some 28) (.l (jp b3 o3) 4 k3)).put (some 29) (.p b3 (o3+3))).put (some 30) (.agg #[.bool (qn (W 1)),.l p1a p1n p1c,.l p1b p1m p1d])).put (some 31) (.agg #[.bool (qn (f*W 1)),.l ha hn hc,.l hb hm' hd])).put (some 32) (.agg #[.bool (qn (b)),.l da dn dc,.l db dm dd])).put (some 6) (.p bD 0))/\ao w7 bD b (.l da dn dc) (.l db dm dd) w') ?_ ?_
 . go_region_held3 (fun w'=>w'.cell? (jj w3.heap.size 5)=some (.l (jp b3 o3) 4 k3)/\w'.cell? (jj b3 (o3+3))=some (.bool (qn (W 1)))/\w'.cell? (jj b3 (o3+4))=some (.l p1a p1n p1c)/\w'.cell? (jj b3 (o3+5))=some (.l p1b p1m p1d)/\w'.cell? (jj b3 (o3+9))=some (.bool (qn (W 3)))/\w'.cell? (jj b3 (o3+10))=some (.l p3a p3n p3c)/\w'.cell? (jj b3 (o3+11))=some (.l p3b p3m p3d)/\w'.cell? (jj bF 0)=some (.bool (qn f))/\w'.cell? (jj bF 1)=some (.l fa fn fc)/\w'.cell? (jj bF 2)=some (.l fb fm fd)) (go_keep)
    (first
      | (go_at_call 155;(with_reducible refine J1.mono ?_);rintro e wp ⟨up,rfl,Rp,sp⟩;have Tp:=TD.tr sp;have zp:=Tp.size;have mB:=B7.bH Tp;have m1:=D1.bH Tp;have m3:=D3.bH Tp;have mF:=F7.B.bH Tp;have mi5:=mB.c5;have ma:=m1.c0;have mb:=m1.c1;have mc:=m1.c2;have md:=m3.c0;have me:=m3.c1;have mf:=m3.c2;obtain⟨mg,mh,mj⟩:=mF.g;have r1:wp.heap.size≠w3.heap.size:=om;have r2:wp.heap.size≠b3:=om;have r3:wp.heap.size≠bF:=om;obtain⟨ha,hn,hc,hb,hm',hd,-,-,-,-,-,-,e6,-⟩:=id Rp;subst e6;have sY:=cV wp yJ;have bY:=cR.new wp (.bool false) (.n) (.n) 83;have zY:(wp.alloc yJ).heap.size=wp.heap.size+1:=(by simp);have K1:=pp (w:=wp) (aJ _) trivial (QW.out 3 om) (QF.out.mul (QW.out 1 om)) om m3.R.read Rp.read;have K2:=pp (w:=wp.alloc yJ) (aJ _) trivial (QW.out 3 om) (QF.out.mul (QW.out 1 om)) om (m3.R.bH sY).read (Rp.bH sY).read;rw[HBG.out] at K1 K2)
      | (go_at_call 155;(with_reducible refine J2.mono ?_);rintro e wp ⟨up,rfl,Rp,sp⟩;have Tp:=TZ.tr sp;have zp:=Tp.size;have mB:=B7.bH Tp;have m1:=D1.bH Tp;have m3:=D3.bH Tp;have mF:=F7.B.bH Tp;have mi5:=mB.c5;have ma:=m1.c0;have mb:=m1.c1;have mc:=m1.c2;have md:=m3.c0;have me:=m3.c1;have mf:=m3.c2;obtain⟨mg,mh,mj⟩:=mF.g;have r1:wp.heap.size≠w3.heap.size:=om;have r2:wp.heap.size≠b3:=om;have r3:wp.heap.size≠bF:=om;obtain⟨ha,hn,hc,hb,hm',hd,-,-,-,-,-,-,e6,-⟩:=id Rp;subst e6;have sY:=cV wp yJ;have bY:=cR.new wp (.bool false) (.n) (.n) 83;have zY:(wp.alloc yJ).heap.size=wp.heap.size+1:=(by simp);have K1:=pp (w:=wp) (aJ _) trivial (QW.out 3 om) (QF.out.mul (QW.out 1 om)) om m3.R.read Rp.read;have K2:=pp (w:=wp.alloc yJ) (aJ _) trivial (QW.out 3 om) (QF.out.mul (QW.out 1 om)) om (m3.R.bH sY).read (Rp.bH sY).read;rw[HBG.out] at K1 K2;have bY2:=(bZ.bH (dr _)).bH sp)
      | (go_at_call 154;(with_reducible refine K1.mono ?_);rintro e w8 ⟨u8,rfl,R8,s8⟩;have bQ:=bY2.bH s8;obtain⟨x0,x1,x2⟩:=bQ.g;have xf:=bQ.f;have T8:=Tp.trans (sM s8 zp);have z8:=T8.size;have yB:=B7.bH T8;have y1:=D1.bH T8;have y3:=D3.bH T8;have yF:=F7.B.bH T8;have yi5:=yB.c5;have ya:=y1.c0;have yb:=y1.c1;have yc:=y1.c2;have yd:=y3.c0;have ye:=y3.c1;have yf:=y3.c2;obtain⟨yg,yh,yj⟩:=yF.g;have v1:w8.heap.size≠w3.heap.size:=om;have v2:w8.heap.size≠b3:=om;have v3:w8.heap.size≠bF:=om;obtain⟨da,dn,dc,db,dm,dd,-,-,-,-,-,-,e6,-⟩:=id R8;subst e6;have FF:=aR (ao.of T8 zR bQ (R8.imp (p':=fun q=>w7.heap.size<=q/\q≠w7.heap.size) (fun q _ h=>⟨om,by have:=bY2.lt;have:=sp.size;omega⟩))))
      | (go_at_call 154;(with_reducible refine K1.mono ?_);rintro e w8 ⟨u8,rfl,R8,s8⟩;have T8:=Tp.trans (sM s8 zp);have z8:=T8.size;have yB:=B7.bH T8;have y1:=D1.bH T8;have y3:=D3.bH T8;have yF:=F7.B.bH T8;have yi5:=yB.c5;have ya:=y1.c0;have yb:=y1.c1;have yc:=y1.c2;have yd:=y3.c0;have ye:=y3.c1;have yf:=y3.c2;obtain⟨yg,yh,yj⟩:=yF.g;have v1:w8.heap.size≠w3.heap.size:=om;have v2:w8.heap.size≠b3:=om;have v3:w8.heap.size≠bF:=om;obtain⟨da,dn,dc,db,dm,dd,-,-,-,-,-,-,e6,-⟩:=id R8;subst e6;have FF:=aR (ao.late (t:=83) T8 (R8.imp (p':=fun q=>w7.heap.size<=q) (fun q _ h=>by omega))))
      | (go_at_call 154;(with_reducible refine K2.mono ?_);rintro e w8 ⟨u8,rfl,R8,s8⟩;have bQ:=bY.bH s8;obtain⟨x0,x1,x2⟩:=bQ.g;have xf:=bQ.f;have T8:=(Tp.trans (sM sY zp)).trans (sM s8 om);have z8:=T8.size;have yB:=B7.bH T8;have y1:=D1.bH T8;have y3:=D3.bH T8;have yF:=F7.B.bH T8;have yi5:=yB.c5;have ya:=y1.c0;have yb:=y1.c1;have yc:=y1.c2;have yd:=y3.c0;have ye:=y3.c1;have yf:=y3.c2;obtain⟨yg,yh,yj⟩:=yF.g;have v1:w8.heap.size≠w3.heap.size:=om;have v2:w8.heap.size≠b3:=om;have v3:w8.heap.size≠bF:=om;obtain⟨da,dn,dc,db,dm,dd,-,-,-,-,-,-,e6,-⟩:=id R8;subst e6;have FF:=aR (ao.of T8 zp bQ (R8.imp (p':=fun q=>w7.heap.size<=q/\q≠wp.heap.size) (fun q _ h=>⟨om,om⟩)))))
   all_goals (refine⟨_,ha,hn,hc,hb,hm',hd,da,dn,dc,db,dm,dd, ?_,FF.out⟩;first | rfl | (simp only[ap,la,lz,ls]))
 rintro a' w9 ⟨bD,ha,hn,hc,hb,hm',hd,da,dn,dc,db,dm,dd,rfl,F9⟩;simp only[ap,la,lz,ls];have s9:=F9.s;have z9:=s9.size;have S9:=S7.tr s9;have B9:=B7.bH s9;have FB9:=F7.B.bH s9;have FR9:=F7.R.bH s9;have lB9:=B9.lt;have lF9:=FB9.lt;have lD9:=F9.B.lt;have lD9':=F9.l;have lF9':=F7.l;have z5:=S5.size;obtain⟨w6,e6⟩:∃x,x=w9.alloc (.o #[] 163):=⟨_,rfl⟩;have sN:w9.S w6:=by rw[e6];exact (aF w9.heap.size w9).alloc zR _
 have G6:GL KR P w6 w9.heap.size (.s w9.heap.size 0 0) [] []:=by rw[e6];exact GL.new KR P w9
 have EN:=aR e6;have S6:=S9.tr sN;have Z6:=Z.bH S6;have c9:=(L.bH S6).B.c9;have p1:=(B9.bH sN).c1;have lk:(Instr.lookup 107 (.map (some bm)) (.i (ja:Int)) false).run Tryz.prog w6.drew=.ok (.l aa na' ca) w6.drew:=by have:=(Z6.bH (dr _)).look (P:=Tryz.prog) (mty:=107) (kt:=3) (et:=118) (zv:=.n) underlying107 underlying3 kr false (z:=(ja:Int));rw[show ((iN (ja:Int) M).map Prod.snd).getD (.n)=.l aa na' ca from by show (ql (ja:Int) M).getD _=_;rw[va];rfl] at this;exact this
 clear e6;clear nB n1 n3 nF ni5 na nb nc nd ne nf ng nh nj J1 J2 sZ bZ zZ TD TZ zd3 zd4 t1 t2 t3 zd zd2 q1 q2 g0 g1 g2 h0 h1 h2 p5 D0 D1 D2 D3;go_wp2_with fail;rw[<-EN.out];go_region;all_goals go_wp2_with fail
 have z6:=sN.size;go_loopw [7,42] (fun u q wr=>∃t:Nat,t<=na'/\q=.i (t:Int)/\w6.Since w9.heap.size wr/\∃cy ky xs R,u=.s cy t ky/\R.length=t/\GL KR P wr w9.heap.size (.s cy t ky) R xs/\MxL m 1 (fun _=>b) (fun _ _=>f) (fun e _=>uh (X ja) e) R) (fun _ q _=>na'-(intOf q).toNat)
 case atStart=>exact⟨0,aJ _,rfl,sM (dr _) sN.size,w9.heap.size,0,[],[],rfl,rfl,G6.bH KR.ok (dr _),MxL.nil _ _ _ _ _⟩
 case round=>
  obtain⟨t,ht,rfl,sr,cy,ky,xs,R,rfl,hR,GR,AR⟩:=hrel;have lty:=GR.lt;have zr:=sr.size;have Sr:=S6.trans (sM sr S9.size);have s9r:=sN.trans sr;have HR:=aR hR;clear hR;by_cases htl:t<na'
  . obtain⟨rr,hrr⟩:∃r,(X ja)[t]?=some r:=⟨_,aK (by rw[HLA.out];exact htl)⟩;obtain⟨eA,_,⟨aA,bA,oA,kA,rfl,hkA,hpA,MAr⟩,hcA⟩:=(MA.bH KR.ok Sr) t rr hrr;have cA:=hcA 0 _ rfl;rw[show oa+t*KR.sz+0=oa+t by show oa+t*1+0=_;omega] at cA;subst eA;have hq:=HQ.out t htl;rw[my hrr] at hq;have HRW:=aR (my hrr);have hrl:rr.length<=1000001:=(by have:=(hq.ok 0 om).len;omega);clear hrr hcA;generalize hnr:rr.length=nr at*;have HNR:=aR hnr;clear hnr;have FBr:=FB9.bH s9r;have DBr:=F9.B.bH s9r;obtain⟨f0,f1,f2⟩:=FBr.g;obtain⟨d0,d1,d2⟩:=DBr.g;have hz1:(t:Int)<na':=om;have sF:=cV wr (.o #[.bool (qn f),.l fa fn fc,.l fb fm fd] 83);have zF:(wr.alloc (.o #[.bool (qn f),.l fa fn fc,.l fb fm fd] 83)).heap.size=wr.heap.size+1:=(by simp);have QF1:=(show ML KQ _ _ _ _ _ ((List.range 1).map fun _=>f) from ML.one KQ.ok (c:=[.bool (qn f),.l fa fn fc,.l fb fm fd]) (x:=f) ⟨_,_,rfl,(FR9.bH s9r).imp (fun _ _ _=>trivial)⟩ 83).fn;have sR:=(aF _ (wr.alloc (.o #[.bool (qn f),.l fa fn fc,.l fb fm fd] 83))).alloc zR (.o #[.l aA nr kA] 163);have HX1:ML KR ((wr.alloc (.o #[.bool (qn f),.l fa fn fc,.l fb fm fd] 83)).alloc (.o #[.l aA nr kA] 163)) (fun _=>True) (jp (wr.heap.size+1) 0) (wr.heap.size+1) 0 ((List.range 1).map fun _=>rr):=(by have h:=ML.one KR.ok (w:=wr.alloc (.o #[.bool (qn f),.l fa fn fc,.l fb fm fd] 83)) (p:=fun _=>True) (c:=[.l aA nr kA]) (x:=rr) ⟨aA,bA,oA,kA,by rw[HNR.out],by rw[HNR.out];exact hkA,fun _=>trivial,(MAr.imp KT.ok (fun _ _ _=>trivial)).bH KT.ok sF⟩ 163;rw[zF] at h;exact h);obtain⟨wM,eM⟩:∃x,x=(wr.alloc (.o #[.bool (qn f),.l fa fn fc,.l fb fm fd] 83)).alloc (.o #[.l aA nr kA] 163):=⟨_,rfl⟩;rw[<-eM] at sR HX1;have sMq:=sF.tr sR;have QM:=QF1.bH sR;have s9M:=s9r.tr sMq;have JS:=@cC m 1 1 b (.l da dn dc) (.l db dm dd) (jp wr.heap.size 0) wr.heap.size 0 1 (jp (wr.heap.size+1) 0) (wr.heap.size+1) 0 1 (fun _=>f) (fun _=>rr) (fun q=>w7.heap.size<=q/\q<w9.heap.size) wM ((F9.R.imp (p':=fun q=>w7.heap.size<=q/\q<w9.heap.size) (fun q hq h=>⟨h,hq⟩)).bH s9M) QM HX1 zR om hm hq.ok (fun t ht=>by have:=HNR.out;omega) hq.qS hq.qW hq.qX;have EM:=aR eM;clear eM hq QF1 QM HX1 sR;have zM:=sMq.size;go_wp2_with fail;rw[<-EM.out];refine JS.mono ?_;rintro e w8 ⟨c8,k8,x8,r,rfl,G8,ok8,v8,q8,s8⟩;clear JS;have l8:=G8.lt;have z8:=s8.size;have cap8:=G8.cap;have M8:=G8.ml KT.ok;have sX:=cV w8 (.o #[.s c8 r.length k8] 163);go_wp2_with (at_builtin;refine kv ?_);intro _;refine jg (m:=1) KR.ok (((GR.bH KR.ok sMq).bH KR.ok s8).bH KR.ok sX) HR.out (ML.one (p:=fun q=>P q/\q≠cy) KR.ok (c:=[.s c8 r.length k8]) (x:=r) ⟨_,c8,0,k8,rfl,cap8,fun _=>⟨hP c8 om,om⟩,M8.imp KT.ok (fun q _ hq=>by rcases hq.1 with h | h;exact⟨hP q om,om⟩;exact⟨hP q om,om⟩)⟩ 163) rfl rfl _ _ rfl rfl rfl om ?_;rintro c' k' w' ⟨⟨xs',G'⟩,gr,hat,hlt'⟩;have zX:=sX.size;have HT:=aR (show MxL m 1 (fun _=>b) (fun _ _=>f) (fun e _=>uh (X ja) e) (R++[r]) from AR.snoc HR.out ok8 (fun h=>by rw[HRW.out];exact v8 h) (fun z h1 h2=>by rw[HRW.out];exact q8 z h1 h2));have HSn:=aR (eI (((sr.trans (sM sMq om)).trans (sM s8 om)).trans (sM sX om)) gr om om);clear AR ok8 v8 q8 G8 M8;go_wp2;go_roundw
    case rel=>exact⟨t+1,om,by go_num,HSn.out,c',k',xs',R++[r],rfl,by rw[aT,HR.out];rfl,G',HT.out⟩
    case measure=>exact yI
  . have et:t=na':=om;subst et;have hz1:¬(t:Int)<t:=om;have Zr:=Z.bH Sr;obtain⟨wp,hrun,Zp,gp⟩:=Zr.put (P:=Tryz.prog) (mty:=107) (kt:=3) (et:=118) (z:=(i:Int)) underlying107 underlying3 (bf (by have:=HI.out;omega)) (.s cy t ky);have c9r:=(L.bH Sr).B.c9;have Kr:=KN.gr (T:=fun q=>q=bm) (Gr.of Sr) (fun q hq e=>hPm (e▸hq));have Mr:=(GR.ml KR.ok).imp KR.ok (p':=P) (fun q _ hq=>hq.1);have Kp:=Kr.put i HR.out GR.cap Mr (fun _=>hP cy om);have Kq:=Kp.gr (Gr.gb gp) (fun q hq e=>hPm (e▸hq));have FIN:=aR (And.intro Zp (And.intro Kq ((Gr.of (T:=fun q=>q=bm) Sr).trans (Gr.gb gp) (fun q _ h=>h))));clear Zp Kq gp Kp Kr Mr;go_wp2;go_end0;rw[<-HBG.out,<-HFG.out] at AR;exact⟨cy,t,ky,R,rfl,HR.out,⟨HR.out,AR⟩,FIN.out.1,FIN.out.2.1,FIN.out.2.2⟩
theorem um:∀(n:Nat) {j c:Nat},(ig n)[j]?=some c->1<c/\c<=n/\(2<c->(ig n)[j+1]?=some (c/2+c % 2))/\(c=2->(ig n).length=j+1):=by
 intro n
 induction n using Nat.strongRecOn with
 | _ n ih=>
   intro j c h;by_cases g:1<n
   . have e:ig n=n::ig (n/2+n % 2):=(by rw[igE,dif_pos g]);rw[e] at h⊢;cases j with
     | zero=>
       simp only[List.getElem?_cons_zero,Option.some.injEq] at h;subst h;refine⟨g,aC _,fun f=> ?_,fun f=> ?_⟩
       . rw[rY,igE,dif_pos om];rfl
       . subst f;rw[igE,dif_neg qd];rfl
     | succ j=>
       rw[rY] at h;obtain⟨a,i,b,d⟩:=ih _ om h;exact⟨a,om,fun f=>by rw[rY];exact b f,fun f=>by rw[fS,d f]⟩
   . rw[igE,dif_neg g] at h;simp at h
def c6(off c e t:Nat):Row:=if t<c/2 then cL ((off+e*(3*(c/2)+2*(c % 2))+3*t:Nat):Int) [1,1,-1] else cL ((off+e*(3*(c/2)+2*(c % 2))+3*t:Nat):Int) [1,-1]
def te(off c n:Nat):List Row:=(List.range (n*(c/2+c % 2))).map fun x=>c6 off c (x/(c/2+c % 2)) (x % (c/2+c % 2))
structure Cmp(g:be)(t k c:Nat)(V:(Nat->Rat)->Nat->Nat->Rat)(X:Nat->List Row)(W:(Nat->Rat)->Nat->Nat->Rat)(C:List Row):Prop where
 hst:∃j,t=(dH g k).length+j/\(ig (g.N k).k.toNat)[j]?=some c
 on:∀q,je g t q=(xV g (k+1)).flatMap (fun j=>jt (V q j) (vD g j))++(List.range (vD g (k+1))).flatMap fun e=>iw (W q e) c
 kn:∀j,j<=k->k+1<bL g j->rP ((eS g).getD t 0) (bT g k) (bD g k) (vD g j) (fun q=>V q j) (X j)
 cm:rP ((eS g).getD t 0) (bT g k) (bD g k) (vD g (k+1)*c) (fun q x=>W q (x/c) (x % c)) C
section
variable{g:be}{t k c:Nat}{V W:(Nat->Rat)->Nat->Nat->Rat}{K:Nat->Prop}{X:Nat->List Row}{C:List Row}
theorem aiY(o:(g.N k).op=5)(h:1<(g.N k).k.toNat):isStep (g.N k)=true:=by
 unfold isStep;simp only[jT,fT,jJ,mG];omega
theorem Cmp.first(E:iy g)(h:ug g t k V K X)(b:k<g.nn)(d:fo g (k+1)=true)(o:(g.N k).op=5)(a:1<(g.N k).k.toNat)(f:K (g.N k).a.toNat):
 Cmp g t k (g.N k).k.toNat V X (fun q e x=>V q (g.N k).a.toNat (e*(g.N k).k.toNat+x)) (X (g.N k).a.toNat):=by
 have S:=((E.nd b).sh.c5 o).2;refine⟨⟨0,h.st, ?_⟩,fun q=> ?_,fun j c i=>h.kn j (h.src j c om), ?_⟩
 . rw[igE,dif_pos a];rfl
 . rw[h.neu b d (aiY o a) q];unfold aW u7;rw[cF,aM om,aM om,aY rfl]
 . rw[<-S];refine (h.kn _ f).qD (fun q x _=> ?_);rw[cJ,iW]
theorem Cmp.lst(E:iy g)(h:Cmp g t k c V X W C)(d:k<g.nn)(a:fo g (k+1)=true)(o:(g.N k).op=5):(bP g)[t]?=some (k+1,c):=by
 obtain⟨j,rfl,b⟩:=h.hst;refine uU E d a ?_;unfold fQ;rw[aY a,aM om,aY o,cY,b];rfl
theorem ano(b:i7 1 d k/\i7 (-1) d k)(p:i+n*(3*(c/2)+2*(c % 2))<=m)(F:(Nat->Rat)->Nat->Nat->Rat)
 (hF:∀q e t,F q e t=if t<c/2 then q (i+e*(3*(c/2)+2*(c % 2))+3*t)+q (i+e*(3*(c/2)+2*(c % 2))+3*t+1)-q (i+e*(3*(c/2)+2*(c % 2))+3*t+2) else q (i+e*(3*(c/2)+2*(c % 2))+3*t)-q (i+e*(3*(c/2)+2*(c % 2))+3*t+1)):
 rP m d k (n*(c/2+c % 2)) (fun q x=>F q (x/(c/2+c % 2)) (x % (c/2+c % 2))) (te i c n):=by
 refine rP.of (by unfold te;simp) (fun x r a=> ?_);unfold te at a;rw[cY] at a;by_cases f:x<n*(c/2+c % 2)
 . rw[fK f] at a;simp only[kJ,Option.some.injEq] at a;subst a;have w:0<c/2+c % 2:=nJ (fun e=>by rw[e] at f;simp at f);have s:x % (c/2+c % 2)<c/2+c % 2:=iS _ w;have j:x/(c/2+c % 2)<n:=Nat.div_lt_of_lt_mul (by rw[cJ];exact f);generalize x/(c/2+c % 2)=e at*;generalize x % (c/2+c % 2)=t at*;have y:=aP (3*(c/2)+2*(c % 2)) (show e+1<=n from j);rw[bI,dS] at y;unfold c6;simp only[hF];generalize e*(3*(c/2)+2*(c % 2))=g at*;generalize n*(3*(c/2)+2*(c % 2))=u at*;have o:∀q∈([1,1,-1]:List Rat),i7 q d k:=fun q v=>by
    simp only[fW,jA,qO] at v;rcases v with rfl | rfl | rfl
    . exact b.1
    . exact b.1
    . exact b.2
   have l:∀q∈([1,-1]:List Rat),i7 q d k:=fun q v=>by
    simp only[fW,jA,qO] at v;rcases v with rfl | rfl
    . exact b.1
    . exact b.2
   by_cases h:t<c/2
   . simp only[aY h];exact⟨ys om (by show ((i+g+3*t:Nat):Int)+3<=m;omega),fun q=>by rw[cg,akV],dj om o⟩
   . simp only[aM h];exact⟨ys om (by show ((i+g+3*t:Nat):Int)+2<=m;omega),fun q=>by rw[cg,ej,kG],dj om l⟩
 . rw[dJ (by simpa using f)] at a;simp at a
theorem fb(o:(g.N k).op=5):mD g (k+1,c)=ga g (k+1) (k+1)+vD g (k+1)*(3*(c/2)+2*(c % 2)):=by
 unfold mD si;simp only;rw[cF,aM om,aM om]
theorem Cmp.next(E:iy g)(h:Cmp g t k c V X W C)(d:k<g.nn)(l:fo g (k+1)=true)(o:(g.N k).op=5)(n:1<(g.N k).k.toNat)(b:2<c){i:Nat->List Row}(r:∀j,j<=k->k+1<bL g j->i j=rF g (k+1) j):
 Cmp g (t+1) k (c/2+c % 2) (fun q=>nZ g (k+1) c q) i (fun q=>aA g (k+1) c q) (te (ga g (k+1) (k+1)) c (vD g (k+1))):=by
 have hl:=h.lst E d l o;have f:=kx hl;have m:=yp _ _ (E.jS (i:=k) om) rfl rfl;refine⟨?_,fun q=> ?_,fun j p a=> ?_, ?_⟩
 . obtain⟨j,rfl,s⟩:=h.hst;exact⟨j+1,rfl,(um _ s).2.2.1 b⟩
 . unfold je;rw[aM om,cF,List.getD,hl];simp only[gI];rw[cF,aY ⟨o,b⟩,show g.nn-k=(g.nn-(k+1))+1 by omega,mz,aM (by simp[l]),aY (by rw[cF];exact aiY o n)];unfold aW u7;rw[cF,aM om,aM om,aM om]
 . rw[f,r j p a];exact alI E d rfl m om a 0
 . rw[f];exact ano m (by rw[fb o];exact aC _) _ (fun q e t=>rfl)
theorem Cmp.done(E:iy g)(h:Cmp g t k 2 V X W C)(b:k<g.nn)(a:fo g (k+1)=true)(o:(g.N k).op=5){X':Nat->List Row}(d:∀j,j<=k->k+1<bL g j->X' j=rF g (k+1) j):
 ug g (t+1) (k+1) (fun q=>nZ g (k+1) 2 q) (fun j=>j=k+1∨(j<=k/\k+1<bL g j)) (fun j=>if j=k+1 then te (ga g (k+1) (k+1)) 2 (vD g (k+1)) else X' j):=by
 have hl:=h.lst E b a o;have l:=yp _ _ (E.jS (i:=k+1) om) rfl rfl;refine ug.behind E b a hl om ?_ d ?_
 . obtain⟨j,rfl,f⟩:=h.hst;have e:=(um _ f).2.2.2 rfl;show _=(dH g k++fQ g k).length;unfold fQ;rw[aY a,aM om,aY o,aT,bS,e];rfl
 . have r:=ano (c:=2) (n:=vD g (k+1)) l (by rw[<-fb o];exact aC _) (fun q=>aA g (k+1) 2 q) (fun q e t=>rfl);rw[show vD g (k+1)*(2/2+2 % 2)=vD g (k+1) from iF _] at r;refine r.qD (fun q x _=> ?_);unfold zf;rw[cF,aM om,aM om];show aA g (k+1) 2 q (x/1) (x % 1)=_;rw[pI,rX]
end
end Go.Proofs.YtaeieekkddndhaaGreat
