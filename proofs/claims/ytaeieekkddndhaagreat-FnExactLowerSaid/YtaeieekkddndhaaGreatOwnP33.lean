import Derived.Test.YtaeieekkddndhaaGreatOwnP32
import Derived.Test.YtaeieekkddndhaaGreatOwnP30
import Derived.Test.YtaeieekkddndhaaGreatOwnP17
set_option maxHeartbeats 6400000
set_option maxRecDepth 100000
namespace Go.Proofs.YtaeieekkddndhaaGreat
open Tryz Go.RowKit
variable{w v W V:World}{n m c d k i j l o b p t r s g h e:Nat}{a A B:Option Addr}{X Y Z:Nat->Nat}{u U:Value}{z y:Int}{G:be}{P:Nat->Prop}
theorem aeg{a:Option Addr}{bx n m c:Nat}{v:Nat->Rat}{w:World}(hn:m<=1048576)(HX:dQ w (fun _=>True) a bx n m v)(hq:∀i,i<m->Qb (v i) 4194563):
 Cl 66 #[.slice a m c] w fun e q=>∃Z E,e=.returned (.s Z m m)/\w.heap.size<=Z/\vt q Z m v E/\rZ q Z (m*3)/\E m<=q.heap.size/\w.S q:=by
 have ao:=qy (P:=Tryz.prog) 32 83 _ 3 56 underlying32 ck .i64 .i64 m om om;have sA:=cV w (.o (madeCells #[.bool false,.n,.n] (m*3)) 83);have rA:=rZ.new w #[.bool false,.n,.n] (m*3) 83;have zA:w.heap.size<(w.alloc (.o (madeCells #[.bool false,.n,.n] (m*3)) 83)).heap.size:=by simp
 go_enter func66,ntmps66;go_wp2;go_loopw [11] (fun i wr=>∃k:Nat,k<=m/\i=.i k/\w.S wr/\rZ wr w.heap.size (m*3)/\∃E,vt wr w.heap.size k v E/\E k<=wr.heap.size) (fun i _=>m-(intOf i).toNat)
 case atStart=>exact⟨0,aJ _,rfl,sA,rA,fun _=>w.heap.size+1,⟨fun i P=>absurd P om,om,fun i P=>absurd P om⟩,zA⟩
 case round=>
  obtain⟨k,hk,rfl,s,r,E,T,hE⟩:=hrel;by_cases Q:k<m
  . obtain⟨rfl,aw,ay,M⟩:=HX k Q;obtain⟨H,p,K,I,Y,L,ba,oa,bb,ob,am,an,e6,X,vX,vY,-,-⟩:=M.R;simp only[ag3,fM] at e6;obtain⟨rfl,rfl⟩:=e6;have z1:=gc X.pX (by rw[vX];exact (hq k Q).1);have z2:=gc X.pY (by rw[vY];exact (hq k Q).2);have F:=M.bH s;have g0:=F.c0;have g1:=F.c1;have g2:=F.c2;have hz:(k:Int)<m:=om;have rl:=r.lt;have t1:=cV wr (.o #[.bool (qn (v k)),.l H p K,.l I Y L] 83);have u:=cR.new wr (.bool (qn (v k))) (.l H p K) (.l I Y L) 83;go_wp2_with fail;generalize wr.alloc _=t at*;have dr:=ue t;have D:=t1.tr dr;have S2:=s.tr D;have zz:wr.heap.size<=t.drew.heap.size:=D.size;have C:=X.bH S2;have x:=u.bH dr;have k0:=u.c0;have k1:=u.c1;have k2:=u.c2;have aq:=x.c0;have ar:=x.c1;have au:=x.c2;have pl:=u.lt;have JN:=uQ om X.nc X.ac C.LX X.pX;have JD:=uQ om X.mc X.bc C.LY X.pY;have av:w.heap.size≠wr.heap.size:=om;clear g0 g1 g2
    go_region_held3 (fun q=>q.cell? (jj wr.heap.size 0)=some (.bool (qn (v k)))/\q.cell? (jj wr.heap.size 1)=some (.l H p K)/\q.cell? (jj wr.heap.size 2)=some (.l I Y L)) (go_keep)
     (first
       | (go_at_call 106;(with_reducible refine JN.mono ?_);rintro e w4 ⟨aN,cN,g,rfl,ac,ad,a0,l,d⟩;have ae:=uQ om X.mc X.bc (C.LY.bH d) X.pY;have y:=x.bH d;obtain⟨i0,i1,i2⟩:=y.g)
       | (go_at_call 106;(with_reducible refine JD.mono ?_);rintro e w4 ⟨aD,cD,gD,rfl,aa,ab,W,B,d⟩;have af:=uQ om X.nc X.ac (C.LX.bH d) X.pX;have y:=x.bH d;obtain⟨i0,i1,i2⟩:=y.g)
       | (go_at_call 106;(with_reducible refine ae.mono ?_);rintro e j ⟨aD,cD,gD,rfl,aa,ab,V,A,f⟩;have az:=a0.bH f;have z5:=f.size;have z4:=d.size;have U:0<p->t.drew.heap.size<=g/\g<j.heap.size/\∀o,j.frozen? (jj g o)=false:=fun h=>⟨(l h).1,by have:=(l h).2.1;omega,fun o=>by rw[f.frozen (a:=jj g o) (a0.lt h)];exact (l h).2.2 o⟩;have S:0<Y->t.drew.heap.size<=gD/\gD<j.heap.size/\∀o,j.frozen? (jj gD o)=false:=fun h=>⟨by have:=(A h).1;omega,(A h).2.1,(A h).2.2⟩;have a1:0<p->0<Y->g≠gD:=fun N O=>by have:=(l N).2.1;have:=(A O).1;omega
          have R:=y.bH f;obtain⟨ag,ah,ai⟩:=R.g;have z:=D.tr (d.trans (sM f d.size));have b:=r.bH z;obtain⟨v0,aj⟩:=b.cell (k*3) om;obtain⟨v1,ak⟩:=b.cell (k*3+1) om;obtain⟨v2,al⟩:=b.cell (k*3+2) om;have f0:=b.f (k*3);have f1:=b.f (k*3+1);have f2:=b.f (k*3+2))
       | (go_at_call 106;(with_reducible refine af.mono ?_);rintro e j ⟨aN,cN,g,rfl,ac,ad,az,l,f⟩;have V:=W.bH f;have z5:=f.size;have z4:=d.size;have S:0<Y->t.drew.heap.size<=gD/\gD<j.heap.size/\∀o,j.frozen? (jj gD o)=false:=fun h=>⟨(B h).1,by have:=(B h).2.1;omega,fun o=>by rw[f.frozen (a:=jj gD o) (W.lt h)];exact (B h).2.2 o⟩;have U:0<p->t.drew.heap.size<=g/\g<j.heap.size/\∀o,j.frozen? (jj g o)=false:=fun h=>⟨by have:=(l h).1;omega,(l h).2.1,(l h).2.2⟩;have a1:0<p->0<Y->g≠gD:=fun N O=>by have:=(l N).1;have:=(B O).2.1;omega
          have R:=y.bH f;obtain⟨ag,ah,ai⟩:=R.g;have z:=D.tr (d.trans (sM f d.size));have b:=r.bH z;obtain⟨v0,aj⟩:=b.cell (k*3) om;obtain⟨v1,ak⟩:=b.cell (k*3+1) om;obtain⟨v2,al⟩:=b.cell (k*3+2) om;have f0:=b.f (k*3);have f1:=b.f (k*3+1);have f2:=b.f (k*3+2)))
    all_goals go_wp2
    all_goals go_roundw
    case measure=>exact yI
    all_goals go_light
    all_goals
     have S5:=s.tr z;obtain⟨w7,e7,G,R7,x0,x1,x2,xo⟩:=cr (q:=k*3) b om (.bool (qn (v k))) (.l aN p cN) (.l aD Y cD);rw[<-e7];refine⟨k+1,om,by go_num,S5.trans (G.since zR),R7,_,(T.bH z).put (lo:=t.drew.heap.size) (H:=j.heap.size) (aU hE zz) om G (fun o ho=>xo o om) ⟨ac,aa,ad,ab,az,V,X.lX,X.lY,X.pX,X.pY,X.m0⟩ vX vY U S a1 x0 x1 x2, ?_⟩;rw[aM om,G.size];exact aC _
  . have e:k=m:=om;subst e;go_wp2;go_ret;exact⟨w.heap.size,E,rfl,aC _,T,r,hE,s⟩
structure OLs(w:World)(lo hi g n:Nat)(Q:Nat->Rat)(E:Nat->Nat):Prop where
 R:vt w g n Q E
 l:lo<=g
 h:E n<=hi
 f:∀o,w.frozen? ⟨g,o,none⟩=false
 q:∀i,i<n->Qb (Q i) 4194563
theorem vt.all{Q:Nat->Rat}(R:vt w n m Q X):∀ {i j:Nat},i<=j->j<=m->X i<=X j:=fun {i j} hij hj=>by
 induction hij with
 | refl=>exact aC _
 | @step j h ih=>exact aU (ih om) (R.mono j om)
section
variable{w w':World}{lo hi g n:Nat}{Q:Nat->Rat}{E:Nat->Nat}
theorem OLs.lt(h:OLs w lo hi g n Q E):g<hi:=by
 have a:=h.R.lo;have b:=h.R.all (aJ n) (aC n);have c:=h.h;omega
theorem OLs.ml(h:OLs w lo hi g n Q E):ML KQ w (fun q=>lo<=q/\q<hi) (jp g 0) g 0 ((List.range n).map Q):=dQ.ml (fun i b=>by
 obtain⟨l,m,c,j,e,d,k,f,X,Y,r⟩:=h.R.at_ i b;have o:=h.R.all (aJ i) (cZ b);have p:=h.R.all (show i+1<=n from b) (aC n);have s:=h.R.lo;have t:=h.l;have u:=h.h;refine⟨rfl,.l c j e,.l d k f, ?_⟩;rw[aZ];exact⟨r.c0,r.c1,r.c2,⟨c,j,e,d,k,f,l,0,m,0,X,Y,rfl,r.R,r.v1,r.v2,fun a=>by have:=r.lg a;omega,fun a=>by have:=r.lh a;omega⟩⟩)
theorem OLs.lq(h:OLs w lo hi g n Q E):LQ w (jp g 0) g n (fun i q=>E i<=q/\q<E (i+1)):=by
 refine⟨fun _=>rfl,fun _=>h.f,fun i _ e=> ?_,fun i j q b d x y=> ?_,fun i q b d=> ?_⟩
 . obtain⟨m,b,k,s,o,l,t,p,X,Y,r⟩:=h.R.at_ i e;have f:=h.q i e;exact⟨_,m,b,k,s,o,l,t,p,X,Y,r.c0,r.c1,r.c2,r.R.LX,r.R.LY,by have:=gc r.R.pX (by rw[r.v1];exact f.1);omega,by have:=gc r.R.pY (by rw[r.v2];exact f.2);omega,fun a=>⟨⟨(r.lg a).1,(r.lg a).2.1⟩,(r.lg a).2.2⟩,fun a=>⟨⟨(r.lh a).1,(r.lh a).2.1⟩,(r.lh a).2.2⟩,r.ne⟩
 . rcases kD i j with c | c | c
   . have:=h.R.all (show i+1<=j from c) (cZ d);omega
   . exact c
   . have:=h.R.all (show j+1<=i from c) (cZ b);omega
 . have u:=h.R.all (aJ i) (cZ b);have v:=h.R.lo;omega
theorem OLs.set(h:OLs w lo hi g n Q E){q:Nat}(c:wJ g n (fun i q=>E i<=q/\q<E (i+1)) q):lo<=q/\q<hi:=by
 have f:=h.R.lo;have j:=h.l;have k:=h.h;have b:=h.lt;obtain⟨l,rfl | ⟨i,a,m⟩⟩:=c
 . exact⟨h.l,b⟩
 . have d:=h.R.all (aJ i) (cZ a);have e:=h.R.all (show i+1<=n from a) (aC n);omega
end
theorem OLs.move{w w':World}{Q:Nat->Rat}(h:OLs w n m c d Q X)(hb:∀q,n<=q->q<m->w'.heap[q]?=w.heap[q]?):OLs w' n m c d Q X:=by
 have k:=h.l;have l:=h.lt;have g:∀q,n<=q->q<m->∀o,w'.cell? (jj q o)=w.cell? (jj q o):=fun q a s o=>aO (w:=w) (a:=jj q o) (hb q a s);have f:∀q,n<=q->q<m->∀o,w'.frozen? (jj q o)=w.frozen? (jj q o):=fun q a s o=>dK (w:=w) (a:=jj q o) (hb q a s);refine⟨⟨fun i t=> ?_,h.R.lo,h.R.mono⟩,h.l,h.h,fun o=>(f c k l o).trans (h.f o),h.q⟩;obtain⟨p,a,u,z,x,v,A,y,E,Y,r⟩:=h.R.at_ i t;have B:=h.R.all (aJ i) (cZ t);have C:=h.R.all (show i+1<=d from t) (aC d);have D:=h.R.lo;have F:=h.h;have R:=r.R
 exact⟨p,a,u,z,x,v,A,y,E,Y,(g c k l _).trans r.c0,(g c k l _).trans r.c1,(g c k l _).trans r.c2,
  ⟨R.nc,R.mc,R.ac,R.bc,fun j e=>by
    have:=r.lg om;exact⟨(R.LX j e).1,(g p om om _).trans (R.LX j e).2⟩,fun j e=>by
    have:=r.lh om;exact⟨(R.LY j e).1,(g a om om _).trans (R.LY j e).2⟩,R.lX,R.lY,R.pX,R.pY,R.m0⟩,r.v1,r.v2,
  fun b=>⟨(r.lg b).1,(r.lg b).2.1,fun o=>by have:=r.lg b;exact (f p om om o).trans (this.2.2 o)⟩,
  fun b=>⟨(r.lh b).1,(r.lh b).2.1,fun o=>by have:=r.lh b;exact (f a om om o).trans (this.2.2 o)⟩,r.ne⟩
structure OwD where
 lo:Nat
 mid:Nat
 hi:Nat
 gW:Nat
 kW:Nat
 gB:Nat
 kB:Nat
 EW:Nat->Nat
 EB:Nat->Nat
def KB:LK ((Nat×Nat×List Rat×List Rat)×OwD):=⟨58,27,4,64,.agg #[.int .i64 0,.int .i64 0,.slice none 0 0,.slice none 0 0],fun w p c x=>c=[.int .i64 (x.1.1:Int),.int .i64 (x.1.2.1:Int),.slice (some ⟨x.2.gW,0,none⟩) x.1.2.2.1.length x.2.kW,.slice (some ⟨x.2.gB,0,none⟩) x.1.2.2.2.length x.2.kB]/\x.1.2.2.1.length<=x.2.kW/\x.1.2.2.2.length<=x.2.kB/\(∀q,x.2.lo<=q->q<x.2.hi->p q)/\x.2.hi<=w.heap.size/\OLs w x.2.lo x.2.mid x.2.gW x.1.2.2.1.length (fun i=>x.1.2.2.1.getD i 0) x.2.EW/\OLs w x.2.mid x.2.hi x.2.gB x.1.2.2.2.length (fun i=>x.1.2.2.2.getD i 0) x.2.EB⟩
theorem KB.ok:KB.Ok where
 und:=KA.ok.und
 info:=KA.ok.info
 zs:=rfl
 pos:=by decide
 b:=by decide
 len:=by rintro w p c x ⟨rfl,-⟩;rfl
 one:=by
  rintro w p c x ⟨rfl,-⟩ u k;simp at k;rcases k with rfl | rfl | rfl | rfl<;>rfl
 move:=by rintro w v p c x ⟨e,h,i,d,j,f,g⟩ m hb;have r:=f.lt;have s:=g.lt;have n:=f.l;have o:=g.l;exact⟨e,h,i,d,om,f.move (fun q a b=>hb q om (d q a om)),g.move (fun q a b=>hb q om (d q om b))⟩
 imp:=by rintro w p t c x ⟨e,h,i,d,j,f,g⟩ l;exact⟨e,h,i,fun q a b=>l q om (d q a b),j,f,g⟩
theorem getD_map(L:List Rat):(List.range L.length).map (fun i=>L.getD i 0)=L:=by
 apply jF;intro i;by_cases h:i<L.length
 . rw[cY,fK h,kJ,aK h,fP,aK h];rfl
 . rw[dJ (by simpa using h),dJ om]
theorem KB.ka{c:List Value}{x:(Nat×Nat×List Rat×List Rat)×OwD}(h:KB.El w P c x):KA.El w P c x.1:=by
 obtain⟨e,i,j,a,k,b,d⟩:=h;have n:=b.lt;have o:=d.lt;have l:=b.l;have m:=d.l;have f:=b.ml;have g:=d.ml;rw[getD_map] at f g;exact⟨x.2.gW,x.2.kW,x.2.gB,x.2.kB,e,i,j,a _ om om,a _ om om,om,om,f.imp KQ.ok (fun q _ h=>a q h.1 om),g.imp KQ.ok (fun q _ h=>a q om h.2)⟩
theorem KB.ml{L:List ((Nat×Nat×List Rat×List Rat)×OwD)}(h:ML KB w P a n m L):ML KA w P a n m (L.map Prod.fst):=fun i x d=>by
 rw[cY] at d;obtain⟨y,j,rfl⟩:=eE.1 d;obtain⟨e,c,f,g⟩:=h i y j;exact⟨e,c,KB.ka f,g⟩
def ag(L:List ((Nat×Nat×List Rat×List Rat)×OwD)):Prop:=∀(i j:Nat) (x y:(Nat×Nat×List Rat×List Rat)×OwD),i<j->L[i]?=some x->L[j]?=some y->x.2.hi<=y.2.lo
theorem ag.nil:ag []:=fun i j x y _ a=>by simp at a
theorem ag.app{L:List ((Nat×Nat×List Rat×List Rat)×OwD)}(h:ag L){z:(Nat×Nat×List Rat×List Rat)×OwD}(f:∀x∈L,x.2.hi<=z.2.lo):ag (L++[z]):=fun i j x y c b a=>by
 have d:=(bG.1 a).1;rw[aT,tJ] at d;rw[bJ om] at b
 by_cases e:j<L.length
 . rw[bJ e] at a
   exact h i j x y c b a
 . rw[bK om,show j-L.length=0 by omega] at a
   simp at a
   subst a;exact f x (cO b)
theorem GL.his{L:List ((Nat×Nat×List Rat×List Rat)×OwD)}{c:List Value}(h:GL KB P w n u L c):∀x∈L,x.2.hi<=w.heap.size:=fun x b=>by
 obtain⟨i,a⟩:=List.getElem?_of_mem b;exact (h.at_ i x a).2.2.2.2.1
def PM(L:List ((Nat×Nat×List Rat×List Rat)×OwD))(i q:Nat):Prop:=∃x,L[i]?=some x/\x.2.lo<=q/\q<x.2.hi
def zM(L:List ((Nat×Nat×List Rat×List Rat)×OwD))(i:Nat):Nat:=((L[i]?).map fun x=>x.1.2.2.1.length+x.1.2.2.2.length).getD 0
theorem KB.netQ{L:List ((Nat×Nat×List Rat×List Rat)×OwD)}(h:ML KB w (fun q=>P q/\q≠n) a n 0 L)(D:0<L.length->a=jp n 0)(k:ag L)(E:0<L.length->∀o,w.frozen? (jj n o)=false)(F:∀x∈L,x.1.2.2.1.length+x.1.2.2.2.length<=1048576):
 bo w a n L.length (PM L) (zM L):=by
 refine⟨D,⟨?_, ?_⟩,E,fun i _ l=> ?_⟩
 . rintro i j q A B ⟨x,e,m,c⟩ ⟨y,r,K,M⟩;rcases kD i j with d | d | d
   . have:=k i j x y d e r;omega
   . exact d
   . have:=k j i y x d r e;omega
 . rintro i q l ⟨x,e,m,c⟩;obtain⟨-,z,C,-⟩:=h i x e;exact (C.2.2.2.1 q m c).2
 . have e:=aK l;generalize L[i]=x at e;obtain⟨-,z,⟨rfl,A,B,H,I,d,f⟩,g⟩:=h i x e;have s:=g 0 _ rfl;have t:=g 1 _ rfl;have u:=g 2 _ rfl;have v:=g 3 _ rfl;rw[aZ] at s t u v;have G:=F x (cO e);have p:=d.lt;have Q:=f.lt;have N:=d.l;have O:=f.l;refine⟨_,_,_,x.2.gW,x.1.2.2.1.length,x.2.kW,fun i q=>x.2.EW i<=q/\q<x.2.EW (i+1),_,x.2.gB,x.1.2.2.2.length,x.2.kB,fun i q=>x.2.EB i<=q/\q<x.2.EB (i+1),⟨s,t,u,v,d.lq,f.lq,fun q a b=> ?_,fun q a=> ?_,fun q a=> ?_,G⟩, ?_⟩
   . have:=d.set a;have:=f.set b;omega
   . have:=d.set a;exact⟨x,e,om,om⟩
   . have:=f.set a;exact⟨x,e,om,om⟩
   . unfold zM;rw[e];exact aC _
theorem ML.affs{L:List (Nat×Nat×List Rat×List Rat)}{x:Nat×Nat×List Rat×List Rat}(h:ML KA w P (jp n 0) n 0 L)(o:L[m]?=some x):
 ∃b f a e,w.cell? (jj n (m*4))=some (.i (x.1:Int))/\w.cell? (jj n (m*4+1))=some (.i (x.2.1:Int))/\w.cell? (jj n (m*4+2))=some (.s b x.2.2.1.length f)/\w.cell? (jj n (m*4+3))=some (.s a x.2.2.2.length e)/\ML KQ w P (jp b 0) b 0 x.2.2.1/\ML KQ w P (jp a 0) a 0 x.2.2.2:=by
 obtain⟨-,q,⟨b,f,a,e,rfl,r,s,t,u,v,y,c,i⟩,d⟩:=h m x o;have g:=d 0 _ rfl;have j:=d 1 _ rfl;have k:=d 2 _ rfl;have l:=d 3 _ rfl;rw[aZ] at g j k l;exact⟨b,f,a,e,g,j,k,l,c,i⟩
theorem akl{α:Type}{K:LK α}{L:List α}{a:List Value}(h:GL K P w n (.s m c d) L a)(k:Nat):w.frozen? (jj m k)=false:=by
 obtain⟨-,⟨e,-⟩ | ⟨b,g,f,e,-,hb,-⟩⟩:=h.own
 . cases e
 . cases e;simp[World.frozen?,hb,go_sem]
def OwnA(w:World)(L:List (Nat×Nat×List Rat×List Rat))(e:Ending)(w':World):Prop:=
 ∃c k M,e=.returned (.agg #[.slice (some ⟨c,0,none⟩) L.length k])/\L.length<=k/\w.heap.size<=c/\M.map Prod.fst=L/\ag M/\ML KB w' (fun q=>w.heap.size<=q/\q≠c) (some ⟨c,0,none⟩) c 0 M/\(∀o,w'.frozen? ⟨c,o,none⟩=false)/\w.Since w.heap.size w'
theorem akY{c n k:Nat}{L:List (Nat×Nat×List Rat×List Rat)}{p:Nat->Prop}{w:World}(hn:L.length=n)(h0:0<n)(hn2:n<=1048576)(hs:∀x∈L,x.2.2.1.length+x.2.2.2.length<=1048576)(hq:∀x∈L,∀q,q∈x.2.2.1∨q∈x.2.2.2->Qb q 4194563)(M:ML KA w p (jp c 0) c 0 L):
 Cl 29 #[.agg #[.s c n k]] w (OwnA w L):=by
 obtain⟨wA,eA⟩:∃x,x=w.alloc (.o #[.s c n k] 29):=⟨_,rfl⟩;have b1:=ki.new w (.s c n k) 29;have s1:=cV w (.o #[.s c n k] 29);have z1:(w.alloc (.o #[.s c n k] 29)).heap.size=w.heap.size+1:=by simp
 rw[<-eA] at b1 s1 z1;obtain⟨wB,eB⟩:∃x,x=wA.alloc (.o #[.n] 29):=⟨_,rfl⟩;have b2:=ki.new wA (.n) 29;have s2:=cV wA (.o #[.n] 29);have z2:(wA.alloc (.o #[.n] 29)).heap.size=wA.heap.size+1:=by simp
 rw[<-eB] at b2 s2 z2;obtain⟨wC,eC⟩:∃x,x=wB.alloc (.o #[.n] 29):=⟨_,rfl⟩;have b3:=ki.new wB (.n) 29;have s3:=cV wB (.o #[.n] 29);have z3:(wB.alloc (.o #[.n] 29)).heap.size=wB.heap.size+1:=by simp
 rw[<-eC] at b3 s3 z3;rw[z1] at b2;rw[z2,z1] at b3;have B1:=(b1.bH s2).bH s3;have B2:=b2.bH s3;have S0:=(s1.trans (sM s2 om)).trans (sM s3 om);have E3:=aR (eC.trans (by rw[eB,eA]:_=((w.alloc (.o #[.s c n k] 29)).alloc (.o #[.n] 29)).alloc (.o #[.n] 29)));have i1:=B1.c0;rw[E3.out] at i1;have zC:wC.heap.size=w.heap.size+1+1+1:=om;have HN:=aR hn;have HQ:=aR hq;have HS:=aR hs;have HM:=aR M;have lc:=M.lt KA.ok om;clear eA eB eC b1 b2 s1 s2 s3 z1 z2 z3 hn hq hs M;go_enter func29,ntmps29;go_wp2_with fail;rw[<-E3.out];clear i1;go_loopw [10] (fun i wr=>∃(r:Nat) (v:Value) (N:List ((Nat×Nat×List Rat×List Rat)×OwD)) (xs:List Value),r<=n/\i=.i r/\N.map Prod.fst=L.take r/\N.length=r/\ag N/\GL KB (fun q=>w.heap.size+1+1<q) wr (w.heap.size+1+1+1) v N xs/\ki wr w.heap.size (.s c n k)/\ki wr (w.heap.size+1) (.n)/\ki wr (w.heap.size+1+1) v/\w.S wr) (fun i _=>n-(intOf i).toNat)
 case atStart=>exact⟨0,.n,[],[],aJ _,rfl,rfl,rfl,ag.nil,GL.none _ _ _ _,B1,B2,b3,S0⟩
 case round=>
  obtain⟨r,v,N,xs,hr,rfl,hN,hNl,hO,G,C1,C2,C3,s⟩:=hrel;have HNM:=aR hN;have HNl:=aR hNl;have hz:=s.size;have lC3:=C3.lt;have hvo:∀b,v.ownBlock=some b->w.heap.size+1+1+1<=b/\b<wr.heap.size:=fun b h=>G.own.lt b h;clear hN hNl B1 B2 b3;by_cases hlt:r<n
  . have hL:r<L.length:=(by rw[HN.out];exact hlt);have hx:L[r]?=some L[r]:=aK hL;generalize L[r]=x at hx;have hz1:(r:Int)<n:=om;obtain⟨cw,kw,cb,kb,g0,g1,g2,g3,mW,mB⟩:=(HM.out.bH KA.ok s).affs hx;obtain⟨x0,x1,xW,xB⟩:=x;simp only at g0 g1 g2 g3 mW mB;have hxm:=cO hx;have sz:=HS.out _ hxm;have qs:=aR (HQ.out _ hxm);simp only at sz;have HX:=aR hx;obtain⟨nW,hnW⟩:∃y,xW.length=y:=⟨_,rfl⟩;obtain⟨nB,hnB⟩:∃y,xB.length=y:=⟨_,rfl⟩;rw[hnW] at g2 sz;rw[hnB] at g3 sz;have HW:=aR hnW;have HB:=aR hnB;clear hnW hnB hx hL;obtain⟨wD,eD⟩:∃x,x=wr.alloc (.o #[.i (x0:Int),.i (x1:Int),.s cw nW kw,.s cb nB kb] 58):=⟨_,rfl⟩;have p1:=fZ.new wr (.i (x0:Int)) (.i (x1:Int)) (.s cw nW kw) (.s cb nB kb) 58;have sD:=cV wr (.o #[.i (x0:Int),.i (x1:Int),.s cw nW kw,.s cb nB kb] 58);have zD:(wr.alloc (.o #[.i (x0:Int),.i (x1:Int),.s cw nW kw,.s cb nB kb] 58)).heap.size=wr.heap.size+1:=(by simp);rw[<-eD] at p1 sD zD;have ED:=aR eD;clear eD;have dr:=ue wD;have S2:=sD.tr dr;have p2:=p1.bH dr;have C3d:=C3.bH S2;have Jw:=aR (@aeg (jp cw 0) cw 0 nW kw (fun i=>xW.getD i 0) wD.drew om (by have:=(mW.bH KQ.ok S2).imp KQ.ok (p':=fun _=>True) (fun _ _ _=>trivial);have:=this.qs;rwa[HW.out] at this) (fun i hi=>qs.out _ (.inl (by rw[fP,aK (by rw[HW.out];exact hi),gI];exact jB _))));have zd:wD.drew.heap.size=wr.heap.size+1:=zD;have Zd:=aR zd;have ZD:=aR zD;clear zd zD;go_wp2_with fail;rw[<-ED.out];refine bQ 16 (fun w'=>w'.cell? (jj (w.heap.size+1+1) 0)=some v/\w'.cell? (jj wr.heap.size 0)=some (.i (x0:Int))/\w'.cell? (jj wr.heap.size 1)=some (.i (x1:Int))/\w'.cell? (jj wr.heap.size 2)=some (.s cw nW kw)/\w'.cell? (jj wr.heap.size 3)=some (.s cb nB kb)) kr ⟨C3d.c0,p2.c0,p2.c1,p2.c2,p2.c3⟩ (fun hHeld=> ?_);refine tX 0 14 ?_;refine tX 1 15 ?_;refine tX 2 16 ?_;refine tX 3 17 ?_;refine tX 4 18 ?_;refine tX 5 19 ?_;refine tX 6 20 ?_;refine tX 7 21 ?_;refine tX 9 23 ?_;refine tX 10 24 ?_;refine uX 8 fun K hK=> ?_;go_simp;go_wp2_with (go_at_call 66;(with_reducible refine Jw.out.mono ?_);rintro e w4 ⟨gW,EW,rfl,lW,TW,rW,eW,s4⟩);have p4:=p2.bH s4;have C3e:=C3d.bH s4;have S4:=S2.tr s4;have z4:=s4.size;have Jb:=aR (@aeg (jp cb 0) cb 0 nB kb (fun i=>xB.getD i 0) w4 om (by have:=(mB.bH KQ.ok S4).imp KQ.ok (p':=fun _=>True) (fun _ _ _=>trivial);have:=this.qs;rwa[HB.out] at this) (fun i hi=>qs.out _ (.inr (by rw[fP,aK (by rw[HB.out];exact hi),gI];exact jB _))));refine hK.out _ _ (fun _=>⟨C3e.c0,p4.c0,p4.c1,p4.c2,p4.c3⟩) ?_;clear hK K hHeld Jw;refine uX 11 fun K hK=> ?_;go_simp;go_wp2_with (go_at_call 66;(with_reducible refine Jb.out.mono ?_);rintro e w5 ⟨gB,EB,rfl,lB,TB,rB,eB,s5⟩);have p5:=p4.bH s5;have C3f:=C3e.bH s5;have S5:=S4.tr s5;have z5:=s5.size;have G5:=G.bH KB.ok S5;refine hK.out _ _ (fun _=>⟨C3f.c0,p5.c0,p5.c1,p5.c2,p5.c3⟩) ?_;clear hK K Jb;refine uX 12 fun K hK=> ?_;go_simp;refine hK.out _ _ (fun _=>⟨C3f.c0,p5.c0,p5.c1,p5.c2,p5.c3⟩) ?_;clear hK K;have sV:=cV w5 (.o #[.i (x0:Int),.i (x1:Int),.s gW nW nW,.s gB nB nB] 58);have pV:=p5.bH sV;have C3v:=C3f.bH sV;have zV:=sV.size;refine uX 13 fun K hK=> ?_;go_simp;refine hK.out _ _ (fun _=>⟨C3v.c0,pV.c0,pV.c1,pV.c2,pV.c3⟩) ?_;clear hK K;refine uX 14 fun K hK=> ?_;have zd:=Zd.out;have TW5:OLs w5 wD.drew.heap.size w4.heap.size gW nW (fun i=>xW.getD i 0) EW:=⟨TW.bH s5,lW,eW,fun o=>(s5.frozen (a:=jj gW o) rW.lt).trans (rW.f o),fun i hi=>qs.out _ (.inl (by rw[fP,aK (by rw[HW.out];exact hi),gI];exact jB _))⟩;have TB5:OLs w5 w4.heap.size w5.heap.size gB nB (fun i=>xB.getD i 0) EB:=⟨TB,lB,eB,rB.f,fun i hi=>qs.out _ (.inr (by rw[fP,aK (by rw[HB.out];exact hi),gI];exact jB _))⟩
    refine cv (m:=1) (n:=N.length) KB.ok (G5.bH KB.ok sV) rfl (ML.one (p:=fun q=>w.heap.size+1+1<q/\v.ownBlock≠some q) KB.ok (c:=[.i (x0:Int),.i (x1:Int),.s gW nW nW,.s gB nB nB]) (x:=((x0,x1,xW,xB),⟨wD.drew.heap.size,w4.heap.size,w5.heap.size,gW,nW,gB,nB,EW,EB⟩)) (by
     have e1:=HW.out;have e2:=HB.out;subst e1 e2;exact⟨rfl,aC _,aC _,fun q h1 h2=>⟨by simp only at h1;omega,fun e=>by have:=(hvo _ e).2;simp only at h1;omega⟩,aC _,TW5,TB5⟩) 58) rfl (.inr qd) (by have:=HNl.out;omega) om rfl _ _ rfl rfl rfl ?_
    intro cm km wP A9;have gP:=Gr.own A9.2.1;have pP:=pV.lV (gP.block _ om (fun e=>by have:=(hvo _ e).2;omega));have C3P:=C3v.nI (gP.block _ om (fun e=>by have:=(hvo _ e).1;omega));refine hK.out _ _ (fun _=>⟨C3P.c0,pP.c0,pP.c1,pP.c2,pP.c3⟩) ?_;clear hK K;refine uX 15 fun K hK=> ?_;go_simp;refine hK.out _ _ (fun _=>⟨C3P.c0,pP.c0,pP.c1,pP.c2,pP.c3⟩) ?_;clear hK K;refine uX 16 fun K hK=> ?_;have m72:=C3P.c0;have f72:=C3P.f 0;go_simp;refine hK.out _ _ (fun h=>absurd rfl h) ?_;clear hK K m72 f72;refine wG kr ?_ _;obtain⟨⟨xp,GP⟩,grP,hatP,hltP⟩:=A9;have zP:=gP.size;have SV:=S5.tr sV;have C1P:=(C1.bH SV).nI (gP.block _ (by have:=C1.lt;omega) (fun e=>by have:=(hvo _ e).1;omega));have C2P:=(C2.bH SV).nI (gP.block _ (by have:=C2.lt;omega) (fun e=>by have:=(hvo _ e).1;omega));have g1:Gr (fun q=>q=w.heap.size+1+1) wP (wP.setCell (jj (w.heap.size+1+1) 0) (.s cm (N.length+1) km)):=Gr.put (T:=fun q=>q=w.heap.size+1+1) (Gr.refl _ _) (.inl rfl) 0 _;have hcm:w.heap.size+1+1+1<=cm:=by
     rcases hatP with h | h
     . exact (hvo _ h).1
     . omega
    have GF:=GP.gr KB.ok g1 (fun b h=>by simp[Value.ownBlock] at h;omega) (fun q _ h=>by omega);have SF:w.S (wP.setCell (jj (w.heap.size+1+1) 0) (.s cm (N.length+1) km)):=(by have a1:=s.tr SV;have a2:=Gr.since a1 gP (fun q h=>by have:=(hvo _ h).1;omega) a1.size;exact Gr.since a2 g1 (fun q h=>by omega) a2.size);have D1:=C1P.nI (g1.block _ (by have:=C1.lt;omega) om);have D2:=C2P.nI (g1.block _ (by have:=C2.lt;omega) om);have D3:=C3P.gH (.s cm (N.length+1) km);have hON:=ag.app hO (z:=((x0,x1,xW,xB),⟨wD.drew.heap.size,w4.heap.size,w5.heap.size,gW,nW,gB,nB,EW,EB⟩)) (fun y hy=>by have:=G.his y hy;simp only;omega);have HFIN:=aR (And.intro GF (And.intro SF (And.intro D1 (And.intro D2 (And.intro D3 hON)))));clear GF GP grP gP g1 SF D1 D2 D3 hON C1P C2P C3P pP pV p5 p4 p2 p1 C3v C3f C3e C3d C1 C2 C3 G G5 TW5 TB5 TW TB;go_wp2;go_roundw
    case rel=>obtain⟨h1,h2,h3,h4,h5,h6⟩:=HFIN.out;exact⟨r+1,_,_,_,om,by go_num,by rw[eJ,HNM.out,jE,HX.out];rfl,by rw[aT,HNl.out];rfl,h6,h1,h3,h4,h5,h2⟩
    case measure=>exact yI
  . have er:r=n:=om;subst er;have hz1:¬(r:Int)<r:=om;have hv:∃cm km,v=.s cm r km:=by
     have h1:=G.own;obtain⟨e1,⟨e2,e3⟩ | ⟨b,cap,cur,e2,-⟩⟩:=h1
     . have h2:=HNl.out;have h3:N.length=0:=e3;omega
     . exact⟨b,cap,by rw[e2,HNl.out]⟩
    obtain⟨cm,km,rfl⟩:=hv;have hcm:=hvo cm rfl;have g2:Gr (fun q=>q=w.heap.size+1) wr (wr.setCell (jj (w.heap.size+1) 0) (.s cm r km)):=Gr.put (T:=fun q=>q=w.heap.size+1) (Gr.refl _ _) (.inl rfl) 0 _;have GF:=G.gr KB.ok g2 (fun b h=>by simp[Value.ownBlock] at h;omega) (fun q _ h=>by omega);have BF:=aR (C2.gH (.s cm r km));have SF:=Gr.since s g2 (fun q h=>by omega) s.size;have fz:∀o,(wr.setCell (jj (w.heap.size+1) 0) (.s cm r km)).frozen? (jj cm o)=false:=fun o=>akl GF o;have HFIN:=aR (And.intro (GF.ml KB.ok) (And.intro GF.cap (And.intro SF (And.intro fz hO))));have k2:=C2.c0;have k2f:=C2.f;have k3:=C3.c0;clear GF SF fz g2 hO G s C1 C2 C3;go_wp2;refine bO (zw rfl underlying29 rfl kr _ _ (w.heap.size+1) _ rfl BF.out) rfl ?_;obtain⟨h1,h2,h3,h4,h5⟩:=HFIN.out;refine⟨cm,km,N,by rw[HN.out],by rw[HN.out];exact h2,om,by rw[HNM.out,dV (by rw[HN.out];exact aC _)],h5,h1.imp KB.ok (fun q _ h=>⟨om,h.2⟩),h4,h3⟩
theorem ew{α:Type}(f:Nat->List α)(n:Nat):∀L:List Nat,(∀e∈L,(f e).length=n)->(L.flatMap f).length=L.length*n
 | [],_=>by simp
 | e::L,h=>by
   have b:=ew f n L (fun x a=>h x (iA _ a));have c:=h e (iQ ..);rw[qK,aT,fS,bI,dS];omega
theorem ajd(G:be)(n:Nat)(V:Nat->Nat->Rat):∀b,(((List.range b).filter fun j=>decide (n<bL G j)).flatMap (fun j=>jt (V j) (vD G j))).length=ga G n b
 | 0=>rfl
 | b+1=>by
   have a:=ajd G n V b;rw[gY,rS,iG,aT,a]
   show _=wK _ _ _ _+_
   by_cases h:n<bL G b
   . rw[aY h,List.filter_cons_of_pos (by simpa using h)]
     simp[jl,ga]
   . rw[aM h,List.filter_cons_of_neg (by simpa using h)]
     simp[ga]
theorem aiQ(G:be)(V:Nat->Nat->Rat)(n:Nat)(W:Nat->Nat->Rat)(m c:Nat)(h:((G.N m).op=2∨(G.N m).op=3)/\c=0∨(G.N m).op=5/\(n=0/\c=(G.N m).k.toNat∨n≠0/\c=n)):(aW G V n W (m+1)).length=mD G (m+1,c):=by
 unfold aW;rw[aT,show xV G (m+1)=(List.range (m+1)).filter fun j=>decide (m+1<bL G j) from rfl,ajd];unfold mD si u7;rw[cF];dsimp only;rcases h with ⟨h | h,rfl⟩ | ⟨h,f⟩
 . rw[aY h,aY h,bS,cT]
 . rw[aM om,aY h,aM om,aY h,jl]
 . have d:¬(G.N m).op=2:=om;have e:¬(G.N m).op=3:=om;rw[aM d,aM e,aM d,aM e];rcases f with ⟨b,rfl⟩ | ⟨b,rfl⟩
   . rw[aY b,ew _ _ _ (fun _ _=>yu _ _),cT]
   . rw[aM b,ew _ _ _ (fun _ _=>yu _ _),cT]
theorem ae7(d:fo G (n+1)=true)(a:isStep (G.N n)=true):∃c,(fQ G n)[0]?=some (n+1,c)/\(((G.N n).op=2∨(G.N n).op=3)/\c=0∨(G.N n).op=5/\c=(G.N n).k.toNat):=by
 unfold isStep at a;simp only[jT,jJ,fT,mG] at a;unfold fQ;rw[aY d];rcases a with a | ⟨b,e⟩
 . exact⟨0,by rw[aY a];rfl,.inl ⟨a,rfl⟩⟩
 . refine⟨(G.N n).k.toNat, ?_,.inr ⟨b,rfl⟩⟩;rw[aM om,aY b,igE,dif_pos om];rfl
theorem afA(a:isStep (G.N n)=false):fQ G n=[]:=by
 unfold isStep at a;simp only[qQ,rJ,kS,pF] at a;unfold fQ;split
 . rw[aM (by have:=a.1.1;have:=a.1.2;omega)];split
   . rename_i h5
     rw[igE,dif_neg (by rcases a.2 with h | h;exact absurd h5 h;omega)];rfl
   . rfl
 . rfl
theorem adZ{s:Nat×Nat}:∀ {n x:Nat},(dH G n)[x]?=some s->∃k j,k<n/\fo G (k+1)=true/\(fQ G k)[j]?=some s/\x=(dH G k).length+j
 | 0,x,h=>by simp[dH] at h
 | n+1,x,h=>by
   rw[show dH G (n+1)=dH G n++fQ G n from rfl] at h
   by_cases c:x<(dH G n).length
   . rw[bJ c] at h
     obtain⟨k,j,d,b⟩:=adZ h;exact⟨k,j,om,b⟩
   . rw[bK om] at h
     refine⟨n,_,om, ?_,h,om⟩
     by_cases a:fo G (n+1)=true
     . exact a
     . unfold fQ at h
       rw[aM a] at h
       simp at h
theorem aiK(E:iy G)(W:Nat->Nat->Rat):∀f k V,k+f=G.nn->(mz G 0 W f (k+1) V).length=(eS G).getD ((dH G k).length+1) 0:=by
 intro f
 induction f with
 | zero=>
   intro k V j;rw[mz,bS,cT];have e:k=G.nn:=om;subst e;exact (acW G).symm
 | succ f ih=>
   intro k V j;rw[mz,cF];by_cases b:fo G (k+1)=true
   . rw[aM (by simp[b])];by_cases d:isStep (G.N k)=true
     . rw[aY d];obtain⟨c,i,a⟩:=ae7 b d;have h:=uU E om b i;rw[fV] at h;rw[kx h];exact aiQ G V 0 W k c (by rcases a with a | a;exact .inl a;exact .inr ⟨a.1,.inl ⟨rfl,a.2⟩⟩)
     . rw[aM d,ih (k+1) _ om,show dH G (k+1)=dH G k++fQ G k from rfl,afA (by simpa using d),iJ]
   . rw[aY (by simpa using b),ih (k+1) _ om,uJ b]
theorem alf(E:iy G)(D:n<=(bP G).length)(h:Nat->Rat):(je G n h).length=(eS G).getD (n+1) 0:=by
 unfold je;by_cases l:n=0
 . rw[aY l,aiK E _ G.nn 0 _ om];subst l;rfl
 . rw[aM l];have g:(bP G)[n-1]?=some (bP G)[n-1]:=aK om;generalize (bP G)[n-1]'om=s at g;obtain⟨k,j,z,d,y,C⟩:=adZ g;rw[fP,g,gI];have e:s.1=k+1/\((((G.N k).op=2∨(G.N k).op=3)/\(fQ G k).length=j+1)∨(G.N k).op=5/\(ig (G.N k).k.toNat)[j]?=some s.2/\(fQ G k).length=(ig (G.N k).k.toNat).length):=by
    have a:=y;unfold fQ at a;rw[aY d] at a;by_cases o:(G.N k).op=2∨(G.N k).op=3
    . rw[aY o] at a;have hl:=(bG.1 a).1;simp at hl;subst hl;simp at a;subst a;refine⟨rfl,.inl ⟨o, ?_⟩⟩;unfold fQ;rw[aY d,aY o];rfl
    . rw[aM o] at a;by_cases i:(G.N k).op=5
      . rw[aY i,cY] at a;obtain⟨c,b,rfl⟩:=eE.1 a;refine⟨rfl,.inr ⟨i,b, ?_⟩⟩;unfold fQ;rw[aY d,aM o,aY i,bS]
      . rw[aM i] at a;simp at a
   obtain⟨F,p⟩:=s;obtain⟨rfl,e⟩:=e;simp only[cF] at e⊢;by_cases b:(G.N k).op=5/\2<p
   . rw[aY b];rcases e with ⟨f | f,-⟩ | ⟨-,m,q⟩
     . omega
     . omega
     . obtain⟨u,B,v,-⟩:=um _ m;have x:(fQ G k)[j+1]?=some (k+1,p/2+p % 2):=by
        unfold fQ;rw[aY d,aM om,aY b.1,cY,v b.2];rfl
       have r:=uU E z d x;rw[show (dH G k).length+(j+1)=n by omega] at r;have A:isStep (G.N k)=true:=(by unfold isStep;simp only[jT,jJ,fT,mG];exact .inr ⟨b.1,om⟩);rw[kx r,show G.nn-k=(G.nn-(k+1))+1 by omega,mz,aM (by simp[d]),aY (by rw[cF,A])];exact aiQ G _ _ _ k _ (.inr ⟨b.1,.inr ⟨om,rfl⟩⟩)
   . rw[aM b,aiK E _ (G.nn-(k+1)) (k+1) _ om,show dH G (k+1)=dH G k++fQ G k from rfl,aT];rcases e with ⟨-,f⟩ | ⟨f,m,q⟩
     . rw[f,show (dH G k).length+(j+1)=n by omega]
     . obtain⟨u,-,-,w⟩:=um _ m;rw[q,w om,show (dH G k).length+(j+1)=n by omega]
theorem ee(E:iy G)(a:t<=(bP G).length):(amap G t).2.2.1.length+(amap G t).2.2.2.length=(eS G).getD (t+1) 0*((eS G).getD t 0+1):=by
 unfold amap;simp only[bS,cT];rw[show (aE G t).length=(eS G).getD (t+1) 0 from alf E a _,fY,iF]
theorem aje(E:iy G)(l:G.size<=1048576)(hl:∀k,k<G.nn->∀c,c<(G.N k).nv->((G.N k).V c).lim)(j:n<=(bP G).length):∀q,q∈(amap G n).2.2.1∨q∈(amap G n).2.2.2->Qb q 4194563:=by
 have m:=fun z=>aiP E l hl j z;have d:∀(z:Int) r,r<(aE G n).length->Qb ((je G n (gv z)).getD r 0) 2097281:=fun z r a=>by
  have f:r<(je G n (gv z)).length:=by rw[agf G n _ (gv (-1))];exact a
  have e:(je G n (gv z)).getD r 0=(je G n (gv z))[r]:=by simp[List.getD,aK f]
  rw[e];exact m z _ (jB f)
 intro q b;unfold amap at b;simp only[dT,dU] at b;rcases b with ⟨x,i,rfl⟩ | ⟨r,a,rfl⟩
 . have g:0<(eS G).getD n 0:=by
    rcases cQ ((eS G).getD n 0) with h | h
    . rw[h,sJ] at i;omega
    . exact h
   have a:=Nat.div_lt_of_lt_mul (by rw[cJ];exact i);unfold wF;exact Qb.diffk (d _ _ a) (d (-1) _ a) qd
 . exact Qb.more (d (-1) r a) qd
def fg(g:be)(w:World)(e:Ending)(w':World):Prop:=w.Since w.heap.size w'/\
 ((∃n X c a,al g n X c a/\c≠0/\e=.returned (.tuple #[.agg #[.slice none 0 0],.int .i64 c]))∨iy g/\
  (20000<jw g/\e=.returned (.tuple #[.agg #[.slice none 0 0],.int .i64 17])∨
   jw g<=20000/\∃c k M,e=.returned (.tuple #[.agg #[.slice (some ⟨c,0,none⟩) ((bP g).length+1) k],.int .i64 0])/\(bP g).length+1<=k/\w.heap.size<=c/\M.map Prod.fst=(List.range ((bP g).length+1)).map (amap g)/\ag M/\ML KB w' (fun q=>w.heap.size<=q/\q≠c) (some ⟨c,0,none⟩) c 0 M/\∀o,w'.frozen? ⟨c,o,none⟩=false))
theorem aad{g:be}{aL aH aN:Option Addr}{lo kL kH kN:Nat}{w:World}(_:xe w)(hd:g.size<=1048576)(H:rH w lo g aL aH aN kL kH kN):
 Cl 7 #[.agg (gV g aL aH aN kL kH kN)] w fun e w'=>fg g w e w':=by
 have bA:=dL.new w (.i g.inn) (.i g.rounds) (.l aL g.nl kL) (.l aH g.nh kH) (.l aN g.nn kN) (.i g.out) 35;have sA:=cV w (.o (gV g aL aH aN kL kH kN) 35);have zA:(w.alloc (.o (gV g aL aH aN kL kH kN) 35)).heap.size=w.heap.size+1:=by simp
 have bN:=ki.new (w.alloc (.o (gV g aL aH aN kL kH kN) 35)) (.n) 29;have sN:=(aF _ (w.alloc (.o (gV g aL aH aN kL kH kN) 35))).alloc zR (.o #[.n] 29);rw[zA] at bN;have A0:=bA.bH sN;have S0:=sA.tr sN;clear bA sA zA sN;go_enter func7,ntmps7;obtain⟨a0,a1,a2,a3,a4,a5⟩:=A0.g;go_wp2_with fail;generalize (w.alloc _).alloc _=wB at*;refine (aaw (aJ _) trivial hd (H.bH S0)).mono ?_;rintro e w1 ⟨⟨n,X,c,a,ad,cap,bD,rfl,hO,HI,-⟩,s1⟩;have S1:=S0.tr s1;have N1:=bN.bH s1;have A1:=A0.bH s1;clear a0 a1 a2 a3 a4 a5;by_cases hc:c=0;rotate_left
 . have n0:=N1.c0;have nf:=N1.f 0;have HO:=aR hO;clear hO HI;go_wp2;refine bO (mL rfl _ _ (w.heap.size+1) _ rfl (N1.gH (.n))) rfl ?_;exact⟨S1.setCell (a:=jj (w.heap.size+1) 0) (show w.heap.size<=w.heap.size+1 by omega) _,.inl ⟨n,X,c,a,HO.out,hc,rfl⟩⟩
 subst hc;have E:=iy.of hO;obtain⟨-,hn,hX⟩:=E.outc hO;subst hn;obtain⟨rfl,-⟩:=HI 0 om;have DI:Ints w1 (jp bD 0) bD 0 (g.nn+1) (fun j=>(vD g j:Int)):=fun j hj=>by
  have h1:=HI j hj;rw[hX j hj,ea g (show j<=g.nn by omega)] at h1;have d1:=(E.jS (i:=j) om).dok j om;have e1:ld g j j=((vD g j:Nat):Int):=by unfold vD;omega
  rw[e1] at h1;exact h1
 have hnn:=E.head.n;have HE:=aR E;clear hO HI hX E;obtain⟨a0,a1,a2,a3,a4,a5⟩:=A1.g;go_wp2_with fail;refine (aeQ g HE.out lo aL aH aN kL kH kN bD cap w1 (H.bH S1) DI).mono ?_;rintro e w2 ⟨bl,bu,rfl,lbl,lbu,hlu,L2,s2⟩;have e2:Eld w1 w2 g lo aL aH aN kL kH kN bD bl bu:=⟨s2,H.bH S1,DI,lbl,lbu⟩;have JC:=amR HE.out L2;clear a0 a1 a2 a3 a4 a5;go_wp2_with fail;refine JC.mono ?_;rintro e w3 ⟨rfl,s3⟩;clear JC;have e3:=e2.gr (T:=fun _=>False) (Gr.of s3) (fun _ h=>h.elim);have L3:=L2.bH s3;have S3:=S1.trans (sM e3.s S1.size);have N3:=N1.bH e3.s;by_cases h20:jw g<=20000;rotate_left
 . have hz:((jw g:Nat):Int)>20000:=om;have n0:=N3.c0;have nf:=N3.f 0;have H20:=aR h20;generalize jw g=z at hz;clear h20;go_wp2;refine bO (mL rfl _ _ (w.heap.size+1) _ rfl (N3.gH (.n))) rfl ?_;exact⟨S3.setCell (a:=jj (w.heap.size+1) 0) (show w.heap.size<=w.heap.size+1 by omega) _,.inr ⟨HE.out,.inl ⟨by have:=H20.out;omega,rfl⟩⟩⟩
 have H20:=aR h20;have hz:¬((jw g:Nat):Int)>20000:=om;have JN:=aok HE.out hd h20 L3 e3 hlu;have hln:=qt HE.out;have HL:=aR (rfl:jw g=jw g);have LM:=aR H.tV;generalize hG:jw g=z at hz;have HG:=aR hG;clear hG h20;go_wp2_with fail;refine JN.mono ?_;rintro e w4 ⟨c4,k4,rfl,hk4,M4,s4⟩;clear JN;have S4:=S1.tr s4;have N4:=N1.bH s4;have sz:∀t,t<=(bP g).length->(amap g t).2.2.1.length+(amap g t).2.2.2.length<=1048576:=fun t ht=>by rw[ee HE.out ht];have h1:=cb (L:=eS g) (n:=(bP g).length+1) (t:=t) om;have h2:mu (eS g) ((bP g).length+1)<=20000:=H20.out;omega
 have JO:=@akY c4 ((bP g).length+1) k4 ((List.range ((bP g).length+1)).map (amap g)) (fun _=>True) w4 qz om om (fun x hx=>by
  obtain⟨t,ht,rfl⟩:=dT.1 hx;exact sz t (by have:=dU.1 ht;omega)) (fun x hx=>by
  obtain⟨t,ht,rfl⟩:=dT.1 hx;exact aje HE.out hd LM.out (by have:=dU.1 ht;omega)) M4
 have hLL:((List.range ((bP g).length+1)).map (amap g)).length=(bP g).length+1:=by simp
 go_wp2_with fail;refine JO.mono ?_;rintro e w5 ⟨c5,k5,M,rfl,hk5,lc5,hM,hO,M5,f5,s5⟩;clear JO;rw[hLL] at hk5⊢;have S5:=S4.tr s5;have N5:=N4.bH s5;have z4:=S4.size;have n0:=N5.c0;have nf:=N5.f;have lN:=N4.lt;have g5:Gr (fun q=>q=w.heap.size+1) w5 (w5.setCell (jj (w.heap.size+1) 0) (.s c5 ((bP g).length+1) k5)):=Gr.put (T:=fun q=>q=w.heap.size+1) (Gr.refl _ _) (.inl rfl) 0 _;have M6:=M5.move KB.ok g5.size (fun hL=>g5.block _ (M5.lt KB.ok hL) om) (fun q hq h=>g5.block q hq om);have f6:∀o,(w5.setCell (jj (w.heap.size+1) 0) (.s c5 ((bP g).length+1) k5)).frozen? (jj c5 o)=false:=fun o=>by have h:=M5.lt KB.ok (by have:=congrArg List.length hM;rw[bS,hLL] at this;omega);exact (dK (w:=w5) (a:=jj c5 o) (g5.block _ h (show c5≠w.heap.size+1 by omega))).trans (f5 o)
 have HFIN:=aR (And.intro (M6.imp KB.ok (p':=fun q=>w.heap.size<=q/\q≠c5) (fun q _ h=>⟨om,h.2⟩)) (And.intro f6 (And.intro hO hM)));have BF:=aR (N5.gH (.s c5 ((bP g).length+1) k5));have SF:=aR (S5.setCell (a:=jj (w.heap.size+1) 0) (show w.heap.size<=w.heap.size+1 by omega) (.s c5 ((bP g).length+1) k5));clear M6 f6 hO hM M5 f5 g5 S5 N5;go_wp2;refine bO (mL rfl _ _ (w.heap.size+1) _ rfl BF.out) rfl ?_;obtain⟨h1,h2,h3,h4⟩:=HFIN.out;exact⟨SF.out,.inr ⟨HE.out,.inr ⟨H20.out,c5,k5,M,rfl,hk5,om,h4,h3,h1,h2⟩⟩⟩
theorem agI{a A:Option Addr}{n m c d k i j:Nat}{Q:List Rat}{w:World}(t:Q.length=j)(hn:j<=1048576)(v:∀q∈Q,Qb q 4194563)(H:ML KQ w (fun _=>True) a n m Q)(g:ML KQ w (fun _=>True) A d k Q):
 Cl 32 #[.slice a j c,.slice A j i] w fun e K=>e=.returned (.bool true)/\w.S K:=by
 have H:=H.qs;have g:=g.qs;have x:∀h,h<j->Qb (Q.getD h 0) 4194563:=fun h u=>v _ (by rw[fP,aK om,gI];exact jB _);rw[t] at H g;obtain⟨F,hF⟩:∃F:Nat->Rat,F=fun h=>Q.getD h 0:=⟨_,rfl⟩;have R:∀h,h<j->Qb (F h) 4194563:=fun h u=>by rw[hF];exact x h u
 rw[<-hF] at H g;clear x v t hF;go_enter func32,ntmps32;go_wp2;go_loopw [5] (fun h wr=>∃b:Nat,b<=j/\h=.i b/\w.S wr) (fun h _=>j-(intOf h).toNat)
 case atStart=>exact⟨0,aJ _,rfl,aF _ _⟩
 case round=>
  obtain⟨b,hk,rfl,s⟩:=hrel;by_cases l:b<j
  . obtain⟨rfl,af,ag,M⟩:=H b l;obtain⟨rfl,x',y',o⟩:=g b l;have z:=M.R.read;have Z:=o.R.read;obtain⟨B,U,G,D,S,N,-,-,-,-,-,-,p,-⟩:=M.R;obtain⟨C,V,I,E,T,O,-,-,-,-,-,-,r,-⟩:=o.R;simp only[ag3,fM] at p r;obtain⟨rfl,rfl⟩:=p;obtain⟨rfl,rfl⟩:=r;have P:=ue wr;have L:=s.tr P;have X:=(M.bH s).c0;have ah:=(M.bH s).c1;have g2:=(M.bH s).c2;have Y:=(o.bH s).c0;have aa:=(o.bH s).c1;have ab:=(o.bH s).c2;have hz:(b:Int)<j:=om;have y:=amN (R b l) qd (z.bH L) (Z.bH L);go_wp2_with fail
    go_region_held3 (fun K=>K.cell? (jj n (m+b*3))=some (.bool (qn (F b)))/\K.cell? (jj n (m+b*3+1))=some (.l B U G)/\K.cell? (jj n (m+b*3+2))=some (.l D S N)/\K.cell? (jj d (k+b*3))=some (.bool (qn (F b)))/\K.cell? (jj d (k+b*3+1))=some (.l C V I)/\K.cell? (jj d (k+b*3+2))=some (.l E T O)) (go_keep)
     (first
       | (go_at_call 72;(with_reducible refine y.mono ?_);rintro e w1 ⟨rfl,W⟩;have f:=L.tr W;have i0:=(M.bH f).c0;have i1:=(M.bH f).c1;have i2:=(M.bH f).c2;have ac:=(o.bH f).c0;have ad:=(o.bH f).c1;have ae:=(o.bH f).c2))
    all_goals go_wp2
    all_goals go_roundw
    case rel=>exact⟨b+1,om,by go_num,f⟩
    case measure=>exact yI
  . go_wp2;go_ret;exact⟨rfl,s⟩
def AfB(x:Nat×Nat×List Rat×List Rat):Prop:=x.2.2.1.length+x.2.2.2.length<=1048576/\∀q,q∈x.2.2.1∨q∈x.2.2.2->Qb q 4194563
theorem ail{z y:Int}{s r:List Rat}{n m c d k i j l o b:Nat}{w:World}(I:s.length=c)(H:r.length=d)(N:c+d<=1048576)(B:∀q,q∈s∨q∈r->Qb q 4194563)(C:ML KQ w (fun _=>True) (jp n 0) n 0 s)(D:ML KQ w (fun _=>True) (jp k 0) k 0 r)(E:ML KQ w (fun _=>True) (jp j 0) j 0 s)(F:ML KQ w (fun _=>True) (jp o 0) o 0 r):
 Cl 71 #[.agg #[.i z,.i y,.s n c m,.s k d i],.agg #[.i z,.i y,.s j c l,.s o d b]] w fun e L=>e=.returned (.bool true)/\w.S L:=by
 obtain⟨a,f⟩:∃a:World,a=(w.alloc (.o #[.i z,.i y,.s n c m,.s k d i] 58)).alloc (.o #[.i z,.i y,.s j c l,.s o d b] 58):=⟨_,rfl⟩;have v:w.S a:=by rw[f];exact (cV _ _).alloc qz _
 have p:fZ a w.heap.size (.i z) (.i y) (.s n c m) (.s k d i):=by rw[f];exact (fZ.new w _ _ _ _ _).bH (cV _ _)
 have A:fZ a (w.heap.size+1) (.i z) (.i y) (.s j c l) (.s o d b):=by rw[f];have:=fZ.new (w.alloc (.o #[.i z,.i y,.s n c m,.s k d i] 58)) (.i z) (.i y) (.s j c l) (.s o d b) 58;simpa using this
 have g:=@agI (jp n 0) (jp j 0) n 0 m j 0 l c s a I om (fun q h=>B q (.inl h)) (C.bH KQ.ok v) (E.bH KQ.ok v);have x:=aR f;clear f;go_enter func71,ntmps71;go_wp2_with fail;rw[<-x.out];refine g.mono ?_;rintro e M ⟨rfl,u⟩;have t:=v.tr u;have G:=@agI (jp k 0) (jp o 0) k 0 i o 0 b d r M H om (fun q h=>B q (.inr h)) (D.bH KQ.ok t) (F.bH KQ.ok t);have O:=(p.bH u).c3;have P:=(A.bH u).c3;clear g x p A;go_wp2_with fail;refine G.mono ?_;rintro e Q ⟨rfl,K⟩;go_wp2;go_ret;exact⟨rfl,t.tr K⟩
theorem agK{a A:Option Addr}{n m c d k:Nat}{L:List (Nat×Nat×List Rat×List Rat)}{w:World}(W:L.length=k)(hn:k<=1048576)(hs:∀x∈L,AfB x)(H:ML KA w (fun _=>True) a n 0 L)(N:ML KA w (fun _=>True) A c 0 L):
 Cl 31 #[.slice a k m,.slice A k d] w fun ar e=>ar=.returned (.bool true)/\w.S e:=by
 have O:=aR W;clear W;go_enter func31,ntmps31;go_wp2;go_loopw [5] (fun i wr=>∃b:Nat,b<=k/\i=.i b/\w.S wr) (fun i _=>k-(intOf i).toNat)
 case atStart=>exact⟨0,aJ _,rfl,aF _ _⟩
 case round=>
  obtain⟨b,hk,rfl,s⟩:=hrel;by_cases aa:b<k
  . have l:L[b]?=some (L[b]'(by rw[O.out];exact aa)):=aK _;generalize L[b]'(by rw[O.out];exact aa)=x at l;have ea:=(H b x l).1;have ag:=(N b x l).1;subst ea ag;have hb:=hs x (cO l);obtain⟨K,M,xW,xB⟩:=x;have p:w.S wr.drew:=⟨s.os,s.tape,s.output,s.size,s.block⟩;obtain⟨S,kw,Q,kb,q,E,t,z,X,U⟩:=H.affs l;obtain⟨T,ac,R,ab,r,F,u,Z,Y,V⟩:=N.affs l;have lb:=aG _ _ q;have ad:=aG _ _ r;simp only at q E t z r F u Z X U Y V lb ad;obtain⟨B,aq⟩:=hb;simp only at B aq;obtain⟨I,D⟩:∃y,xW.length=y:=⟨_,rfl⟩;obtain⟨G,C⟩:∃y,xB.length=y:=⟨_,rfl⟩;rw[D] at t u B;rw[C] at z Z B;have g:∀ {P:World},w.S P->∀ {o:Nat} {v:Value},w.cell? (jj n o)=some v->P.cell? (jj n o)=some v:=fun {P} sq {o} {v} h=>(sq.cell (a:=jj n o) lb).trans h;have j:∀ {P:World},w.S P->∀ {o:Nat} {v:Value},w.cell? (jj c o)=some v->P.cell? (jj c o)=some v:=fun {P} sq {o} {v} h=>(sq.cell (a:=jj c o) ad).trans h;have J1:=@ail K M xW xB S kw I G Q kb T ac R ab wr.drew D C B aq (X.bH KQ.ok p) (U.bH KQ.ok p) (Y.bH KQ.ok p) (V.bH KQ.ok p);have g0:=g s q;have g1:=g s E;have g2:=g s t;have g3:=g s z;have ah:=j s r;have ai:=j s F;have aj:=j s u;have ak:=j s Z;have hz:(b:Int)<k:=om;clear D C l;go_wp2_with fail
    go_region_held3 (fun e=>e.cell? (jj n (b*4))=some (.i (K:Int))/\e.cell? (jj n (b*4+1))=some (.i (M:Int))/\e.cell? (jj n (b*4+2))=some (.s S I kw)/\e.cell? (jj n (b*4+3))=some (.s Q G kb)/\
     e.cell? (jj c (b*4))=some (.i (K:Int))/\e.cell? (jj c (b*4+1))=some (.i (M:Int))/\e.cell? (jj c (b*4+2))=some (.s T I ac)/\e.cell? (jj c (b*4+3))=some (.s R G ab)) (go_keep)
     (first
       | (go_at_call 71;(with_reducible refine J1.mono ?_);rintro ar w1 ⟨rfl,s1⟩;have f:=p.tr s1;have i0:=g f q;have i1:=g f E;have i2:=g f t;have i3:=g f z;have al:=j f r;have am:=j f F;have an:=j f u;have ao:=j f Z))
    all_goals go_wp2
    all_goals go_roundw
    case rel=>exact⟨b+1,om,by go_num,f⟩
    case measure=>exact yI
  . go_wp2;go_ret;exact⟨rfl,s⟩
theorem eQ{a A:Option Addr}{n m c d k:Nat}{L:List (Nat×Nat×List Rat×List Rat)}{w:World}(i:L.length=k)(l:k<=1048576)(f:∀x∈L,AfB x)(H:ML KA w (fun _=>True) a n 0 L)(j:ML KA w (fun _=>True) A c 0 L):
 Cl 8 #[.agg #[.slice a k m],.agg #[.slice A k d]] w fun e p=>e=.returned (.bool true)/\w.S p:=by
 have g:w.S ((w.alloc (.o #[.l a k m] 29)).alloc (.o #[.l A k d] 29)):=(cV _ _).alloc qz _;have b:=@agK a A n m c d k L _ i l f (H.bH KA.ok g) (j.bH KA.ok g);clear i;go_enter func8,ntmps8;go_wp2_with fail;refine b.mono ?_;rintro e q ⟨rfl,o⟩;go_wp2;go_ret;exact⟨rfl,g.tr o⟩
def an(g:be)(L:List (Nat×Nat×List Rat×List Rat))(c:Int):Prop:=
 (∃n X a,al g n X c a/\c≠0/\L=[])∨iy g/\(20000<jw g/\L=[]/\c=17∨jw g<=20000/\L=(List.range ((bP g).length+1)).map (amap g)/\c=0)
theorem an.only{L g:List (Nat×Nat×List Rat×List Rat)}{c:Int}(h:an G L c)(b:an G g z):g=L/\z=c:=by
 rcases h with ⟨n,X,a,f,l,rfl⟩ | ⟨E,h⟩
 . rcases b with ⟨m,j,k,d,i,rfl⟩ | ⟨e,b⟩
   . exact⟨rfl,(f.only d).2.1⟩
   . exact absurd (e.outc f).1 l
 . rcases b with ⟨m,j,k,d,i,rfl⟩ | ⟨e,b⟩
   . exact absurd (E.outc d).1 i
   . rcases h with ⟨h,rfl,rfl⟩ | ⟨h,rfl,rfl⟩<;>rcases b with ⟨b,rfl,rfl⟩ | ⟨b,rfl,rfl⟩
     . exact⟨rfl,rfl⟩
     . omega
     . omega
     . exact⟨rfl,rfl⟩
theorem aht(L:List Nat)(h:n<=m):mu L n<=mu L m:=by
 induction h with
 | refl=>exact aC _
 | step h ih=>rw[mu];omega
theorem an.len{L:List (Nat×Nat×List Rat×List Rat)}(h:an G L z):L.length<=1000001:=by
 rcases h with ⟨n,X,a,b,d,rfl⟩ | ⟨E,⟨h,rfl,rfl⟩ | ⟨h,rfl,rfl⟩⟩
 . simp
 . simp
 . have:=qt E;have:=E.head.n;simp;omega
theorem an.afb{L:List (Nat×Nat×List Rat×List Rat)}(h:an G L z)(j:G.size<=1048576)(hl:∀k,k<G.nn->∀z,z<(G.N k).nv->((G.N k).V z).lim):∀x∈L,AfB x:=fun x b=>by
 rcases h with ⟨n,X,a,e,f,rfl⟩ | ⟨E,⟨h,rfl,rfl⟩ | ⟨h,rfl,rfl⟩⟩
 . simp at b
 . simp at b
 . obtain⟨t,i,rfl⟩:=dT.1 b
   have d:t<=(bP G).length:=by have:=dU.1 i;omega
   refine⟨?_,aje E j hl d⟩;rw[ee E d];have e:=cb (L:=eS G) (n:=(bP G).length+1) (t:=t) om;have f:mu (eS G) ((bP G).length+1)<=20000:=h;omega
theorem an.ps{L:List (Nat×Nat×List Rat×List Rat)}(h:an G L z){M:List ((Nat×Nat×List Rat×List Rat)×OwD)}(j:M.map Prod.fst=L):∀i,i<=L.length->psN (zM M) i<=16777216:=fun i b=>by
 rcases h with ⟨n,X,a,d,f,rfl⟩ | ⟨E,⟨h,rfl,rfl⟩ | ⟨h,rfl,rfl⟩⟩
 . have:i=0:=by simpa using b
   subst this;exact aJ _
 . have:i=0:=by simpa using b
   subst this;exact aJ _
 . rw[bS,cT] at b
   have e:∀i,i<=(bP G).length+1->psN (zM M) i=mu (eS G) i:=fun i b=>by
    induction i with
    | zero=>rfl
    | succ i ih=>
      rw[psN,mu,ih om,<-ee E (t:=i) om];have d:(M.map Prod.fst)[i]?=some (amap G i):=by rw[j,cY,fK om];rfl
      rw[cY] at d;obtain⟨y,k,l⟩:=eE.1 d;unfold zM;rw[k,<-l]
      rfl
   rw[e i b];have d:=aht (eS G) b;have f:mu (eS G) ((bP G).length+1)<=20000:=h;omega
theorem ff.as{e:Ending}(h:ff G w e v):∃L c a b k,an G L c/\e=.returned (.tuple #[.agg #[.slice a L.length k],.i c])/\ML KA v (fun _=>True) a b 0 L/\w.S v:=by
 obtain⟨s,⟨n,X,c,a,d,f,rfl⟩ | ⟨E,⟨h,rfl⟩ | ⟨h,c,k,rfl,-,-,M⟩⟩⟩:=h
 . exact⟨[],c,none,0,0,.inl ⟨n,X,a,d,f,rfl⟩,rfl,ML.nil _ _ _ _ _,s⟩
 . exact⟨[],17,none,0,0,.inr ⟨E,.inl ⟨h,rfl,rfl⟩⟩,rfl,ML.nil _ _ _ _ _,s⟩
 . exact⟨_,0,jp c 0,c,k,.inr ⟨E,.inr ⟨h,rfl,rfl⟩⟩,by rw[bS,cT],M.imp KA.ok (fun _ _ _=>trivial),s⟩
structure aa(w:World)(lo:Nat)(a:Option Addr)(b:Nat)(L:List (Nat×Nat×List Rat×List Rat))(M:List ((Nat×Nat×List Rat×List Rat)×OwD)):Prop where
 m:M.map Prod.fst=L
 k:ML KB w (fun q=>lo<=q/\q≠b) a b 0 M
 o:ag M
 a0:0<M.length->a=some ⟨b,0,none⟩/\lo<=b
 f:0<M.length->∀o,w.frozen? ⟨b,o,none⟩=false
theorem fg.as{e:Ending}(h:fg G w e v):∃L c a b k M,an G L c/\e=.returned (.tuple #[.agg #[.slice a L.length k],.i c])/\aa v w.heap.size a b L M/\w.S v:=by
 obtain⟨s,⟨n,X,c,a,d,f,rfl⟩ | ⟨E,⟨h,rfl⟩ | ⟨h,c,k,M,rfl,-,d,f,i,j,l⟩⟩⟩:=h
 . exact⟨[],c,none,0,0,[],.inl ⟨n,X,a,d,f,rfl⟩,rfl,⟨rfl,ML.nil _ _ _ _ _,ag.nil,fun h=>absurd h qz,fun h=>absurd h qz⟩,s⟩
 . exact⟨[],17,none,0,0,[],.inr ⟨E,.inl ⟨h,rfl,rfl⟩⟩,rfl,⟨rfl,ML.nil _ _ _ _ _,ag.nil,fun h=>absurd h qz,fun h=>absurd h qz⟩,s⟩
 . exact⟨_,0,jp c 0,c,k,M,.inr ⟨E,.inr ⟨h,rfl,rfl⟩⟩,by rw[bS,cT],⟨f,j,i,fun _=>⟨rfl,d⟩,fun _=>l⟩,s⟩
section
variable{w w':World}{lo:Nat}{a:Option Addr}{b:Nat}{L:List (Nat×Nat×List Rat×List Rat)}{M:List ((Nat×Nat×List Rat×List Rat)×OwD)}
theorem aa.ka(h:aa w lo a b L M):ML KA w (fun _=>True) a b 0 L:=by
 have:=KB.ml h.k;rw[h.m] at this;exact this.imp KA.ok (fun _ _ _=>trivial)
theorem aa.bH(h:aa w lo a b L M)(s:w.S w'):aa w' lo a b L M:=
 ⟨h.m,h.k.bH KB.ok s,h.o,h.a0,fun c o=>(s.frozen (a:=jj b o) (h.k.lt KB.ok c)).trans (h.f c o)⟩
theorem aa.fra(h:aa w lo a b L M)(F:tc w w' P)(d:∀q,lo<=q->¬P q):aa w' lo a b L M:=
 ⟨h.m,h.k.move KB.ok (Nat.le_of_eq F.size.symm) (fun c=>F.other _ (d _ (h.a0 c).2)) (fun _ _ e=>F.other _ (d _ e.1)),h.o,h.a0,fun c o=>(F.frozen _ _).trans (h.f c o)⟩
theorem aa.len(h:aa w lo a b L M):M.length=L.length:=by rw[<-h.m,bS]
theorem aa.q(h:aa w lo a b L M)(d:∀x∈L,AfB x):bo w a b L.length (PM M) (zM M):=by
 rw[<-h.len];exact KB.netQ h.k (fun c=>(h.a0 c).1) h.o h.f (fun x e=>(d x.1 (by rw[<-h.m];exact List.mem_map_of_mem e)).1)
theorem aa.set(h:aa w lo a b L M){q:Nat}(f:wJ b L.length (PM M) q):lo<=q/\q<w.heap.size:=by
 rw[<-h.len] at f;obtain⟨c,rfl | ⟨i,l,x,j,g,d⟩⟩:=f
 . exact⟨(h.a0 c).2,h.k.lt KB.ok c⟩
 . obtain⟨-,k,e,-⟩:=h.k i x j;exact⟨(e.2.2.2.1 q g d).1,aS d e.2.2.2.2.1⟩
end
theorem ajU{G:be}{a A B:Option Addr}{n m c d:Nat}{w:World}(k:G.size<=1048576)(H:rH w n G a A B m c d):
 Cl 3 #[.agg (gV G a A B m c d)] w fun e i=>e=.returned (.bool true)/\w.S i:=by
 have sA:=cV w (.o (gV G a A B m c d) 25);have bA:=dL.new w (.i G.inn) (.i G.rounds) (.l a G.nl m) (.l A G.nh c) (.l B G.nn d) (.i G.out) 25;have V:=@abP G a A B n m c d 1048576 _ om (H.bH sA);rw[ut k] at V;have hl:¬(((1048576-G.size:Nat):Int)<0):=om;have b7:=aR H.tV;go_enter func3,ntmps3;go_wp2_with fail;generalize w.alloc _=wA at*;refine V.mono ?_;rintro e w0 ⟨rfl,s0⟩;have S0:=sA.tr s0;have T:=bA.bH s0;obtain⟨l,t,o,p,q,r⟩:=T.g;clear bA V;go_wp2_with fail;refine (uj k (H.bH S0)).mono ?_;rintro e w2 ⟨y1,y2,y3,rfl,-,H2,s2⟩;have S2:=S0.tr s2;have B2:=T.bH s2;clear l t o p q r T hl;go_wp2_with fail;refine (adD k H2).mono ?_;rintro e S R3;obtain⟨bh,cr,u,o3,C,z,rfl,bj,a1⟩:=R3.as;have bs:=z.len;have M:=aR (z.afb k b7.out);have bu:=aR (fun (bi:List ((Nat×Nat×List Rat×List Rat)×OwD))=>z.ps (M:=bi));obtain⟨g,hn⟩:∃g,bh.length=g:=⟨_,rfl⟩;rw[hn] at bs⊢;have j:=aR hn;clear hn R3;have bp:=S2.tr a1;have t3:=cV S (.o #[.l u g C] 29);have I:=ki.new S (.l u g C) 29;have a3:=(B2.bH a1).bH t3;obtain⟨l,t,o,p,q,r⟩:=a3.g;clear B2 H2;go_wp2_with fail;have Z:w.S (S.alloc (.o #[.l u g C] 29)):=bp.tr t3;have Y:=bj.bH KA.ok t3;have l3:=I.lt;generalize S.alloc _=R at*;refine (uj k (H.bH Z)).mono ?_;rintro e b ⟨E,F,U,rfl,U4,H4,s4⟩;have t4:=cV b (.o #[.i G.inn,.i G.rounds,.s E G.nl G.nl,.s F G.nh G.nh,.s U G.nn G.nn,.i G.out] 35);have a8:=dL.new b (.i G.inn) (.i G.rounds) (.s E G.nl G.nl) (.s F G.nh G.nh) (.s U G.nn G.nn) (.i G.out) 35;clear l t o p q r;go_wp2_with fail;have p5:R.S (b.alloc (.o #[.i G.inn,.i G.rounds,.s E G.nl G.nl,.s F G.nh G.nh,.s U G.nn G.nn,.i G.out] 35)):=s4.tr t4;have b2:=H4.bH t4;have U5:=U4.bH t4;have z5:=a8.lt;have z4:=s4.size;generalize b.alloc _=w5 at*;have S5:=Z.tr p5;refine (aad trivial k b2).mono ?_;rintro e y R6;obtain⟨L',c',f,o6,s,X,P6,rfl,am,a2⟩:=R6.as;obtain⟨rfl,rfl⟩:=z.only P6;rw[j.out];have t6:=cV y (.o #[.l f g s] 29);have G6:=ki.new y (.l f g s) 29;have l6:=G6.lt;have x:w5.S (y.alloc (.o #[.l f g s] 29)):=a2.tr t6;have ao:=am.bH t6;have av:=aR (fun (ac:Nat)=>am.set (q:=ac));have cx:=a2.size;have P:R.S (y.alloc (.o #[.l f g s] 29)):=p5.tr x;have E6:=I.bH P;have e6:=E6.c0;clear R6 P6;go_wp2_with fail;generalize y.alloc _=w6 at*;have S6:=S5.tr x;have b0:=a8.bH x;have H6:=b2.bH x;have U6:=U5.bH x;have a6:=a3.bH P;have z6:=x.size;clear a8 H4 b2 U4 U5 e6;refine (eQ j.out om M.out ao.ka (Y.bH KA.ok P)).mono ?_;rintro e w7 ⟨rfl,s7⟩;have B7:=a6.bH s7;have D7:=b0.bH s7;obtain⟨l,t,o,p,q,r⟩:=B7.g;obtain⟨c0,c1,c2,c3,c4,c5⟩:=D7.g;go_wp2_with fail;have dr:=ue w7;have q9:=s7.tr dr;have S9:=S6.tr q9;have J2:=uj k (H.bH S9)
 go_region_held3 (fun i=>i.cell? (jj w.heap.size 0)=some (.i G.inn)/\i.cell? (jj w.heap.size 1)=some (.i G.rounds)/\i.cell? (jj w.heap.size 2)=some (.l a G.nl m)/\i.cell? (jj w.heap.size 3)=some (.l A G.nh c)/\i.cell? (jj w.heap.size 4)=some (.l B G.nn d)/\i.cell? (jj w.heap.size 5)=some (.i G.out)/\i.cell? (jj b.heap.size 0)=some (.i G.inn)/\i.cell? (jj b.heap.size 1)=some (.i G.rounds)/\i.cell? (jj b.heap.size 2)=some (.s E G.nl G.nl)/\i.cell? (jj b.heap.size 3)=some (.s F G.nh G.nh)/\i.cell? (jj b.heap.size 4)=some (.s U G.nn G.nn)/\i.cell? (jj b.heap.size 5)=some (.i G.out)) (go_keep)
  (first
    | (go_at_call 6;(with_reducible refine J2.mono ?_);rintro e ck ⟨z1,z2,z3,rfl,-,bf,ce⟩;have Q:=q9.tr ce;have J3:=@afl G _ _ _ _ _ _ _ _ _ _ _ _ _ _ ck om (H6.bH Q) bf;have ag:=a6.bH Q;have ah:=b0.bH Q;obtain⟨i0,i1,i2,i3,i4,i5⟩:=ag.g;obtain⟨j0,j1,j2,j3,j4,j5⟩:=ah.g;clear ag ah)
    | (go_at_call 9;(with_reducible refine J3.mono ?_);rintro e a5 ⟨rfl,cf⟩;have D:=Q.tr cf;have a9:=a6.bH D;have bb:=b0.bH D;obtain⟨i0,i1,i2,i3,i4,i5⟩:=a9.g;obtain⟨j0,j1,j2,j3,j4,j5⟩:=bb.g;skip))
 all_goals clear l t o p q r c0 c1 c2 c3 c4 c5 i0 i1 i2 i3 i4 i5 j0 j1 j2 j3 j4 j5 J2 J3
 all_goals go_wp2_with fail
 have bw:b.heap.size<=a5.heap.size:=by have:=D.size;omega
 refine (@adK R.heap.size b.heap.size E F U G.nl G.nh G.nn 1 G a5 k om bw (U6.bH D)).mono ?_;rintro e cl ⟨b9,rfl,cs,ct,cg,b1⟩;have ad:=D.tr cg;have ca:=P.tr ad;have aa:=ca.trans (b1.since (fun b8 h=>h.1));have an:=(ao.bH ad).fra b1 (fun ac h1 h2=>by have:ac<b.heap.size:=h2.2;omega);have aj:=(G6.bH ad).nI (b1.other _ (fun h2=>by have:y.heap.size<b.heap.size:=h2.2;omega));have bc:=I.bH aa;have J4:=@eQ f u o6 s o3 C g L' cl j.out om M.out an.ka (Y.bH KA.ok aa);have bz:¬((b9:Int)<0):=om;have v:=aj.c0;have e0:=bc.c0;clear i0 i1 i2 i3 i4 i5 j0 j1 j2 j3 j4 j5;go_wp2_with fail;refine J4.mono ?_;rintro e cm ⟨rfl,ae⟩;have aw:=aa.tr ae;have K:=an.bH ae;have ak:=aj.bH ae;clear J4 bz v e0;have v:=ak.c0;have JM:=@ajR f o6 g s 1 (PM X) (zM X) cm om om (by rw[<-j.out];exact bu.out _ K.m) (by rw[<-j.out];exact K.q M.out);go_wp2_with fail;refine JM.mono ?_;rintro e cn ⟨al,bq,N,rfl,cu,ay,ai,bm⟩;clear JM v;have cw:=aw.size;have cc:=aw.tr ay;have cb:=cc.trans (ai.since (fun b8 h=>by have:=(av.out _ (by rw[j.out];exact h)).1;omega));have bd:=(ak.bH ay).nI (ai.other _ (fun h=>by have:=(av.out _ (by rw[j.out];exact h)).2;omega));have br:=N g zR;have v:=bd.c0;have W:=@akj f o6 g s 1 (PM X) al cn om bq (fun h=>(K.a0 (by rw[K.len,j.out];exact h)).1) N bm;have cq:=aR N;clear N;obtain⟨kn,au⟩:∃cp,al g=cp:=⟨_,rfl⟩;rw[au] at W br⊢;clear au;go_wp2_with fail;refine W.mono ?_;rintro e co ⟨rfl,ch⟩;clear W v;have ab:=cb.tr ch;have ar:=Z.tr ab;have ba:=a3.bH ab;obtain⟨l,t,o,p,q,r⟩:=ba.g;have b6:¬((kn:Int)<0):=om;go_wp2_with fail;refine (@uj G a A B n m c d co k (H.bH ar)).mono ?_;rintro e a7 ⟨v1,v2,v3,rfl,-,bg,az⟩;have bn:=ar.tr az;have cd:=ab.tr az;clear l t o p q r b6;go_wp2_with fail;refine (@aad G _ _ _ _ _ _ _ a7 trivial k bg).mono ?_;rintro e af aq;obtain⟨L8,c8,L,o8,O,M8,P8,rfl,N8,ci⟩:=aq.as;obtain⟨rfl,rfl⟩:=z.only P8;rw[j.out];have a4:=cV af (.o #[.l L g O] 29);have a0:a7.S (af.alloc (.o #[.l L g O] 29)):=ci.tr a4;have ax:R.S (af.alloc (.o #[.l L g O] 29)):=cd.tr a0;have bo:=bn.tr a0;have e8:=(I.bH ax).c0;have JE:=@eQ L u o8 O o3 C g L8 _ j.out om M.out (N8.bH a4).ka (Y.bH KA.ok ax);clear aq;go_wp2_with fail;refine JE.mono ?_;rintro e cv ⟨rfl,cj⟩;go_wp2;go_ret;exact⟨rfl,bo.tr cj⟩
theorem ahG{G:be}{a A B:Option Addr}{n m c d:Nat}{w:World}(k:1048576<G.size)(H:rH w n G a A B m c d):
 Cl 3 #[.agg (gV G a A B m c d)] w fun e b=>e=.returned (.bool true)/\w.S b:=by
 have j:=cV w (.o (gV G a A B m c d) 25);have i:=@abP G a A B n m c d 1048576 _ om (H.bH j);rw[ph k] at i;go_enter func3,ntmps3;go_wp2_with fail;refine i.mono ?_;rintro e f ⟨rfl,l⟩;go_wp2;go_ret;exact⟨rfl,j.tr l⟩
end Go.Proofs.YtaeieekkddndhaaGreat
