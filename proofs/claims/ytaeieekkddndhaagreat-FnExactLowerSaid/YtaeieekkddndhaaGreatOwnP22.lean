import Derived.Deep.AppendLies
import Derived.Test.YtaeieekkddndhaaGreatOwnP21
set_option maxHeartbeats 6400000
set_option maxRecDepth 100000
namespace Go.Proofs.YtaeieekkddndhaaGreat
open Tryz Go.RowKit
variable{w v W V:World}{n m c d k i j l o b p q t r s g h e:Nat}{a A B:Option Addr}{u U:Value}{z y:Int}{G:be}{P:Nat->Prop}{Q:Rat}{R:jd}
theorem fJ.blocks{w w':World}(h:fJ w P u Q)(hb:∀g,g<w.heap.size->P g->w'.heap[g]?=w.heap[g]?):fJ w' P u Q:=by
 obtain⟨a,n,s,b,m,t,d,f,e,i,X,Y,p,R,x,y,k,l⟩:=h;have o:bE w' a d f n X:=fun j c=>⟨(R.LX j c).1,(aO (w:=w) (a:=jj d (f+j)) (hb d (R.LX.lt om) (k om))).trans (R.LX j c).2⟩;have r:bE w' b e i m Y:=fun j c=>⟨(R.LY j c).1,(aO (w:=w) (a:=jj e (i+j)) (hb e (R.LY.lt om) (l om))).trans (R.LY j c).2⟩;exact⟨a,n,s,b,m,t,d,f,e,i,X,Y,p,⟨R.nc,R.mc,R.ac,R.bc,o,r,R.lX,R.lY,R.pX,R.pY,R.m0⟩,x,y,k,l⟩
theorem new3(w:World)(u U z:Value)(t:TypeId):∀j b,([u,U,z]:List Value)[j]?=some b->(w.alloc (.cells #[u,U,z] t)).cell? (((jj w.heap.size 0):Addr).add j)=some b:=fun j b a=>by
 rw[Go.WideShapes.add_plain,aZ]
 rcases j with _ | _ | _ | j
 . simp at a;subst a;simp[go_sem]
 . simp at a;subst a;simp[go_sem]
 . simp at a;subst a;simp[go_sem]
 . simp at a
theorem aoj(f:Bool)(a A:Option Addr)(n m c d:Nat):∀u∈([.bool f,.slice a n m,.slice A c d]:List Value),u.oneCell'=true:=by
 intro u e;simp at e;rcases e with rfl | rfl | rfl<;>rfl
theorem eM:∃i,Tryz.prog.info? 83=some i/\i.zero=some (.agg #[.bool false,.n,.n])/\i.size=3/\i.bytes=56:=by
 obtain⟨i,a,h⟩:=eE.1 ck;simp only[Prod.mk.injEq] at h;exact⟨i,a,h.1,h.2.1,h.2.2⟩
theorem dQ.blocks{w w':World}{Q:Nat->Rat}(h:dQ w P a n m c Q)(b:0<c->w'.heap[n]?=w.heap[n]?)(hb:∀g,g<w.heap.size->P g->w'.heap[g]?=w.heap[g]?):dQ w' P a n m c Q:=fun i f=>by
 obtain⟨d,x,y,C⟩:=h i f;have e:=b om;exact⟨d,x,y,(aO (w:=w) (a:=jj n (m+i*3)) e).trans C.c0,(aO (w:=w) (a:=jj n (m+i*3+1)) e).trans C.c1,(aO (w:=w) (a:=jj n (m+i*3+2)) e).trans C.c2,C.R.blocks hb⟩
theorem dQ.lt{Q:Nat->Rat}(h:dQ w P a n m c Q)(b:0<c):n<w.heap.size:=by
 obtain⟨-,x,y,C⟩:=h 0 b;exact C.lt
theorem al4:∃i,Tryz.prog.info? 32=some i/\i.zero=some (.n)/\i.size=1/\i.bytes=24:=by
 have h:(Tryz.prog.info? 32).map (fun i=>(i.zero,i.size,i.bytes))=some (some (.n),1,24):=by kernel_rfl
 obtain⟨i,a,h⟩:=eE.1 h;simp only[Prod.mk.injEq] at h;exact⟨i,a,h.1,h.2.1,h.2.2⟩
theorem aoc(G:be)(X:Nat->Rat)(h:m<=n):a7 G X n m=a7 G X m m:=by
 induction n with
 | zero=>have:m=0:=om
         subst this;rfl
 | succ n ih=>
   by_cases e:m=n+1
   . subst e;rfl
   . rw[ak6 G X om];exact ih om
theorem ea(G:be)(h:m<=n):ld G n m=ld G m m:=by
 induction n with
 | zero=>have:m=0:=om
         subst this;rfl
 | succ n ih=>
   by_cases e:m=n+1
   . subst e;rfl
   . rw[ve G om];exact ih om
theorem eg(c:R.ok=true)(l:R.lim)(h:R.n+R.m<n):Qb R.q n:=by
 obtain⟨a,b⟩:=aiH c l;refine⟨aS (Nat.lt_of_succ_le a) (dP qd (show R.n<=n by omega)),dD b (Nat.pow_lt_pow_right qd (show R.m<n by omega))⟩
theorem cx(a:R.ok=true)(l:R.lim)(h:R.n+R.m<=1048576):Qb R.q 1048577:=eg a l om
theorem ajG{q:Rat}(d:Qb Q n)(f:Qb q m)(M:2*n+2*m<=16777216)(R:mH w u Q)(c:mH w U q):
 Cl 56 #[u,U] w fun e p=>e=.returned (.i (aD Q q))/\w.S p:=by
 obtain⟨a,k,B,b,g,D,x,H,z,K,X,Y,rfl,R,h,i⟩:=R;obtain⟨t,G,C,l,F,E,y,I,A,L,r,s,rfl,c,j,o⟩:=c;have N:=gc R.pX (by rw[h];exact d.1);have O:=gc R.pY (by rw[i];exact d.2);have P:=gc c.pX (by rw[j];exact f.1);have v:=gc c.pY (by rw[o];exact f.2);have J:=@afV (qn Q) (qn q) a b t l x H k B z K g D y I G C A L F E X Y r s w om R c;rw[h,i,j,o,ans] at J;exact J
structure aB(w:World)(base:Nat)(v:Value)(k:Nat)(X:Nat->Int)(xs:List Value):Prop where
 own:w.ownsRow base 3 1 v k xs
 at_:∀i,i<k->xs[i]?=some (.int .i64 (X i))
theorem aB.bH{w w':World}{X:Nat->Int}{b:List Value}(h:aB w n u k X b)(s:w.S w'):aB w' n u k X b:=
 ⟨h.own.kept (row:=none) ⟨s.os,s.tape,s.output,s.size,fun k a _=>s.block k a⟩ (uE _),h.at_⟩
theorem aB.snoc{X:Nat->Int}{a:List Value}(hl:a.length=m)(c:∀i,i<m->a[i]?=some (.i (X i)))(own:w.ownsRow n 3 1 u (m+1) (a++[.i z]))(d:X m=z):aB w n u (m+1) X (a++[.i z]):=by
 refine⟨own,fun i f=> ?_⟩;by_cases e:i=m
 . subst e;rw[bK om,hl,d];simp
 . rw[bJ om];exact c i om
theorem aB.len{X:Nat->Int}{a:List Value}(h:aB w n u k X a):a.length=k:=by have:=h.own.1;omega
theorem aB.ints{X:Nat->Int}{e:List Value}(h:aB w n (.s c m d) m X e):Ints w (jp c 0) c 0 m X:=fun j f=>by
 have b:= @World.ownsRow.cells _ _ _ _ _ _ _ h.own;have a:=b (g:=c) rfl _ _ (h.at_ j f);rw[Go.WideShapes.add_plain] at a;exact⟨rfl,a⟩
theorem eN:∃i,Tryz.prog.info? 3=some i/\i.zero=some (.i 0)/\i.size=1/\i.bytes=8:=by
 have h:(Tryz.prog.info? 3).map (fun i=>(i.zero,i.size,i.bytes))=some (some (.i 0),1,8):=by kernel_rfl
 obtain⟨i,a,h⟩:=eE.1 h;simp only[Prod.mk.injEq] at h;exact⟨i,a,h.1,h.2.1,h.2.2⟩
theorem afd(p:0<=w.heap.size)(o:xe w)(F:G.size<=1048576)(H:rH w n G a A B m c d):
 Cl 55 #[.agg (gV G a A B m c d)] w fun e Z=>pL e (vw G)/\w.S Z:=by
 have Q:=F;unfold be.size at Q;have b:=cV w (.o (gV G a A B m c d) 35);have D:=dL.new w (.i G.inn) (.i G.rounds) (.l a G.nl m) (.l A G.nh c) (.l B G.nn d) (.i G.out) 35;by_cases S:G.inn<1
 . go_enter func55,ntmps55;go_wp2;go_ret;exact⟨⟨false,rfl,by simp only[gX,oU];intro h;have:=h.i1;omega⟩,b⟩
 by_cases T:1000<G.inn
 . go_enter func55,ntmps55;go_wp2;go_ret;exact⟨⟨false,rfl,by simp only[gX,oU];intro h;have:=h.i2;omega⟩,b⟩
 by_cases U:G.rounds<0
 . go_enter func55,ntmps55;go_wp2;go_ret;exact⟨⟨false,rfl,by simp only[gX,oU];intro h;have:=h.r0;omega⟩,b⟩
 by_cases V:1000<G.rounds
 . go_enter func55,ntmps55;go_wp2;go_ret;exact⟨⟨false,rfl,by simp only[gX,oU];intro h;have:=h.r1;omega⟩,b⟩
 by_cases k:(G.nl:Int)=G.inn
 case neg=>
  have K:((G.nl:Int) != G.inn)=true:=by simp[k]
  go_enter func55,ntmps55;go_wp2;go_ret;exact⟨⟨false,rfl,by simp only[gX,oU];intro h;exact k h.l⟩,b⟩
 have K:((G.nl:Int) != G.inn)=false:=by simp[k]
 have r:=aR k;by_cases l:(G.nh:Int)=G.inn
 case neg=>
  have L:((G.nh:Int) != G.inn)=true:=by simp[l]
  go_enter func55,ntmps55;go_wp2;go_ret;exact⟨⟨false,rfl,by simp only[gX,oU];intro h;exact l h.h⟩,b⟩
 have L:((G.nh:Int) != G.inn)=false:=by simp[l]
 have s:=aR l;by_cases W:1000<G.nn
 . have M:(1000:Int)<(G.nn:Int):=om;go_enter func55,ntmps55;go_wp2;go_ret;exact⟨⟨false,rfl,by simp only[gX,oU];intro h;have:=h.n;omega⟩,b⟩
 have M:¬(1000:Int)<(G.nn:Int):=om;obtain⟨j,Y,-,v⟩:=(H.bH b).LL;have t:=@we a n j Y G.nl m G.Lo _ (aJ _) (o.stay p b) om om v;go_enter func55,ntmps55;go_wp2_with fail;generalize w.alloc _=ab at*;refine t.mono ?_;rintro e R ⟨N,rfl,f,q⟩;have i:=b.tr q;have X:=(D.bH q).c3;cases N
 . have y:=aR f;clear f;go_wp2;go_ret;exact⟨⟨false,rfl,by simp only[gX,oU];intro h;have:=y.out.2 h.okL;cases this⟩,i⟩
 have g:=aR (f.1 rfl);clear f;obtain⟨C,I,-,x⟩:=(H.bH i).LH;have u:=@we A n C I G.nh c G.Hi R (aJ _) (o.stay p i) om om x;go_wp2_with fail;refine u.mono ?_;rintro e aa ⟨O,rfl,E,P⟩;have z:=aR E;go_wp2;go_ret;exact⟨⟨O,rfl,z.out.trans ⟨fun h=>⟨om,om,om,om,r.out,s.out,om,g.out,h⟩,fun h=>h.okH⟩⟩,i.tr P⟩
def vD(g:be)(j:Nat):Nat:=(ld g j j).toNat
structure iy(g:be):Prop where
 head:vw g
 box:∀j:Nat,(j:Int)<g.inn->¬mZ g j
 node:∀k,k<g.nn->nc g k=0
 o0:0<=g.out
 o1:g.out<=g.nn
theorem iy.outc{Y:Nat->Int}(E:iy G)(h:al G n Y z y):z=0/\n=G.nn+1/\∀j,j<n->Y j=ld G G.nn j:=by
 obtain⟨b,d,f,e⟩:=al.only (n:=G.nn+1) (X:=ld G G.nn) (c:=0) (a:=0) (.inr (.inr (.inr (.inr ⟨E.head,E.box,E.node,⟨E.o0,E.o1⟩,rfl,fun _ _=>rfl,rfl,rfl⟩)))) h;exact⟨d,b,fun j i=>e j om⟩
theorem iy.of{Y:Nat->Int}(h:al G n Y 0 z):iy G:=by
 rcases h with ⟨-,-,e,-⟩ | ⟨-,j,-,-,-,-,e,-⟩ | ⟨-,-,i,-,-,e,-,c,-⟩ | ⟨-,-,-,-,-,e,-⟩ | ⟨d,f,k,b,-⟩
 . cases e
 . cases e
 . exact absurd c.symm e
 . cases e
 . exact⟨d,f,k,b.1,b.2⟩
theorem iy.jS(E:iy G)(a:i<=G.nn):vn G i:=⟨E.head.i1,E.head.i2,fun k b=>E.node k om⟩
theorem iy.i9(E:iy G)(a:j<=G.nn):1<=vD G j/\vD G j<=1000:=by
 have h:=(E.jS a).dok j om;unfold vD;omega
structure NdP(g:be)(i:Nat):Prop where
 a0:0<=(g.N i).a
 ai:(g.N i).a.toNat<=i
 b0:0<=(g.N i).b
 bi:(g.N i).b.toNat<=i
 b4:(g.N i).op=4->vD g (g.N i).b.toNat=vD g (i+1)
 sh:oM (g.N i) (vD g (g.N i).a.toNat) (vD g (i+1))
 nv:(g.N i).nv<=1002000
theorem iy.nd(E:iy G)(r:i<G.nn):NdP G i:=by
 have u:=E.jS (i:=i+1) om;obtain⟨f,⟨p,v,t⟩,c⟩:=vh (E.node i r);have d:0<=(G.N i).b/\(G.N i).b.toNat<=i:=by
  by_cases hb:u9 (G.N i).op=true
  . have:=t hb;omega
  . have:=f.b (by simpa using hb);omega
 have b:(G.N i).a.toNat<=i:=om;have e:∀j,j<=i->(ld G i j).toNat=vD G j:=fun j s=>by unfold vD;rw[ea G s]
 have sh:=u.shape (iZ i);rw[e _ b] at sh;have sh:oM (G.N i) (vD G (G.N i).a.toNat) (vD G (i+1)):=sh;refine⟨p,b,d.1,d.2,fun n=> ?_,sh, ?_⟩
 . have q:=sh.c4 n;rw[q,<-e _ d.2,<-e _ b];unfold gR at c;by_cases h:ld G i (G.N i).b.toNat=ld G i (G.N i).a.toNat
   . rw[h]
   . simp[n,h] at c
 . by_cases k:(G.N i).op=1
   . have a:=f.k;rw[k] at a;have a:1<=(G.N i).k/\(G.N i).k<=1000:=a;have w:=(E.i9 (j:=(G.N i).a.toNat) om).2;rw[(sh.c1 k).1];exact aU (dF (show (G.N i).k.toNat<=1000 by omega) (show vD G (G.N i).a.toNat+1<=1001 by omega)) qd
   by_cases l:(G.N i).op=6
   . have a:=f.k;rw[l] at a;have a:1<=(G.N i).k/\(G.N i).k<=1000:=a;have:=(sh.c6 l).1;omega
   by_cases m:(G.N i).op=3
   . have:=f.v3 m;omega
   by_cases o:(G.N i).op=7
   . have:=f.v7 o;omega
   have:=f.v (by simp[xu,k,l,m,o]);omega
def qm(g:be)(i j:Nat):Bool:=j==(g.N i).a.toNat ||((g.N i).op==4&&j==(g.N i).b.toNat)
theorem iy.src(E:iy G)(a:n<G.nn)(h:qm G n m=true):m<=n:=by
 have N:=E.nd a;have b:=N.ai;have c:=N.bi;simp only[qm,jT,fT,jJ] at h;omega
def nk(g:be):Nat->Nat->Bool
 | 0=>fun j=>j==g.out.toNat
 | m+1=>fun j=>nk g m j ||(nk g m (g.nn-m)&&qm g (g.nn-m-1) j)
def fo(g:be):Nat->Bool:=nk g g.nn
theorem dk(h:m<=n)(a:nk G m c=true):nk G n c=true:=by
 induction h with
 | refl=>exact a
 | step _ ih=>show (_ ||_)=true;rw[ih];rfl
theorem ajN(E:iy G):∀m j,m<=G.nn->nk G m j=true->j<=G.out.toNat:=by
 intro m
 induction m with
 | zero=>intro j _ h;simp[nk] at h;omega
 | succ m ih=>
   intro j c h;simp only[nk,jT,fT] at h;rcases h with h | ⟨a,b⟩
   . exact ih j om h
   . have:=ih _ om a;have:=E.src (show G.nn-m-1<G.nn by omega) b;omega
theorem ah9(E:iy G){n m' m:Nat}(h:n<=m')(b:m'<=G.nn)(a:G.nn-n<=m):nk G m' m=nk G n m:=by
 induction h with
 | refl=>rfl
 | @step m' h ih=>
   have h:n<=m':=h;rw[<-ih om];show (nk G m' m ||_)=_;cases hs:qm G (G.nn-m'-1) m
   . simp
   . have:=E.src (show G.nn-m'-1<G.nn by omega) hs;omega
theorem tu(E:iy G)(h:fo G n=true):n<=G.out.toNat:=ajN E _ _ zR h
theorem dY(G:be):fo G G.out.toNat=true:=dk (aJ _) (by simp[nk])
theorem aen(E:iy G)(c:n<G.nn)(h:fo G (n+1)=true)(b:qm G n m=true):fo G m=true:=by
 have e:G.nn-(G.nn-(n+1))=n+1:=om;have a:nk G (G.nn-(n+1)) (n+1)=true:=by rw[<-ah9 E (m':=G.nn) om zR om];exact h
 refine dk (m:=G.nn-(n+1)+1) om ?_;show (_ ||(nk G _ (G.nn-(G.nn-(n+1)))&&qm G (G.nn-(G.nn-(n+1))-1) m))=true;rw[e,a,show n+1-1=n from rfl,b];simp
def un(g:be):Nat->Nat->Nat
 | 0=>fun _=>0
 | i+1=>fun j=>if fo g (i+1)=true/\qm g i j=true then i+1 else un g i j
def bL(g:be):Nat->Nat:=un g g.nn
theorem agw(G:be)(n m:Nat):un G n m<=n:=by
 induction n with
 | zero=>exact aC _
 | succ n ih=>
   simp only[un];split<;>omega
theorem ahO(G:be)(h:i<=n):un G i c<=un G n c:=by
 induction h with
 | refl=>exact aC _
 | @step m h ih=>
   have:=agw G m c;simp only[un];split<;>omega
theorem uV(G:be)(n:Nat):bL G n<=G.nn:=agw G _ n
theorem uW{g:be}(a:i<g.nn)(h:fo g (i+1)=true)(b:qm g i j=true):i+1<=bL g j:=by
 refine aU ?_ (ahO g (i:=i+1) a);show _<=(if _ then _ else _);rw[aY ⟨h,b⟩];exact aC _
theorem eu{g:be}(h:un g i j≠0):∃k,un g i j=k+1/\k<i/\fo g (k+1)=true/\qm g k j=true:=by
 induction i with
 | zero=>exact absurd rfl h
 | succ i ih=>
   by_cases c:fo g (i+1)=true/\qm g i j=true
   . exact⟨i,aY c,om,c.1,c.2⟩
   . have e:un g (i+1) j=un g i j:=aM c;rw[e] at h⊢;obtain⟨k,a,d,b⟩:=ih h;exact⟨k,a,om,b⟩
def xV(g:be)(i:Nat):List Nat:=(List.range i).filter fun j=>decide (i<bL g j)
def wK(f d:Nat->Nat)(i:Nat):Nat->Nat
 | 0=>0
 | j+1=>wK f d i j+if i<f j then 2*d j else 0
def ga(g:be)(i j:Nat):Nat:=wK (bL g) (vD g) i j
def igF:Nat->Nat->List Nat
 | 0,_=>[]
 | f+1,c=>if 1<c then c::igF f (c/2+c % 2) else []
theorem igG:∀ {f c:Nat},c<=f->igF f c=igF c c
 | 0,c,h=>by cases Nat.le_zero.1 h;rfl
 | f+1,0,_=>rfl
 | f+1,c+1,h=>by
   show (if _ then _::igF f _ else _)=(if _ then _::igF c _ else _)
   by_cases g:1<c+1
   . rw[if_pos g,if_pos g,igG (f:=f) (by omega),igG (f:=c) (by omega)]
   . rw[if_neg g,if_neg g]
def ig(c:Nat):List Nat:=igF c c
theorem igE(c:Nat):ig c=if _h:1<c then c::ig (c/2+c % 2) else []:=by
 unfold ig
 cases c with
 | zero=>rfl
 | succ c=>
   show (if _ then _::igF c _ else _)=_
   by_cases g:1<c+1
   . rw[if_pos g,dif_pos g,igG (f:=c) (by omega)]
   . rw[if_neg g,dif_neg g]
def fQ(g:be)(i:Nat):List (Nat×Nat):=
 if fo g (i+1)=true then (if (g.N i).op=2∨(g.N i).op=3 then [(i+1,0)] else if (g.N i).op=5 then (ig (g.N i).k.toNat).map fun c=>(i+1,c) else []) else []
def dH(g:be):Nat->List (Nat×Nat)
 | 0=>[]
 | i+1=>dH g i++fQ g i
def bP(g:be):List (Nat×Nat):=dH g g.nn
def si(g:be)(i c:Nat):Nat:=
 if (g.N (i-1)).op=2 then vD g (g.N (i-1)).a.toNat else if (g.N (i-1)).op=3 then 2*vD g (g.N (i-1)).a.toNat else vD g i*(3*(c/2)+2*(c % 2))
def mD(g:be)(s:Nat×Nat):Nat:=ga g s.1 s.1+si g s.1 s.2
def eS(g:be):List Nat:=g.inn.toNat::((bP g).map (mD g)++[vD g g.out.toNat])
def mu(L:List Nat):Nat->Nat
 | 0=>0
 | t+1=>mu L t+L.getD (t+1) 0*(L.getD t 0+1)
def jw(g:be):Nat:=mu (eS g) ((bP g).length+1)
def isStep(d:dA):Bool:=d.op==2 ||d.op==3 ||(d.op==5&&decide (1<d.k))
def jt(f:Nat->Rat)(n:Nat):List Rat:=(List.range n).flatMap fun e=>[f e,-f e]
def iw(f:Nat->Rat)(m:Nat):List Rat:=
 ((List.range (m/2)).flatMap fun c=>[f (2*c)-f (2*c+1),f (2*c+1),-f (2*c+1)])++if m % 2=1 then [f (m-1),-f (m-1)] else []
def u7(g:be)(V:Nat->Nat->Rat)(cw:Nat)(W:Nat->Nat->Rat)(i:Nat):List Rat:=
 if (g.N (i-1)).op=2 then (List.range (vD g (g.N (i-1)).a.toNat)).map (V (g.N (i-1)).a.toNat)
 else if (g.N (i-1)).op=3 then jt (V (g.N (i-1)).a.toNat) (vD g (g.N (i-1)).a.toNat)
 else if cw=0 then (List.range (vD g i)).flatMap fun e=>iw (fun c=>V (g.N (i-1)).a.toNat (e*(g.N (i-1)).k.toNat+c)) (g.N (i-1)).k.toNat
 else (List.range (vD g i)).flatMap fun e=>iw (W e) cw
def aW(g:be)(V:Nat->Nat->Rat)(cw:Nat)(W:Nat->Nat->Rat)(i:Nat):List Rat:=
 (xV g i).flatMap (fun j=>jt (V j) (vD g j))++u7 g V cw W i
def wj(g:be)(V:Nat->Nat->Rat)(i:Nat):Nat->Nat->Rat:=fun j=>
 if j=i then lu (g.N (i-1)) (V (g.N (i-1)).a.toNat) (V (g.N (i-1)).b.toNat) (vD g (g.N (i-1)).a.toNat) else V j
def mz(g:be)(cw:Nat)(W:Nat->Nat->Rat):Nat->Nat->(Nat->Nat->Rat)->List Rat
 | 0,_,V=>(List.range (vD g g.out.toNat)).map (V g.out.toNat)
 | f+1,i,V=>if fo g i=false then mz g cw W f (i+1) V else if isStep (g.N (i-1)) then aW g V cw W i else mz g cw W f (i+1) (wj g V i)
def aA(g:be)(i c:Nat)(h:Nat->Rat)(e t:Nat):Rat:=
 if t<c/2 then h (ga g i i+e*(3*(c/2)+2*(c % 2))+3*t)+h (ga g i i+e*(3*(c/2)+2*(c % 2))+3*t+1)-h (ga g i i+e*(3*(c/2)+2*(c % 2))+3*t+2)
 else h (ga g i i+e*(3*(c/2)+2*(c % 2))+3*t)-h (ga g i i+e*(3*(c/2)+2*(c % 2))+3*t+1)
def zf(g:be)(i c:Nat)(h:Nat->Rat)(e:Nat):Rat:=
 if (g.N (i-1)).op=2 then h (ga g i i+e)
 else if (g.N (i-1)).op=3 then h (ga g i i+2*e)-(g.N (i-1)).w 0*h (ga g i i+2*e+1)
 else aA g i c h e 0
def nZ(g:be)(i c:Nat)(h:Nat->Rat):Nat->Nat->Rat:=fun j e=>
 if j=i then zf g i c h e else h (ga g i j+2*e)-h (ga g i j+2*e+1)
def je(g:be)(t:Nat)(h:Nat->Rat):List Rat:=
 if t=0 then mz g 0 (fun _ _=>0) g.nn 1 (fun _=>h)
 else
  let s:=(bP g).getD (t-1) (0,0)
  if (g.N (s.1-1)).op=5/\2<s.2 then mz g (s.2/2+s.2 % 2) (aA g s.1 s.2 h) (g.nn-(s.1-1)) s.1 (nZ g s.1 s.2 h)
  else mz g 0 (fun _ _=>0) (g.nn-s.1) (s.1+1) (nZ g s.1 s.2 h)
def gv(c:Int)(i:Nat):Rat:=if (i:Int)=c then 1 else 0
def aE(g:be)(t:Nat):List Rat:=je g t (gv (-1))
abbrev Row:=List (Int×Rat)
def ak(h:Nat->Rat)(z:Int):Rat:=if z=-1 then 1 else h z.toNat
def ij(h:Nat->Rat):Row->Rat
 | []=>0
 | t::r=>t.2*ak h t.1+ij h r
structure ic(m:Nat)(r:Row):Prop where
 lo:∀t∈r,-1<=t.1/\t.1<m
 nd:(r.map Prod.fst).Nodup
def eO(r:Row)(z:Int):Rat:=(r.find? (fun t=>t.1==z)).elim 0 Prod.snd
theorem afJ(h:Nat->Rat)(a b:Row):ij h (a++b)=ij h a+ij h b:=by
 induction a with
 | nil=>simp[ij,jM]
 | cons t a ih=>simp only[mY,ij,ih,jK]
theorem aj2(h:Nat->Rat){a b:Row}(p:a.Perm b):ij h a=ij h b:=by
 induction p with
 | nil=>rfl
 | cons t _ ih=>simp only[ij,ih]
 | swap x y l=>simp only[ij];rw[<-jK,<-jK,pK (y.2*_)]
 | trans _ _ h1 h2=>exact h1.trans h2
theorem qo{r:Row}(h:z∉r.map Prod.fst):eO r z=0:=by
 unfold eO;rw[List.find?_eq_none.2 (fun t a e=>h (by simp at e;exact dT.2 ⟨t,a,e⟩))];rfl
theorem cd{r:Row}(a:ic n r):ij (gv (-1)) r=eO r (-1)/\∀c:Nat,c<n->ij (gv c) r=eO r c+eO r (-1):=by
 induction r with
 | nil=>exact⟨rfl,fun _ _=>by simp[ij,eO,Rat.zero_add]⟩
 | cons t r ih=>
   have k:ic n r:=⟨fun x h=>a.lo x (List.mem_cons_of_mem _ h),(List.nodup_cons.1 a.nd).2⟩;obtain⟨i,j⟩:=ih k;have f:t.1∉r.map Prod.fst:=(List.nodup_cons.1 a.nd).1;have cons:∀z,eO (t::r) z=if t.1=z then t.2 else eO r z:=fun z=>by
    unfold eO;by_cases e:t.1=z
    . simp[e]
    . simp[e]
   have l:=a.lo t (List.mem_cons_self ..);refine⟨?_,fun c g=> ?_⟩
   . simp only[ij,cons,i];by_cases e:t.1=-1
     . rw[if_pos e,<-e,qo f,Rat.add_zero];simp[ak,e,Rat.mul_one]
     . rw[if_neg e];unfold ak gv;rw[if_neg e,if_neg om,Rat.mul_zero,Rat.zero_add]
   . simp only[ij,cons,j c g];by_cases e:t.1=-1
     . have d:eO r (-1)=0:=qo (by rw[<-e];exact f);rw[if_neg om,if_pos e,d,Rat.add_zero];simp[ak,e,Rat.mul_one,Rat.add_comm]
     . by_cases b:t.1=c
       . have d:eO r c=0:=qo (by rw[<-b];exact f);rw[if_pos b,if_neg e,d,Rat.zero_add];unfold ak gv;rw[if_neg e,if_pos om,Rat.mul_one]
       . rw[if_neg b,if_neg e];unfold ak gv;rw[if_neg e,if_neg om,Rat.mul_zero,Rat.zero_add]
def cL(z:Int):List Rat->Row
 | []=>[]
 | q::fs=>if q=0 then cL (z+1) fs else (z,q)::cL (z+1) fs
def pk(h:Nat->Rat)(z:Int):List Rat->Rat
 | []=>0
 | q::fs=>q*ak h z+pk h (z+1) fs
theorem cg(h:Nat->Rat)(z:Int)(a:List Rat):ij h (cL z a)=pk h z a:=by
 induction a generalizing z with
 | nil=>rfl
 | cons q a ih=>
   simp only[cL,pk];split
   . next e=>rw[ih,e,uC,jM]
   . simp only[ij,ih]
theorem acJ{a:List Rat}{t:Int×Rat}(h:t∈cL z a):z<=t.1/\t.1<z+a.length:=by
 induction a generalizing z with
 | nil=>simp[cL] at h
 | cons q a ih=>
   simp only[cL] at h;split at h
   . have:=ih h;simp;omega
   . rcases fW.1 h with rfl | h
     . simp;omega
     . have:=ih h;simp;omega
theorem ys{a:List Rat}(c:-1<=z)(d:z+a.length<=m):ic m (cL z a):=by
 refine⟨fun t b=>by have:=acJ b;omega, ?_⟩;clear c d
 induction a generalizing z with
 | nil=>simp[cL]
 | cons q a ih=>
   simp only[cL];split
   . exact ih
   . rw[dG,jP];refine⟨fun f=> ?_,ih⟩;obtain⟨t,b,e⟩:=dT.1 f;have:=acJ b;simp only at e;omega
def jz(r:Row):Row:=r.map fun t=>(t.1,-t.2)
theorem fa(h:Nat->Rat)(r:Row):ij h (jz r)=-ij h r:=by
 induction r with
 | nil=>rfl
 | cons t r ih=>show-t.2*ak h t.1+ij h (jz r)=_;rw[ih];simp only[ij,Rat.neg_add,Rat.neg_mul]
theorem bN{r:Row}(a:ic n r):ic n (jz r):=by
 refine⟨fun t b=> ?_, ?_⟩
 . obtain⟨x,c,rfl⟩:=dT.1 b;exact a.lo x c
 . unfold jz;rw[sU];exact a.nd
def uO(z:Int)(q:Rat):Row->Row
 | []=>[(z,q)]
 | t::r=>if t.1=z then (z,t.2+q)::r else t::uO z q r
theorem anD(h:Nat->Rat)(z:Int)(Q:Rat)(r:Row):ij h (uO z Q r)=ij h r+Q*ak h z:=by
 induction r with
 | nil=>simp only[uO,ij];rw[pK]
 | cons t r ih=>
   simp only[uO];split
   . next e=>simp only[ij,e,Rat.add_mul];rw[jK,jK,pK (Q*_)]
   . simp only[ij,ih];rw[jK]
theorem aj9(z:Int)(Q:Rat)(r:Row):(uO z Q r).map Prod.fst=if z∈r.map Prod.fst then r.map Prod.fst else r.map Prod.fst++[z]:=by
 induction r with
 | nil=>simp[uO]
 | cons t r ih=>
   simp only[uO];by_cases e:t.1=z
   . rw[aY e];simp[e]
   . rw[aM e,dG,ih];by_cases a:z∈r.map Prod.fst
     . rw[aY a,aY (by simp only[dG];exact iA _ a)];rfl
     . rw[aM a,aM (by simp only[dG,fW];rintro (h | h);exact e h.symm;exact a h)];rfl
theorem jc(t:Int×Rat)(r:Row)(z:Int):eO (t::r) z=if t.1=z then t.2 else eO r z:=by
 unfold eO;by_cases e:t.1=z
 . simp[e]
 . simp[e]
theorem anE(z:Int)(Q:Rat)(r:Row)(y:Int):eO (uO z Q r) y=if y=z then eO r z+Q else eO r y:=by
 induction r with
 | nil=>
   simp only[uO,jc];by_cases e:y=z
   . rw[aY e.symm,aY e];simp[eO,jM]
   . rw[aM (fun h=>e h.symm),aM e]
 | cons t r ih=>
   simp only[uO];by_cases e:t.1=z
   . rw[aY e];simp only[jc];by_cases a:y=z
     . rw[aY a.symm,aY a,aY e]
     . rw[aM (fun h=>a h.symm),aM a,aM om]
   . rw[aM e];simp only[jc,ih];by_cases a:y=z
     . rw[aY a,aY a,aM om,aM e]
     . rw[aM a,aM a]
def wR(f:Rat)(E:Row)(r:Row):Row:=r.foldl (fun E t=>uO t.1 (f*t.2) E) E
theorem ajP(Q:Rat)(E:Row)(r:Row)(t:Int×Rat):wR Q E (r++[t])=uO t.1 (Q*t.2) (wR Q E r):=by unfold wR;rw[List.foldl_append];rfl
theorem anN(h:Nat->Rat)(Q:Rat)(E r:Row):ij h (wR Q E r)=ij h E+Q*ij h r:=by
 induction r generalizing E with
 | nil=>simp[wR,ij,Rat.mul_zero,Rat.add_zero]
 | cons t r ih=>
   show ij h (wR Q (uO t.1 (Q*t.2) E) r)=_;rw[ih,anD];simp only[ij];rw[Rat.mul_add,Rat.add_assoc,Rat.mul_assoc]
theorem alm{E r:Row}(a:(r.map Prod.fst).Nodup)(z:Int):eO (wR Q E r) z=eO E z+Q*eO r z:=by
 induction r generalizing E with
 | nil=>simp[wR,eO,Rat.mul_zero,Rat.add_zero]
 | cons t r ih=>
   show eO (wR Q (uO t.1 (Q*t.2) E) r) z=_;rw[ih (List.nodup_cons.1 a).2,anE,jc];by_cases e:z=t.1
   . have b:eO r z=0:=qo (by rw[e];exact (List.nodup_cons.1 a).1);rw[if_pos e,if_pos e.symm,b,Rat.mul_zero,Rat.add_zero,e]
   . rw[if_neg e,if_neg (fun h=>e h.symm)]
theorem ams{E:Row}(k:-1<=z)(l:z<n)(c:ic n E):ic n (uO z Q E):=by
 have d:=aj9 z Q E;refine⟨fun t i=> ?_, ?_⟩
 . have:t.1∈(uO z Q E).map Prod.fst:=dT.2 ⟨t,i,rfl⟩;rw[d] at this;have f:t.1∈E.map Prod.fst-> -1<=t.1/\t.1<n:=fun h=>by
    obtain⟨x,j,e⟩:=dT.1 h;rw[<-e];exact c.lo x j
   split at this
   . exact f this
   . rcases iX.1 this with h | h
     . exact f h
     . simp at h;omega
 . rw[d];split
   . exact c.nd
   . next h=>
     rw[List.nodup_append];refine⟨c.nd,qz,fun a g b hb=> ?_⟩;simp at hb;subst hb;exact fun e=>h (e▸g)
theorem am8{E r:Row}(h:∀t∈r,-1<=t.1/\t.1<n)(b:ic n E):ic n (wR Q E r):=by
 induction r generalizing E with
 | nil=>exact b
 | cons t r ih=>
   have a:=h t (iQ ..);exact ih (fun x c=>h x (iA _ c)) (ams a.1 a.2 b)
def sg(b:Rat)(w:Nat->Rat)(X:Nat->Row):Nat->Row
 | 0=>[(-1,b)]
 | k+1=>if w k=0 then sg b w X k else wR (w k) (sg b w X k) (X k)
theorem anO(h:Nat->Rat)(Q:Rat)(w:Nat->Rat)(X:Nat->Row)(n:Nat):ij h (sg Q w X n)=il Q w (fun t=>ij h (X t)) n:=by
 induction n with
 | zero=>simp[sg,ij,il,ak,Rat.mul_one,Rat.add_zero]
 | succ n ih=>
   simp only[sg,il];split
   . next e=>rw[e,Rat.zero_mul,Rat.add_zero,ih]
   . rw[anN,ih]
theorem am9{w:Nat->Rat}{X:Nat->Row}(h:∀t,t<m->ic n (X t)):ic n (sg Q w X m):=by
 induction m with
 | zero=>exact⟨fun t a=>by simp[sg] at a;subst a;simp;omega,by simp[sg]⟩
 | succ m ih=>
   simp only[sg];split
   . exact ih (fun t a=>h t om)
   . exact am8 (h m om).lo (ih (fun t a=>h t om))
theorem aln{b:Rat}{w:Nat->Rat}{X:Nat->Row}(h:∀t,t<k->ic m (X t))(z:Int):eO (sg b w X k) z=il (if z=-1 then b else 0) w (fun t=>eO (X t) z) k:=by
 induction k with
 | zero=>
   simp only[sg,il,jc];by_cases e:z=-1
   . rw[aY e.symm,aY e]
   . rw[aM (fun h=>e h.symm),aM e];rfl
 | succ k a=>
   have a:=a (fun t c=>h t om);simp only[sg,il];split
   . next e=>rw[e,uC,jH,a]
   . rw[alm (h k om).nd,a]
def uS(E:Row)(ks:List Int):Row:=ks.flatMap fun z=>cL z [eO E z]
theorem ajI(E:Row)(a:List Int)(z:Int):uS E (a++[z])=uS E a++cL z [eO E z]:=by unfold uS;rw[iG];simp
theorem am0(h:Nat->Rat)(E:Row)(a:List Int):ij h (uS E a)=ij h (a.map fun z=>(z,eO E z)):=by
 induction a with
 | nil=>rfl
 | cons z a ih=>
   show ij h (cL z [eO E z]++uS E a)=_;rw[afJ,ih,cg];simp only[pk,dG,ij,jH]
theorem akN{E:Row}(b:(E.map Prod.fst).Nodup):(E.map Prod.fst).map (fun z=>(z,eO E z))=E:=by
 induction E with
 | nil=>rfl
 | cons t E ih=>
   have h:=jP.1 b;rw[dG,dG,jc,aY rfl];congr 1;have e:∀z∈E.map Prod.fst,(z,eO (t::E) z)=(z,eO E z):=fun z a=>by have n:t.1≠z:=fun e=>h.1 (by rw[e];exact a);rw[jc,aM n]
   rw[fG e,ih h.2]
theorem fr(h:Nat->Rat){E:Row}(b:ic n E){a:List Int}(p:a.Perm (E.map Prod.fst)):ij h (uS E a)=ij h E:=by
 rw[am0,aj2 h (p.map _),akN b.nd]
theorem age{E:Row}{b:List Int}{t:Int×Rat}(h:t∈uS E b):t.1∈b/\t.2=eO E t.1:=by
 obtain⟨z,c,a⟩:=iK.1 h;simp only[cL] at a;split at a
 . simp at a
 . simp at a;subst a;exact⟨c,rfl⟩
theorem aiL{E:Row}(d:ic n E){a:List Int}(p:a.Perm (E.map Prod.fst)):ic n (uS E a):=by
 refine⟨fun t b=> ?_, ?_⟩
 . obtain⟨x,g,e⟩:=dT.1 (p.mem_iff.1 (age b).1);rw[<-e];exact d.lo x g
 . have h:=p.nodup_iff.2 d.nd;clear p
   induction a with
   | nil=>simp[uS]
   | cons z a ih=>
     have c:=jP.1 h;have nz:z∉(uS E a).map Prod.fst:=fun f=>by obtain⟨t,b,e⟩:=dT.1 f;exact c.1 (by rw[<-e];exact (age b).1)
     show ((cL z [eO E z]++uS E a).map Prod.fst).Nodup;simp only[cL];split
     . exact ih c.2
     . rw[mY,dG];exact jP.2 ⟨nz,ih c.2⟩
theorem anG{E:Row}(f:ic n E){d:List Int}(p:d.Perm (E.map Prod.fst))(z:Int)(j:-1<=z)(k:z<n):eO (uS E d) z=eO E z:=by
 have a:=cd (aiL f p);have b:=cd f;have g:eO (uS E d) (-1)=eO E (-1):=by rw[<-a.1,<-b.1,fr _ f p]
 by_cases e:z=-1
 . rw[e];exact g
 . obtain⟨c,rfl⟩:∃c:Nat,z=c:=⟨z.toNat,om⟩;have h:=a.2 c om;rw[fr _ f p,b.2 c om,g] at h;have i:eO E c+eO E (-1)-eO E (-1)=eO (uS E d) c+eO E (-1)-eO E (-1):=(by rw[h]);rw[gQ,jK,Rat.add_neg_cancel,jH,gQ,jK,Rat.add_neg_cancel,jH] at i;exact i.symm
theorem akS(Q a:Rat):(0<=aD Q a->(if Q<a then a else Q)=Q)/\(aD Q a<0->(if Q<a then a else Q)=a):=by
 unfold aD;by_cases h:Q<a
 . simp[h]
 . simp only[h,iO];split<;>simp
theorem amG{f x:Value}{a:Rat}(T:Qb Q 1048640)(Z:Qb a 1048640){r:Rat}(hr:Hid ((if Q<a then a else Q)=r))(R:mH w (.agg #[.bool (qn Q),u,U]) Q)(K:mH w (.agg #[.bool (qn a),f,x]) a):
 Cl 159 #[.agg #[.bool (qn Q),u,U],.agg #[.bool (qn a),f,x]] w fun e w'=>∃y,e=.returned y/\fJ w' (fun g=>w.heap.size<=g) y r/\w.S w':=by
 obtain⟨q,b⟩:∃q:World,q=((w.alloc (.o #[.bool (qn Q),u,U] 83)).alloc (.o #[.bool (qn a),f,x] 83)).alloc yJ:=⟨_,rfl⟩;have F:w.S q:=by rw[b];exact ((cV _ _).alloc qz _).alloc (by simp;omega) _
 have zA:q.heap.size=w.heap.size+1+1+1:=by rw[b];simp
 have O:cR q w.heap.size (.bool (qn Q)) u U:=by rw[b];exact ((cR.new w _ _ _ _).bH (cV _ _)).bH (cV _ _)
 have P:cR q (w.heap.size+1) (.bool (qn a)) f x:=by rw[b];have:=(cR.new (w.alloc (.o #[.bool (qn Q),u,U] 83)) (.bool (qn a)) f x 83).bH (yD.alloc zR yJ);simpa using this
 have W:cR q (w.heap.size+1+1) (.bool false) (.n) (.n):=by rw[b];have:=cR.new ((w.alloc (.o #[.bool (qn Q),u,U] 83)).alloc (.o #[.bool (qn a),f,x] 83)) (.bool false) (.n) (.n) 83;simpa using this
 have L:=R;have N:=K;obtain⟨a5,n5,c5,b5,m5,d5,-,-,-,-,-,-,Y,-⟩:=R;obtain⟨a6,n6,c6,b6,m6,d6,-,-,-,-,-,-,S,-⟩:=K;simp only[ag3,fM] at Y S;obtain⟨rfl,rfl⟩:=Y;obtain⟨rfl,rfl⟩:=S;have I:=aiX T Z om (L.bH F) (N.bH F);have H:=aR ((hr.out▸akS Q a:(0<=aD Q a->r=Q)/\(aD Q a<0->r=a)));have G:=aR b;clear b;go_enter func159,ntmps159;go_wp2_with fail;rw[<-G.out];refine I.mono ?_;rintro e X ⟨rfl,d⟩;have s:=F.tr d;have af:=O.bH d;have ag:=P.bH d;have V:=W.bH d;clear I G O P W;by_cases hz:0<=aD Q a
 . have t:=aR (H.out.1 hz);obtain⟨B,C,D⟩:=af.g;go_wp2_with fail;refine (uZ T om (L.bH s)).mono ?_;rintro e p ⟨y,rfl,h,o⟩;have v:=h;obtain⟨i,n,k,j,m,l,-,-,-,-,-,-,A,-⟩:=v;subst A;have c:=V.bH o;obtain⟨q0,q1,q2⟩:=c.g;obtain⟨ac,ad,ae⟩:=c.k;have z:=s.tr o;have z1:=d.size;clear B C D;go_wp2;have E:=((c.gH (.bool (qn Q))).gM (.l i n k)).gZ (.l j m l);refine bO (re rfl _ _ _ _ _ _ rfl E) rfl ?_;have M:aV p _ (w.heap.size+1+1):=(((aV.refl p _).setCell 0 (.bool (qn Q))).setCell 1 (.l i n k)).setCell 2 (.l j m l);rw[t.out];exact⟨_,rfl,(h.marked M (by show ¬X.heap.size<=_;omega)).imp (fun g _ aa=>by omega),z.trans (M.since om)⟩
 . have ab:aD Q a<0:=om;have t:=aR (H.out.2 ab);obtain⟨B,C,D⟩:=ag.g;go_wp2_with fail;refine (uZ Z om (N.bH s)).mono ?_;rintro e p ⟨y,rfl,h,o⟩;have v:=h;obtain⟨i,n,k,j,m,l,-,-,-,-,-,-,A,-⟩:=v;subst A;have c:=V.bH o;obtain⟨q0,q1,q2⟩:=c.g;obtain⟨ac,ad,ae⟩:=c.k;have z:=s.tr o;have z1:=d.size;clear B C D;go_wp2;have E:=((c.gH (.bool (qn a))).gM (.l i n k)).gZ (.l j m l);refine bO (re rfl _ _ _ _ _ _ rfl E) rfl ?_;have M:aV p _ (w.heap.size+1+1):=(((aV.refl p _).setCell 0 (.bool (qn a))).setCell 1 (.l i n k)).setCell 2 (.l j m l);rw[t.out];exact⟨_,rfl,(h.marked M (by show ¬X.heap.size<=_;omega)).imp (fun g _ aa=>by omega),z.trans (M.since om)⟩
theorem aiW{c:Rat}(j:Qb Q 1048640)(k:Qb c 1048640)(R:mH w u Q)(d:mH w U c):
 Cl 159 #[u,U] w fun e q=>∃f,e=.returned f/\fJ q (fun g=>w.heap.size<=g) f (if Q<c then c else Q)/\w.S q:=by
 have h:=R;have i:=d;obtain⟨a,n,p,b,m,s,-,-,-,-,-,-,rfl,-⟩:=R;obtain⟨l,y,r,o,x,t,-,-,-,-,-,-,rfl,-⟩:=d;exact amG j k (aR rfl) h i
theorem aeV{x:Nat->Rat}(QJ:dQ w (fun _=>True) a k i c x)(hn:1<=m)(hF:n+m<=c)(hl:c<=1000)(qj:∀e,e<c->Qb (x e) 1048640):
 Cl 160 #[.slice a c d,.i (n:Int),.i (m:Int)] w fun e l=>∃u,e=.returned u/\fJ l (fun g=>w.heap.size<=g) u (ni x n (m-1))/\w.S l:=by
 have z:=cV w (.o #[.bool false,.n,.n] 83);have zA:(w.alloc (.o #[.bool false,.n,.n] 83)).heap.size=w.heap.size+1:=by simp
 have rA:=cR.new w (.bool false) (.n) (.n) 83;obtain⟨ae,x0,y0,B⟩:=QJ n om;subst ae;obtain⟨aa,na,ca,ba,ma,da,-,-,-,-,-,-,ea,-⟩:=B.R;simp only[ag3,true_and] at ea;obtain⟨rfl,rfl⟩:=ea;have ao:(n:Int)<(c:Int):=om;have g0:=(B.bH z).c0;have g1:=(B.bH z).c1;have g2:=(B.bH z).c2;go_enter func160,ntmps160;go_wp2_with fail;generalize w.alloc (.o #[.bool false,.n,.n] 83)=wA at*;refine (uZ (qj n om) om (B.bH z).R.read).mono ?_;rintro e A ⟨u1,rfl,Q,N⟩;have R2:=Q;obtain⟨T,n6,X,V,m6,Z,-,-,-,-,-,-,e6,-⟩:=R2;subst e6;clear g0 g1 g2;have S:=z.trans (sM N z.size);have r1:=rA.bH N;have M:=cV A (.o #[.bool (qn (x n)),.l T n6 X,.l V m6 Z] 83);have bz:=cR.new A (.bool (qn (x n))) (.l T n6 X) (.l V m6 Z) 83;have Sz:=S.trans (sM M S.size);have rz:=r1.bH M;have Rz:=(Q.imp (p':=fun g=>w.heap.size+1<=g/\g≠A.heap.size) (fun g hg ac=>by have H:wA.heap.size<=g:=ac;omega)).bH M;have am:w.heap.size+1<=A.heap.size:=by have:=N.size;omega
 go_wp2_with fail;generalize A.alloc (.o #[.bool (qn (x n)),.l T n6 X,.l V m6 Z] 83)=wz at*;clear Q r1 M S rA N;generalize A.heap.size=o at*;go_loopw [8] (fun u wr=>∃b:Nat,b+1<=m/\u=.i ((b+1:Nat):Int)/\w.S wr/\cR wr w.heap.size (.bool false) (.n) (.n)/\∃v1 v2,cR wr o (.bool (qn (ni x n b))) v1 v2/\fJ wr (fun g=>w.heap.size+1<=g/\g≠o) (.agg #[.bool (qn (ni x n b)),v1,v2]) (ni x n b)) (fun u _=>m-(intOf u).toNat)
 case atStart=>exact⟨0,om,rfl,Sz,rz,_,_,bz,Rz⟩
 case round=>
  clear Sz rz bz Rz;obtain⟨b,hk,rfl,s,r,v1,v2,j,R⟩:=hrel;have ad:=R;obtain⟨U,n7,Y,W,m7,d7,-,-,-,-,-,-,e7,-⟩:=ad;simp only[ag3,true_and] at e7;obtain⟨rfl,rfl⟩:=e7;have k0:=j.c0;have k1:=j.c1;have k2:=j.c2;have aq:=j.f 0;have ar:=j.f 1;have au:=j.f 2;by_cases an:b+1<m
  . obtain⟨-,xx,yx,f⟩:=QJ (n+(b+1)) om;obtain⟨ax,nx,cx,bx,mx,dx,-,-,-,-,-,-,ex,-⟩:=f.R;simp only[ag3,true_and] at ex;obtain⟨rfl,rfl⟩:=ex;have hz:((b+1:Nat):Int)<(m:Int):=om;have C:(n:Int)+((b+1:Nat):Int)=((n+(b+1):Nat):Int):=om;have f2:((n+(b+1):Nat):Int)<(c:Int):=om;obtain⟨t,L⟩:∃t,t=b+1:=⟨_,rfl⟩;obtain⟨E,I⟩:∃E,E=n+(b+1):=⟨_,rfl⟩;rw[<-I] at f C f2;rw[<-L] at C hz;have qF:IntKind.i64.wrap ((n:Int)+(t:Int))=(E:Int):=(by rw[C];exact fO om om);clear C;have f3:(0:Int)<=(E:Int):=om;have qk:Qb (ni x n b) 1048640:=by
     obtain⟨s',h1,H⟩:=aec x n b;rw[H];exact qj _ om
    have qe:Qb (x E) 1048640:=qj _ om;have v:=ue wr;have y:=s.trans (sM v s.size);have J1:=aiW qk qe (R.bH v).read (f.bH y).R.read;have em:(if ni x n b<x E then x E else ni x n b)=ni x n (b+1):=(by rw[I];rfl);rw[em] at J1;have HT:=aR L;have HE:=aR I;clear em;have g0:=(f.bH s).c0;have g1:=(f.bH s).c1;have g2:=(f.bH s).c2;have lx:=f.lt;have av:o≠k:=om;rw[<-L];clear L I;go_wp2_with fail;refine wp_region_held_drew (S:=(fun l=>l.cell? (jj k (i+E*3))=some (.bool (qn (x E)))/\l.cell? (jj k (i+E*3+1))=some (.l ax nx cx)/\l.cell? (jj k (i+E*3+2))=some (.l bx mx dx))) kr ⟨(f.bH y).c0,(f.bH y).c1,(f.bH y).c2⟩ (fun ag=> ?_);refine vC 1 20 ?_;refine vC 2 21 ?_;refine vC 3 22 ?_;refine vC 4 23 ?_;refine vC 5 24 ?_;refine vC 6 25 ?_;refine rkH 0 fun K p=> ?_;have l0:wr.drew.cell? (jj o 0)=some (.bool (qn (ni x n b))):=(j.bH v).c0;have l1:wr.drew.cell? (jj o 1)=some (.l U n7 Y):=(j.bH v).c1;have l2:wr.drew.cell? (jj o 2)=some (.l W m7 d7):=(j.bH v).c2;go_simp;clear l0 l1 l2;refine p.out _ _ ⟨(f.bH y).c0,(f.bH y).c1,(f.bH y).c2⟩ (fun h1=> ?_);clear p K ag;refine rkH 7 fun K p=> ?_;go_simp;go_wp2_with (go_at_call 159;with_reducible refine J1.mono ?_;rintro e w5 ⟨O,rfl,R5,s5⟩);have R6:=R5;obtain⟨a8,n8,c8,b8,m8,d8,-,-,-,-,-,-,e8,-⟩:=R6;subst e8;have O:=v.trans (sM s5 v.size);have F:=s.trans (sM O s.size);have q:=j.bH O;have r5:=r.bH O;refine p.out _ _ ⟨(f.bH F).c0,(f.bH F).c1,(f.bH F).c2⟩ (fun H=> ?_);clear p K h1;refine rkH 8 fun K p=> ?_;have j0:=q.c0;have j1:=q.c1;have j2:=q.c2;have ai:=q.f 0;have ak:=q.f 1;have al:=q.f 2;go_simp;clear j0 j1 j2 ai ak al;have D8:=((q.gH (.bool (qn (ni x n (b+1))))).gM (.l a8 n8 c8)).gZ (.l b8 m8 d8);have P:aV w5 _ o:=(((aV.refl w5 _).setCell 0 (.bool (qn (ni x n (b+1))))).setCell 1 (.l a8 n8 c8)).setCell 2 (.l b8 m8 d8);have lf:=j.lt;have zs:=s.size;have R8:=(R5.imp (p':=fun g=>w.heap.size+1<=g/\g≠o) (fun g _ hg=>by have ac:wr.drew.heap.size<=g:=hg;have:wr.drew.heap.size=wr.heap.size:=rfl;omega)).marked P (fun h=>h.2 rfl);have G:=F.trans (P.since (B:=w.heap.size) om);have r8:=r5.marked P om;refine p.out _ _ ⟨(f.bH G).c0,(f.bH G).c1,(f.bH G).c2⟩ (fun af=> ?_);clear p K af H;refine wpAnyH_done kr ?_ _;go_wp2;go_roundw
    case rel=>go_light;exact⟨b+1,om,by rw[HT.out];go_num,G,r8,_,_,D8,R8⟩
    case measure=>have:=HT.out;simp[intOf];omega
  . have e:b+1=m:=om;have r0:=r.c0;have r1:=r.c1;have r2:=r.c2;have f0:=r.f 0;have C:=r.f 1;have f2:=r.f 2;have HE:=aR e;have hz:¬((b+1:Nat):Int)<(m:Int):=om;generalize ah:((b+1:Nat):Int)=kk at*;clear ah e;go_wp2;have rC:=((r.gH (.bool (qn (ni x n b)))).gM (.l U n7 Y)).gZ (.l W m7 d7);refine bodyPost_ret (re rfl _ _ _ _ _ _ rfl rC) rfl ?_;have ab:aV wr _ w.heap.size:=(((aV.refl wr _).setCell 0 (.bool (qn (ni x n b)))).setCell 1 (.l U n7 Y)).setCell 2 (.l W m7 d7);have ek:m-1=b:=(by have:=HE.out;omega);rw[ek];exact⟨_,rfl,(((R.imp (p':=fun g=>w.heap.size+1<=g) (fun g _ h=>h.1)).marked ab om).imp (fun g _ h=>by omega)),s.trans (ab.since om)⟩
theorem ev{w:World}:Cl 50 #[] w fun e b=>∃u,e=.returned u/\fJ b (fun g=>w.heap.size<=g) u 0/\w.S b:=
 (vM).mono fun _ _ ⟨u,a,V,s⟩=>⟨u,a,pe.rp (q:=0) V,s⟩
theorem aiV(n m c d k i:Nat)(a A:Option Addr)(j l bx o:Nat)(W X:Nat->Rat)(al:c<=1002000)(am:d<=1000)(qw:∀e,e<c->Qb (W e) 1048640)(qx:∀e,e<d->Qb (X e) 1048640):
 ∀(b:Nat) (w:World),dQ w (fun _=>True) a j l c W->dQ w (fun _=>True) A bx o d X->n+b<=c->m+b<=d->(∀D,D<=b->Qb (il 0 (fun t=>W (n+t)) (fun t=>X (m+t)) D) 1048640)->
 Cl 158 #[.slice a c k,.i (n:Int),.slice A d i,.i (m:Int),.i (b:Int)] w fun e s=>∃ab,e=.returned ab/\fJ s (fun g=>w.heap.size<=g) ab (il 0 (fun t=>W (n+t)) (fun t=>X (m+t)) b)/\w.S s:=by
 intro b
 induction b with
 | zero=>
   intro w I K h1 h2 F;have f:=cV w (.o #[.bool false,.n,.n] 83);have zA:(w.alloc (.o #[.bool false,.n,.n] 83)).heap.size=w.heap.size+1:=(by simp);have O:=cR.new w (.bool false) (.n) (.n) 83;show Calls _ _ #[.l a c k,.i (n:Int),.l A d i,.i (m:Int),.i 0] _ _;go_enter func158,ntmps158;go_wp2_with fail;generalize w.alloc (.o #[.bool false,.n,.n] 83)=C at*;refine (@ev C).mono ?_;rintro e w1 ⟨u1,rfl,R,s1⟩;have R2:=R;obtain⟨T,n6,c6,V,m6,d6,-,-,-,-,-,-,e6,-⟩:=R2;subst e6;have S1:=f.trans (sM s1 f.size);have r:=O.bH s1;have r0:=r.c0;have r1:=r.c1;have r2:=r.c2;have f0:=r.f 0;have f1:=r.f 1;have f2:=r.f 2;go_wp2;have P:=((r.gH (.bool (qn 0))).gM (.l T n6 c6)).gZ (.l V m6 d6);refine bodyPost_ret (re rfl _ _ _ _ _ _ rfl P) rfl ?_;have M:aV w1 _ w.heap.size:=(((aV.refl w1 _).setCell 0 (.bool (qn 0))).setCell 1 (.l T n6 c6)).setCell 2 (.l V m6 d6);exact⟨_,rfl,(((R.imp (p':=fun g=>w.heap.size+1<=g) (fun g _ h=>by have h':C.heap.size<=g:=h;omega)).marked M om).imp (fun g _ h=>by omega)),S1.trans (M.since om)⟩
 | succ b ih=>
   intro w I K h1 h2 F;have f:=cV w (.o #[.bool false,.n,.n] 83);have zA:(w.alloc (.o #[.bool false,.n,.n] 83)).heap.size=w.heap.size+1:=(by simp);have O:=cR.new w (.bool false) (.n) (.n) 83;obtain⟨N,hN⟩:∃N,N=b+1:=⟨_,rfl⟩;obtain⟨E,hE⟩:∃E,E=n+b:=⟨_,rfl⟩;obtain⟨G,hG⟩:∃G,G=m+b:=⟨_,rfl⟩;obtain⟨y,hA⟩:∃y,y=n+b+1:=⟨_,rfl⟩;obtain⟨B,hB⟩:∃B,B=m+b+1:=⟨_,rfl⟩;obtain⟨ac,x1,y1,p⟩:=I E om;obtain⟨ad,x2,y2,q⟩:=K G om;subst ac ad;obtain⟨a1,n1,c1,b1,m1,d1,-,-,-,-,-,-,e1,-⟩:=p.R;obtain⟨a2,n2,c2,b2,m2,d2,-,-,-,-,-,-,e2,-⟩:=q.R;simp only[ag3,true_and] at e1 e2;obtain⟨rfl,rfl⟩:=e1;obtain⟨rfl,rfl⟩:=e2;have t0:¬(N:Int)=0:=om;have t1:IntKind.i64.wrap ((N:Int)-1)=(b:Int):=(by rw[show (N:Int)-1=(b:Int) by omega];exact fO om om);have t2:IntKind.i64.wrap ((n:Int)+(N:Int))=(y:Int):=(by rw[show (n:Int)+(N:Int)=(y:Int) by omega];exact fO om om);have t3:IntKind.i64.wrap ((y:Int)-1)=(E:Int):=(by rw[show (y:Int)-1=(E:Int) by omega];exact fO om om);have t4:IntKind.i64.wrap ((m:Int)+(N:Int))=(B:Int):=(by rw[show (m:Int)+(N:Int)=(B:Int) by omega];exact fO om om);have t5:IntKind.i64.wrap ((B:Int)-1)=(G:Int):=(by rw[show (B:Int)-1=(G:Int) by omega];exact fO om om);have t6:(E:Int)<(c:Int):=om;have t7:(G:Int)<(d:Int):=om;have t8:(0:Int)<=(E:Int):=om;have t9:(0:Int)<=(G:Int):=om;have qE:=qw E om;have qG:=qx G om;have ae:=F b om;have hr:il 0 (fun t=>W (n+t)) (fun t=>X (m+t)) b+W E*X G=il 0 (fun t=>W (n+t)) (fun t=>X (m+t)) (b+1):=(by rw[hE,hG];rfl);rw[<-hr,<-hN];have J0:=fun s (aa:w.S s)=>ih s (I.bH aa) (K.bH aa) om om (fun D hk=>F D om);clear hr ih F h1 h2 hE hG hA hB hN;generalize il 0 (fun t=>W (n+t)) (fun t=>X (m+t)) b=Z at*;go_enter func158,ntmps158;go_wp2_with fail;generalize w.alloc (.o #[.bool false,.n,.n] 83)=C at*;have L:=ue C;have sd:=f.trans (sM L f.size);have J1:=J0 C.drew sd;have af:=(p.bH f).c0;have ag:=(p.bH f).c1;have ah:=(p.bH f).c2;have ai:=(q.bH f).c0;have aj:=(q.bH f).c1;have ak:=(q.bH f).c2
   go_region_held3 (fun s=>s.cell? (jj j (l+E*3))=some (.bool (qn (W E)))/\s.cell? (jj j (l+E*3+1))=some (.l a1 n1 c1)/\s.cell? (jj j (l+E*3+2))=some (.l b1 m1 d1)/\s.cell? (jj bx (o+G*3))=some (.bool (qn (X G)))/\s.cell? (jj bx (o+G*3+1))=some (.l a2 n2 c2)/\s.cell? (jj bx (o+G*3+2))=some (.l b2 m2 d2)) (go_keep)
    (first
      | (go_at_call 158;(with_reducible refine J1.mono ?_);rintro e wp ⟨up,rfl,Rp,sp⟩;have Q:=L.trans (sM sp L.size);have u:=f.trans (sM Q f.size);have J2:=vN qE qG om (p.bH u).R.read (q.bH u).R.read;have an:=(p.bH u).c0;have ao:=(p.bH u).c1;have aq:=(p.bH u).c2;have ar:=(q.bH u).c0;have au:=(q.bH u).c1;have av:=(q.bH u).c2)
      | (go_at_call 86;(with_reducible refine J2.mono ?_);rintro e wq ⟨uq,rfl,Rq,sq⟩;have H:=Q.trans (sM sq Q.size);have z:=f.trans (sM H f.size);have J3:=vc ae (qE.mul qG) om (Rp.bH sq).read Rq.read;have ay:=(p.bH z).c0;have az:=(p.bH z).c1;have a0:=(p.bH z).c2;have a3:=(q.bH z).c0;have a4:=(q.bH z).c1;have a5:=(q.bH z).c2)
      | (go_at_call 87;(with_reducible refine J3.mono ?_);rintro e w5 ⟨bj,rfl,S,s5⟩;have R6:=S;obtain⟨U,n7,c7,Y,m7,d7,-,-,-,-,-,-,e7,-⟩:=R6;subst e7;have u5:=H.trans (sM s5 H.size);have v:=f.trans (sM u5 f.size);have x:=O.bH u5;have a8:=p.lt;have a9:=q.lt;have ba:w.heap.size≠j:=om;have bb:w.heap.size≠bx:=om;have r0:=x.c0;have r1:=x.c1;have r2:=x.c2;have f0:=x.f 0;have f1:=x.f 1;have f2:=x.f 2;have bc:=(p.bH v).c0;have bd:=(p.bH v).c1;have bf:=(p.bH v).c2;have bg:=(q.bH v).c0;have bh:=(q.bH v).c1;have bi:=(q.bH v).c2))
   go_wp2;have P:=((x.gH (.bool (qn (Z+W E*X G)))).gM (.l U n7 c7)).gZ (.l Y m7 d7);refine bodyPost_ret (re rfl _ _ _ _ _ _ rfl P) rfl ?_;have M:aV w5 _ w.heap.size:=(((aV.refl w5 _).setCell 0 (.bool (qn (Z+W E*X G)))).setCell 1 (.l U n7 c7)).setCell 2 (.l Y m7 d7);exact⟨_,rfl,(((S.imp (p':=fun g=>w.heap.size+1<=g) (fun g _ h=>by have h':wq.heap.size<=g:=h;have:=H.size;omega)).marked M om).imp (fun g _ h=>by omega)),v.trans (M.since om)⟩
theorem el4{t v:Int}{bx c d k i j l:Nat}{X:Nat->Rat}(S:dQ w (fun _=>True) A bx c d X)(qx:∀C,C<d->Qb (X C) 1048640){Z:Nat->Rat}(T:dQ w (fun _=>True) B o b i Z)(aa:∀C,C<i->Qb (Z C) 1048640)(K:l<d)(L:l<i):
 Cl 134 #[.agg #[.i 4,.i z,.i y,.i t,.i v,.slice a n m],.slice A d k,.slice B i j,.i (l:Int)] w fun r q=>∃u,r=.returned u/\fJ q (fun g=>w.heap.size<=g) u (X l+Z l)/\w.S q:=by
 have s:w.S ((w.alloc (.o #[.i 4,.i z,.i y,.i t,.i v,.l a n m] 87)).alloc yJ):=(cV _ _).alloc qz _;have zA:((w.alloc (.o #[.i 4,.i z,.i y,.i t,.i v,.l a n m] 87)).alloc yJ).heap.size=w.heap.size+1+1:=by simp
 have nA:dL ((w.alloc (.o #[.i 4,.i z,.i y,.i t,.i v,.l a n m] 87)).alloc yJ) w.heap.size (.i 4) (.i z) (.i y) (.i t) (.i v) (.l a n m):=(dL.new w _ _ _ _ _ _ _).bH (cV _ _);have rA:cR ((w.alloc (.o #[.i 4,.i z,.i y,.i t,.i v,.l a n m] 87)).alloc yJ) (w.heap.size+1) (.bool false) (.n) (.n):=by have:=cR.new (w.alloc (.o #[.i 4,.i z,.i y,.i t,.i v,.l a n m] 87)) (.bool false) (.n) (.n) 83;simpa using this
 have p0:=nA.c0;obtain⟨eX,x1,y1,e⟩:=S l K;subst eX;obtain⟨ah,n2,c2,b2,m2,d2,-,-,-,-,-,-,H,-⟩:=e.R;simp only[ag3,fM] at H;obtain⟨rfl,rfl⟩:=H;have t1:(l:Int)<d:=om;obtain⟨eZ,x3,y3,p⟩:=T l L;subst eZ;obtain⟨ai,n3,c3,b3,m3,d3,-,-,-,-,-,-,I,-⟩:=p.R;simp only[ag3,fM] at I;obtain⟨rfl,rfl⟩:=I;have t2:(l:Int)<i:=om;have ab:=e.lt;have ac:=p.lt;have ad:w.heap.size+1≠bx:=om;have ae:w.heap.size+1≠o:=om;go_enter func134,ntmps134;go_wp2_with fail;generalize (w.alloc _).alloc _=x at*;have G:=ue x;have P:=s.tr G;have U:=vc (qx l K) (aa l L) om (e.bH P).R.read (p.bH P).R.read;have g0:=(e.bH s).c0;have g1:=(e.bH s).c1;have g2:=(e.bH s).c2;have h0:=(p.bH s).c0;have h1:=(p.bH s).c1;have h2:=(p.bH s).c2
 go_region_held3 (fun q=>q.cell? (jj bx (c+l*3))=some (.bool (qn (X l)))/\q.cell? (jj bx (c+l*3+1))=some (.l ah n2 c2)/\q.cell? (jj bx (c+l*3+2))=some (.l b2 m2 d2)/\q.cell? (jj o (b+l*3))=some (.bool (qn (Z l)))/\q.cell? (jj o (b+l*3+1))=some (.l ai n3 c3)/\q.cell? (jj o (b+l*3+2))=some (.l b3 m3 d3)) (go_keep)
  (first
    | (go_at_call 87;(with_reducible refine U.mono ?_);rintro r R ⟨af,rfl,Y,s5⟩;have ag:=Y;obtain⟨W,O,E,D,N,F,-,-,-,-,-,-,e7,-⟩:=ag;subst e7;have Q:=G.tr s5;have f:=s.tr Q;have V:=rA.bH Q;obtain⟨r0,r1,r2⟩:=V.g;obtain⟨f0,f1,f2⟩:=V.k;have i0:=(e.bH f).c0;have i1:=(e.bH f).c1;have i2:=(e.bH f).c2;have j0:=(p.bH f).c0;have j1:=(p.bH f).c1;have j2:=(p.bH f).c2))
 go_wp2;have rC:=((V.gH (.bool (qn (X l+Z l)))).gM (.l W O E)).gZ (.l D N F);refine bO (re rfl _ _ _ _ _ _ rfl rC) rfl ?_;have M:aV R _ (w.heap.size+1):=(((aV.refl R _).setCell 0 (.bool (qn (X l+Z l)))).setCell 1 (.l W O E)).setCell 2 (.l D N F);exact⟨_,rfl,(((Y.imp (p':=fun g=>w.heap.size+2<=g) (fun g _ h=>by have h':x.drew.heap.size<=g:=h;have:x.drew.heap.size=x.heap.size:=rfl;omega)).marked M om).imp (fun g _ h=>by omega)),f.trans (M.since om)⟩
theorem el5{e:Int}{bx d k i j l o:Nat}{X:Nat->Rat}(D:dQ w (fun _=>True) A bx d k X)(Q:∀I,I<k->Qb (X I) 1048640)(t:b=o*n)(N:1<=n)(hF:b+n<=k)(hl:k<=1000):
 Cl 134 #[.agg #[.i 5,.i z,.i y,.i (n:Int),.i e,.slice a m c],.slice A k i,.slice B j l,.i (o:Int)] w fun r H=>∃u,r=.returned u/\fJ H (fun g=>w.heap.size<=g) u (ni X b (n-1))/\w.S H:=by
 have F:w.S ((w.alloc (.o #[.i 5,.i z,.i y,.i (n:Int),.i e,.l a m c] 87)).alloc yJ):=(cV _ _).alloc qz _;have zA:((w.alloc (.o #[.i 5,.i z,.i y,.i (n:Int),.i e,.l a m c] 87)).alloc yJ).heap.size=w.heap.size+1+1:=by simp
 have P:dL ((w.alloc (.o #[.i 5,.i z,.i y,.i (n:Int),.i e,.l a m c] 87)).alloc yJ) w.heap.size (.i 5) (.i z) (.i y) (.i (n:Int)) (.i e) (.l a m c):=(dL.new w _ _ _ _ _ _ _).bH (cV _ _);have R:cR ((w.alloc (.o #[.i 5,.i z,.i y,.i (n:Int),.i e,.l a m c] 87)).alloc yJ) (w.heap.size+1) (.bool false) (.n) (.n):=by have:=cR.new (w.alloc (.o #[.i 5,.i z,.i y,.i (n:Int),.i e,.l a m c] 87)) (.bool false) (.n) (.n) 83;simpa using this
 have ab:=P.c0;have p3:=P.c3;have qF:IntKind.i64.wrap ((o:Int)*(n:Int))=(b:Int):=by rw[<-dR,<-t];exact fO om om
 clear t;go_enter func134,ntmps134;go_wp2_with fail;generalize (w.alloc _).alloc _=T at*;refine (aeV (D.bH F) N hF hl Q).mono ?_;rintro r C ⟨aa,rfl,K,Z⟩;have E:=K;obtain⟨O,x,q,p,v,s,-,-,-,-,-,-,L,-⟩:=E;subst L;have G:=F.tr Z;have f:=R.bH Z;obtain⟨r0,r1,r2⟩:=f.g;obtain⟨U,V,W⟩:=f.k;go_wp2;have S:=((f.gH (.bool (qn (ni X b (n-1))))).gM (.l O x q)).gZ (.l p v s);refine bO (re rfl _ _ _ _ _ _ rfl S) rfl ?_;have M:aV C _ (w.heap.size+1):=(((aV.refl C _).setCell 0 (.bool (qn (ni X b (n-1))))).setCell 1 (.l O x q)).setCell 2 (.l p v s);exact⟨_,rfl,(((K.imp (p':=fun g=>w.heap.size+2<=g) (fun g _ h=>by have Y:T.heap.size<=g:=h;omega)).marked M om).imp (fun g _ h=>by omega)),G.trans (M.since om)⟩
theorem alo(Q:Rat):(if Q<0 then 0 else Q)=ww Q:=by
 have a:Q<0↔Q.num<0:=by rw[Rat.lt_iff];simp
 cases h:qn Q
 . rw[aj7 h,aM];rw[a];exact of_decide_eq_false h
 . rw[aj8 h,aY];rw[a];exact iD h
theorem el2{e f:Int}{bx c d k i j l:Nat}{X:Nat->Rat}(N:dQ w (fun _=>True) A bx c d X)(qx:∀Y,Y<d->Qb (X Y) 1048640)(F:l<d):
 Cl 134 #[.agg #[.i 2,.i z,.i y,.i e,.i f,.slice a n m],.slice A d k,.slice B i j,.i (l:Int)] w fun r S=>∃u,r=.returned u/\fJ S (fun g=>w.heap.size<=g) u (ww (X l))/\w.S S:=by
 have q:w.S ((w.alloc (.o #[.i 2,.i z,.i y,.i e,.i f,.l a n m] 87)).alloc yJ):=(cV _ _).alloc qz _;have zA:((w.alloc (.o #[.i 2,.i z,.i y,.i e,.i f,.l a n m] 87)).alloc yJ).heap.size=w.heap.size+1+1:=by simp
 have nA:dL ((w.alloc (.o #[.i 2,.i z,.i y,.i e,.i f,.l a n m] 87)).alloc yJ) w.heap.size (.i 2) (.i z) (.i y) (.i e) (.i f) (.l a n m):=(dL.new w _ _ _ _ _ _ _).bH (cV _ _);have rA:cR ((w.alloc (.o #[.i 2,.i z,.i y,.i e,.i f,.l a n m] 87)).alloc yJ) (w.heap.size+1) (.bool false) (.n) (.n):=by have:=cR.new (w.alloc (.o #[.i 2,.i z,.i y,.i e,.i f,.l a n m] 87)) (.bool false) (.n) (.n) 83;simpa using this
 have p0:=nA.c0;obtain⟨eX,x1,y1,b⟩:=N l F;subst eX;obtain⟨R,n2,U,T,m2,ae,-,-,-,-,-,-,E,-⟩:=b.R;simp only[ag3,fM] at E;obtain⟨rfl,rfl⟩:=E;have t1:(l:Int)<d:=om;have ab:=b.lt;have ac:w.heap.size+1≠bx:=om;go_enter func134,ntmps134;go_wp2_with fail;generalize (w.alloc _).alloc _=L at*;have D:=ue L;have sd:=q.tr D;have O:=@ev L.drew;have g0:=(b.bH q).c0;have g1:=(b.bH q).c1;have g2:=(b.bH q).c2
 go_region_held3 (fun S=>S.cell? (jj bx (c+l*3))=some (.bool (qn (X l)))/\S.cell? (jj bx (c+l*3+1))=some (.l R n2 U)/\S.cell? (jj bx (c+l*3+2))=some (.l T m2 ae)) (go_keep)
  (first
    | (go_at_call 50;(with_reducible refine O.mono ?_);rintro r wp ⟨up,rfl,Q,sp⟩;have t:=D.tr sp;have p:=q.tr t;have v:=aiW (qx l F) (anj (k:=1048640) om) (b.bH p).R.read Q.read;rw[alo] at v;have h0:=(b.bH p).c0;have h1:=(b.bH p).c1;have h2:=(b.bH p).c2)
    | (go_at_call 159;(with_reducible refine v.mono ?_);rintro r K ⟨ad,rfl,x,s5⟩;have P:=x;obtain⟨Z,H,W,V,G,C,-,-,-,-,-,-,af,-⟩:=P;subst af;have I:=t.tr s5;have o:=q.tr I;have s:=rA.bH I;obtain⟨r0,r1,r2⟩:=s.g;obtain⟨f0,f1,f2⟩:=s.k;have i0:=(b.bH o).c0;have i1:=(b.bH o).c1;have i2:=(b.bH o).c2))
 go_wp2;have rC:=((s.gH (.bool (qn (ww (X l))))).gM (.l Z H W)).gZ (.l V G C);refine bO (re rfl _ _ _ _ _ _ rfl rC) rfl ?_;have M:aV K _ (w.heap.size+1):=(((aV.refl K _).setCell 0 (.bool (qn (ww (X l))))).setCell 1 (.l Z H W)).setCell 2 (.l V G C);exact⟨_,rfl,(((x.imp (p':=fun g=>w.heap.size+2<=g) (fun g _ h=>by have h':wp.heap.size<=g:=h;have:=t.size;omega)).marked M om).imp (fun g _ h=>by omega)),o.trans (M.since om)⟩
theorem ag8(R:mH w u Q):
 Cl 78 #[u] w fun e q=>(∃z:Int,e=.returned (.i z)/\(qn Q=true->z=-1)/\(qn Q=false->0<=z/\z<=1))/\w.S q:=by
 obtain⟨a,n,j,b,m,k,g,o,i,p,X,Y,rfl,R,f,r⟩:=R;refine (adj).mono ?_;rintro e q ⟨rfl,s⟩;have h:=jr R.pX;rw[f] at h;refine⟨⟨_,rfl,fun c=> ?_,fun c=> ?_⟩,s⟩
 . have l:=iD c;rw[aM om,aY c]
 . rw[c];by_cases d:n=0
   . simp[d]
   . simp[d]
theorem el3n{E p:Int}{bx k i j l o b:Nat}{X:Nat->Rat}(aq:dQ w (fun _=>True) a bx k i X)(qx:∀U,U<i->Qb (X U) 1048640){W:Nat->Rat}(ao:dQ w (fun _=>True) (jp n m) n m c W)(qw:∀U,U<c->Qb (W U) 1048640)(O:0<c)(N:b<i)(hq:Hid (qn (X b)=true)):
 Cl 134 #[.agg #[.i 3,.i z,.i y,.i E,.i p,.slice (jp n m) c d],.slice a i j,.slice A l o,.i (b:Int)] w fun r s=>∃an,r=.returned an/\fJ s (fun g=>w.heap.size<=g) an (W 0*X b)/\w.S s:=by
 have x:w.S ((w.alloc (.o #[.i 3,.i z,.i y,.i E,.i p,.l (jp n m) c d] 87)).alloc yJ):=(cV _ _).alloc qz _;have zA:((w.alloc (.o #[.i 3,.i z,.i y,.i E,.i p,.l (jp n m) c d] 87)).alloc yJ).heap.size=w.heap.size+1+1:=by simp
 have v:dL ((w.alloc (.o #[.i 3,.i z,.i y,.i E,.i p,.l (jp n m) c d] 87)).alloc yJ) w.heap.size (.i 3) (.i z) (.i y) (.i E) (.i p) (.l (jp n m) c d):=(dL.new w _ _ _ _ _ _ _).bH (cV _ _);have rA:cR ((w.alloc (.o #[.i 3,.i z,.i y,.i E,.i p,.l (jp n m) c d] 87)).alloc yJ) (w.heap.size+1) (.bool false) (.n) (.n):=by have:=cR.new (w.alloc (.o #[.i 3,.i z,.i y,.i E,.i p,.l (jp n m) c d] 87)) (.bool false) (.n) (.n) 83;simpa using this
 have p0:=v.c0;obtain⟨eX,x1,y1,e⟩:=aq b N;subst eX;obtain⟨a2,n2,c2,b2,m2,d2,-,-,-,-,-,-,I,-⟩:=e.R;simp only[ag3,fM] at I;obtain⟨rfl,rfl⟩:=I;have t1:(b:Int)<i:=om;obtain⟨-,x4,y4,f⟩:=ao 0 O;obtain⟨a4,n4,c4,b4,m4,d4,-,-,-,-,-,-,K,-⟩:=f.R;simp only[ag3,fM] at K;obtain⟨rfl,rfl⟩:=K;rw[iT,fV] at f;have ag:=f.lt;have ac:(0:Int)<c:=om;have aj:w.heap.size+1≠n:=om;have ak:w.heap.size+1≠w.heap.size:=om;have ah:=e.lt;have ai:w.heap.size+1≠bx:=om;have g0:=(e.bH x).c0;have g1:=(e.bH x).c1;have g2:=(e.bH x).c2;have B:=ag8 (e.bH x).R.read;go_enter func134,ntmps134;go_wp2_with fail;generalize (w.alloc _).alloc _=wA at*;refine B.mono ?_;rintro r V ⟨⟨ab,rfl,L,h2⟩,t⟩;have q:=x.tr t;have al:=(v.bH t).c0;clear g0 g1 g2 B;have ad:=(e.bH q).c0;have ae:=(e.bH q).c1;have af:=(e.bH q).c2;have dr:=ue V;have S:=t.tr dr;have R:=x.tr S;have ar:=vN (qw 0 O) (qx b N) om (f.bH R).R.read (e.bH R).R.read;have hz:¬(0:Int)<=ab:=by have:=L hq.out;omega
 have q5:=(v.bH t).c5;have h0:=(f.bH q).c0;have L:=(f.bH q).c1;have h2:=(f.bH q).c2;go_wp2_with fail
 go_region_held3 (fun s=>s.cell? (jj w.heap.size 5)=some (.l (jp n m) c d)/\s.cell? (jj n m)=some (.bool (qn (W 0)))/\s.cell? (jj n (m+1))=some (.l a4 n4 c4)/\s.cell? (jj n (m+2))=some (.l b4 m4 d4)/\s.cell? (jj bx (k+b*3))=some (.bool (qn (X b)))/\s.cell? (jj bx (k+b*3+1))=some (.l a2 n2 c2)/\s.cell? (jj bx (k+b*3+2))=some (.l b2 m2 d2)) (go_keep)
  (first
    | (go_at_call 86;(with_reducible refine ar.mono ?_);rintro r T ⟨am,rfl,C,s5⟩;have au:=C;obtain⟨D,Q,G,F,P,H,-,-,-,-,-,-,e7,-⟩:=au;subst e7;have Y:=S.tr s5;have u:=x.tr Y;have Z:=rA.bH Y;obtain⟨r0,r1,r2⟩:=Z.g;obtain⟨f0,f1,f2⟩:=Z.k;have o5:=(v.bH Y).c5;have i0:=(e.bH u).c0;have i1:=(e.bH u).c1;have i2:=(e.bH u).c2;have j0:=(f.bH u).c0;have j1:=(f.bH u).c1;have j2:=(f.bH u).c2))
 go_wp2;have rC:=((Z.gH (.bool (qn (W 0*X b)))).gM (.l D Q G)).gZ (.l F P H);refine bO (re rfl _ _ _ _ _ _ rfl rC) rfl ?_;have M:aV T _ (w.heap.size+1):=(((aV.refl T _).setCell 0 (.bool (qn (W 0*X b)))).setCell 1 (.l D Q G)).setCell 2 (.l F P H);exact⟨_,rfl,(((C.imp (p':=fun g=>w.heap.size+2<=g) (fun g _ h=>by have h':V.drew.heap.size<=g:=h;have:V.drew.heap.size=V.heap.size:=rfl;have:=t.size;omega)).marked M om).imp (fun g _ h=>by omega)),u.trans (M.since om)⟩
theorem el3p{f R:Int}{bx k i j l o b:Nat}{X:Nat->Rat}(O:dQ w (fun _=>True) a bx k i X)(qx:∀Y,Y<i->Qb (X Y) 1048640){ao:Nat->Rat}(N:dQ w (fun _=>True) (jp n m) n m c ao)(aa:0<c)(E:b<i)(hq:Hid (qn (X b)=false)):
 Cl 134 #[.agg #[.i 3,.i z,.i y,.i f,.i R,.slice (jp n m) c d],.slice a i j,.slice A l o,.i (b:Int)] w fun r K=>∃u,r=.returned u/\fJ K (fun g=>w.heap.size<=g) u (X b)/\w.S K:=by
 have S:w.S ((w.alloc (.o #[.i 3,.i z,.i y,.i f,.i R,.l (jp n m) c d] 87)).alloc yJ):=(cV _ _).alloc qz _;have zA:((w.alloc (.o #[.i 3,.i z,.i y,.i f,.i R,.l (jp n m) c d] 87)).alloc yJ).heap.size=w.heap.size+1+1:=by simp
 have H:dL ((w.alloc (.o #[.i 3,.i z,.i y,.i f,.i R,.l (jp n m) c d] 87)).alloc yJ) w.heap.size (.i 3) (.i z) (.i y) (.i f) (.i R) (.l (jp n m) c d):=(dL.new w _ _ _ _ _ _ _).bH (cV _ _);have rA:cR ((w.alloc (.o #[.i 3,.i z,.i y,.i f,.i R,.l (jp n m) c d] 87)).alloc yJ) (w.heap.size+1) (.bool false) (.n) (.n):=by have:=cR.new (w.alloc (.o #[.i 3,.i z,.i y,.i f,.i R,.l (jp n m) c d] 87)) (.bool false) (.n) (.n) 83;simpa using this
 have p0:=H.c0;obtain⟨V,x1,y1,e⟩:=O b E;subst V;obtain⟨a2,n2,c2,b2,m2,d2,-,-,-,-,-,-,C,-⟩:=e.R;simp only[ag3,fM] at C;obtain⟨rfl,rfl⟩:=C;have t1:(b:Int)<i:=om;obtain⟨-,x4,y4,q⟩:=N 0 aa;obtain⟨a4,n4,c4,b4,m4,d4,-,-,-,-,-,-,D,-⟩:=q.R;simp only[ag3,fM] at D;obtain⟨rfl,rfl⟩:=D;rw[iT,fV] at q;have ah:=q.lt;have ad:(0:Int)<c:=om;have ak:w.heap.size+1≠n:=om;have al:w.heap.size+1≠w.heap.size:=om;have ai:=e.lt;have aj:w.heap.size+1≠bx:=om;have aq:=(e.bH S).c0;have ar:=(e.bH S).c1;have g2:=(e.bH S).c2;have t:=ag8 (e.bH S).R.read;go_enter func134,ntmps134;go_wp2_with fail;generalize (w.alloc _).alloc _=wA at*;refine t.mono ?_;rintro r w1 ⟨⟨ac,rfl,h1,h2⟩,p⟩;have T:=S.tr p;have am:=(H.bH p).c0;clear aq ar g2 t;have ae:=(e.bH T).c0;have af:=(e.bH T).c1;have ag:=(e.bH T).c2;have hz:(0:Int)<=ac:=(h2 hq.out).1;go_wp2_with fail;refine (uZ (qx b E) om (e.bH T).R.read).mono ?_;rintro r L ⟨an,rfl,v,s5⟩;have P:=v;obtain⟨x,G,W,Z,F,B,-,-,-,-,-,-,U,-⟩:=P;subst U;have I:=p.tr s5;have Q:=S.tr I;have s:=rA.bH I;obtain⟨r0,r1,r2⟩:=s.g;obtain⟨f0,f1,f2⟩:=s.k;go_wp2;have rC:=((s.gH (.bool (qn (X b)))).gM (.l x G W)).gZ (.l Z F B);refine bO (re rfl _ _ _ _ _ _ rfl rC) rfl ?_;have M:aV L _ (w.heap.size+1):=(((aV.refl L _).setCell 0 (.bool (qn (X b)))).setCell 1 (.l x G W)).setCell 2 (.l Z F B);exact⟨_,rfl,(((v.imp (p':=fun g=>w.heap.size+2<=g) (fun g _ h=>by have h':w1.heap.size<=g:=h;have:=p.size;omega)).marked M om).imp (fun g _ h=>by omega)),Q.trans (M.since om)⟩
theorem aed(Q:Rat)(w v:Nat->Rat)(n:Nat):il Q w v n=il 0 w v n+Q:=by
 induction n with
 | zero=>show Q=0+Q;rw[jM]
 | succ n ih=>
   show il Q w v n+w n*v n=il 0 w v n+w n*v n+Q;rw[ih,jK,jK,pK Q]
theorem el1{h u:Int}{bx k i j l o b:Nat}{X:Nat->Rat}(HX:dQ w (fun _=>True) a bx k i X)(qx:∀N,N<i->Qb (X N) 1048640){W:Nat->Rat}(B:dQ w (fun _=>True) (jp n m) n m c W)(an:∀N,N<c->Qb (W N) 1048640)(hl:i<=1000)(ah:c<=1002000)(hF:q=b*(i+1))(hE:p=q+i)(af:p<c)(V:∀U,U<=i->Qb (il 0 (fun t=>W (q+t)) X U) 1048640):
 Cl 134 #[.agg #[.i 1,.i z,.i y,.i h,.i u,.slice (jp n m) c d],.slice a i j,.slice A l o,.i (b:Int)] w fun r E=>∃ar,r=.returned ar/\fJ E (fun g=>w.heap.size<=g) ar (il (W p) (fun t=>W (q+t)) X i)/\w.S E:=by
 have F:w.S ((w.alloc (.o #[.i 1,.i z,.i y,.i h,.i u,.l (jp n m) c d] 87)).alloc yJ):=(cV _ _).alloc qz _;have zA:((w.alloc (.o #[.i 1,.i z,.i y,.i h,.i u,.l (jp n m) c d] 87)).alloc yJ).heap.size=w.heap.size+1+1:=by simp
 have x:dL ((w.alloc (.o #[.i 1,.i z,.i y,.i h,.i u,.l (jp n m) c d] 87)).alloc yJ) w.heap.size (.i 1) (.i z) (.i y) (.i h) (.i u) (.l (jp n m) c d):=(dL.new w _ _ _ _ _ _ _).bH (cV _ _);have rA:cR ((w.alloc (.o #[.i 1,.i z,.i y,.i h,.i u,.l (jp n m) c d] 87)).alloc yJ) (w.heap.size+1) (.bool false) (.n) (.n):=by have:=cR.new (w.alloc (.o #[.i 1,.i z,.i y,.i h,.i u,.l (jp n m) c d] 87)) (.bool false) (.n) (.n) 83;simpa using this
 have p0:=x.c0;obtain⟨-,x4,y4,f⟩:=B p om;obtain⟨a4,n4,c4,b4,m4,d4,-,-,-,-,-,-,Q,-⟩:=f.R;simp only[ag3,fM] at Q;obtain⟨rfl,rfl⟩:=Q;have ai:=f.lt;have ae:(p:Int)<c:=om;have aj:w.heap.size+1≠n:=om;have ak:w.heap.size+1≠w.heap.size:=om;obtain⟨L,R⟩:∃L,L=i+1:=⟨_,rfl⟩;have q1:IntKind.i64.wrap ((i:Int)+1)=(L:Int):=by rw[show (i:Int)+1=(L:Int) by omega];exact fO om om
 have qF:IntKind.i64.wrap ((b:Int)*(L:Int))=(q:Int):=by rw[show (b:Int)*(L:Int)=q by rw[hF,R,dR]];exact fO om om
 have qE:IntKind.i64.wrap ((q:Int)+(i:Int))=(p:Int):=by rw[show (q:Int)+(i:Int)=p by omega];exact fO om om
 have aa:q+i<=c:=om;have ad:(0:Int)<=p:=om;clear hF hE R;go_enter func134,ntmps134;go_wp2_with fail;generalize (w.alloc _).alloc _=wA at*;have P:=ue wA;have ao:=F.tr P;have C:=aiV q 0 c i d j (jp n m) a n m bx k W X om om an qx i wA.drew (B.bH ao) (HX.bH ao) aa om (fun U hk=>by have:=V U hk;simpa only[aZ] using this);simp only[aZ,Int.natCast_zero] at C;have ac:=(x.bH yD).c5;have g0:=(f.bH F).c0;have g1:=(f.bH F).c1;have g2:=(f.bH F).c2;go_wp2_with fail
 go_region_held3 (fun E=>E.cell? (jj w.heap.size 5)=some (.l (jp n m) c d)/\E.cell? (jj n (m+p*3))=some (.bool (qn (W p)))/\E.cell? (jj n (m+p*3+1))=some (.l a4 n4 c4)/\E.cell? (jj n (m+p*3+2))=some (.l b4 m4 d4)) (go_keep)
  (first
    | (go_at_call 158;(with_reducible refine C.mono ?_);rintro r wp ⟨up,rfl,Rp,sp⟩;have Y:=P.tr sp;have v:=F.tr Y;have D:=vc (V i zR) (an p om) om Rp.read (f.bH v).R.read;rw[<-aed] at D;have ag:=(x.bH Y).c5;have h0:=(f.bH v).c0;have h1:=(f.bH v).c1;have h2:=(f.bH v).c2)
    | (go_at_call 87;(with_reducible refine D.mono ?_);rintro r w5 ⟨am,rfl,G,s5⟩;have R6:=G;obtain⟨H,T,K,I,S,O,-,-,-,-,-,-,e7,-⟩:=R6;subst e7;have Z:=Y.tr s5;have s:=F.tr Z;have e:=rA.bH Z;have r0:=e.c0;have r1:=e.c1;have r2:=e.c2;have f0:=e.f 0;have f1:=e.f 1;have f2:=e.f 2;have al:=(x.bH Z).c5;have i0:=(f.bH s).c0;have i1:=(f.bH s).c1;have i2:=(f.bH s).c2))
 go_wp2;have rC:=((e.gH (.bool (qn (il (W p) (fun t=>W (q+t)) X i)))).gM (.l H T K)).gZ (.l I S O);refine bO (re rfl _ _ _ _ _ _ rfl rC) rfl ?_;have M:aV w5 _ (w.heap.size+1):=(((aV.refl w5 _).setCell 0 (.bool (qn (il (W p) (fun t=>W (q+t)) X i)))).setCell 1 (.l H T K)).setCell 2 (.l I S O);exact⟨_,rfl,(((G.imp (p':=fun g=>w.heap.size+2<=g) (fun g _ aq=>by have h':wp.heap.size<=g:=aq;have:=Y.size;omega)).marked M om).imp (fun g _ aq=>by omega)),s.trans (M.since om)⟩
theorem el6{bx j l o b p q:Nat}{X:Nat->Rat}(HX:dQ w (fun _=>True) a bx j l X)(qx:∀K,K<l->Qb (X K) 1048640){W:Nat->Rat}(B:dQ w (fun _=>True) (jp c d) c d k W)(U:∀K,K<k->Qb (W K) 1048640)(hl:l<=1000)(aj:k<=1002000)(hF:t=q*m)(P:n<k)(aa:t+n<=l)(T:∀S,S<=n->Qb (il 0 W (fun F=>X (t+F)) S) 1048640):
 Cl 134 #[.agg #[.i 6,.i z,.i y,.i (n:Int),.i (m:Int),.slice (jp c d) k i],.slice a l o,.slice A b p,.i (q:Int)] w fun r h=>∃ax,r=.returned ax/\fJ h (fun g=>w.heap.size<=g) ax (il (W n) W (fun F=>X (t+F)) n)/\w.S h:=by
 have s:w.S ((w.alloc (.o #[.i 6,.i z,.i y,.i (n:Int),.i (m:Int),.l (jp c d) k i] 87)).alloc yJ):=(cV _ _).alloc qz _;have zA:((w.alloc (.o #[.i 6,.i z,.i y,.i (n:Int),.i (m:Int),.l (jp c d) k i] 87)).alloc yJ).heap.size=w.heap.size+1+1:=by simp
 have e:dL ((w.alloc (.o #[.i 6,.i z,.i y,.i (n:Int),.i (m:Int),.l (jp c d) k i] 87)).alloc yJ) w.heap.size (.i 6) (.i z) (.i y) (.i (n:Int)) (.i (m:Int)) (.l (jp c d) k i):=(dL.new w _ _ _ _ _ _ _).bH (cV _ _);have rA:cR ((w.alloc (.o #[.i 6,.i z,.i y,.i (n:Int),.i (m:Int),.l (jp c d) k i] 87)).alloc yJ) (w.heap.size+1) (.bool false) (.n) (.n):=by have:=cR.new (w.alloc (.o #[.i 6,.i z,.i y,.i (n:Int),.i (m:Int),.l (jp c d) k i] 87)) (.bool false) (.n) (.n) 83;simpa using this
 have p0:=e.c0;obtain⟨-,x4,y4,f⟩:=B n om;obtain⟨a4,n4,c4,b4,m4,d4,-,-,-,-,-,-,O,-⟩:=f.R;simp only[ag3,fM] at O;obtain⟨rfl,rfl⟩:=O;have ak:=f.lt;have af:(n:Int)<k:=om;have al:w.heap.size+1≠c:=om;have am:w.heap.size+1≠w.heap.size:=om;have qF:IntKind.i64.wrap ((q:Int)*(m:Int))=(t:Int):=by rw[<-dR,<-hF];exact fO om om
 clear hF;go_enter func134,ntmps134;go_wp2_with fail;generalize (w.alloc _).alloc _=av at*;have N:=ue av;have V:=s.tr N;have C:=aiV 0 t k l i o (jp c d) a c d bx j W X om om U qx n av.drew (B.bH V) (HX.bH V) om aa (fun S P=>by have:=T S P;simpa only[aZ] using this);simp only[aZ,Int.natCast_zero] at C;have ac:=(e.bH yD).c3;have ad:=(e.bH yD).c4;have ae:=(e.bH yD).c5;have g0:=(f.bH s).c0;have g1:=(f.bH s).c1;have g2:=(f.bH s).c2;go_wp2_with fail
 go_region_held3 (fun h=>h.cell? (jj w.heap.size 3)=some (.i (n:Int))/\h.cell? (jj w.heap.size 4)=some (.i (m:Int))/\h.cell? (jj w.heap.size 5)=some (.l (jp c d) k i)/\h.cell? (jj c (d+n*3))=some (.bool (qn (W n)))/\h.cell? (jj c (d+n*3+1))=some (.l a4 n4 c4)/\h.cell? (jj c (d+n*3+2))=some (.l b4 m4 d4)) (go_keep)
  (first
    | (go_at_call 158;(with_reducible refine C.mono ?_);rintro r wp ⟨up,rfl,Rp,sp⟩;have v:=N.tr sp;have Z:=s.tr v;have D:=vc (T n zR) (U n om) om Rp.read (f.bH Z).R.read;rw[<-aed] at D;have ag:=(e.bH v).c3;have ah:=(e.bH v).c4;have ai:=(e.bH v).c5;have h0:=(f.bH Z).c0;have h1:=(f.bH Z).c1;have h2:=(f.bH Z).c2)
    | (go_at_call 87;(with_reducible refine D.mono ?_);rintro r au ⟨ar,rfl,E,s5⟩;have R6:=E;obtain⟨G,R,I,H,Q,L,-,-,-,-,-,-,e7,-⟩:=R6;subst e7;have x:=v.tr s5;have Y:=s.tr x;have u:=rA.bH x;have r0:=u.c0;have r1:=u.c1;have r2:=u.c2;have f0:=u.f 0;have f1:=u.f 1;have f2:=u.f 2;have an:=(e.bH x).c3;have ao:=(e.bH x).c4;have aq:=(e.bH x).c5;have i0:=(f.bH Y).c0;have i1:=(f.bH Y).c1;have i2:=(f.bH Y).c2))
 go_wp2;have rC:=((u.gH (.bool (qn (il (W n) W (fun F=>X (t+F)) n)))).gM (.l G R I)).gZ (.l H Q L);refine bO (re rfl _ _ _ _ _ _ rfl rC) rfl ?_;have M:aV au _ (w.heap.size+1):=(((aV.refl au _).setCell 0 (.bool (qn (il (W n) W (fun F=>X (t+F)) n)))).setCell 1 (.l G R I)).setCell 2 (.l H Q L);exact⟨_,rfl,(((E.imp (p':=fun g=>w.heap.size+2<=g) (fun g _ aw=>by have h':wp.heap.size<=g:=aw;have:=v.size;omega)).marked M om).imp (fun g _ aw=>by omega)),Y.trans (M.since om)⟩
theorem Qb.inv(h:Qb Q n)(c:Q.num.natAbs≠0):Qb Q⁻¹ n:=by
 obtain⟨-,a,b⟩:=e8 Q c;exact⟨by rw[a];exact h.2,by rw[b];exact h.1⟩
theorem el7{z y v3 v4:Int}{bx k i j l o b:Nat}{X:Nat->Rat}(HX:dQ w (fun _=>True) a bx k i X)(qx:∀ae,ae<i->Qb (X ae) 1048640){W:Nat->Rat}(HW:dQ w (fun _=>True) (jp n m) n m c W)(s:∀ae,ae<c->Qb (W ae) 1048640)(h4:4<=c)(eh:b<i)(hz:(W 2).num.natAbs≠0):
 Cl 134 #[.agg #[.i 7,.i z,.i y,.i v3,.i v4,.slice (jp n m) c d],.slice a i j,.slice A l o,.i (b:Int)] w fun ee S=>∃bo,ee=.returned bo/\fJ S (fun ed=>w.heap.size<=ed) bo (W 0*(X b-W 1)*(W 2)⁻¹ +W 3)/\w.S S:=by
 have B:w.S ((w.alloc (.o #[.i 7,.i z,.i y,.i v3,.i v4,.l (jp n m) c d] 87)).alloc yJ):=(cV _ _).alloc qz _;have zA:((w.alloc (.o #[.i 7,.i z,.i y,.i v3,.i v4,.l (jp n m) c d] 87)).alloc yJ).heap.size=w.heap.size+1+1:=by simp
 have q:dL ((w.alloc (.o #[.i 7,.i z,.i y,.i v3,.i v4,.l (jp n m) c d] 87)).alloc yJ) w.heap.size (.i 7) (.i z) (.i y) (.i v3) (.i v4) (.l (jp n m) c d):=(dL.new w _ _ _ _ _ _ _).bH (cV _ _);have rA:cR ((w.alloc (.o #[.i 7,.i z,.i y,.i v3,.i v4,.l (jp n m) c d] 87)).alloc yJ) (w.heap.size+1) (.bool false) (.n) (.n):=by have:=cR.new (w.alloc (.o #[.i 7,.i z,.i y,.i v3,.i v4,.l (jp n m) c d] 87)) (.bool false) (.n) (.n) 83;simpa using this
 have p0:=q.c0;obtain⟨eX,x1,y1,p⟩:=HX b eh;subst eX;obtain⟨a2,n2,c2,b2,m2,d2,-,-,-,-,-,-,e2,-⟩:=p.R;simp only[ag3,fM] at e2;obtain⟨rfl,rfl⟩:=e2;have t1:(b:Int)<i:=om;obtain⟨-,d1,d6,e⟩:=HW 0 om;obtain⟨a0,bm,a6,a4,bi,ba,-,-,-,-,-,-,bc,-⟩:=e.R;simp only[ag3,fM] at bc;obtain⟨rfl,rfl⟩:=bc;obtain⟨-,d3,d8,g⟩:=HW 1 om;obtain⟨a3,bn,a8,a5,bj,bb,-,-,-,-,-,-,bd,-⟩:=g.R;simp only[ag3,fM] at bd;obtain⟨rfl,rfl⟩:=bd;obtain⟨-,d4,d9,t⟩:=HW 2 om;obtain⟨bq,ce,b1,bu,cb,b5,-,-,-,-,-,-,bf,-⟩:=t.R;simp only[ag3,fM] at bf;obtain⟨rfl,rfl⟩:=bf;obtain⟨-,d5,ea,u⟩:=HW 3 om;obtain⟨br,cf,b3,bz,cc,b6,-,-,-,-,-,-,bg,-⟩:=u.R;simp only[ag3,fM] at bg;obtain⟨rfl,rfl⟩:=bg;simp only[iT,fV,Nat.reduceMul] at e g t u;have dq:=p.lt;have dp:=e.lt;have dy:(1:Int)<c:=om;have dz:(2:Int)<c:=om;have d0:(3:Int)<c:=om;have dx:(0:Int)<c:=om;have ds:w.heap.size+1≠bx:=om;have dt:w.heap.size+1≠n:=om;have du:w.heap.size+1≠w.heap.size:=om;go_enter func134,ntmps134;go_wp2_with fail;generalize (w.alloc _).alloc _=bw at*;have dr:=ue bw;have P:=B.tr dr;have J1:=uo (qx b eh) (s 1 om) om (p.bH P).R.read (g.bH P).R.read;go_wp2;refine wp_region_held_drew (S:=fun S=>S.cell? (jj w.heap.size 5)=some (.l (jp n m) c d)/\S.cell? (jj n m)=some (.bool (qn (W 0)))/\S.cell? (jj n (m+1))=some (.l a0 bm a6)/\S.cell? (jj n (m+2))=some (.l a4 bi ba)/\S.cell? (jj n (m+3))=some (.bool (qn (W 1)))/\S.cell? (jj n (m+3+1))=some (.l a3 bn a8)/\S.cell? (jj n (m+3+2))=some (.l a5 bj bb)/\S.cell? (jj bx (k+b*3))=some (.bool (qn (X b)))/\S.cell? (jj bx (k+b*3+1))=some (.l a2 n2 c2)/\S.cell? (jj bx (k+b*3+2))=some (.l b2 m2 d2)) kr ⟨(q.bH dr).c5,(e.bH P).c0,(e.bH P).c1,(e.bH P).c2,(g.bH P).c0,(g.bH P).c1,(g.bH P).c2,(p.bH P).c0,(p.bH P).c1,(p.bH P).c2⟩ (fun b9=> ?_);refine vC 0 111 ?_;refine vC 1 112 ?_;refine ta 2 113 (.p n m) ?_ ?_
 . intro S v;clear v;go_simp;try (intro h;omega)
 simp only[ap,la,lz,ls];refine vC 3 114 ?_;refine vC 4 115 ?_;refine vC 5 116 ?_;refine ta 6 117 (.p bx (k+b*3)) ?_ ?_
 . intro S v;clear v;go_simp;try (intro h;omega)
 simp only[ap,la,lz,ls];refine vC 7 118 ?_;refine vC 8 119 ?_;refine vC 9 120 ?_;refine ta 10 121 (.p n (m+3)) ?_ ?_
 . intro S v;clear v;go_simp;try (intro h;omega)
 simp only[ap,la,lz,ls];refine vC 11 122 ?_;clear b9;generalize bw.drew=wd at*;refine wpAnyH_ready (rs:=[12,14]) kr qz ?_;refine AllReadyH.cons rfl (fun K R=> ?a1) (AllReadyH.cons rfl (fun K R=> ?c1) AllReadyH.nil)
 case' a1=>
  go_simp;go_wp2_with (go_at_call 52;with_reducible refine J1.mono ?_;rintro ee ec ⟨ci,rfl,Rp,ai⟩);have av:=Rp;obtain⟨bs,cg,b4,b0,cd,b8,-,-,-,-,-,-,aw,-⟩:=av;subst aw;have Q:=dr.tr ai;have U:=B.tr Q;refine R.out _ _ ⟨(q.bH Q).c5,(e.bH U).c0,(e.bH U).c1,(e.bH U).c2,(g.bH U).c0,(g.bH U).c1,(g.bH U).c2,(p.bH U).c0,(p.bH U).c1,(p.bH U).c2⟩ (fun Y=> ?_);clear R K;have J2:=vN (s 0 om) ((qx b eh).sub (s 1 om)) om (e.bH U).R.read Rp.read;refine wpAnyH_ready (rs:=[13,14]) kr qz ?_;refine AllReadyH.cons rfl (fun K R=> ?a2) (AllReadyH.cons rfl (fun K R=> ?b2) AllReadyH.nil)
  case' a2=>go_simp;go_wp2_with (go_at_call 86;with_reducible refine J2.mono ?_;rintro ee x ⟨bp,rfl,eg,aa⟩);have ac:=eg;obtain⟨F,M,H,G,L,I,-,-,-,-,-,-,ad,-⟩:=ac;subst ad;have E:=Q.tr aa;have T:=B.tr E;refine R.out _ _ ⟨(q.bH E).c5,(e.bH T).c0,(e.bH T).c1,(e.bH T).c2,(g.bH T).c0,(g.bH T).c1,(g.bH T).c2,(p.bH T).c0,(p.bH T).c1,(p.bH T).c2⟩ (fun Y=> ?_);clear R K;refine rkH 14 fun K R=> ?_;go_simp;have ab:=cV x yJ;have D:=cR.new x (.bool false) (.n) (.n) 83;have N:bw.S (x.alloc yJ):=E.tr ab;have O:w.S (x.alloc yJ):=B.tr N;refine R.out _ _ ⟨(q.bH N).c5,(e.bH O).c0,(e.bH O).c1,(e.bH O).c2,(g.bH O).c0,(g.bH O).c1,(g.bH O).c2,(p.bH O).c0,(p.bH O).c1,(p.bH O).c2⟩ (fun Y=> ?_);clear R K;obtain⟨f,V⟩:∃f,f=x.heap.size:=⟨_,rfl⟩;have fl:bw.heap.size<=f:=(by rw[V];exact E.size);have bh:x.heap.size<=f:=(by rw[V];exact aC _);rw[<-V] at D⊢;generalize x.alloc _=wn at*;clear V;refine rkH 15 fun K R=> ?_;obtain⟨q0,q1,q2⟩:=D.g;obtain⟨af,ag,ah⟩:=D.k;go_simp;have ef:aV wn _ f:=(((aV.refl wn _).setCell 0 (.bool (qn (W 0*(X b-W 1))))).setCell 1 (.l F M H)).setCell 2 (.l G L I);have C:=((D.gH (.bool (qn (W 0*(X b-W 1))))).gM (.l F M H)).gZ (.l G L I);have Z:=N.trans (ef.since fl);have r:=B.tr Z;have R8:=(((eg.imp (p':=fun ed=>ed<f) (fun ed hg _=>by omega)).bH ab).marked ef (fun h=>by have h':f<f:=h;omega)).read;refine R.out _ _ ⟨(q.bH Z).c5,(e.bH r).c0,(e.bH r).c1,(e.bH r).c2,(g.bH r).c0,(g.bH r).c1,(g.bH r).c2,(p.bH r).c0,(p.bH r).c1,(p.bH r).c2⟩ (fun Y=> ?_);clear R K Y q0 q1 q2 af ag ah;refine wpAnyH_done kr ?_ _;generalize (((wn.setCell (jj f 0) (.bool (qn (W 0*(X b-W 1))))).setCell (jj f 1) (.l F M H)).setCell (jj f 2) (.l G L I))=w8 at*
  case' b2=>go_simp;have ab:=cV ec yJ;have D:=cR.new ec (.bool false) (.n) (.n) 83;have N:bw.S (ec.alloc yJ):=Q.tr ab;have O:w.S (ec.alloc yJ):=B.tr N;refine R.out _ _ ⟨(q.bH N).c5,(e.bH O).c0,(e.bH O).c1,(e.bH O).c2,(g.bH O).c0,(g.bH O).c1,(g.bH O).c2,(p.bH O).c0,(p.bH O).c1,(p.bH O).c2⟩ (fun Y=> ?_);clear R K;obtain⟨f,V⟩:∃f,f=ec.heap.size:=⟨_,rfl⟩;have fl:bw.heap.size<=f:=(by rw[V];exact Q.size);have bh:ec.heap.size<=f:=(by rw[V];exact aC _);rw[<-V] at D⊢;generalize ec.alloc _=wn at*;clear V;clear J2;have J2:=vN (s 0 om) ((qx b eh).sub (s 1 om)) om (e.bH O).R.read (Rp.bH ab).read;refine rkH 13 fun K R=> ?_;go_simp;go_wp2_with (go_at_call 86;with_reducible refine J2.mono ?_;rintro ee x ⟨bp,rfl,eg,aa⟩);have ac:=eg;obtain⟨F,M,H,G,L,I,-,-,-,-,-,-,ad,-⟩:=ac;subst ad;have E:=N.tr aa;have T:=B.tr E;refine R.out _ _ ⟨(q.bH E).c5,(e.bH T).c0,(e.bH T).c1,(e.bH T).c2,(g.bH T).c0,(g.bH T).c1,(g.bH T).c2,(p.bH T).c0,(p.bH T).c1,(p.bH T).c2⟩ (fun Y=> ?_);clear R K;refine rkH 15 fun K R=> ?_;have ei:=D.bH aa;obtain⟨q0,q1,q2⟩:=ei.g;obtain⟨af,ag,ah⟩:=ei.k;go_simp;have ef:aV x _ f:=(((aV.refl x _).setCell 0 (.bool (qn (W 0*(X b-W 1))))).setCell 1 (.l F M H)).setCell 2 (.l G L I);have C:=((ei.gH (.bool (qn (W 0*(X b-W 1))))).gM (.l F M H)).gZ (.l G L I);have Z:=E.trans (ef.since fl);have r:=B.tr Z;have R8:=(eg.marked ef (fun h=>by have h':wn.heap.size<=f:=h;have:=D.lt;omega)).read;refine R.out _ _ ⟨(q.bH Z).c5,(e.bH r).c0,(e.bH r).c1,(e.bH r).c2,(g.bH r).c0,(g.bH r).c1,(g.bH r).c2,(p.bH r).c0,(p.bH r).c1,(p.bH r).c2⟩ (fun Y=> ?_);clear R K Y q0 q1 q2 af ag ah;refine wpAnyH_done kr ?_ _;generalize (((x.setCell (jj f 0) (.bool (qn (W 0*(X b-W 1))))).setCell (jj f 1) (.l F M H)).setCell (jj f 2) (.l G L I))=w8 at*
 case' c1=>
  go_simp;have ab:=cV wd yJ;have D:=cR.new wd (.bool false) (.n) (.n) 83;have N:bw.S (wd.alloc yJ):=dr.tr ab;have O:w.S (wd.alloc yJ):=B.tr N;refine R.out _ _ ⟨(q.bH N).c5,(e.bH O).c0,(e.bH O).c1,(e.bH O).c2,(g.bH O).c0,(g.bH O).c1,(g.bH O).c2,(p.bH O).c0,(p.bH O).c1,(p.bH O).c2⟩ (fun Y=> ?_);clear R K;obtain⟨f,V⟩:∃f,f=wd.heap.size:=⟨_,rfl⟩;have fl:bw.heap.size<=f:=by rw[V];exact dr.size
  have bh:wd.heap.size<=f:=by rw[V];exact aC _
  rw[<-V] at D⊢;generalize wd.alloc _=wn at*;clear V;clear J1;have J1:=uo (qx b eh) (s 1 om) om (p.bH O).R.read (g.bH O).R.read;refine rkH 12 fun K R=> ?_;go_simp;go_wp2_with (go_at_call 52;with_reducible refine J1.mono ?_;rintro ee ec ⟨ci,rfl,Rp,ai⟩);have av:=Rp;obtain⟨bs,cg,b4,b0,cd,b8,-,-,-,-,-,-,aw,-⟩:=av;subst aw;have Q:=N.tr ai;have U:=B.tr Q;refine R.out _ _ ⟨(q.bH Q).c5,(e.bH U).c0,(e.bH U).c1,(e.bH U).c2,(g.bH U).c0,(g.bH U).c1,(g.bH U).c2,(p.bH U).c0,(p.bH U).c1,(p.bH U).c2⟩ (fun Y=> ?_);clear R K;have J2:=vN (s 0 om) ((qx b eh).sub (s 1 om)) om (e.bH U).R.read Rp.read;refine rkH 13 fun K R=> ?_;go_simp;go_wp2_with (go_at_call 86;with_reducible refine J2.mono ?_;rintro ee x ⟨bp,rfl,eg,aa⟩);have ac:=eg;obtain⟨F,M,H,G,L,I,-,-,-,-,-,-,ad,-⟩:=ac;subst ad;have E:=Q.tr aa;have T:=B.tr E;refine R.out _ _ ⟨(q.bH E).c5,(e.bH T).c0,(e.bH T).c1,(e.bH T).c2,(g.bH T).c0,(g.bH T).c1,(g.bH T).c2,(p.bH T).c0,(p.bH T).c1,(p.bH T).c2⟩ (fun Y=> ?_);clear R K;refine rkH 15 fun K R=> ?_;have ei:=(D.bH ai).bH aa;obtain⟨q0,q1,q2⟩:=ei.g;obtain⟨af,ag,ah⟩:=ei.k;go_simp;have ef:aV x _ f:=(((aV.refl x _).setCell 0 (.bool (qn (W 0*(X b-W 1))))).setCell 1 (.l F M H)).setCell 2 (.l G L I);have C:=((ei.gH (.bool (qn (W 0*(X b-W 1))))).gM (.l F M H)).gZ (.l G L I);have Z:=E.trans (ef.since fl);have r:=B.tr Z;have R8:=(eg.marked ef (fun h=>by have h':ec.heap.size<=f:=h;have:=D.lt;have:=ai.size;omega)).read;refine R.out _ _ ⟨(q.bH Z).c5,(e.bH r).c0,(e.bH r).c1,(e.bH r).c2,(g.bH r).c0,(g.bH r).c1,(g.bH r).c2,(p.bH r).c0,(p.bH r).c1,(p.bH r).c2⟩ (fun Y=> ?_);clear R K Y q0 q1 q2 af ag ah;refine wpAnyH_done kr ?_ _;generalize (((x.setCell (jj f 0) (.bool (qn (W 0*(X b-W 1))))).setCell (jj f 1) (.l F M H)).setCell (jj f 2) (.l G L I))=w8 at*
 all_goals
  have a9:=ue w8;have ch:=r.tr a9;have z8:bw.heap.size<=w8.heap.size:=Z.size;have nf:w.heap.size+1≠f:=om;have J3:=amH (s 2 om) om hz (t.bH ch).R.read;have g5:=(q.bH Z).c5;obtain⟨cj,ck,cl⟩:=(C.bH yD).g;have cm:=(t.bH r).c0;have cn:=(t.bH r).c1;have co:=(t.bH r).c2;have cp:=(u.bH r).c0;have cq:=(u.bH r).c1;have cr:=(u.bH r).c2;go_wp2
  go_region_held3 (fun S=>S.cell? (jj w.heap.size 5)=some (.l (jp n m) c d)/\S.cell? (jj f 0)=some (.bool (qn (W 0*(X b-W 1))))/\S.cell? (jj f 1)=some (.l F M H)/\S.cell? (jj f 2)=some (.l G L I)/\S.cell? (jj n (m+6))=some (.bool (qn (W 2)))/\S.cell? (jj n (m+6+1))=some (.l bq ce b1)/\S.cell? (jj n (m+6+2))=some (.l bu cb b5)/\S.cell? (jj n (m+9))=some (.bool (qn (W 3)))/\S.cell? (jj n (m+9+1))=some (.l br cf b3)/\S.cell? (jj n (m+9+2))=some (.l bz cc b6)) (go_keep)
   (first
     | (go_at_call 161;(with_reducible refine J3.mono ?_);rintro ee wx ⟨ux,rfl,Rx,sx⟩;have vx:=a9.tr sx;have Ux:=Z.tr vx;have Sx:=r.tr vx;have J4:=vN ((s 0 om).mul ((qx b eh).sub (s 1 om))) (Qb.inv (s 2 om) hz) om (R8.bH vx) Rx.read;have h5:=(q.bH Ux).c5;have cs:=(C.bH vx).c0;have ct:=(C.bH vx).c1;have cu:=(C.bH vx).c2;have cv:=(t.bH Sx).c0;have cw:=(t.bH Sx).c1;have cy:=(t.bH Sx).c2;have c0:=(u.bH Sx).c0;have c3:=(u.bH Sx).c1;have c4:=(u.bH Sx).c2)
     | (go_at_call 86;(with_reducible refine J4.mono ?_);rintro ee wy ⟨uy,rfl,Ry,sy⟩;have vy:=vx.tr sy;have Uy:=Z.tr vy;have Sy:=r.tr vy;have J5:=vc (((s 0 om).mul ((qx b eh).sub (s 1 om))).mul (Qb.inv (s 2 om) hz)) (s 3 om) om Ry.read (u.bH Sy).R.read;have i5:=(q.bH Uy).c5;have c5:=(C.bH vy).c0;have c6:=(C.bH vy).c1;have c8:=(C.bH vy).c2;have c9:=(t.bH Sy).c0;have da:=(t.bH Sy).c1;have db:=(t.bH Sy).c2;have dc:=(u.bH Sy).c0;have dd:=(u.bH Sy).c1;have de:=(u.bH Sy).c2)
     | (go_at_call 87;(with_reducible refine J5.mono ?_);rintro ee w5 ⟨dw,rfl,R5,s5⟩;have R6:=R5;obtain⟨a7,n7,c7,b7,m7,d7,-,-,-,-,-,-,e7,-⟩:=R6;subst e7;have v5:=vy.tr s5;have u5:=Z.tr v5;have ej:=B.tr u5;have r5:=rA.bH u5;have r0:=r5.c0;have r1:=r5.c1;have r2:=r5.c2;have f0:=r5.f 0;have f1:=r5.f 1;have f2:=r5.f 2;have j5:=(q.bH u5).c5;have df:=(C.bH v5).c0;have dg:=(C.bH v5).c1;have dh:=(C.bH v5).c2;have di:=(t.bH ej).c0;have dj:=(t.bH ej).c1;have dk:=(t.bH ej).c2;have dl:=(u.bH ej).c0;have dm:=(u.bH ej).c1;have dn:=(u.bH ej).c2 ))
  go_wp2;have rC:=((r5.gH (.bool (qn (W 0*(X b-W 1)*(W 2)⁻¹ +W 3)))).gM (.l a7 n7 c7)).gZ (.l b7 m7 d7);refine bO (re rfl _ _ _ _ _ _ rfl rC) rfl ?_;have ay:aV w5 _ (w.heap.size+1):=(((aV.refl w5 _).setCell 0 (.bool (qn (W 0*(X b-W 1)*(W 2)⁻¹ +W 3)))).setCell 1 (.l a7 n7 c7)).setCell 2 (.l b7 m7 d7);exact⟨_,rfl,(((R5.imp (p':=fun ed=>w.heap.size+2<=ed) (fun ed _ h=>by have h':wy.heap.size<=ed:=h;have:=Uy.size;omega)).marked ay om).imp (fun ed _ h=>by omega)),ej.trans (ay.since om)⟩
theorem ag7{D:dA}{n m c:Nat}(h:oM D n m)(O:c<m)(z:n<=1000)(F:D.nv<=1002000){a:Option Addr}{d k i:Nat}{A B:Option Addr}{bx j l o b p q:Nat}{X Z:Nat->Rat}{w:World}
 (s:dQ w (fun _=>True) a d k D.nv D.w)(x:∀C,C<D.nv->Qb (D.w C) 1048640)(f:dQ w (fun _=>True) A bx j n X)(E:∀C,C<n->Qb (X C) 1048640)(H:D.op=4->dQ w (fun _=>True) B p q o Z/\m<=o/\∀C,C<o->Qb (Z C) 1048640)
 (V:D.op=1->∀K,K<=n->Qb (il 0 (fun t=>D.w (c*(n+1)+t)) X K) 1048640)(W:D.op=6->∀K,K<=D.k.toNat->Qb (il 0 D.w (fun t=>X (c*D.s.toNat+t)) K) 1048640):
 Cl 134 #[.agg #[.i D.op,.i D.a,.i D.b,.i D.k,.i D.s,.slice a D.nv i],.slice A n l,.slice B o b,.i (c:Int)] w fun r G=>∃u,r=.returned u/\fJ G (fun g=>w.heap.size<=g) u (lu D X Z n c)/\w.S G:=by
 have o1:=h.f.o1;have o7:=h.f.o7;have P:D.op=1∨D.op=2∨D.op=3∨D.op=4∨D.op=5∨D.op=6∨D.op=7:=om;rcases P with e | e | e | e | e | e | e
 . obtain⟨L,M⟩:=h.c1 e;have N:c*(n+1)+n<D.nv:=by
    rw[L];have:(c+1)*(n+1)<=D.k.toNat*(n+1):=aP _ om;rw[bI,dS] at this;omega
   have I:=(s 0 om).1;subst I;rw[show lu D X Z n c=il (D.w (c*(n+1)+n)) (fun t=>D.w (c*(n+1)+t)) X n by unfold lu;rw[aY e],e];exact el1 f E s x z F rfl rfl N (V e)
 . have U:=h.c2 e;rw[show lu D X Z n c=ww (X c) by unfold lu;rw[aM om,aY e],e];exact el2 f E om
 . have U:=h.c3 e;have v:=h.f.v3 e;have I:=(s 0 om).1;subst I;rw[show lu D X Z n c=if qn (X c)=true then D.w 0*X c else X c by unfold lu;rw[aM om,aM om,aY e],e];cases hq:qn (X c)
   . rw[aM qz];exact el3p f E s om om hq
   . rw[aY rfl];exact el3n f E s x om om hq
 . have U:=h.c4 e;obtain⟨z1,z2,z3⟩:=H e;rw[show lu D X Z n c=X c+Z c by unfold lu;rw[aM om,aM om,aM om,aY e],e];exact el4 f E z1 z3 om om
 . obtain⟨L,M⟩:=h.c5 e;have y:D.k=(D.k.toNat:Int):=om;rw[show lu D X Z n c=ni X (c*D.k.toNat) (D.k.toNat-1) by unfold lu;rw[aM om,aM om,aM om,aM om,aY e],e];generalize D.k.toNat=R at*;rw[y];have hF:c*R+R<=n:=by
    have:(c+1)*R<=m*R:=aP _ om;rw[bI,dS] at this;omega
   exact el5 f E rfl L hF z
 . obtain⟨L,M⟩:=h.c6 e;have S:=h.f.k;have T:=h.f.s;rw[show av D.op=true by rw[e];rfl] at S;rw[show ar D.op=true by rw[e];rfl] at T;have y:D.k=(D.k.toNat:Int):=(by unfold wg at S;simp at S;omega);have Q:D.s=(D.s.toNat:Int):=(by unfold wg at T;simp at T;omega);have hF:=M c O;have I:=(s 0 om).1;subst I;rw[show lu D X Z n c=il (D.w D.k.toNat) D.w (fun t=>X (c*D.s.toNat+t)) D.k.toNat by unfold lu;rw[aM om,aM om,aM om,aM om,aM om,aY e],e];have Y:=W e;generalize D.k.toNat=R at*;generalize D.s.toNat=ss at*;rw[y,Q];exact el6 f E s x z F rfl om hF Y
 . obtain⟨L,M⟩:=h.c7 e;have v:=h.f.v7 e;have I:=(s 0 om).1;subst I
   rw[show lu D X Z n c=D.w 0*(X c-D.w 1)*(D.w 2)⁻¹ +D.w 3 by
    unfold lu;rw[aM om,aM om,aM om,aM om,aM om,aM om,jY,Rat.mul_comm (D.w 2)⁻¹,<-jY],e]
   exact el7 f E s x om om M
def rd3:jd:=⟨false,1,fun _=>3,1,fun _=>1⟩
theorem aof:rd3.q=3:=by
 show mkRat (lv (fun _=>3) 1:Nat) (lv (fun _=>1) 1)=3;rfl
theorem an7:pz (fun _=>rd3) 1:=fun _ _=>by show rd3.ok=true;decide
theorem amq:∀c,c<1->((fun _=>rd3) c:jd).lim:=fun _ _=>⟨fun _ _=>by show 3<4294967296;decide,fun _ _=>by show 1<4294967296;decide⟩
def bT(g:be)(i:Nat):Nat:=gT g (fun c=>((fun _=>rd3) c:jd).q) 1 i
def bD(g:be)(i:Nat):Nat:=gD g (fun c=>((fun _=>rd3) c:jd).q) 1 i
theorem yY(G:be):bT G 0=4/\bD G 0=1:=by
 unfold bT bD;simp only[aof];exact⟨rfl,rfl⟩
theorem lG(a:vn G n)(h:i7 Q 4 1):i7 Q (bT G n) (bD G n):=by
 induction n with
 | zero=>rw[(yY G).1,(yY G).2];exact h
 | succ n b=>
   have b:=b ⟨a.i1,a.i2,fun k c=>a.z k om⟩;exact bp (a.shape (iZ n)) b
theorem bq(a:vn G n)(b:n<=1001)(d:∀k,k<n->∀c,c<(G.N k).nv->((G.N k).V c).lim)(e:xd G.N n<=1048576)(h:i7 Q (bT G n) (bD G n)):Qb Q 1048640:=by
 have f:pi (fun _=>rd3) 1=2:=rfl;have l:=anT (K:=1048640) a b an7 amq d om;exact h.lim (anU a) zR (b3 a) l
theorem sE(h:Q=(z:Rat))(a:z.natAbs<=4):i7 Q 4 1:=⟨z,by rw[h];exact oG _,a⟩
theorem uN(E:iy G)(a:n<G.nn){x z:Nat->Rat}(d:∀c,c<vD G (G.N n).a.toNat->i7 (x c) (bT G n) (bD G n))(f:(G.N n).op=4->∀c,c<vD G (n+1)->i7 (z c) (bT G n) (bD G n))(b:e<vD G (n+1)):
 i7 (lu (G.N n) x z (vD G (G.N n).a.toNat) e) (bT G (n+1)) (bD G (n+1)):=
 ald (E.nd a).sh (b3 (E.jS (cZ a))) d f b
theorem yq(E:iy G)(a:n<G.nn)(h:i7 Q (bT G n) (bD G n)):i7 Q (bT G (n+1)) (bD G (n+1)):=bp (E.nd a).sh h
theorem aj4(E:iy G)(a:i<G.nn)(o:(G.N i).op=1){x:Nat->Rat}(h:∀c,c<vD G (G.N i).a.toNat->i7 (x c) (bT G i) (bD G i))(d:e<vD G (i+1))(f:k<=vD G (G.N i).a.toNat):
 i7 (il 0 (fun t=>(G.N i).w (e*(vD G (G.N i).a.toNat+1)+t)) x k) (bT G (i+1)) (bD G (i+1)):=by
 have r:=(ec (E.nd a).sh o (b3 (E.jS (cZ a))) h d f).2;have b:bD G (i+1)=bD G i*ui (G.N i):=by show _*ndF (G.N i)=_;rw[aw om];rfl
 rw[b];exact r.more (by show _<=2*(yA (G.N i)*bT G i*ui (G.N i));unfold bT;omega)
theorem akR(E:iy G)(a:i<G.nn)(o:(G.N i).op=6){x:Nat->Rat}(h:∀c,c<vD G (G.N i).a.toNat->i7 (x c) (bT G i) (bD G i))(d:n<vD G (i+1))(f:m<=(G.N i).k.toNat):
 i7 (il 0 (G.N i).w (fun t=>x (n*(G.N i).s.toNat+t)) m) (bT G (i+1)) (bD G (i+1)):=by
 have r:=(ey (E.nd a).sh o (b3 (E.jS (cZ a))) h d f).2;have b:bD G (i+1)=bD G i*ui (G.N i):=by show _*ndF (G.N i)=_;rw[aw om];rfl
 rw[b];exact r.more (by show _<=2*(yA (G.N i)*bT G i*ui (G.N i));unfold bT;omega)
end Go.Proofs.YtaeieekkddndhaaGreat
