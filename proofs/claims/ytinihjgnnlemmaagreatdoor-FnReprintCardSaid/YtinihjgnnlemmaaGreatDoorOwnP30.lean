import Derived.Test.YtinihjgnnlemmaaGreatDoorOwnP27
import Derived.Deep.AppendLies
set_option maxHeartbeats 6400000
set_option maxRecDepth 100000
namespace Go.Proofs.YtinihjgnnlemmaaGreatDoor
open Tryz Go.RowKit
variable{w v W V:World}{n m c d k i j l o b p q t r s g h e:Nat}{a A B:Option Addr}{u U:Value}{z y:Int}{G:eQ}{P:Nat->Prop}{Q:Rat}{R:fZ}
theorem i7.blocks{w w':World}(h:i7 w P u Q)(hb:∀g,g<w.heap.size->P g->w'.heap[g]?=w.heap[g]?):i7 w' P u Q:=by
 obtain⟨a,n,s,b,m,t,d,f,e,i,X,Y,p,R,x,y,k,l⟩:=h;have o:eO w' a d f n X:=fun j c=>⟨(R.LX j c).1,(aO (w:=w) (a:=jj d (f+j)) (hb d (R.LX.lt om) (k om))).trans (R.LX j c).2⟩;have r:eO w' b e i m Y:=fun j c=>⟨(R.LY j c).1,(aO (w:=w) (a:=jj e (i+j)) (hb e (R.LY.lt om) (l om))).trans (R.LY j c).2⟩;exact⟨a,n,s,b,m,t,d,f,e,i,X,Y,p,⟨R.nc,R.mc,R.ac,R.bc,o,r,R.lX,R.lY,R.pX,R.pY,R.m0⟩,x,y,k,l⟩
theorem new3(w:World)(u U z:Value)(t:TypeId):∀j b,([u,U,z]:List Value)[j]?=some b->(w.alloc (.cells #[u,U,z] t)).cell? (((jj w.heap.size 0):Addr).add j)=some b:=fun j b a=>by
 rw[Go.WideShapes.add_plain,aZ]
 rcases j with _ | _ | _ | j
 . simp at a;subst a;simp[go_sem]
 . simp at a;subst a;simp[go_sem]
 . simp at a;subst a;simp[go_sem]
 . simp at a
theorem apQ(f:Bool)(a A:Option Addr)(n m c d:Nat):∀u∈([.bool f,.slice a n m,.slice A c d]:List Value),u.oneCell'=true:=by
 intro u e;simp at e;rcases e with rfl | rfl | rfl<;>rfl
theorem pr:∃i,Tryz.prog.info? 70=some i/\i.zero=some (.agg #[.bool false,.n,.n])/\i.size=3/\i.bytes=56:=by
 obtain⟨i,a,h⟩:=eE.1 alN;simp only[Prod.mk.injEq] at h;exact⟨i,a,h.1,h.2.1,h.2.2⟩
theorem ij.blocks{w w':World}{Q:Nat->Rat}(h:ij w P a n m c Q)(b:0<c->w'.heap[n]?=w.heap[n]?)(hb:∀g,g<w.heap.size->P g->w'.heap[g]?=w.heap[g]?):ij w' P a n m c Q:=fun i f=>by
 obtain⟨d,x,y,C⟩:=h i f;have e:=b om;exact⟨d,x,y,(aO (w:=w) (a:=jj n (m+i*3)) e).trans C.c0,(aO (w:=w) (a:=jj n (m+i*3+1)) e).trans C.c1,(aO (w:=w) (a:=jj n (m+i*3+2)) e).trans C.c2,C.R.blocks hb⟩
theorem ij.lt{Q:Nat->Rat}(h:ij w P a n m c Q)(b:0<c):n<w.heap.size:=by
 obtain⟨-,x,y,C⟩:=h 0 b;exact C.lt
theorem alO:∃i,Tryz.prog.info? 50=some i/\i.zero=some (.n)/\i.size=1/\i.bytes=24:=by
 have h:(Tryz.prog.info? 50).map (fun i=>(i.zero,i.size,i.bytes))=some (some (.n),1,24):=by kernel_rfl
 obtain⟨i,a,h⟩:=eE.1 h;simp only[Prod.mk.injEq] at h;exact⟨i,a,h.1,h.2.1,h.2.2⟩
theorem ap6(G:eQ)(X:Nat->Rat)(h:m<=n):aA G X n m=aA G X m m:=by
 induction n with
 | zero=>have:m=0:=om
         subst this;rfl
 | succ n ih=>
   by_cases e:m=n+1
   . subst e;rfl
   . rw[ak1 G X om];exact ih om
theorem adO(G:eQ)(h:m<=n):ng G n m=ng G m m:=by
 induction n with
 | zero=>have:m=0:=om
         subst this;rfl
 | succ n ih=>
   by_cases e:m=n+1
   . subst e;rfl
   . rw[yO G om];exact ih om
theorem dt(c:R.ok=true)(l:R.lim)(h:R.n+R.m<n):Qb R.q n:=by
 obtain⟨a,b⟩:=ail c l;refine⟨aS (Nat.lt_of_succ_le a) (dP qd (show R.n<=n by omega)),dD b (Nat.pow_lt_pow_right qd (show R.m<n by omega))⟩
theorem aij(a:R.ok=true)(l:R.lim)(h:R.n+R.m<=1048576):Qb R.q 1048577:=dt a l om
structure uK(w:World)(base:Nat)(v:Value)(k:Nat)(X:Nat->Int)(xs:List Value):Prop where
 own:w.ownsRow base 3 1 v k xs
 at_:∀i,i<k->xs[i]?=some (.int .i64 (X i))
theorem uK.aA{w w':World}{X:Nat->Int}{b:List Value}(h:uK w n u k X b)(s:w.S w'):uK w' n u k X b:=
 ⟨h.own.kept (row:=none) ⟨s.os,s.tape,s.output,s.size,fun k a _=>s.block k a⟩ (uE _),h.at_⟩
theorem uK.snoc{X:Nat->Int}{a:List Value}(hl:a.length=m)(c:∀i,i<m->a[i]?=some (.i (X i)))(own:w.ownsRow n 3 1 u (m+1) (a++[.i z]))(d:X m=z):uK w n u (m+1) X (a++[.i z]):=by
 refine⟨own,fun i f=> ?_⟩;by_cases e:i=m
 . subst e;rw[bK om,hl,d];simp
 . rw[bJ om];exact c i om
theorem uK.len{X:Nat->Int}{a:List Value}(h:uK w n u m X a):a.length=m:=by have:=h.own.1;omega
theorem uK.ints{X:Nat->Int}{e:List Value}(h:uK w n (.s c m d) m X e):Ints w (jp c 0) c 0 m X:=fun j f=>by
 have b:= @World.ownsRow.cells _ _ _ _ _ _ _ h.own;have a:=b (g:=c) rfl _ _ (h.at_ j f);rw[Go.WideShapes.add_plain] at a;exact⟨rfl,a⟩
theorem en:∃i,Tryz.prog.info? 3=some i/\i.zero=some (.i 0)/\i.size=1/\i.bytes=8:=by
 have h:(Tryz.prog.info? 3).map (fun i=>(i.zero,i.size,i.bytes))=some (some (.i 0),1,8):=by kernel_rfl
 obtain⟨i,a,h⟩:=eE.1 h;simp only[Prod.mk.injEq] at h;exact⟨i,a,h.1,h.2.1,h.2.2⟩
def vD(g:eQ)(j:Nat):Nat:=(ng g j j).toNat
structure pg(g:eQ):Prop where
 head:vA g
 box:∀j:Nat,(j:Int)<g.inn->¬pN g j
 node:∀k,k<g.nn->nc g k=0
 o0:0<=g.out
 o1:g.out<=g.nn
theorem pg.outc{Y:Nat->Int}(E:pg G)(h:al G n Y z y):z=0/\n=G.nn+1/\∀j,j<n->Y j=ng G G.nn j:=by
 obtain⟨b,d,f,e⟩:=al.only (n:=G.nn+1) (X:=ng G G.nn) (c:=0) (a:=0) (.inr (.inr (.inr (.inr ⟨E.head,E.box,E.node,⟨E.o0,E.o1⟩,rfl,fun _ _=>rfl,rfl,rfl⟩)))) h;exact⟨d,b,fun j i=>e j om⟩
theorem pg.of{Y:Nat->Int}(h:al G n Y 0 z):pg G:=by
 rcases h with ⟨-,-,e,-⟩ | ⟨-,j,-,-,-,-,e,-⟩ | ⟨-,-,i,-,-,e,-,c,-⟩ | ⟨-,-,-,-,-,e,-⟩ | ⟨d,f,k,b,-⟩
 . cases e
 . cases e
 . exact absurd c.symm e
 . cases e
 . exact⟨d,f,k,b.1,b.2⟩
theorem pg.cK(E:pg G)(a:i<=G.nn):uH G i:=⟨E.head.i1,E.head.i2,fun k b=>E.node k om⟩
theorem pg.bZ(E:pg G)(a:j<=G.nn):1<=vD G j/\vD G j<=1000:=by
 have h:=(E.cK a).dok j om;unfold vD;omega
structure NdP(g:eQ)(i:Nat):Prop where
 a0:0<=(g.N i).a
 ai:(g.N i).a.toNat<=i
 b0:0<=(g.N i).b
 bi:(g.N i).b.toNat<=i
 b4:(g.N i).op=4->vD g (g.N i).b.toNat=vD g (i+1)
 sh:pi (g.N i) (vD g (g.N i).a.toNat) (vD g (i+1))
 nv:(g.N i).nv<=1002000
theorem pg.nd(E:pg G)(r:i<G.nn):NdP G i:=by
 have u:=E.cK (i:=i+1) om;obtain⟨f,⟨p,v,t⟩,c⟩:=tg (E.node i r);have d:0<=(G.N i).b/\(G.N i).b.toNat<=i:=by
  by_cases hb:ut (G.N i).op=true
  . have:=t hb;omega
  . have:=f.b (by simpa using hb);omega
 have b:(G.N i).a.toNat<=i:=om;have e:∀j,j<=i->(ng G i j).toNat=vD G j:=fun j s=>by unfold vD;rw[adO G s]
 have sh:=u.shape (iZ i);rw[e _ b] at sh;have sh:pi (G.N i) (vD G (G.N i).a.toNat) (vD G (i+1)):=sh;refine⟨p,b,d.1,d.2,fun n=> ?_,sh, ?_⟩
 . have q:=sh.c4 n;rw[q,<-e _ d.2,<-e _ b];unfold iR at c;by_cases h:ng G i (G.N i).b.toNat=ng G i (G.N i).a.toNat
   . rw[h]
   . simp[n,h] at c
 . by_cases k:(G.N i).op=1
   . have a:=f.k;rw[k] at a;have a:1<=(G.N i).k/\(G.N i).k<=1000:=a;have w:=(E.bZ (j:=(G.N i).a.toNat) om).2;rw[(sh.c1 k).1];exact aU (dF (show (G.N i).k.toNat<=1000 by omega) (show vD G (G.N i).a.toNat+1<=1001 by omega)) qd
   by_cases l:(G.N i).op=6
   . have a:=f.k;rw[l] at a;have a:1<=(G.N i).k/\(G.N i).k<=1000:=a;have:=(sh.c6 l).1;omega
   by_cases m:(G.N i).op=3
   . have:=f.v3 m;omega
   by_cases o:(G.N i).op=7
   . have:=f.v7 o;omega
   have:=f.v (by simp[ya,k,l,m,o]);omega
def tC(g:eQ)(i j:Nat):Bool:=j==(g.N i).a.toNat ||((g.N i).op==4&&j==(g.N i).b.toNat)
theorem pg.src(E:pg G)(a:n<G.nn)(h:tC G n m=true):m<=n:=by
 have N:=E.nd a;have b:=N.ai;have c:=N.bi;simp only[tC,jT,fT,jJ] at h;omega
def mW(g:eQ):Nat->Nat->Bool
 | 0=>fun j=>j==g.out.toNat
 | m+1=>fun j=>mW g m j ||(mW g m (g.nn-m)&&tC g (g.nn-m-1) j)
def lD(g:eQ):Nat->Bool:=mW g g.nn
theorem abY(h:m<=n)(a:mW G m c=true):mW G n c=true:=by
 induction h with
 | refl=>exact a
 | step _ ih=>show (_ ||_)=true;rw[ih];rfl
theorem aj7(E:pg G):∀m j,m<=G.nn->mW G m j=true->j<=G.out.toNat:=by
 intro m
 induction m with
 | zero=>intro j _ h;simp[mW] at h;omega
 | succ m ih=>
   intro j c h;simp only[mW,jT,fT] at h;rcases h with h | ⟨a,b⟩
   . exact ih j om h
   . have:=ih _ om a;have:=E.src (show G.nn-m-1<G.nn by omega) b;omega
theorem ahb(E:pg G){n m' m:Nat}(h:n<=m')(b:m'<=G.nn)(a:G.nn-n<=m):mW G m' m=mW G n m:=by
 induction h with
 | refl=>rfl
 | @step m' h ih=>
   have h:n<=m':=h;rw[<-ih om];show (mW G m' m ||_)=_;cases hs:tC G (G.nn-m'-1) m
   . simp
   . have:=E.src (show G.nn-m'-1<G.nn by omega) hs;omega
theorem af9(E:pg G)(h:lD G n=true):n<=G.out.toNat:=aj7 E _ _ zR h
theorem ajI(G:eQ):lD G G.out.toNat=true:=abY (aJ _) (by simp[mW])
theorem ajH(E:pg G)(c:n<G.nn)(h:lD G (n+1)=true)(b:tC G n m=true):lD G m=true:=by
 have e:G.nn-(G.nn-(n+1))=n+1:=om;have a:mW G (G.nn-(n+1)) (n+1)=true:=by rw[<-ahb E (m':=G.nn) om zR om];exact h
 refine abY (m:=G.nn-(n+1)+1) om ?_;show (_ ||(mW G _ (G.nn-(G.nn-(n+1)))&&tC G (G.nn-(G.nn-(n+1))-1) m))=true;rw[e,a,show n+1-1=n from rfl,b];simp
def rn(g:eQ):Nat->Nat->Nat
 | 0=>fun _=>0
 | i+1=>fun j=>if lD g (i+1)=true/\tC g i j=true then i+1 else rn g i j
def iM(g:eQ):Nat->Nat:=rn g g.nn
theorem afL(G:eQ)(n m:Nat):rn G n m<=n:=by
 induction n with
 | zero=>exact aC _
 | succ n ih=>
   simp only[rn];split<;>omega
theorem aht(G:eQ)(h:i<=n):rn G i c<=rn G n c:=by
 induction h with
 | refl=>exact aC _
 | @step m h ih=>
   have:=afL G m c;simp only[rn];split<;>omega
theorem dN(G:eQ)(n:Nat):iM G n<=G.nn:=afL G _ n
theorem afB(a:n<G.nn)(h:lD G (n+1)=true)(b:tC G n m=true):n+1<=iM G m:=by
 refine aU ?_ (aht G (i:=n+1) a);show _<=(if _ then _ else _);rw[aY ⟨h,b⟩];exact aC _
theorem alC{g:eQ}(h:rn g i j≠0):∃k,rn g i j=k+1/\k<i/\lD g (k+1)=true/\tC g k j=true:=by
 induction i with
 | zero=>exact absurd rfl h
 | succ i ih=>
   by_cases c:lD g (i+1)=true/\tC g i j=true
   . exact⟨i,aY c,om,c.1,c.2⟩
   . have e:rn g (i+1) j=rn g i j:=aM c;rw[e] at h⊢;obtain⟨k,a,d,b⟩:=ih h;exact⟨k,a,om,b⟩
def bR(g:eQ)(i:Nat):List Nat:=(List.range i).filter fun j=>decide (i<iM g j)
def aB(f d:Nat->Nat)(i:Nat):Nat->Nat
 | 0=>0
 | j+1=>aB f d i j+if i<f j then 2*d j else 0
def ku(g:eQ)(i j:Nat):Nat:=aB (iM g) (vD g) i j
def peF:Nat->Nat->List Nat
 | 0,_=>[]
 | f+1,c=>if 1<c then c::peF f (c/2+c % 2) else []
theorem peG:∀ {f c:Nat},c<=f->peF f c=peF c c
 | 0,c,h=>by cases Nat.le_zero.1 h;rfl
 | f+1,0,_=>rfl
 | f+1,c+1,h=>by
   show (if _ then _::peF f _ else _)=(if _ then _::peF c _ else _)
   by_cases g:1<c+1
   . rw[if_pos g,if_pos g,peG (f:=f) om,peG (f:=c) om]
   . rw[if_neg g,if_neg g]
def pe(c:Nat):List Nat:=peF c c
theorem peE(c:Nat):pe c=if _h:1<c then c::pe (c/2+c % 2) else []:=by
 unfold pe
 cases c with
 | zero=>rfl
 | succ c=>
   show (if _ then _::peF c _ else _)=_
   by_cases g:1<c+1
   . rw[if_pos g,dif_pos g,peG (f:=c) om]
   . rw[if_neg g,dif_neg g]
def oF(g:eQ)(i:Nat):List (Nat×Nat):=
 if lD g (i+1)=true then (if (g.N i).op=2∨(g.N i).op=3 then [(i+1,0)] else if (g.N i).op=5 then (pe (g.N i).k.toNat).map fun c=>(i+1,c) else []) else []
def jw(g:eQ):Nat->List (Nat×Nat)
 | 0=>[]
 | i+1=>jw g i++oF g i
def gR(g:eQ):List (Nat×Nat):=jw g g.nn
def yz(g:eQ)(i c:Nat):Nat:=
 if (g.N (i-1)).op=2 then vD g (g.N (i-1)).a.toNat else if (g.N (i-1)).op=3 then 2*vD g (g.N (i-1)).a.toNat else vD g i*(3*(c/2)+2*(c % 2))
def pZ(g:eQ)(s:Nat×Nat):Nat:=ku g s.1 s.1+yz g s.1 s.2
def kG(g:eQ):List Nat:=g.inn.toNat::((gR g).map (pZ g)++[vD g g.out.toNat])
def qr(L:List Nat):Nat->Nat
 | 0=>0
 | t+1=>qr L t+L.getD (t+1) 0*(L.getD t 0+1)
def bP(g:eQ):Nat:=qr (kG g) ((gR g).length+1)
def isStep(d:fQ):Bool:=d.op==2 ||d.op==3 ||(d.op==5&&decide (1<d.k))
def kM(f:Nat->Rat)(n:Nat):List Rat:=(List.range n).flatMap fun e=>[f e,-f e]
def lC(f:Nat->Rat)(m:Nat):List Rat:=
 ((List.range (m/2)).flatMap fun c=>[f (2*c)-f (2*c+1),f (2*c+1),-f (2*c+1)])++if m % 2=1 then [f (m-1),-f (m-1)] else []
def ym(g:eQ)(V:Nat->Nat->Rat)(cw:Nat)(W:Nat->Nat->Rat)(i:Nat):List Rat:=
 if (g.N (i-1)).op=2 then (List.range (vD g (g.N (i-1)).a.toNat)).map (V (g.N (i-1)).a.toNat)
 else if (g.N (i-1)).op=3 then kM (V (g.N (i-1)).a.toNat) (vD g (g.N (i-1)).a.toNat)
 else if cw=0 then (List.range (vD g i)).flatMap fun e=>lC (fun c=>V (g.N (i-1)).a.toNat (e*(g.N (i-1)).k.toNat+c)) (g.N (i-1)).k.toNat
 else (List.range (vD g i)).flatMap fun e=>lC (W e) cw
def bQ(g:eQ)(V:Nat->Nat->Rat)(cw:Nat)(W:Nat->Nat->Rat)(i:Nat):List Rat:=
 (bR g i).flatMap (fun j=>kM (V j) (vD g j))++ym g V cw W i
def yf(g:eQ)(V:Nat->Nat->Rat)(i:Nat):Nat->Nat->Rat:=fun j=>
 if j=i then ov (g.N (i-1)) (V (g.N (i-1)).a.toNat) (V (g.N (i-1)).b.toNat) (vD g (g.N (i-1)).a.toNat) else V j
def oU(g:eQ)(cw:Nat)(W:Nat->Nat->Rat):Nat->Nat->(Nat->Nat->Rat)->List Rat
 | 0,_,V=>(List.range (vD g g.out.toNat)).map (V g.out.toNat)
 | f+1,i,V=>if lD g i=false then oU g cw W f (i+1) V else if isStep (g.N (i-1)) then bQ g V cw W i else oU g cw W f (i+1) (yf g V i)
def aN(g:eQ)(i c:Nat)(h:Nat->Rat)(e t:Nat):Rat:=
 if t<c/2 then h (ku g i i+e*(3*(c/2)+2*(c % 2))+3*t)+h (ku g i i+e*(3*(c/2)+2*(c % 2))+3*t+1)-h (ku g i i+e*(3*(c/2)+2*(c % 2))+3*t+2)
 else h (ku g i i+e*(3*(c/2)+2*(c % 2))+3*t)-h (ku g i i+e*(3*(c/2)+2*(c % 2))+3*t+1)
def bn(g:eQ)(i c:Nat)(h:Nat->Rat)(e:Nat):Rat:=
 if (g.N (i-1)).op=2 then h (ku g i i+e)
 else if (g.N (i-1)).op=3 then h (ku g i i+2*e)-(g.N (i-1)).w 0*h (ku g i i+2*e+1)
 else aN g i c h e 0
def pf(g:eQ)(i c:Nat)(h:Nat->Rat):Nat->Nat->Rat:=fun j e=>
 if j=i then bn g i c h e else h (ku g i j+2*e)-h (ku g i j+2*e+1)
def kF(g:eQ)(t:Nat)(h:Nat->Rat):List Rat:=
 if t=0 then oU g 0 (fun _ _=>0) g.nn 1 (fun _=>h)
 else
  let s:=(gR g).getD (t-1) (0,0)
  if (g.N (s.1-1)).op=5/\2<s.2 then oU g (s.2/2+s.2 % 2) (aN g s.1 s.2 h) (g.nn-(s.1-1)) s.1 (pf g s.1 s.2 h)
  else oU g 0 (fun _ _=>0) (g.nn-s.1) (s.1+1) (pf g s.1 s.2 h)
def i9(c:Int)(i:Nat):Rat:=if (i:Int)=c then 1 else 0
def bY(g:eQ)(t:Nat):List Rat:=kF g t (i9 (-1))
theorem akQ(Q a:Rat):(0<=aD Q a->(if Q<a then a else Q)=Q)/\(aD Q a<0->(if Q<a then a else Q)=a):=by
 unfold aD;by_cases h:Q<a
 . simp[h]
 . simp only[h,iO];split<;>simp
theorem an5{f x:Value}{a:Rat}(T:Qb Q 1048640)(Z:Qb a 1048640){r:Rat}(hr:Hid ((if Q<a then a else Q)=r))(R:pO w (.agg #[.bool (qn Q),u,U]) Q)(K:pO w (.agg #[.bool (qn a),f,x]) a):
 Cl 234 #[.agg #[.bool (qn Q),u,U],.agg #[.bool (qn a),f,x]] w fun e w'=>∃y,e=.returned y/\i7 w' (fun g=>w.heap.size<=g) y r/\w.S w':=by
 obtain⟨q,b⟩:∃q:World,q=((w.alloc (.o #[.bool (qn Q),u,U] 70)).alloc (.o #[.bool (qn a),f,x] 70)).alloc yJ:=⟨_,rfl⟩;have F:w.S q:=by rw[b];exact ((fA _ _).alloc qz _).alloc (by simp;omega) _
 have zA:q.heap.size=w.heap.size+1+1+1:=by rw[b];simp
 have O:eS q w.heap.size (.bool (qn Q)) u U:=by rw[b];exact ((eS.new w _ _ _ _).aA (fA _ _)).aA (fA _ _)
 have P:eS q (w.heap.size+1) (.bool (qn a)) f x:=by rw[b];have:=(eS.new (w.alloc (.o #[.bool (qn Q),u,U] 70)) (.bool (qn a)) f x 70).aA (yD.alloc zR yJ);simpa using this
 have W:eS q (w.heap.size+1+1) (.bool false) (.n) (.n):=by rw[b];have:=eS.new ((w.alloc (.o #[.bool (qn Q),u,U] 70)).alloc (.o #[.bool (qn a),f,x] 70)) (.bool false) (.n) (.n) 70;simpa using this
 have L:=R;have N:=K;obtain⟨a5,n5,c5,b5,m5,d5,-,-,-,-,-,-,Y,-⟩:=R;obtain⟨a6,n6,c6,b6,m6,d6,-,-,-,-,-,-,S,-⟩:=K;simp only[ag3,fM] at Y S;obtain⟨rfl,rfl⟩:=Y;obtain⟨rfl,rfl⟩:=S;have I:=ai4 T Z om (L.aA F) (N.aA F);have H:=eI ((hr.out▸akQ Q a:(0<=aD Q a->r=Q)/\(aD Q a<0->r=a)));have G:=eI b;clear b;go_enter func234,ntmps234;go_wp2_with fail;rw[<-G.out];refine mo I fun X d=> ?_;have s:=F.tr d;have af:=O.aA d;have ag:=P.aA d;have V:=W.aA d;clear I G O P W;by_cases hz:0<=aD Q a
 . have t:=eI (H.out.1 hz);obtain⟨B,C,D⟩:=af.g;go_wp2_with fail;refine (sH T om (L.aA s)).mono ?_;rintro e p ⟨y,rfl,h,o⟩;have v:=h;obtain⟨i,n,k,j,m,l,-,-,-,-,-,-,A,-⟩:=v;subst A;have c:=V.aA o;obtain⟨q0,q1,q2⟩:=c.g;obtain⟨ac,ad,ae⟩:=c.k;have z:=s.tr o;have z1:=d.size;clear B C D;go_wp2;have E:=((c.bE (.bool (qn Q))).bH (.l i n k)).bF (.l j m l);refine bO (qi rfl _ _ _ _ _ _ rfl E) rfl ?_;have M:eM p _ (w.heap.size+1+1):=(((eM.refl p _).setCell 0 (.bool (qn Q))).setCell 1 (.l i n k)).setCell 2 (.l j m l);rw[t.out];exact⟨_,rfl,(h.marked M (by show ¬X.heap.size<=_;omega)).imp (fun g _ aa=>by omega),z.trans (M.since om)⟩
 . have ab:aD Q a<0:=om;have t:=eI (H.out.2 ab);obtain⟨B,C,D⟩:=ag.g;go_wp2_with fail;refine (sH Z om (N.aA s)).mono ?_;rintro e p ⟨y,rfl,h,o⟩;have v:=h;obtain⟨i,n,k,j,m,l,-,-,-,-,-,-,A,-⟩:=v;subst A;have c:=V.aA o;obtain⟨q0,q1,q2⟩:=c.g;obtain⟨ac,ad,ae⟩:=c.k;have z:=s.tr o;have z1:=d.size;clear B C D;go_wp2;have E:=((c.bE (.bool (qn a))).bH (.l i n k)).bF (.l j m l);refine bO (qi rfl _ _ _ _ _ _ rfl E) rfl ?_;have M:eM p _ (w.heap.size+1+1):=(((eM.refl p _).setCell 0 (.bool (qn a))).setCell 1 (.l i n k)).setCell 2 (.l j m l);rw[t.out];exact⟨_,rfl,(h.marked M (by show ¬X.heap.size<=_;omega)).imp (fun g _ aa=>by omega),z.trans (M.since om)⟩
theorem ai3{c:Rat}(j:Qb Q 1048640)(k:Qb c 1048640)(R:pO w u Q)(d:pO w U c):
 Cl 234 #[u,U] w fun e q=>∃f,e=.returned f/\i7 q (fun g=>w.heap.size<=g) f (if Q<c then c else Q)/\w.S q:=by
 have h:=R;have i:=d;obtain⟨a,n,p,b,m,s,-,-,-,-,-,-,rfl,-⟩:=R;obtain⟨l,y,r,o,x,t,-,-,-,-,-,-,rfl,-⟩:=d;exact an5 j k (eI rfl) h i
theorem aez{x:Nat->Rat}(QJ:ij w (fun _=>True) a k i c x)(hn:1<=m)(hF:n+m<=c)(hl:c<=1000)(qj:∀e,e<c->Qb (x e) 1048640):
 Cl 235 #[.slice a c d,.i (n:Int),.i (m:Int)] w fun e l=>∃u,e=.returned u/\i7 l (fun g=>w.heap.size<=g) u (lT x n (m-1))/\w.S l:=by
 have z:=fA w (.o #[.bool false,.n,.n] 70);have zA:(w.alloc (.o #[.bool false,.n,.n] 70)).heap.size=w.heap.size+1:=by simp
 have rA:=eS.new w (.bool false) (.n) (.n) 70;obtain⟨ae,x0,y0,B⟩:=QJ n om;subst ae;obtain⟨aa,na,ca,ba,ma,da,-,-,-,-,-,-,ea,-⟩:=B.R;simp only[ag3,true_and] at ea;obtain⟨rfl,rfl⟩:=ea;have ao:(n:Int)<(c:Int):=om;have g0:=(B.aA z).c0;have g1:=(B.aA z).c1;have g2:=(B.aA z).c2;go_enter func235,ntmps235;go_wp2_with fail;generalize w.alloc (.o #[.bool false,.n,.n] 70)=wA at*;refine (sH (qj n om) om (B.aA z).R.read).mono ?_;rintro e A ⟨u1,rfl,Q,N⟩;have R2:=Q;obtain⟨T,n6,X,V,D,Z,-,-,-,-,-,-,e6,-⟩:=R2;subst e6;clear g0 g1 g2;have S:=z.trans (sM N z.size);have r1:=rA.aA N;have M:=fA A (.o #[.bool (qn (x n)),.l T n6 X,.l V D Z] 70);have bz:=eS.new A (.bool (qn (x n))) (.l T n6 X) (.l V D Z) 70;have Sz:=S.trans (sM M S.size);have rz:=r1.aA M;have Rz:=(Q.imp (p':=fun g=>w.heap.size+1<=g/\g≠A.heap.size) (fun g hg ac=>by have H:wA.heap.size<=g:=ac;omega)).aA M;have am:w.heap.size+1<=A.heap.size:=by have:=N.size;omega
 go_wp2_with fail;generalize A.alloc (.o #[.bool (qn (x n)),.l T n6 X,.l V D Z] 70)=wz at*;clear Q r1 M S rA N;generalize A.heap.size=o at*;go_loopw [8] (fun u wr=>∃b:Nat,b+1<=m/\u=.i ((b+1:Nat):Int)/\w.S wr/\eS wr w.heap.size (.bool false) (.n) (.n)/\∃v1 v2,eS wr o (.bool (qn (lT x n b))) v1 v2/\i7 wr (fun g=>w.heap.size+1<=g/\g≠o) (.agg #[.bool (qn (lT x n b)),v1,v2]) (lT x n b)) (fun u _=>m-(intOf u).toNat)
 case atStart=>exact⟨0,om,rfl,Sz,rz,_,_,bz,Rz⟩
 case round=>
  clear Sz rz bz Rz;obtain⟨b,hk,rfl,s,r,v1,v2,j,R⟩:=hrel;have ad:=R;obtain⟨U,n7,Y,W,m7,t,-,-,-,-,-,-,e7,-⟩:=ad;simp only[ag3,true_and] at e7;obtain⟨rfl,rfl⟩:=e7;have k0:=j.c0;have k1:=j.c1;have k2:=j.c2;have aq:=j.f 0;have ar:=j.f 1;have au:=j.f 2;by_cases an:b+1<m
  . obtain⟨-,xx,yx,f⟩:=QJ (n+(b+1)) om;obtain⟨ax,nx,cx,bx,mx,dx,-,-,-,-,-,-,ex,-⟩:=f.R;simp only[ag3,true_and] at ex;obtain⟨rfl,rfl⟩:=ex;have hz:((b+1:Nat):Int)<(m:Int):=om;have C:(n:Int)+((b+1:Nat):Int)=((n+(b+1):Nat):Int):=om;have f2:((n+(b+1):Nat):Int)<(c:Int):=om;obtain⟨aj,L⟩:∃aj,aj=b+1:=⟨_,rfl⟩;obtain⟨E,I⟩:∃E,E=n+(b+1):=⟨_,rfl⟩;rw[<-I] at f C f2;rw[<-L] at C hz;have qF:IntKind.i64.wrap ((n:Int)+(aj:Int))=(E:Int):=(by rw[C];exact gU om om);clear C;have f3:(0:Int)<=(E:Int):=om;have qk:Qb (lT x n b) 1048640:=by
     obtain⟨s',h1,H⟩:=ad2 x n b;rw[H];exact qj _ om
    have qe:Qb (x E) 1048640:=qj _ om;have v:=uB wr;have y:=s.trans (sM v s.size);have J1:=ai3 qk qe (R.aA v).read (f.aA y).R.read;have em:(if lT x n b<x E then x E else lT x n b)=lT x n (b+1):=(by rw[I];rfl);rw[em] at J1;have HT:=eI L;have HE:=eI I;clear em;have g0:=(f.aA s).c0;have g1:=(f.aA s).c1;have g2:=(f.aA s).c2;have lx:=f.lt;have av:o≠k:=om;rw[<-L];clear L I;go_wp2_with fail;refine wp_region_held_drew (S:=(fun l=>l.cell? (jj k (i+E*3))=some (.bool (qn (x E)))/\l.cell? (jj k (i+E*3+1))=some (.l ax nx cx)/\l.cell? (jj k (i+E*3+2))=some (.l bx mx dx))) kr ⟨(f.aA y).c0,(f.aA y).c1,(f.aA y).c2⟩ (fun ag=> ?_);refine kl 1 20 ?_;refine kl 2 21 ?_;refine kl 3 22 ?_;refine kl 4 23 ?_;refine kl 5 24 ?_;refine kl 6 25 ?_;refine tu 0 fun K p=> ?_;have l0:wr.drew.cell? (jj o 0)=some (.bool (qn (lT x n b))):=(j.aA v).c0;have l1:wr.drew.cell? (jj o 1)=some (.l U n7 Y):=(j.aA v).c1;have l2:wr.drew.cell? (jj o 2)=some (.l W m7 t):=(j.aA v).c2;go_simp;clear l0 l1 l2;refine p.out _ _ ⟨(f.aA y).c0,(f.aA y).c1,(f.aA y).c2⟩ (fun h1=> ?_);clear p K ag;refine tu 7 fun K p=> ?_;go_simp;go_wp2_with (go_at_call 234;with_reducible refine J1.mono ?_;rintro e w5 ⟨O,rfl,R5,s5⟩);have R6:=R5;obtain⟨a8,n8,c8,b8,m8,d8,-,-,-,-,-,-,e8,-⟩:=R6;subst e8;have O:=v.trans (sM s5 v.size);have F:=s.trans (sM O s.size);have q:=j.aA O;have r5:=r.aA O;refine p.out _ _ ⟨(f.aA F).c0,(f.aA F).c1,(f.aA F).c2⟩ (fun H=> ?_);clear p K h1;refine tu 8 fun K p=> ?_;have j0:=q.c0;have j1:=q.c1;have j2:=q.c2;have ai:=q.f 0;have ak:=q.f 1;have al:=q.f 2;go_simp;clear j0 j1 j2 ai ak al;have D8:=((q.bE (.bool (qn (lT x n (b+1))))).bH (.l a8 n8 c8)).bF (.l b8 m8 d8);have P:eM w5 _ o:=(((eM.refl w5 _).setCell 0 (.bool (qn (lT x n (b+1))))).setCell 1 (.l a8 n8 c8)).setCell 2 (.l b8 m8 d8);have lf:=j.lt;have zs:=s.size;have R8:=(R5.imp (p':=fun g=>w.heap.size+1<=g/\g≠o) (fun g _ hg=>by have ac:wr.drew.heap.size<=g:=hg;have:wr.drew.heap.size=wr.heap.size:=rfl;omega)).marked P (fun h=>h.2 rfl);have G:=F.trans (P.since (B:=w.heap.size) om);have r8:=r5.marked P om;refine p.out _ _ ⟨(f.aA G).c0,(f.aA G).c1,(f.aA G).c2⟩ (fun af=> ?_);clear p K af H;refine wpAnyH_done kr ?_ _;go_wp2;go_roundw
    case rel=>go_light;exact⟨b+1,om,by rw[HT.out];go_num,G,r8,_,_,D8,R8⟩
    case measure=>have:=HT.out;simp[intOf];omega
  . have e:b+1=m:=om;have r0:=r.c0;have r1:=r.c1;have r2:=r.c2;have f0:=r.f 0;have C:=r.f 1;have f2:=r.f 2;have HE:=eI e;have hz:¬((b+1:Nat):Int)<(m:Int):=om;generalize ah:((b+1:Nat):Int)=kk at*;clear ah e;go_wp2;have rC:=((r.bE (.bool (qn (lT x n b)))).bH (.l U n7 Y)).bF (.l W m7 t);refine bodyPost_ret (qi rfl _ _ _ _ _ _ rfl rC) rfl ?_;have ab:eM wr _ w.heap.size:=(((eM.refl wr _).setCell 0 (.bool (qn (lT x n b)))).setCell 1 (.l U n7 Y)).setCell 2 (.l W m7 t);have ek:m-1=b:=(by have:=HE.out;omega);rw[ek];exact⟨_,rfl,(((R.imp (p':=fun g=>w.heap.size+1<=g) (fun g _ h=>h.1)).marked ab om).imp (fun g _ h=>by omega)),s.trans (ab.since om)⟩
theorem yA{w:World}:Cl 102 #[] w fun e b=>∃u,e=.returned u/\i7 b (fun g=>w.heap.size<=g) u 0/\w.S b:=
 (kv).mono fun _ _ ⟨u,a,V,s⟩=>⟨u,a,jM.rp (q:=0) V,s⟩
theorem ai2(n m c d k i:Nat)(a A:Option Addr)(j l bx o:Nat)(W X:Nat->Rat)(al:c<=1002000)(am:d<=1000)(qw:∀e,e<c->Qb (W e) 1048640)(qx:∀e,e<d->Qb (X e) 1048640):
 ∀(b:Nat) (w:World),ij w (fun _=>True) a j l c W->ij w (fun _=>True) A bx o d X->n+b<=c->m+b<=d->(∀D,D<=b->Qb (mu 0 (fun t=>W (n+t)) (fun t=>X (m+t)) D) 1048640)->
 Cl 233 #[.slice a c k,.i (n:Int),.slice A d i,.i (m:Int),.i (b:Int)] w fun e s=>∃ab,e=.returned ab/\i7 s (fun g=>w.heap.size<=g) ab (mu 0 (fun t=>W (n+t)) (fun t=>X (m+t)) b)/\w.S s:=by
 intro b
 induction b with
 | zero=>
   intro w I K h1 h2 F;have f:=fA w (.o #[.bool false,.n,.n] 70);have zA:(w.alloc (.o #[.bool false,.n,.n] 70)).heap.size=w.heap.size+1:=(by simp);have O:=eS.new w (.bool false) (.n) (.n) 70;show Calls _ _ #[.l a c k,.i (n:Int),.l A d i,.i (m:Int),.i 0] _ _;go_enter func233,ntmps233;go_wp2_with fail;generalize w.alloc (.o #[.bool false,.n,.n] 70)=C at*;refine (@yA C).mono ?_;rintro e w1 ⟨u1,rfl,R,s1⟩;have R2:=R;obtain⟨T,n6,c6,V,m6,d6,-,-,-,-,-,-,e6,-⟩:=R2;subst e6;have S1:=f.trans (sM s1 f.size);have r:=O.aA s1;have r0:=r.c0;have r1:=r.c1;have r2:=r.c2;have f0:=r.f 0;have f1:=r.f 1;have f2:=r.f 2;go_wp2;have P:=((r.bE (.bool (qn 0))).bH (.l T n6 c6)).bF (.l V m6 d6);refine bodyPost_ret (qi rfl _ _ _ _ _ _ rfl P) rfl ?_;have M:eM w1 _ w.heap.size:=(((eM.refl w1 _).setCell 0 (.bool (qn 0))).setCell 1 (.l T n6 c6)).setCell 2 (.l V m6 d6);exact⟨_,rfl,(((R.imp (p':=fun g=>w.heap.size+1<=g) (fun g _ h=>by have h':C.heap.size<=g:=h;omega)).marked M om).imp (fun g _ h=>by omega)),S1.trans (M.since om)⟩
 | succ b ih=>
   intro w I K h1 h2 F;have f:=fA w (.o #[.bool false,.n,.n] 70);have zA:(w.alloc (.o #[.bool false,.n,.n] 70)).heap.size=w.heap.size+1:=(by simp);have O:=eS.new w (.bool false) (.n) (.n) 70;obtain⟨N,hN⟩:∃N,N=b+1:=⟨_,rfl⟩;obtain⟨E,hE⟩:∃E,E=n+b:=⟨_,rfl⟩;obtain⟨G,hG⟩:∃G,G=m+b:=⟨_,rfl⟩;obtain⟨y,hA⟩:∃y,y=n+b+1:=⟨_,rfl⟩;obtain⟨B,hB⟩:∃B,B=m+b+1:=⟨_,rfl⟩;obtain⟨ac,x1,y1,p⟩:=I E om;obtain⟨ad,x2,y2,q⟩:=K G om;subst ac ad;obtain⟨a1,n1,c1,b1,m1,d1,-,-,-,-,-,-,e1,-⟩:=p.R;obtain⟨a2,n2,c2,b2,m2,d2,-,-,-,-,-,-,e2,-⟩:=q.R;simp only[ag3,true_and] at e1 e2;obtain⟨rfl,rfl⟩:=e1;obtain⟨rfl,rfl⟩:=e2;have t0:¬(N:Int)=0:=om;have t1:IntKind.i64.wrap ((N:Int)-1)=(b:Int):=(by rw[show (N:Int)-1=(b:Int) by omega];exact gU om om);have t2:IntKind.i64.wrap ((n:Int)+(N:Int))=(y:Int):=(by rw[show (n:Int)+(N:Int)=(y:Int) by omega];exact gU om om);have t3:IntKind.i64.wrap ((y:Int)-1)=(E:Int):=(by rw[show (y:Int)-1=(E:Int) by omega];exact gU om om);have t4:IntKind.i64.wrap ((m:Int)+(N:Int))=(B:Int):=(by rw[show (m:Int)+(N:Int)=(B:Int) by omega];exact gU om om);have t5:IntKind.i64.wrap ((B:Int)-1)=(G:Int):=(by rw[show (B:Int)-1=(G:Int) by omega];exact gU om om);have t6:(E:Int)<(c:Int):=om;have t7:(G:Int)<(d:Int):=om;have t8:(0:Int)<=(E:Int):=om;have t9:(0:Int)<=(G:Int):=om;have qE:=qw E om;have qG:=qx G om;have ae:=F b om;have hr:mu 0 (fun t=>W (n+t)) (fun t=>X (m+t)) b+W E*X G=mu 0 (fun t=>W (n+t)) (fun t=>X (m+t)) (b+1):=(by rw[hE,hG];rfl);rw[<-hr,<-hN];have J0:=fun s (aa:w.S s)=>ih s (I.aA aa) (K.aA aa) om om (fun D hk=>F D om);clear hr ih F h1 h2 hE hG hA hB hN;generalize mu 0 (fun t=>W (n+t)) (fun t=>X (m+t)) b=Z at*;go_enter func233,ntmps233;go_wp2_with fail;generalize w.alloc (.o #[.bool false,.n,.n] 70)=C at*;have L:=uB C;have sd:=f.trans (sM L f.size);have J1:=J0 C.drew sd;have af:=(p.aA f).c0;have ag:=(p.aA f).c1;have ah:=(p.aA f).c2;have ai:=(q.aA f).c0;have aj:=(q.aA f).c1;have ak:=(q.aA f).c2
   go_region_held3 (fun s=>s.cell? (jj j (l+E*3))=some (.bool (qn (W E)))/\s.cell? (jj j (l+E*3+1))=some (.l a1 n1 c1)/\s.cell? (jj j (l+E*3+2))=some (.l b1 m1 d1)/\s.cell? (jj bx (o+G*3))=some (.bool (qn (X G)))/\s.cell? (jj bx (o+G*3+1))=some (.l a2 n2 c2)/\s.cell? (jj bx (o+G*3+2))=some (.l b2 m2 d2)) (go_keep)
    (first
      | (go_at_call 233;(with_reducible refine J1.mono ?_);rintro e wp ⟨up,rfl,Rp,sp⟩;have Q:=L.trans (sM sp L.size);have u:=f.trans (sM Q f.size);have J2:=tZ qE qG om (p.aA u).R.read (q.aA u).R.read;have an:=(p.aA u).c0;have ao:=(p.aA u).c1;have aq:=(p.aA u).c2;have ar:=(q.aA u).c0;have au:=(q.aA u).c1;have av:=(q.aA u).c2)
      | (go_at_call 199;(with_reducible refine J2.mono ?_);rintro e wq ⟨uq,rfl,Rq,sq⟩;have H:=Q.trans (sM sq Q.size);have z:=f.trans (sM H f.size);have J3:=sI ae (qE.mul qG) om (Rp.aA sq).read Rq.read;have ay:=(p.aA z).c0;have az:=(p.aA z).c1;have a0:=(p.aA z).c2;have a3:=(q.aA z).c0;have a4:=(q.aA z).c1;have a5:=(q.aA z).c2)
      | (go_at_call 153;(with_reducible refine J3.mono ?_);rintro e w5 ⟨bj,rfl,S,s5⟩;have R6:=S;obtain⟨U,n7,c7,Y,m7,d7,-,-,-,-,-,-,e7,-⟩:=R6;subst e7;have u5:=H.trans (sM s5 H.size);have v:=f.trans (sM u5 f.size);have x:=O.aA u5;have a8:=p.lt;have a9:=q.lt;have ba:w.heap.size≠j:=om;have bb:w.heap.size≠bx:=om;have r0:=x.c0;have r1:=x.c1;have r2:=x.c2;have f0:=x.f 0;have f1:=x.f 1;have f2:=x.f 2;have bc:=(p.aA v).c0;have bd:=(p.aA v).c1;have bf:=(p.aA v).c2;have bg:=(q.aA v).c0;have bh:=(q.aA v).c1;have bi:=(q.aA v).c2))
   go_wp2;have P:=((x.bE (.bool (qn (Z+W E*X G)))).bH (.l U n7 c7)).bF (.l Y m7 d7);refine bodyPost_ret (qi rfl _ _ _ _ _ _ rfl P) rfl ?_;have M:eM w5 _ w.heap.size:=(((eM.refl w5 _).setCell 0 (.bool (qn (Z+W E*X G)))).setCell 1 (.l U n7 c7)).setCell 2 (.l Y m7 d7);exact⟨_,rfl,(((S.imp (p':=fun g=>w.heap.size+1<=g) (fun g _ h=>by have h':wq.heap.size<=g:=h;have:=H.size;omega)).marked M om).imp (fun g _ h=>by omega)),v.trans (M.since om)⟩
theorem el4{t v:Int}{bx c d k i j l:Nat}{X:Nat->Rat}(S:ij w (fun _=>True) A bx c d X)(qx:∀C,C<d->Qb (X C) 1048640){Z:Nat->Rat}(T:ij w (fun _=>True) B o b i Z)(aa:∀C,C<i->Qb (Z C) 1048640)(K:l<d)(L:l<i):
 Cl 223 #[.agg #[.i 4,.i z,.i y,.i t,.i v,.slice a n m],.slice A d k,.slice B i j,.i (l:Int)] w fun r q=>∃u,r=.returned u/\i7 q (fun g=>w.heap.size<=g) u (X l+Z l)/\w.S q:=by
 have s:w.S ((w.alloc (.o #[.i 4,.i z,.i y,.i t,.i v,.l a n m] 144)).alloc yJ):=(fA _ _).alloc qz _;have zA:((w.alloc (.o #[.i 4,.i z,.i y,.i t,.i v,.l a n m] 144)).alloc yJ).heap.size=w.heap.size+1+1:=by simp
 have nA:fO ((w.alloc (.o #[.i 4,.i z,.i y,.i t,.i v,.l a n m] 144)).alloc yJ) w.heap.size (.i 4) (.i z) (.i y) (.i t) (.i v) (.l a n m):=(fO.new w _ _ _ _ _ _ _).aA (fA _ _);have rA:eS ((w.alloc (.o #[.i 4,.i z,.i y,.i t,.i v,.l a n m] 144)).alloc yJ) (w.heap.size+1) (.bool false) (.n) (.n):=by have:=eS.new (w.alloc (.o #[.i 4,.i z,.i y,.i t,.i v,.l a n m] 144)) (.bool false) (.n) (.n) 70;simpa using this
 have p0:=nA.c0;obtain⟨eX,x1,y1,e⟩:=S l K;subst eX;obtain⟨ah,n2,c2,b2,m2,d2,-,-,-,-,-,-,H,-⟩:=e.R;simp only[ag3,fM] at H;obtain⟨rfl,rfl⟩:=H;have t1:(l:Int)<d:=om;obtain⟨eZ,x3,y3,p⟩:=T l L;subst eZ;obtain⟨ai,n3,c3,b3,m3,d3,-,-,-,-,-,-,I,-⟩:=p.R;simp only[ag3,fM] at I;obtain⟨rfl,rfl⟩:=I;have t2:(l:Int)<i:=om;have ab:=e.lt;have ac:=p.lt;have ad:w.heap.size+1≠bx:=om;have ae:w.heap.size+1≠o:=om;go_enter func223,ntmps223;go_wp2_with fail;generalize (w.alloc _).alloc _=x at*;have G:=uB x;have P:=s.tr G;have U:=sI (qx l K) (aa l L) om (e.aA P).R.read (p.aA P).R.read;have g0:=(e.aA s).c0;have g1:=(e.aA s).c1;have g2:=(e.aA s).c2;have h0:=(p.aA s).c0;have h1:=(p.aA s).c1;have h2:=(p.aA s).c2
 go_region_held3 (fun q=>q.cell? (jj bx (c+l*3))=some (.bool (qn (X l)))/\q.cell? (jj bx (c+l*3+1))=some (.l ah n2 c2)/\q.cell? (jj bx (c+l*3+2))=some (.l b2 m2 d2)/\q.cell? (jj o (b+l*3))=some (.bool (qn (Z l)))/\q.cell? (jj o (b+l*3+1))=some (.l ai n3 c3)/\q.cell? (jj o (b+l*3+2))=some (.l b3 m3 d3)) (go_keep)
  (first
    | (go_at_call 153;(with_reducible refine U.mono ?_);rintro r R ⟨af,rfl,Y,s5⟩;have ag:=Y;obtain⟨W,O,E,D,N,F,-,-,-,-,-,-,e7,-⟩:=ag;subst e7;have Q:=G.tr s5;have f:=s.tr Q;have V:=rA.aA Q;obtain⟨r0,r1,r2⟩:=V.g;obtain⟨f0,f1,f2⟩:=V.k;have i0:=(e.aA f).c0;have i1:=(e.aA f).c1;have i2:=(e.aA f).c2;have j0:=(p.aA f).c0;have j1:=(p.aA f).c1;have j2:=(p.aA f).c2))
 go_wp2;have rC:=((V.bE (.bool (qn (X l+Z l)))).bH (.l W O E)).bF (.l D N F);refine bO (qi rfl _ _ _ _ _ _ rfl rC) rfl ?_;have M:eM R _ (w.heap.size+1):=(((eM.refl R _).setCell 0 (.bool (qn (X l+Z l)))).setCell 1 (.l W O E)).setCell 2 (.l D N F);exact⟨_,rfl,(((Y.imp (p':=fun g=>w.heap.size+2<=g) (fun g _ h=>by have h':x.drew.heap.size<=g:=h;have:x.drew.heap.size=x.heap.size:=rfl;omega)).marked M om).imp (fun g _ h=>by omega)),f.trans (M.since om)⟩
theorem el5{e:Int}{bx d k i j l o:Nat}{X:Nat->Rat}(D:ij w (fun _=>True) A bx d k X)(Q:∀I,I<k->Qb (X I) 1048640)(t:b=o*n)(N:1<=n)(hF:b+n<=k)(hl:k<=1000):
 Cl 223 #[.agg #[.i 5,.i z,.i y,.i (n:Int),.i e,.slice a m c],.slice A k i,.slice B j l,.i (o:Int)] w fun r H=>∃u,r=.returned u/\i7 H (fun g=>w.heap.size<=g) u (lT X b (n-1))/\w.S H:=by
 have F:w.S ((w.alloc (.o #[.i 5,.i z,.i y,.i (n:Int),.i e,.l a m c] 144)).alloc yJ):=(fA _ _).alloc qz _;have zA:((w.alloc (.o #[.i 5,.i z,.i y,.i (n:Int),.i e,.l a m c] 144)).alloc yJ).heap.size=w.heap.size+1+1:=by simp
 have P:fO ((w.alloc (.o #[.i 5,.i z,.i y,.i (n:Int),.i e,.l a m c] 144)).alloc yJ) w.heap.size (.i 5) (.i z) (.i y) (.i (n:Int)) (.i e) (.l a m c):=(fO.new w _ _ _ _ _ _ _).aA (fA _ _);have R:eS ((w.alloc (.o #[.i 5,.i z,.i y,.i (n:Int),.i e,.l a m c] 144)).alloc yJ) (w.heap.size+1) (.bool false) (.n) (.n):=by have:=eS.new (w.alloc (.o #[.i 5,.i z,.i y,.i (n:Int),.i e,.l a m c] 144)) (.bool false) (.n) (.n) 70;simpa using this
 have ab:=P.c0;have p3:=P.c3;have qF:IntKind.i64.wrap ((o:Int)*(n:Int))=(b:Int):=by rw[<-dR,<-t];exact gU om om
 clear t;go_enter func223,ntmps223;go_wp2_with fail;generalize (w.alloc _).alloc _=T at*;refine (aez (D.aA F) N hF hl Q).mono ?_;rintro r C ⟨aa,rfl,K,Z⟩;have E:=K;obtain⟨O,x,q,p,v,s,-,-,-,-,-,-,L,-⟩:=E;subst L;have G:=F.tr Z;have f:=R.aA Z;obtain⟨r0,r1,r2⟩:=f.g;obtain⟨U,V,W⟩:=f.k;go_wp2;have S:=((f.bE (.bool (qn (lT X b (n-1))))).bH (.l O x q)).bF (.l p v s);refine bO (qi rfl _ _ _ _ _ _ rfl S) rfl ?_;have M:eM C _ (w.heap.size+1):=(((eM.refl C _).setCell 0 (.bool (qn (lT X b (n-1))))).setCell 1 (.l O x q)).setCell 2 (.l p v s);exact⟨_,rfl,(((K.imp (p':=fun g=>w.heap.size+2<=g) (fun g _ h=>by have Y:T.heap.size<=g:=h;omega)).marked M om).imp (fun g _ h=>by omega)),G.trans (M.since om)⟩
theorem alq(Q:Rat):(if Q<0 then 0 else Q)=uC Q:=by
 have a:Q<0↔Q.num<0:=by rw[Rat.lt_iff];simp
 cases h:qn Q
 . rw[ajp h,aM];rw[a];exact of_decide_eq_false h
 . rw[ajq h,aY];rw[a];exact iD h
theorem el2{e f:Int}{bx c d k i j l:Nat}{X:Nat->Rat}(N:ij w (fun _=>True) A bx c d X)(qx:∀Y,Y<d->Qb (X Y) 1048640)(F:l<d):
 Cl 223 #[.agg #[.i 2,.i z,.i y,.i e,.i f,.slice a n m],.slice A d k,.slice B i j,.i (l:Int)] w fun r S=>∃u,r=.returned u/\i7 S (fun g=>w.heap.size<=g) u (uC (X l))/\w.S S:=by
 have q:w.S ((w.alloc (.o #[.i 2,.i z,.i y,.i e,.i f,.l a n m] 144)).alloc yJ):=(fA _ _).alloc qz _;have zA:((w.alloc (.o #[.i 2,.i z,.i y,.i e,.i f,.l a n m] 144)).alloc yJ).heap.size=w.heap.size+1+1:=by simp
 have nA:fO ((w.alloc (.o #[.i 2,.i z,.i y,.i e,.i f,.l a n m] 144)).alloc yJ) w.heap.size (.i 2) (.i z) (.i y) (.i e) (.i f) (.l a n m):=(fO.new w _ _ _ _ _ _ _).aA (fA _ _);have rA:eS ((w.alloc (.o #[.i 2,.i z,.i y,.i e,.i f,.l a n m] 144)).alloc yJ) (w.heap.size+1) (.bool false) (.n) (.n):=by have:=eS.new (w.alloc (.o #[.i 2,.i z,.i y,.i e,.i f,.l a n m] 144)) (.bool false) (.n) (.n) 70;simpa using this
 have p0:=nA.c0;obtain⟨eX,x1,y1,b⟩:=N l F;subst eX;obtain⟨R,n2,U,T,m2,ae,-,-,-,-,-,-,E,-⟩:=b.R;simp only[ag3,fM] at E;obtain⟨rfl,rfl⟩:=E;have t1:(l:Int)<d:=om;have ab:=b.lt;have ac:w.heap.size+1≠bx:=om;go_enter func223,ntmps223;go_wp2_with fail;generalize (w.alloc _).alloc _=L at*;have D:=uB L;have sd:=q.tr D;have O:=@yA L.drew;have g0:=(b.aA q).c0;have g1:=(b.aA q).c1;have g2:=(b.aA q).c2
 go_region_held3 (fun S=>S.cell? (jj bx (c+l*3))=some (.bool (qn (X l)))/\S.cell? (jj bx (c+l*3+1))=some (.l R n2 U)/\S.cell? (jj bx (c+l*3+2))=some (.l T m2 ae)) (go_keep)
  (first
    | (go_at_call 102;(with_reducible refine O.mono ?_);rintro r wp ⟨up,rfl,Q,sp⟩;have t:=D.tr sp;have p:=q.tr t;have v:=ai3 (qx l F) (aiP (k:=1048640) om) (b.aA p).R.read Q.read;rw[alq] at v;have h0:=(b.aA p).c0;have h1:=(b.aA p).c1;have h2:=(b.aA p).c2)
    | (go_at_call 234;(with_reducible refine v.mono ?_);rintro r K ⟨ad,rfl,x,s5⟩;have P:=x;obtain⟨Z,H,W,V,G,C,-,-,-,-,-,-,af,-⟩:=P;subst af;have I:=t.tr s5;have o:=q.tr I;have s:=rA.aA I;obtain⟨r0,r1,r2⟩:=s.g;obtain⟨f0,f1,f2⟩:=s.k;have i0:=(b.aA o).c0;have i1:=(b.aA o).c1;have i2:=(b.aA o).c2))
 go_wp2;have rC:=((s.bE (.bool (qn (uC (X l))))).bH (.l Z H W)).bF (.l V G C);refine bO (qi rfl _ _ _ _ _ _ rfl rC) rfl ?_;have M:eM K _ (w.heap.size+1):=(((eM.refl K _).setCell 0 (.bool (qn (uC (X l))))).setCell 1 (.l Z H W)).setCell 2 (.l V G C);exact⟨_,rfl,(((x.imp (p':=fun g=>w.heap.size+2<=g) (fun g _ h=>by have h':wp.heap.size<=g:=h;have:=t.size;omega)).marked M om).imp (fun g _ h=>by omega)),o.trans (M.since om)⟩
theorem afX(R:pO w u Q):
 Cl 191 #[u] w fun e q=>(∃z:Int,e=.returned (.i z)/\(qn Q=true->z=-1)/\(qn Q=false->0<=z/\z<=1))/\w.S q:=by
 obtain⟨a,n,j,b,m,k,g,o,i,p,X,Y,rfl,R,f,r⟩:=R;refine mo (acn) fun q s=> ?_;have h:=km R.pX;rw[f] at h;refine⟨⟨_,rfl,fun c=> ?_,fun c=> ?_⟩,s⟩
 . have l:=iD c;rw[aM om,aY c]
 . rw[c];by_cases d:n=0
   . simp[d]
   . simp[d]
theorem el3n{E p:Int}{bx k i j l o b:Nat}{X:Nat->Rat}(aq:ij w (fun _=>True) a bx k i X)(qx:∀U,U<i->Qb (X U) 1048640){W:Nat->Rat}(ao:ij w (fun _=>True) (jp n m) n m c W)(qw:∀U,U<c->Qb (W U) 1048640)(O:0<c)(N:b<i)(hq:Hid (qn (X b)=true)):
 Cl 223 #[.agg #[.i 3,.i z,.i y,.i E,.i p,.slice (jp n m) c d],.slice a i j,.slice A l o,.i (b:Int)] w fun r s=>∃h,r=.returned h/\i7 s (fun g=>w.heap.size<=g) h (W 0*X b)/\w.S s:=by
 have x:w.S ((w.alloc (.o #[.i 3,.i z,.i y,.i E,.i p,.l (jp n m) c d] 144)).alloc yJ):=(fA _ _).alloc qz _;have zA:((w.alloc (.o #[.i 3,.i z,.i y,.i E,.i p,.l (jp n m) c d] 144)).alloc yJ).heap.size=w.heap.size+1+1:=by simp
 have v:fO ((w.alloc (.o #[.i 3,.i z,.i y,.i E,.i p,.l (jp n m) c d] 144)).alloc yJ) w.heap.size (.i 3) (.i z) (.i y) (.i E) (.i p) (.l (jp n m) c d):=(fO.new w _ _ _ _ _ _ _).aA (fA _ _);have rA:eS ((w.alloc (.o #[.i 3,.i z,.i y,.i E,.i p,.l (jp n m) c d] 144)).alloc yJ) (w.heap.size+1) (.bool false) (.n) (.n):=by have:=eS.new (w.alloc (.o #[.i 3,.i z,.i y,.i E,.i p,.l (jp n m) c d] 144)) (.bool false) (.n) (.n) 70;simpa using this
 have p0:=v.c0;obtain⟨eX,x1,y1,e⟩:=aq b N;subst eX;obtain⟨a2,n2,c2,b2,m2,d2,-,-,-,-,-,-,I,-⟩:=e.R;simp only[ag3,fM] at I;obtain⟨rfl,rfl⟩:=I;have t1:(b:Int)<i:=om;obtain⟨-,x4,y4,f⟩:=ao 0 O;obtain⟨a4,n4,c4,b4,m4,d4,-,-,-,-,-,-,K,-⟩:=f.R;simp only[ag3,fM] at K;obtain⟨rfl,rfl⟩:=K;rw[iT,fV] at f;have ag:=f.lt;have ac:(0:Int)<c:=om;have aj:w.heap.size+1≠n:=om;have ak:w.heap.size+1≠w.heap.size:=om;have ah:=e.lt;have ai:w.heap.size+1≠bx:=om;have g0:=(e.aA x).c0;have g1:=(e.aA x).c1;have g2:=(e.aA x).c2;have B:=afX (e.aA x).R.read;go_enter func223,ntmps223;go_wp2_with fail;generalize (w.alloc _).alloc _=wA at*;refine B.mono ?_;rintro r V ⟨⟨ab,rfl,L,h2⟩,t⟩;have q:=x.tr t;have al:=(v.aA t).c0;clear g0 g1 g2 B;have ad:=(e.aA q).c0;have ae:=(e.aA q).c1;have af:=(e.aA q).c2;have dr:=uB V;have S:=t.tr dr;have R:=x.tr S;have ar:=tZ (qw 0 O) (qx b N) om (f.aA R).R.read (e.aA R).R.read;have hz:¬(0:Int)<=ab:=by have:=L hq.out;omega
 have q5:=(v.aA t).c5;have h0:=(f.aA q).c0;have L:=(f.aA q).c1;have h2:=(f.aA q).c2;go_wp2_with fail
 go_region_held3 (fun s=>s.cell? (jj w.heap.size 5)=some (.l (jp n m) c d)/\s.cell? (jj n m)=some (.bool (qn (W 0)))/\s.cell? (jj n (m+1))=some (.l a4 n4 c4)/\s.cell? (jj n (m+2))=some (.l b4 m4 d4)/\s.cell? (jj bx (k+b*3))=some (.bool (qn (X b)))/\s.cell? (jj bx (k+b*3+1))=some (.l a2 n2 c2)/\s.cell? (jj bx (k+b*3+2))=some (.l b2 m2 d2)) (go_keep)
  (first
    | (go_at_call 199;(with_reducible refine ar.mono ?_);rintro r T ⟨am,rfl,C,s5⟩;have au:=C;obtain⟨D,Q,G,F,P,H,-,-,-,-,-,-,e7,-⟩:=au;subst e7;have Y:=S.tr s5;have u:=x.tr Y;have Z:=rA.aA Y;obtain⟨r0,r1,r2⟩:=Z.g;obtain⟨f0,f1,f2⟩:=Z.k;have o5:=(v.aA Y).c5;have i0:=(e.aA u).c0;have i1:=(e.aA u).c1;have i2:=(e.aA u).c2;have j0:=(f.aA u).c0;have j1:=(f.aA u).c1;have j2:=(f.aA u).c2))
 go_wp2;have rC:=((Z.bE (.bool (qn (W 0*X b)))).bH (.l D Q G)).bF (.l F P H);refine bO (qi rfl _ _ _ _ _ _ rfl rC) rfl ?_;have M:eM T _ (w.heap.size+1):=(((eM.refl T _).setCell 0 (.bool (qn (W 0*X b)))).setCell 1 (.l D Q G)).setCell 2 (.l F P H);exact⟨_,rfl,(((C.imp (p':=fun g=>w.heap.size+2<=g) (fun g _ aa=>by have h':V.drew.heap.size<=g:=aa;have:V.drew.heap.size=V.heap.size:=rfl;have:=t.size;omega)).marked M om).imp (fun g _ aa=>by omega)),u.trans (M.since om)⟩
theorem el3p{f R:Int}{bx k i j l o b:Nat}{X:Nat->Rat}(O:ij w (fun _=>True) a bx k i X)(qx:∀Y,Y<i->Qb (X Y) 1048640){ao:Nat->Rat}(N:ij w (fun _=>True) (jp n m) n m c ao)(aa:0<c)(E:b<i)(hq:Hid (qn (X b)=false)):
 Cl 223 #[.agg #[.i 3,.i z,.i y,.i f,.i R,.slice (jp n m) c d],.slice a i j,.slice A l o,.i (b:Int)] w fun r K=>∃u,r=.returned u/\i7 K (fun g=>w.heap.size<=g) u (X b)/\w.S K:=by
 have S:w.S ((w.alloc (.o #[.i 3,.i z,.i y,.i f,.i R,.l (jp n m) c d] 144)).alloc yJ):=(fA _ _).alloc qz _;have zA:((w.alloc (.o #[.i 3,.i z,.i y,.i f,.i R,.l (jp n m) c d] 144)).alloc yJ).heap.size=w.heap.size+1+1:=by simp
 have H:fO ((w.alloc (.o #[.i 3,.i z,.i y,.i f,.i R,.l (jp n m) c d] 144)).alloc yJ) w.heap.size (.i 3) (.i z) (.i y) (.i f) (.i R) (.l (jp n m) c d):=(fO.new w _ _ _ _ _ _ _).aA (fA _ _);have rA:eS ((w.alloc (.o #[.i 3,.i z,.i y,.i f,.i R,.l (jp n m) c d] 144)).alloc yJ) (w.heap.size+1) (.bool false) (.n) (.n):=by have:=eS.new (w.alloc (.o #[.i 3,.i z,.i y,.i f,.i R,.l (jp n m) c d] 144)) (.bool false) (.n) (.n) 70;simpa using this
 have p0:=H.c0;obtain⟨V,x1,y1,e⟩:=O b E;subst V;obtain⟨a2,n2,c2,b2,m2,d2,-,-,-,-,-,-,C,-⟩:=e.R;simp only[ag3,fM] at C;obtain⟨rfl,rfl⟩:=C;have t1:(b:Int)<i:=om;obtain⟨-,x4,y4,q⟩:=N 0 aa;obtain⟨a4,n4,c4,b4,m4,d4,-,-,-,-,-,-,D,-⟩:=q.R;simp only[ag3,fM] at D;obtain⟨rfl,rfl⟩:=D;rw[iT,fV] at q;have ah:=q.lt;have ad:(0:Int)<c:=om;have ak:w.heap.size+1≠n:=om;have al:w.heap.size+1≠w.heap.size:=om;have ai:=e.lt;have aj:w.heap.size+1≠bx:=om;have aq:=(e.aA S).c0;have ar:=(e.aA S).c1;have g2:=(e.aA S).c2;have t:=afX (e.aA S).R.read;go_enter func223,ntmps223;go_wp2_with fail;generalize (w.alloc _).alloc _=wA at*;refine t.mono ?_;rintro r w1 ⟨⟨ac,rfl,h1,h2⟩,p⟩;have T:=S.tr p;have am:=(H.aA p).c0;clear aq ar g2 t;have ae:=(e.aA T).c0;have af:=(e.aA T).c1;have ag:=(e.aA T).c2;have hz:(0:Int)<=ac:=(h2 hq.out).1;go_wp2_with fail;refine (sH (qx b E) om (e.aA T).R.read).mono ?_;rintro r L ⟨an,rfl,v,s5⟩;have P:=v;obtain⟨x,G,W,Z,F,B,-,-,-,-,-,-,U,-⟩:=P;subst U;have I:=p.tr s5;have Q:=S.tr I;have s:=rA.aA I;obtain⟨r0,r1,r2⟩:=s.g;obtain⟨f0,f1,f2⟩:=s.k;go_wp2;have rC:=((s.bE (.bool (qn (X b)))).bH (.l x G W)).bF (.l Z F B);refine bO (qi rfl _ _ _ _ _ _ rfl rC) rfl ?_;have M:eM L _ (w.heap.size+1):=(((eM.refl L _).setCell 0 (.bool (qn (X b)))).setCell 1 (.l x G W)).setCell 2 (.l Z F B);exact⟨_,rfl,(((v.imp (p':=fun g=>w.heap.size+2<=g) (fun g _ h=>by have h':w1.heap.size<=g:=h;have:=p.size;omega)).marked M om).imp (fun g _ h=>by omega)),Q.trans (M.since om)⟩
theorem ad3(Q:Rat)(w v:Nat->Rat)(n:Nat):mu Q w v n=mu 0 w v n+Q:=by
 induction n with
 | zero=>show Q=0+Q;rw[Rat.zero_add]
 | succ n ih=>
   show mu Q w v n+w n*v n=mu 0 w v n+w n*v n+Q;rw[ih,Rat.add_assoc,Rat.add_assoc,Rat.add_comm Q]
theorem el1{h u:Int}{bx k i j l o b:Nat}{X:Nat->Rat}(HX:ij w (fun _=>True) a bx k i X)(qx:∀N,N<i->Qb (X N) 1048640){W:Nat->Rat}(B:ij w (fun _=>True) (jp n m) n m c W)(an:∀N,N<c->Qb (W N) 1048640)(hl:i<=1000)(ah:c<=1002000)(hF:q=b*(i+1))(hE:p=q+i)(af:p<c)(V:∀U,U<=i->Qb (mu 0 (fun t=>W (q+t)) X U) 1048640):
 Cl 223 #[.agg #[.i 1,.i z,.i y,.i h,.i u,.slice (jp n m) c d],.slice a i j,.slice A l o,.i (b:Int)] w fun r E=>∃ar,r=.returned ar/\i7 E (fun g=>w.heap.size<=g) ar (mu (W p) (fun t=>W (q+t)) X i)/\w.S E:=by
 have F:w.S ((w.alloc (.o #[.i 1,.i z,.i y,.i h,.i u,.l (jp n m) c d] 144)).alloc yJ):=(fA _ _).alloc qz _;have zA:((w.alloc (.o #[.i 1,.i z,.i y,.i h,.i u,.l (jp n m) c d] 144)).alloc yJ).heap.size=w.heap.size+1+1:=by simp
 have x:fO ((w.alloc (.o #[.i 1,.i z,.i y,.i h,.i u,.l (jp n m) c d] 144)).alloc yJ) w.heap.size (.i 1) (.i z) (.i y) (.i h) (.i u) (.l (jp n m) c d):=(fO.new w _ _ _ _ _ _ _).aA (fA _ _);have rA:eS ((w.alloc (.o #[.i 1,.i z,.i y,.i h,.i u,.l (jp n m) c d] 144)).alloc yJ) (w.heap.size+1) (.bool false) (.n) (.n):=by have:=eS.new (w.alloc (.o #[.i 1,.i z,.i y,.i h,.i u,.l (jp n m) c d] 144)) (.bool false) (.n) (.n) 70;simpa using this
 have p0:=x.c0;obtain⟨-,x4,y4,f⟩:=B p om;obtain⟨a4,n4,c4,b4,m4,d4,-,-,-,-,-,-,Q,-⟩:=f.R;simp only[ag3,fM] at Q;obtain⟨rfl,rfl⟩:=Q;have ai:=f.lt;have ae:(p:Int)<c:=om;have aj:w.heap.size+1≠n:=om;have ak:w.heap.size+1≠w.heap.size:=om;obtain⟨L,R⟩:∃L,L=i+1:=⟨_,rfl⟩;have q1:IntKind.i64.wrap ((i:Int)+1)=(L:Int):=by rw[show (i:Int)+1=(L:Int) by omega];exact gU om om
 have qF:IntKind.i64.wrap ((b:Int)*(L:Int))=(q:Int):=by rw[show (b:Int)*(L:Int)=q by rw[hF,R,dR]];exact gU om om
 have qE:IntKind.i64.wrap ((q:Int)+(i:Int))=(p:Int):=by rw[show (q:Int)+(i:Int)=p by omega];exact gU om om
 have aa:q+i<=c:=om;have ad:(0:Int)<=p:=om;clear hF hE R;go_enter func223,ntmps223;go_wp2_with fail;generalize (w.alloc _).alloc _=wA at*;have P:=uB wA;have ao:=F.tr P;have C:=ai2 q 0 c i d j (jp n m) a n m bx k W X om om an qx i wA.drew (B.aA ao) (HX.aA ao) aa om (fun U hk=>by have:=V U hk;simpa only[aZ] using this);simp only[aZ,Int.natCast_zero] at C;have ac:=(x.aA yD).c5;have g0:=(f.aA F).c0;have g1:=(f.aA F).c1;have g2:=(f.aA F).c2;go_wp2_with fail
 go_region_held3 (fun E=>E.cell? (jj w.heap.size 5)=some (.l (jp n m) c d)/\E.cell? (jj n (m+p*3))=some (.bool (qn (W p)))/\E.cell? (jj n (m+p*3+1))=some (.l a4 n4 c4)/\E.cell? (jj n (m+p*3+2))=some (.l b4 m4 d4)) (go_keep)
  (first
    | (go_at_call 233;(with_reducible refine C.mono ?_);rintro r wp ⟨up,rfl,Rp,sp⟩;have Y:=P.tr sp;have v:=F.tr Y;have D:=sI (V i zR) (an p om) om Rp.read (f.aA v).R.read;rw[<-ad3] at D;have ag:=(x.aA Y).c5;have h0:=(f.aA v).c0;have h1:=(f.aA v).c1;have h2:=(f.aA v).c2)
    | (go_at_call 153;(with_reducible refine D.mono ?_);rintro r w5 ⟨am,rfl,G,s5⟩;have R6:=G;obtain⟨H,T,K,I,S,O,-,-,-,-,-,-,e7,-⟩:=R6;subst e7;have Z:=Y.tr s5;have s:=F.tr Z;have e:=rA.aA Z;have r0:=e.c0;have r1:=e.c1;have r2:=e.c2;have f0:=e.f 0;have f1:=e.f 1;have f2:=e.f 2;have al:=(x.aA Z).c5;have i0:=(f.aA s).c0;have i1:=(f.aA s).c1;have i2:=(f.aA s).c2))
 go_wp2;have rC:=((e.bE (.bool (qn (mu (W p) (fun t=>W (q+t)) X i)))).bH (.l H T K)).bF (.l I S O);refine bO (qi rfl _ _ _ _ _ _ rfl rC) rfl ?_;have M:eM w5 _ (w.heap.size+1):=(((eM.refl w5 _).setCell 0 (.bool (qn (mu (W p) (fun t=>W (q+t)) X i)))).setCell 1 (.l H T K)).setCell 2 (.l I S O);exact⟨_,rfl,(((G.imp (p':=fun g=>w.heap.size+2<=g) (fun g _ aq=>by have h':wp.heap.size<=g:=aq;have:=Y.size;omega)).marked M om).imp (fun g _ aq=>by omega)),s.trans (M.since om)⟩
theorem el6{bx j l o b p q:Nat}{X:Nat->Rat}(HX:ij w (fun _=>True) a bx j l X)(qx:∀K,K<l->Qb (X K) 1048640){W:Nat->Rat}(B:ij w (fun _=>True) (jp c d) c d k W)(U:∀K,K<k->Qb (W K) 1048640)(hl:l<=1000)(aj:k<=1002000)(hF:t=q*m)(P:n<k)(aa:t+n<=l)(T:∀S,S<=n->Qb (mu 0 W (fun F=>X (t+F)) S) 1048640):
 Cl 223 #[.agg #[.i 6,.i z,.i y,.i (n:Int),.i (m:Int),.slice (jp c d) k i],.slice a l o,.slice A b p,.i (q:Int)] w fun r h=>∃ax,r=.returned ax/\i7 h (fun g=>w.heap.size<=g) ax (mu (W n) W (fun F=>X (t+F)) n)/\w.S h:=by
 have s:w.S ((w.alloc (.o #[.i 6,.i z,.i y,.i (n:Int),.i (m:Int),.l (jp c d) k i] 144)).alloc yJ):=(fA _ _).alloc qz _;have zA:((w.alloc (.o #[.i 6,.i z,.i y,.i (n:Int),.i (m:Int),.l (jp c d) k i] 144)).alloc yJ).heap.size=w.heap.size+1+1:=by simp
 have e:fO ((w.alloc (.o #[.i 6,.i z,.i y,.i (n:Int),.i (m:Int),.l (jp c d) k i] 144)).alloc yJ) w.heap.size (.i 6) (.i z) (.i y) (.i (n:Int)) (.i (m:Int)) (.l (jp c d) k i):=(fO.new w _ _ _ _ _ _ _).aA (fA _ _);have rA:eS ((w.alloc (.o #[.i 6,.i z,.i y,.i (n:Int),.i (m:Int),.l (jp c d) k i] 144)).alloc yJ) (w.heap.size+1) (.bool false) (.n) (.n):=by have:=eS.new (w.alloc (.o #[.i 6,.i z,.i y,.i (n:Int),.i (m:Int),.l (jp c d) k i] 144)) (.bool false) (.n) (.n) 70;simpa using this
 have p0:=e.c0;obtain⟨-,x4,y4,f⟩:=B n om;obtain⟨a4,n4,c4,b4,m4,d4,-,-,-,-,-,-,O,-⟩:=f.R;simp only[ag3,fM] at O;obtain⟨rfl,rfl⟩:=O;have ak:=f.lt;have af:(n:Int)<k:=om;have al:w.heap.size+1≠c:=om;have am:w.heap.size+1≠w.heap.size:=om;have qF:IntKind.i64.wrap ((q:Int)*(m:Int))=(t:Int):=by rw[<-dR,<-hF];exact gU om om
 clear hF;go_enter func223,ntmps223;go_wp2_with fail;generalize (w.alloc _).alloc _=av at*;have N:=uB av;have V:=s.tr N;have C:=ai2 0 t k l i o (jp c d) a c d bx j W X om om U qx n av.drew (B.aA V) (HX.aA V) om aa (fun S P=>by have:=T S P;simpa only[aZ] using this);simp only[aZ,Int.natCast_zero] at C;have ac:=(e.aA yD).c3;have ad:=(e.aA yD).c4;have ae:=(e.aA yD).c5;have g0:=(f.aA s).c0;have g1:=(f.aA s).c1;have g2:=(f.aA s).c2;go_wp2_with fail
 go_region_held3 (fun h=>h.cell? (jj w.heap.size 3)=some (.i (n:Int))/\h.cell? (jj w.heap.size 4)=some (.i (m:Int))/\h.cell? (jj w.heap.size 5)=some (.l (jp c d) k i)/\h.cell? (jj c (d+n*3))=some (.bool (qn (W n)))/\h.cell? (jj c (d+n*3+1))=some (.l a4 n4 c4)/\h.cell? (jj c (d+n*3+2))=some (.l b4 m4 d4)) (go_keep)
  (first
    | (go_at_call 233;(with_reducible refine C.mono ?_);rintro r wp ⟨up,rfl,Rp,sp⟩;have v:=N.tr sp;have Z:=s.tr v;have D:=sI (T n zR) (U n om) om Rp.read (f.aA Z).R.read;rw[<-ad3] at D;have ag:=(e.aA v).c3;have ah:=(e.aA v).c4;have ai:=(e.aA v).c5;have h0:=(f.aA Z).c0;have h1:=(f.aA Z).c1;have h2:=(f.aA Z).c2)
    | (go_at_call 153;(with_reducible refine D.mono ?_);rintro r au ⟨ar,rfl,E,s5⟩;have R6:=E;obtain⟨G,R,I,H,Q,L,-,-,-,-,-,-,e7,-⟩:=R6;subst e7;have x:=v.tr s5;have Y:=s.tr x;have u:=rA.aA x;have r0:=u.c0;have r1:=u.c1;have r2:=u.c2;have f0:=u.f 0;have f1:=u.f 1;have f2:=u.f 2;have an:=(e.aA x).c3;have ao:=(e.aA x).c4;have aq:=(e.aA x).c5;have i0:=(f.aA Y).c0;have i1:=(f.aA Y).c1;have i2:=(f.aA Y).c2))
 go_wp2;have rC:=((u.bE (.bool (qn (mu (W n) W (fun F=>X (t+F)) n)))).bH (.l G R I)).bF (.l H Q L);refine bO (qi rfl _ _ _ _ _ _ rfl rC) rfl ?_;have M:eM au _ (w.heap.size+1):=(((eM.refl au _).setCell 0 (.bool (qn (mu (W n) W (fun F=>X (t+F)) n)))).setCell 1 (.l G R I)).setCell 2 (.l H Q L);exact⟨_,rfl,(((E.imp (p':=fun g=>w.heap.size+2<=g) (fun g _ aw=>by have h':wp.heap.size<=g:=aw;have:=v.size;omega)).marked M om).imp (fun g _ aw=>by omega)),Y.trans (M.since om)⟩
theorem Qb.inv(h:Qb Q n)(c:Q.num.natAbs≠0):Qb Q⁻¹ n:=by
 obtain⟨-,a,b⟩:=aoj Q c;exact⟨by rw[a];exact h.2,by rw[b];exact h.1⟩
theorem el7{z y v3 v4:Int}{bx k i j l o b:Nat}{X:Nat->Rat}(HX:ij w (fun _=>True) a bx k i X)(qx:∀ae,ae<i->Qb (X ae) 1048640){W:Nat->Rat}(HW:ij w (fun _=>True) (jp n m) n m c W)(s:∀ae,ae<c->Qb (W ae) 1048640)(h4:4<=c)(eh:b<i)(hz:(W 2).num.natAbs≠0):
 Cl 223 #[.agg #[.i 7,.i z,.i y,.i v3,.i v4,.slice (jp n m) c d],.slice a i j,.slice A l o,.i (b:Int)] w fun ee S=>∃bo,ee=.returned bo/\i7 S (fun ed=>w.heap.size<=ed) bo (W 0*(X b-W 1)*(W 2)⁻¹ +W 3)/\w.S S:=by
 have B:w.S ((w.alloc (.o #[.i 7,.i z,.i y,.i v3,.i v4,.l (jp n m) c d] 144)).alloc yJ):=(fA _ _).alloc qz _;have zA:((w.alloc (.o #[.i 7,.i z,.i y,.i v3,.i v4,.l (jp n m) c d] 144)).alloc yJ).heap.size=w.heap.size+1+1:=by simp
 have q:fO ((w.alloc (.o #[.i 7,.i z,.i y,.i v3,.i v4,.l (jp n m) c d] 144)).alloc yJ) w.heap.size (.i 7) (.i z) (.i y) (.i v3) (.i v4) (.l (jp n m) c d):=(fO.new w _ _ _ _ _ _ _).aA (fA _ _);have rA:eS ((w.alloc (.o #[.i 7,.i z,.i y,.i v3,.i v4,.l (jp n m) c d] 144)).alloc yJ) (w.heap.size+1) (.bool false) (.n) (.n):=by have:=eS.new (w.alloc (.o #[.i 7,.i z,.i y,.i v3,.i v4,.l (jp n m) c d] 144)) (.bool false) (.n) (.n) 70;simpa using this
 have p0:=q.c0;obtain⟨eX,x1,y1,p⟩:=HX b eh;subst eX;obtain⟨a2,n2,c2,b2,m2,d2,-,-,-,-,-,-,e2,-⟩:=p.R;simp only[ag3,fM] at e2;obtain⟨rfl,rfl⟩:=e2;have t1:(b:Int)<i:=om;obtain⟨-,d1,d6,e⟩:=HW 0 om;obtain⟨a0,bm,a6,a4,bi,ba,-,-,-,-,-,-,bc,-⟩:=e.R;simp only[ag3,fM] at bc;obtain⟨rfl,rfl⟩:=bc;obtain⟨-,d3,d8,g⟩:=HW 1 om;obtain⟨a3,bn,a8,a5,bj,bb,-,-,-,-,-,-,bd,-⟩:=g.R;simp only[ag3,fM] at bd;obtain⟨rfl,rfl⟩:=bd;obtain⟨-,d4,d9,t⟩:=HW 2 om;obtain⟨bq,ce,b1,bu,cb,b5,-,-,-,-,-,-,bf,-⟩:=t.R;simp only[ag3,fM] at bf;obtain⟨rfl,rfl⟩:=bf;obtain⟨-,d5,ea,u⟩:=HW 3 om;obtain⟨br,cf,b3,bz,cc,b6,-,-,-,-,-,-,bg,-⟩:=u.R;simp only[ag3,fM] at bg;obtain⟨rfl,rfl⟩:=bg;simp only[iT,fV,Nat.reduceMul] at e g t u;have dq:=p.lt;have dp:=e.lt;have dy:(1:Int)<c:=om;have dz:(2:Int)<c:=om;have d0:(3:Int)<c:=om;have dx:(0:Int)<c:=om;have ds:w.heap.size+1≠bx:=om;have dt:w.heap.size+1≠n:=om;have du:w.heap.size+1≠w.heap.size:=om;go_enter func223,ntmps223;go_wp2_with fail;generalize (w.alloc _).alloc _=v at*;have dr:=uB v;have P:=B.tr dr;have J1:=ro (qx b eh) (s 1 om) om (p.aA P).R.read (g.aA P).R.read;go_wp2;refine wp_region_held_drew (S:=fun S=>S.cell? (jj w.heap.size 5)=some (.l (jp n m) c d)/\S.cell? (jj n m)=some (.bool (qn (W 0)))/\S.cell? (jj n (m+1))=some (.l a0 bm a6)/\S.cell? (jj n (m+2))=some (.l a4 bi ba)/\S.cell? (jj n (m+3))=some (.bool (qn (W 1)))/\S.cell? (jj n (m+3+1))=some (.l a3 bn a8)/\S.cell? (jj n (m+3+2))=some (.l a5 bj bb)/\S.cell? (jj bx (k+b*3))=some (.bool (qn (X b)))/\S.cell? (jj bx (k+b*3+1))=some (.l a2 n2 c2)/\S.cell? (jj bx (k+b*3+2))=some (.l b2 m2 d2)) kr ⟨(q.aA dr).c5,(e.aA P).c0,(e.aA P).c1,(e.aA P).c2,(g.aA P).c0,(g.aA P).c1,(g.aA P).c2,(p.aA P).c0,(p.aA P).c1,(p.aA P).c2⟩ (fun b9=> ?_);refine kl 0 111 ?_;refine kl 1 112 ?_;refine ta 2 113 (.p n m) ?_ ?_
 . intro S aj;clear aj;go_simp;try (intro h;omega)
 simp only[ap,la,lz,ls];refine kl 3 114 ?_;refine kl 4 115 ?_;refine kl 5 116 ?_;refine ta 6 117 (.p bx (k+b*3)) ?_ ?_
 . intro S aj;clear aj;go_simp;try (intro h;omega)
 simp only[ap,la,lz,ls];refine kl 7 118 ?_;refine kl 8 119 ?_;refine kl 9 120 ?_;refine ta 10 121 (.p n (m+3)) ?_ ?_
 . intro S aj;clear aj;go_simp;try (intro h;omega)
 simp only[ap,la,lz,ls];refine kl 11 122 ?_;clear b9;generalize v.drew=wd at*;refine wpAnyH_ready (rs:=[12,14]) kr qz ?_;refine AllReadyH.cons rfl (fun K R=> ?a1) (AllReadyH.cons rfl (fun K R=> ?c1) AllReadyH.nil)
 case' a1=>
  go_simp;go_wp2_with (go_at_call 163;with_reducible refine J1.mono ?_;rintro ee ec ⟨ci,rfl,Rp,ai⟩);have av:=Rp;obtain⟨bs,cg,b4,b0,cd,b8,-,-,-,-,-,-,aw,-⟩:=av;subst aw;have Q:=dr.tr ai;have U:=B.tr Q;refine R.out _ _ ⟨(q.aA Q).c5,(e.aA U).c0,(e.aA U).c1,(e.aA U).c2,(g.aA U).c0,(g.aA U).c1,(g.aA U).c2,(p.aA U).c0,(p.aA U).c1,(p.aA U).c2⟩ (fun Y=> ?_);clear R K;have J2:=tZ (s 0 om) ((qx b eh).sub (s 1 om)) om (e.aA U).R.read Rp.read;refine wpAnyH_ready (rs:=[13,14]) kr qz ?_;refine AllReadyH.cons rfl (fun K R=> ?a2) (AllReadyH.cons rfl (fun K R=> ?b2) AllReadyH.nil)
  case' a2=>go_simp;go_wp2_with (go_at_call 199;with_reducible refine J2.mono ?_;rintro ee x ⟨bp,rfl,eg,aa⟩);have ac:=eg;obtain⟨F,M,H,G,L,I,-,-,-,-,-,-,ad,-⟩:=ac;subst ad;have E:=Q.tr aa;have T:=B.tr E;refine R.out _ _ ⟨(q.aA E).c5,(e.aA T).c0,(e.aA T).c1,(e.aA T).c2,(g.aA T).c0,(g.aA T).c1,(g.aA T).c2,(p.aA T).c0,(p.aA T).c1,(p.aA T).c2⟩ (fun Y=> ?_);clear R K;refine tu 14 fun K R=> ?_;go_simp;have ab:=fA x yJ;have D:=eS.new x (.bool false) (.n) (.n) 70;have N:v.S (x.alloc yJ):=E.tr ab;have O:w.S (x.alloc yJ):=B.tr N;refine R.out _ _ ⟨(q.aA N).c5,(e.aA O).c0,(e.aA O).c1,(e.aA O).c2,(g.aA O).c0,(g.aA O).c1,(g.aA O).c2,(p.aA O).c0,(p.aA O).c1,(p.aA O).c2⟩ (fun Y=> ?_);clear R K;obtain⟨f,V⟩:∃f,f=x.heap.size:=⟨_,rfl⟩;have fl:v.heap.size<=f:=(by rw[V];exact E.size);have bh:x.heap.size<=f:=(by rw[V];exact aC _);rw[<-V] at D⊢;generalize x.alloc _=wn at*;clear V;refine tu 15 fun K R=> ?_;obtain⟨q0,q1,q2⟩:=D.g;obtain⟨af,ag,ah⟩:=D.k;go_simp;have ef:eM wn _ f:=(((eM.refl wn _).setCell 0 (.bool (qn (W 0*(X b-W 1))))).setCell 1 (.l F M H)).setCell 2 (.l G L I);have C:=((D.bE (.bool (qn (W 0*(X b-W 1))))).bH (.l F M H)).bF (.l G L I);have Z:=N.trans (ef.since fl);have r:=B.tr Z;have R8:=(((eg.imp (p':=fun ed=>ed<f) (fun ed hg _=>by omega)).aA ab).marked ef (fun h=>by have h':f<f:=h;omega)).read;refine R.out _ _ ⟨(q.aA Z).c5,(e.aA r).c0,(e.aA r).c1,(e.aA r).c2,(g.aA r).c0,(g.aA r).c1,(g.aA r).c2,(p.aA r).c0,(p.aA r).c1,(p.aA r).c2⟩ (fun Y=> ?_);clear R K Y q0 q1 q2 af ag ah;refine wpAnyH_done kr ?_ _;generalize (((wn.setCell (jj f 0) (.bool (qn (W 0*(X b-W 1))))).setCell (jj f 1) (.l F M H)).setCell (jj f 2) (.l G L I))=w8 at*
  case' b2=>go_simp;have ab:=fA ec yJ;have D:=eS.new ec (.bool false) (.n) (.n) 70;have N:v.S (ec.alloc yJ):=Q.tr ab;have O:w.S (ec.alloc yJ):=B.tr N;refine R.out _ _ ⟨(q.aA N).c5,(e.aA O).c0,(e.aA O).c1,(e.aA O).c2,(g.aA O).c0,(g.aA O).c1,(g.aA O).c2,(p.aA O).c0,(p.aA O).c1,(p.aA O).c2⟩ (fun Y=> ?_);clear R K;obtain⟨f,V⟩:∃f,f=ec.heap.size:=⟨_,rfl⟩;have fl:v.heap.size<=f:=(by rw[V];exact Q.size);have bh:ec.heap.size<=f:=(by rw[V];exact aC _);rw[<-V] at D⊢;generalize ec.alloc _=wn at*;clear V;clear J2;have J2:=tZ (s 0 om) ((qx b eh).sub (s 1 om)) om (e.aA O).R.read (Rp.aA ab).read;refine tu 13 fun K R=> ?_;go_simp;go_wp2_with (go_at_call 199;with_reducible refine J2.mono ?_;rintro ee x ⟨bp,rfl,eg,aa⟩);have ac:=eg;obtain⟨F,M,H,G,L,I,-,-,-,-,-,-,ad,-⟩:=ac;subst ad;have E:=N.tr aa;have T:=B.tr E;refine R.out _ _ ⟨(q.aA E).c5,(e.aA T).c0,(e.aA T).c1,(e.aA T).c2,(g.aA T).c0,(g.aA T).c1,(g.aA T).c2,(p.aA T).c0,(p.aA T).c1,(p.aA T).c2⟩ (fun Y=> ?_);clear R K;refine tu 15 fun K R=> ?_;have ei:=D.aA aa;obtain⟨q0,q1,q2⟩:=ei.g;obtain⟨af,ag,ah⟩:=ei.k;go_simp;have ef:eM x _ f:=(((eM.refl x _).setCell 0 (.bool (qn (W 0*(X b-W 1))))).setCell 1 (.l F M H)).setCell 2 (.l G L I);have C:=((ei.bE (.bool (qn (W 0*(X b-W 1))))).bH (.l F M H)).bF (.l G L I);have Z:=E.trans (ef.since fl);have r:=B.tr Z;have R8:=(eg.marked ef (fun h=>by have h':wn.heap.size<=f:=h;have:=D.lt;omega)).read;refine R.out _ _ ⟨(q.aA Z).c5,(e.aA r).c0,(e.aA r).c1,(e.aA r).c2,(g.aA r).c0,(g.aA r).c1,(g.aA r).c2,(p.aA r).c0,(p.aA r).c1,(p.aA r).c2⟩ (fun Y=> ?_);clear R K Y q0 q1 q2 af ag ah;refine wpAnyH_done kr ?_ _;generalize (((x.setCell (jj f 0) (.bool (qn (W 0*(X b-W 1))))).setCell (jj f 1) (.l F M H)).setCell (jj f 2) (.l G L I))=w8 at*
 case' c1=>
  go_simp;have ab:=fA wd yJ;have D:=eS.new wd (.bool false) (.n) (.n) 70;have N:v.S (wd.alloc yJ):=dr.tr ab;have O:w.S (wd.alloc yJ):=B.tr N;refine R.out _ _ ⟨(q.aA N).c5,(e.aA O).c0,(e.aA O).c1,(e.aA O).c2,(g.aA O).c0,(g.aA O).c1,(g.aA O).c2,(p.aA O).c0,(p.aA O).c1,(p.aA O).c2⟩ (fun Y=> ?_);clear R K;obtain⟨f,V⟩:∃f,f=wd.heap.size:=⟨_,rfl⟩;have fl:v.heap.size<=f:=by rw[V];exact dr.size
  have bh:wd.heap.size<=f:=by rw[V];exact aC _
  rw[<-V] at D⊢;generalize wd.alloc _=wn at*;clear V;clear J1;have J1:=ro (qx b eh) (s 1 om) om (p.aA O).R.read (g.aA O).R.read;refine tu 12 fun K R=> ?_;go_simp;go_wp2_with (go_at_call 163;with_reducible refine J1.mono ?_;rintro ee ec ⟨ci,rfl,Rp,ai⟩);have av:=Rp;obtain⟨bs,cg,b4,b0,cd,b8,-,-,-,-,-,-,aw,-⟩:=av;subst aw;have Q:=N.tr ai;have U:=B.tr Q;refine R.out _ _ ⟨(q.aA Q).c5,(e.aA U).c0,(e.aA U).c1,(e.aA U).c2,(g.aA U).c0,(g.aA U).c1,(g.aA U).c2,(p.aA U).c0,(p.aA U).c1,(p.aA U).c2⟩ (fun Y=> ?_);clear R K;have J2:=tZ (s 0 om) ((qx b eh).sub (s 1 om)) om (e.aA U).R.read Rp.read;refine tu 13 fun K R=> ?_;go_simp;go_wp2_with (go_at_call 199;with_reducible refine J2.mono ?_;rintro ee x ⟨bp,rfl,eg,aa⟩);have ac:=eg;obtain⟨F,M,H,G,L,I,-,-,-,-,-,-,ad,-⟩:=ac;subst ad;have E:=Q.tr aa;have T:=B.tr E;refine R.out _ _ ⟨(q.aA E).c5,(e.aA T).c0,(e.aA T).c1,(e.aA T).c2,(g.aA T).c0,(g.aA T).c1,(g.aA T).c2,(p.aA T).c0,(p.aA T).c1,(p.aA T).c2⟩ (fun Y=> ?_);clear R K;refine tu 15 fun K R=> ?_;have ei:=(D.aA ai).aA aa;obtain⟨q0,q1,q2⟩:=ei.g;obtain⟨af,ag,ah⟩:=ei.k;go_simp;have ef:eM x _ f:=(((eM.refl x _).setCell 0 (.bool (qn (W 0*(X b-W 1))))).setCell 1 (.l F M H)).setCell 2 (.l G L I);have C:=((ei.bE (.bool (qn (W 0*(X b-W 1))))).bH (.l F M H)).bF (.l G L I);have Z:=E.trans (ef.since fl);have r:=B.tr Z;have R8:=(eg.marked ef (fun h=>by have h':ec.heap.size<=f:=h;have:=D.lt;have:=ai.size;omega)).read;refine R.out _ _ ⟨(q.aA Z).c5,(e.aA r).c0,(e.aA r).c1,(e.aA r).c2,(g.aA r).c0,(g.aA r).c1,(g.aA r).c2,(p.aA r).c0,(p.aA r).c1,(p.aA r).c2⟩ (fun Y=> ?_);clear R K Y q0 q1 q2 af ag ah;refine wpAnyH_done kr ?_ _;generalize (((x.setCell (jj f 0) (.bool (qn (W 0*(X b-W 1))))).setCell (jj f 1) (.l F M H)).setCell (jj f 2) (.l G L I))=w8 at*
 all_goals
  have a9:=uB w8;have ch:=r.tr a9;have z8:v.heap.size<=w8.heap.size:=Z.size;have nf:w.heap.size+1≠f:=om;have J3:=an6 (s 2 om) om hz (t.aA ch).R.read;have g5:=(q.aA Z).c5;obtain⟨cj,ck,cl⟩:=(C.aA yD).g;have cm:=(t.aA r).c0;have cn:=(t.aA r).c1;have co:=(t.aA r).c2;have cp:=(u.aA r).c0;have cq:=(u.aA r).c1;have cr:=(u.aA r).c2;go_wp2
  go_region_held3 (fun S=>S.cell? (jj w.heap.size 5)=some (.l (jp n m) c d)/\S.cell? (jj f 0)=some (.bool (qn (W 0*(X b-W 1))))/\S.cell? (jj f 1)=some (.l F M H)/\S.cell? (jj f 2)=some (.l G L I)/\S.cell? (jj n (m+6))=some (.bool (qn (W 2)))/\S.cell? (jj n (m+6+1))=some (.l bq ce b1)/\S.cell? (jj n (m+6+2))=some (.l bu cb b5)/\S.cell? (jj n (m+9))=some (.bool (qn (W 3)))/\S.cell? (jj n (m+9+1))=some (.l br cf b3)/\S.cell? (jj n (m+9+2))=some (.l bz cc b6)) (go_keep)
   (first
     | (go_at_call 236;(with_reducible refine J3.mono ?_);rintro ee wx ⟨ux,rfl,Rx,sx⟩;have vx:=a9.tr sx;have Ux:=Z.tr vx;have Sx:=r.tr vx;have J4:=tZ ((s 0 om).mul ((qx b eh).sub (s 1 om))) (Qb.inv (s 2 om) hz) om (R8.aA vx) Rx.read;have h5:=(q.aA Ux).c5;have cs:=(C.aA vx).c0;have ct:=(C.aA vx).c1;have cu:=(C.aA vx).c2;have cv:=(t.aA Sx).c0;have cw:=(t.aA Sx).c1;have cy:=(t.aA Sx).c2;have c0:=(u.aA Sx).c0;have c3:=(u.aA Sx).c1;have c4:=(u.aA Sx).c2)
     | (go_at_call 199;(with_reducible refine J4.mono ?_);rintro ee wy ⟨uy,rfl,Ry,sy⟩;have vy:=vx.tr sy;have Uy:=Z.tr vy;have Sy:=r.tr vy;have J5:=sI (((s 0 om).mul ((qx b eh).sub (s 1 om))).mul (Qb.inv (s 2 om) hz)) (s 3 om) om Ry.read (u.aA Sy).R.read;have i5:=(q.aA Uy).c5;have c5:=(C.aA vy).c0;have c6:=(C.aA vy).c1;have c8:=(C.aA vy).c2;have c9:=(t.aA Sy).c0;have da:=(t.aA Sy).c1;have db:=(t.aA Sy).c2;have dc:=(u.aA Sy).c0;have dd:=(u.aA Sy).c1;have de:=(u.aA Sy).c2)
     | (go_at_call 153;(with_reducible refine J5.mono ?_);rintro ee w5 ⟨dw,rfl,R5,s5⟩;have R6:=R5;obtain⟨a7,n7,c7,b7,m7,d7,-,-,-,-,-,-,e7,-⟩:=R6;subst e7;have v5:=vy.tr s5;have u5:=Z.tr v5;have ej:=B.tr u5;have r5:=rA.aA u5;have r0:=r5.c0;have r1:=r5.c1;have r2:=r5.c2;have f0:=r5.f 0;have f1:=r5.f 1;have f2:=r5.f 2;have j5:=(q.aA u5).c5;have df:=(C.aA v5).c0;have dg:=(C.aA v5).c1;have dh:=(C.aA v5).c2;have di:=(t.aA ej).c0;have dj:=(t.aA ej).c1;have dk:=(t.aA ej).c2;have dl:=(u.aA ej).c0;have dm:=(u.aA ej).c1;have dn:=(u.aA ej).c2 ))
  go_wp2;have rC:=((r5.bE (.bool (qn (W 0*(X b-W 1)*(W 2)⁻¹ +W 3)))).bH (.l a7 n7 c7)).bF (.l b7 m7 d7);refine bO (qi rfl _ _ _ _ _ _ rfl rC) rfl ?_;have ay:eM w5 _ (w.heap.size+1):=(((eM.refl w5 _).setCell 0 (.bool (qn (W 0*(X b-W 1)*(W 2)⁻¹ +W 3)))).setCell 1 (.l a7 n7 c7)).setCell 2 (.l b7 m7 d7);exact⟨_,rfl,(((R5.imp (p':=fun ed=>w.heap.size+2<=ed) (fun ed _ h=>by have h':wy.heap.size<=ed:=h;have:=Uy.size;omega)).marked ay om).imp (fun ed _ h=>by omega)),ej.trans (ay.since om)⟩
theorem afW{D:fQ}{n m c:Nat}(h:pi D n m)(O:c<m)(z:n<=1000)(F:D.nv<=1002000){a:Option Addr}{d k i:Nat}{A B:Option Addr}{bx j l o b p q:Nat}{X Z:Nat->Rat}{w:World}
 (s:ij w (fun _=>True) a d k D.nv D.w)(x:∀v,v<D.nv->Qb (D.w v) 1048640)(f:ij w (fun _=>True) A bx j n X)(C:∀v,v<n->Qb (X v) 1048640)(H:D.op=4->ij w (fun _=>True) B p q o Z/\m<=o/\∀v,v<o->Qb (Z v) 1048640)
 (U:D.op=1->∀I,I<=n->Qb (mu 0 (fun t=>D.w (c*(n+1)+t)) X I) 1048640)(V:D.op=6->∀I,I<=D.k.toNat->Qb (mu 0 D.w (fun t=>X (c*D.s.toNat+t)) I) 1048640):
 Cl 223 #[.agg #[.i D.op,.i D.a,.i D.b,.i D.k,.i D.s,.slice a D.nv i],.slice A n l,.slice B o b,.i (c:Int)] w fun ab G=>∃u,ab=.returned u/\i7 G (fun g=>w.heap.size<=g) u (ov D X Z n c)/\w.S G:=by
 have o1:=h.f.o1;have o7:=h.f.o7;have P:D.op=1∨D.op=2∨D.op=3∨D.op=4∨D.op=5∨D.op=6∨D.op=7:=om;rcases P with e | e | e | e | e | e | e
 . obtain⟨K,L⟩:=h.c1 e;have N:c*(n+1)+n<D.nv:=by
    rw[K];have:(c+1)*(n+1)<=D.k.toNat*(n+1):=aP _ om;rw[bI,dS] at this;omega
   have E:=(s 0 om).1;subst E;rw[show ov D X Z n c=mu (D.w (c*(n+1)+n)) (fun t=>D.w (c*(n+1)+t)) X n by unfold ov;rw[aY e],e];exact el1 f C s x z F rfl rfl N (U e)
 . have T:=h.c2 e;rw[show ov D X Z n c=uC (X c) by unfold ov;rw[aM om,aY e],e];exact el2 f C om
 . have T:=h.c3 e;have r:=h.f.v3 e;have E:=(s 0 om).1;subst E;rw[show ov D X Z n c=if qn (X c)=true then D.w 0*X c else X c by unfold ov;rw[aM om,aM om,aY e],e];cases hq:qn (X c)
   . rw[aM qz];exact el3p f C s om om hq
   . rw[aY rfl];exact el3n f C s x om om hq
 . have T:=h.c4 e;obtain⟨Y,z2,z3⟩:=H e;rw[show ov D X Z n c=X c+Z c by unfold ov;rw[aM om,aM om,aM om,aY e],e];exact el4 f C Y z3 om om
 . obtain⟨K,L⟩:=h.c5 e;have y:D.k=(D.k.toNat:Int):=om;rw[show ov D X Z n c=lT X (c*D.k.toNat) (D.k.toNat-1) by unfold ov;rw[aM om,aM om,aM om,aM om,aY e],e];generalize D.k.toNat=M at*;rw[y];have hF:c*M+M<=n:=by
    have:(c+1)*M<=m*M:=aP _ om;rw[bI,dS] at this;omega
   exact el5 f C rfl K hF z
 . obtain⟨K,L⟩:=h.c6 e;have R:=h.f.k;have S:=h.f.s;rw[show a6 D.op=true by rw[e];rfl] at R;rw[show az D.op=true by rw[e];rfl] at S;have y:D.k=(D.k.toNat:Int):=(by unfold af at R;simp at R;omega);have Q:D.s=(D.s.toNat:Int):=(by unfold af at S;simp at S;omega);have hF:=L c O;have E:=(s 0 om).1;subst E;rw[show ov D X Z n c=mu (D.w D.k.toNat) D.w (fun t=>X (c*D.s.toNat+t)) D.k.toNat by unfold ov;rw[aM om,aM om,aM om,aM om,aM om,aY e],e];have W:=V e;generalize D.k.toNat=M at*;generalize D.s.toNat=ss at*;rw[y,Q];exact el6 f C s x z F rfl om hF W
 . obtain⟨K,L⟩:=h.c7 e;have r:=h.f.v7 e;have E:=(s 0 om).1;subst E
   rw[show ov D X Z n c=D.w 0*(X c-D.w 1)*(D.w 2)⁻¹ +D.w 3 by
    unfold ov;rw[aM om,aM om,aM om,aM om,aM om,aM om,jY,Rat.mul_comm (D.w 2)⁻¹,<-jY],e]
   exact el7 f C s x om om L
def rd3:fZ:=⟨false,1,fun _=>3,1,fun _=>1⟩
theorem apI:rd3.q=3:=by
 show mkRat (lv (fun _=>3) 1:Nat) (lv (fun _=>1) 1)=3;rfl
theorem aoJ:ke (fun _=>rd3) 1:=fun _ _=>by show rd3.ok=true;decide
theorem amU:∀c,c<1->((fun _=>rd3) c:fZ).lim:=fun _ _=>⟨fun _ _=>by show 3<4294967296;decide,fun _ _=>by show 1<4294967296;decide⟩
def bT(g:eQ)(i:Nat):Nat:=gT g (fun c=>((fun _=>rd3) c:fZ).q) 1 i
def bD(g:eQ)(i:Nat):Nat:=gD g (fun c=>((fun _=>rd3) c:fZ).q) 1 i
theorem wt(G:eQ):bT G 0=4/\bD G 0=1:=by
 unfold bT bD;simp only[apI];exact⟨rfl,rfl⟩
theorem oe(a:uH G n)(h:kg Q 4 1):kg Q (bT G n) (bD G n):=by
 induction n with
 | zero=>rw[(wt G).1,(wt G).2];exact h
 | succ n b=>
   have b:=b ⟨a.i1,a.i2,fun k c=>a.z k om⟩;exact yn (a.shape (iZ n)) b
theorem cC(a:uH G n)(b:n<=1001)(d:∀k,k<n->∀c,c<(G.N k).nv->((G.N k).V c).lim)(e:szN G.N n<=1048576)(h:kg Q (bT G n) (bD G n)):Qb Q 1048640:=by
 have f:nU (fun _=>rd3) 1=2:=rfl;have l:=aph (K:=1048640) a b aoJ amU d om;exact h.lim (api a) zR (c2 a) l
theorem vR(h:Q=(z:Rat))(a:z.natAbs<=4):kg Q 4 1:=⟨z,by rw[h];exact oG _,a⟩
theorem afp(E:pg G)(a:n<G.nn){x z:Nat->Rat}(d:∀c,c<vD G (G.N n).a.toNat->kg (x c) (bT G n) (bD G n))(f:(G.N n).op=4->∀c,c<vD G (n+1)->kg (z c) (bT G n) (bD G n))(b:e<vD G (n+1)):
 kg (ov (G.N n) x z (vD G (G.N n).a.toNat) e) (bT G (n+1)) (bD G (n+1)):=
 alg (E.nd a).sh (c2 (E.cK (cZ a))) d f b
theorem ee(E:pg G)(a:n<G.nn)(h:kg Q (bT G n) (bD G n)):kg Q (bT G (n+1)) (bD G (n+1)):=yn (E.nd a).sh h
theorem ajn(E:pg G)(a:i<G.nn)(o:(G.N i).op=1){x:Nat->Rat}(h:∀c,c<vD G (G.N i).a.toNat->kg (x c) (bT G i) (bD G i))(d:e<vD G (i+1))(f:k<=vD G (G.N i).a.toNat):
 kg (mu 0 (fun t=>(G.N i).w (e*(vD G (G.N i).a.toNat+1)+t)) x k) (bT G (i+1)) (bD G (i+1)):=by
 have r:=(adP (E.nd a).sh o (c2 (E.cK (cZ a))) h d f).2;have b:bD G (i+1)=bD G i*tQ (G.N i):=by show _*ndF (G.N i)=_;rw[bm om];rfl
 rw[b];exact r.more (by show _<=2*(zJ (G.N i)*bT G i*tQ (G.N i));unfold bT;omega)
theorem akL(E:pg G)(a:i<G.nn)(o:(G.N i).op=6){x:Nat->Rat}(h:∀c,c<vD G (G.N i).a.toNat->kg (x c) (bT G i) (bD G i))(d:n<vD G (i+1))(f:m<=(G.N i).k.toNat):
 kg (mu 0 (G.N i).w (fun t=>x (n*(G.N i).s.toNat+t)) m) (bT G (i+1)) (bD G (i+1)):=by
 have r:=(agp (E.nd a).sh o (c2 (E.cK (cZ a))) h d f).2;have b:bD G (i+1)=bD G i*tQ (G.N i):=by show _*ndF (G.N i)=_;rw[bm om];rfl
 rw[b];exact r.more (by show _<=2*(zJ (G.N i)*bT G i*tQ (G.N i));unfold bT;omega)
theorem wrap64(c:-9223372036854775808<=z)(d:z<9223372036854775808):IntKind.i64.wrap z=z:=by
 have a:IntKind.i64.bits=64:=rfl;have b:IntKind.i64.signed=true:=rfl;unfold IntKind.wrap;simp only[a,b];simp;split<;>omega
theorem aeg{k:Func}{p q:Tmp}(h:k.results= #[.cell p 70,.cell q 70])(b:Array Value)(w:World)(n m:Nat)(u U z f g i:Value)(c:b.getD p undef=.p n 0)(o:b.getD q undef=.p m 0)(B:eS w n u U z)(e:eS w m f g i):
 (results k b).run Tryz.prog w=.ok (.tuple #[.agg #[u,U,z],.agg #[f,g,i]]) w:=by
 have d:b[p]?.getD undef=.p n 0:=by simpa using c
 have r:b[q]?.getD undef=.p m 0:=by simpa using o
 have hl:=run_loadVar_mid (P:=Tryz.prog) w n 0 70 [u,U,z] _ (fun j v a=>by
  rcases j with _ | _ | _ | j
  . simp at a;subst a;exact B.c0
  . simp at a;subst a;exact B.c1
  . simp at a;subst a;exact B.c2
  . simp at a) underlying70 rfl cb
 have l:=run_loadVar_mid (P:=Tryz.prog) w m 0 70 [f,g,i] _ (fun j v a=>by
  rcases j with _ | _ | _ | j
  . simp at a;subst a;exact e.c0
  . simp at a;subst a;exact e.c1
  . simp at a;subst a;exact e.c2
  . simp at a) underlying70 rfl cb
 simp[results,h,d,r,asAddr,hl,l]
end Go.Proofs.YtinihjgnnlemmaaGreatDoor
