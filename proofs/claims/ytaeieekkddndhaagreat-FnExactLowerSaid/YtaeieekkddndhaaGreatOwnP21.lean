import Derived.Test.YtaeieekkddndhaaGreatOwnP20
set_option maxHeartbeats 6400000
set_option maxRecDepth 100000
namespace Go.Proofs.YtaeieekkddndhaaGreat
open Tryz Go.RowKit
variable{w v W V:World}{n m c d k i j l o b p q t r s g h e:Nat}{a A B:Option Addr}{X Y Z:Nat->Nat}{u U:Value}{f F:Bool}{z y:Int}{P:Nat->Prop}{Q:Rat}{D:dA}
structure tc(w w':World)(S:Nat->Prop):Prop where
 os:w'.os=w.os
 tape:w'.tape=w.tape
 output:w'.output=w.output
 size:w'.heap.size=w.heap.size
 other:∀k,¬S k->w'.heap[k]?=w.heap[k]?
 frozen:∀b o,w'.frozen? ⟨b,o,none⟩=w.frozen? ⟨b,o,none⟩
section
variable{w w' w'':World}{S S':Nat->Prop}{b n:Nat}
theorem tc.refl(w:World)(P:Nat->Prop):tc w w P:=⟨rfl,rfl,rfl,rfl,fun _ _=>rfl,fun _ _=>rfl⟩
theorem tc.mono(f:tc w w' S)(h:∀k,S k->S' k):tc w w' S':=⟨f.os,f.tape,f.output,f.size,fun k b=>f.other k (fun a=>b (h k a)),f.frozen⟩
theorem tc.trans(f:tc w w' S)(g:tc w' w'' S):tc w w'' S:=
 ⟨g.os.trans f.os,g.tape.trans f.tape,g.output.trans f.output,g.size.trans f.size,fun k a=>(g.other k a).trans (f.other k a),fun b o=>(g.frozen b o).trans (f.frozen b o)⟩
theorem aV.fr(M:aV w w' b):tc w w' (fun k=>k=b):=
 ⟨M.os,M.tape,M.output,M.size,fun k d=>M.other k d,fun c o=>by
   by_cases e:c=b
   . subst e;exact M.frozen o
   . exact M.hU (a:=jj c o) e⟩
theorem aV.frN(M:aV w w' b)(h:n=0->w'=w):tc w w' (fun k=>0<n/\k=b):=by
 by_cases e:n=0
 . rw[h e];exact tc.refl _ _
 . exact M.fr.mono (fun k a=>⟨om,a⟩)
theorem tc.cell(f:tc w w' S){a:Addr}(h:¬S a.block):w'.cell? a=w.cell? a:=aO (w:=w) (f.other _ h)
theorem tc.sT(f:tc w w' S)(L:bE w a b m n X)(h:0<n->¬S b):bE w' a b m n X:=
 fun j c=>⟨(L j c).1,by rw[f.cell (a:=jj b (m+j)) (h om)];exact (L j c).2⟩
end
theorem tc.since{B:Nat}(F:tc w v P)(h:∀k,P k->B<=k):w.Since B v:=
 ⟨F.os,F.tape,F.output,by rw[F.size];exact aC _,fun k b=>F.other k (fun a=>by have:=h k a;omega)⟩
structure ay(w:World)(lo hi b off:Nat)(f:Bool)(g h:Nat)(a1:Option Addr)(n1 k1:Nat)(a2:Option Addr)(n2 k2:Nat)(X Y:Nat->Nat):Prop where
 c0:w.cell? ⟨b,off,none⟩=some (.bool f)
 c1:w.cell? ⟨b,off+1,none⟩=some (.slice a1 n1 k1)
 c2:w.cell? ⟨b,off+2,none⟩=some (.slice a2 n2 k2)
 L1:bE w a1 g 0 n1 X
 L2:bE w a2 h 0 n2 Y
 s1:n1<=8388608
 s2:n2<=8388608
 lg:0<n1->lo<=g/\g<hi/\∀o,w.frozen? ⟨g,o,none⟩=false
 lh:0<n2->lo<=h/\h<hi/\∀o,w.frozen? ⟨h,o,none⟩=false
 ne:0<n1->0<n2->g≠h
theorem ay.frame(r:ay w n m c d f k i a j l A o b X Y)(F:tc w v P)
 (q:∀p,n<=p->p<m->¬P p)(h:∀g,d<=g->g<d+3->v.cell? (jj c g)=w.cell? (jj c g)):ay v n m c d f k i a j l A o b X Y:=
 ⟨by rw[h _ om om];exact r.c0,by rw[h _ om om];exact r.c1,by rw[h _ om om];exact r.c2,
   F.sT r.L1 (fun e=>q k (r.lg e).1 (r.lg e).2.1),F.sT r.L2 (fun e=>q i (r.lh e).1 (r.lh e).2.1),r.s1,r.s2,
   fun e=>⟨(r.lg e).1,(r.lg e).2.1,fun g=>by rw[F.frozen];exact (r.lg e).2.2 g⟩,fun e=>⟨(r.lh e).1,(r.lh e).2.1,fun g=>by rw[F.frozen];exact (r.lh e).2.2 g⟩,r.ne⟩
def OwnFrom(w:World)(b k n:Nat)(E:Nat->Nat):Prop:=∀i,k<=i->i<n->∃f g h a1 n1 k1 a2 n2 k2 X Y,ay w (E i) (E (i+1)) b (i*3) f g h a1 n1 k1 a2 n2 k2 X Y
def anz(w:World)(b n:Nat)(E K:Nat->Nat):Prop:=∀i,i<n->∃g h a1 n1 k1 a2 n2 k2,ay w (E i) (E (i+1)) b (i*3) (decide (K i % 3=0)) g h a1 n1 k1 a2 n2 k2 (fun j=>(K i+1+j) % 4294967296) (fun j=>(K i+1+n1+j) % 4294967296)/\K (i+1)=K i+1+n1+n2
theorem kV(h:∀i,i<n->X i<=X (i+1))(a:i<=j)(b:j<=n):X i<=X j:=by
 induction j with
 | zero=>have:i=0:=om
         subst this;exact aC _
 | succ j ih=>
   by_cases e:i=j+1
   . subst e;exact aC _
   . exact aU (ih om om) (h j om)
theorem aeO(hn:m<=1048576)(ak:d<=576460752303423488)(ha:0<m->a=jp n 0)(q:∀i,i<m->X i<=X (i+1))(hb:n<X 0)(hf:0<m->∀o,w.frozen? (jj n o)=false)(al:OwnFrom w n 0 m X):
 Cl 34 #[.slice a m c,.i d] w fun e w'=>∃K:Nat->Nat,K 0=d/\K m<=d+m*16777217/\e=.returned (.i ((K m:Nat):Int))/\tc w w' (fun k=>0<m/\(k=n∨X 0<=k/\k<X m))/\anz w' n m X K:=by
 go_enter func34,ntmps34;go_wp2;go_loopw [1,5] (fun ai i wr=>∃(k:Nat) (K:Nat->Nat),k<=m/\i=.i k/\ai=.i ((K k:Nat):Int)/\K 0=d/\K k<=d+k*16777217/\tc w wr (fun k=>0<m/\(k=n∨X 0<=k/\k<X m))/\anz wr n k X K/\OwnFrom wr n k m X) (fun _ i _=>m-(intOf i).toNat)
 case atStart=>exact⟨0,fun _=>d,aJ _,rfl,rfl,rfl,qz,tc.refl _ _,fun i M=>absurd M om,al⟩
 case round=>
  obtain⟨k,K,N,rfl,rfl,E,hK,P,hm,O⟩:=hrel;by_cases ah:k<m
  . obtain⟨aj,g,h,Z,x,k1,z,u,R,ac,Y,r⟩:=O k zR ah;obtain rfl:=ha om;have g0:=r.c0;have g1:=r.c1;have g2:=r.c2;have fz:wr.frozen? (jj n (k*3))=false:=(by rw[P.frozen];exact hf om _);have s1:=r.s1;have s2:=r.s2;have zK:K k<=1125899906842624000:=om;generalize ae:K k=f at*;go_wp2_with fail;have b1:n<X k:=aS hb (kV q (aJ _) N);have v:aV wr (wr.setCell (jj n (k*3)) (.bool ((f:Int) % 3==0))) n:=(aV.refl wr n).setCell _ _;have d0:(wr.setCell (jj n (k*3)) (.bool ((f:Int) % 3==0))).cell? (jj n (k*3))=some (.bool (decide (f % 3=0))):=by
     rw[aQ _ _ _ g0];have:((f:Int) % 3==0)=decide (f % 3=0):=(by rw[gG,jJ,jU];omega);rw[this]
    have d1:∀o,o≠k*3->(wr.setCell (jj n (k*3)) (.bool ((f:Int) % 3==0))).cell? (jj n o)=wr.cell? (jj n o):=fun o O=>
     aI _ _ _ _ (fun h=>by have:=congrArg Addr.off h;simp at this;omega)
    generalize wr.setCell (jj n (k*3)) (.bool ((f:Int) % 3==0))=w1 at*;rw[show ((f:Int)+1)=((f+1:Nat):Int) by omega];refine (yH s1 om (r.L1.marked v (fun b=>by have:=(r.lg b).1;omega)) (fun b o=>by rw[v.fr.frozen];exact (r.lg b).2.2 o)).mono ?_;rintro e s ⟨rfl,M2,z2,L2⟩;have t:=M2.frN z2;have V:¬(0<x/\n=g):=fun b=>by have:=(r.lg b.1).1;omega
    have H:¬(0<u/\n=h):=fun b=>by have:=(r.lh b.1).1;omega
    have i2:s.cell? (jj n (k*3+2))=some (.l z u R):=(by rw[t.cell (a:=jj n (k*3+2)) V,d1 _ om];exact g2);go_wp2_with fail;have Y2:bE s z h 0 u Y:=t.sT (r.L2.marked v (fun b=>by have:=(r.lh b).1;omega)) (fun b l=>r.ne l.1 b l.2.symm);refine (@yH z h u R Y (f+1+x) s s2 om Y2 (fun b o=>by rw[t.frozen,v.fr.frozen];exact (r.lh b).2.2 o)).mono ?_;rintro e w3 ⟨rfl,M3,z3,L3⟩;have y:=M3.frN z3;go_wp2;go_roundw
    case rel=>
     have F:tc wr w3 (fun j=>j=n∨X k<=j/\j<X (k+1)):=
      ((v.fr.mono (fun j b=>.inl b)).trans (t.mono (fun j b=>.inr (by have:=r.lg b.1;rw[b.2];exact⟨this.1,this.2.1⟩)))).trans (y.mono (fun j b=>.inr (by have:=r.lh b.1;rw[b.2];exact⟨this.1,this.2.1⟩)))
     have B:∀o,o≠k*3->w3.cell? (jj n o)=wr.cell? (jj n o):=fun o b=>by rw[y.cell (a:=jj n o) H,t.cell (a:=jj n o) V,d1 o b]
     refine⟨k+1,fun i=>if i<=k then K i else f+1+x+u,om,by go_num, ?_, ?_, ?_,P.trans (F.mono ?_),fun i M=> ?_,fun i M af=> ?_⟩
     . simp only[show ¬k+1<=k by omega,iO];go_num
     . simpa using E
     . simp only[show ¬k+1<=k by omega,iO];omega
     . intro j A;refine⟨om, ?_⟩;rcases A with A | A
       . exact .inl A
       . have:=kV q (aJ k) N;have:=kV q (i:=k+1) (j:=m) om zR;exact .inr ⟨om,om⟩
     . by_cases e:i=k
       . subst e;simp only[aC,jG,show ¬i+1<=i by omega,iO,ae];refine⟨g,h,Z,x,k1,z,u,R,⟨?_, ?_, ?_,y.sT L2 (fun b l=>r.ne b l.1 l.2),L3,s1,s2,fun b=>⟨(r.lg b).1,(r.lg b).2.1,fun o=>by rw[F.frozen];exact (r.lg b).2.2 o⟩,fun b=>⟨(r.lh b).1,(r.lh b).2.1,fun o=>by rw[F.frozen];exact (r.lh b).2.2 o⟩,r.ne⟩,rfl⟩
         . rw[y.cell (a:=jj n (i*3)) H,t.cell (a:=jj n (i*3)) V];exact d0
         . rw[B _ om];exact g1
         . rw[B _ om];exact g2
       . have ag:i<k:=om;simp only[show i<=k by omega,show i+1<=k by omega,jG];obtain⟨G,I,C,T,Q,D,U,S,W,e'⟩:=hm i ag;have:=kV q (aJ i) (show i<=m by omega);have:=kV q (i:=i+1) (j:=k) om N;exact⟨G,I,C,T,Q,D,U,S,W.frame F (fun j l L p=>by rcases p with p | p<;>omega) (fun o l L=>B o om),e'⟩
     . obtain⟨f',G,I,C,T,Q,D,U,S,X',Y',W⟩:=O i om af;have:=kV q (i:=k+1) (j:=i) om om;have:=kV q (aJ i) (show i<=m by omega);exact⟨f',G,I,C,T,Q,D,U,S,X',Y',W.frame F (fun j l L p=>by rcases p with p | p<;>omega) (fun o l L=>B o om)⟩
    case measure=>exact yI
  . have e:k=m:=om;subst e;go_wp2;go_ret;exact⟨K,E,hK,rfl,P,hm⟩
def Ints(w:World)(a:Option Addr)(b off n:Nat)(X:Nat->Int):Prop:=∀j,j<n->a=some ⟨b,off,none⟩/\w.cell? ⟨b,off+j,none⟩=some (.int .i64 (X j))
section
variable{w w':World}{a:Option Addr}{b off n c:Nat}{X:Nat->Int}
theorem Ints.bH(h:Ints w a b off n X)(s:w.S w'):Ints w' a b off n X:=fun j c=>
 ⟨(h j c).1,(s.cell (a:=jj b (off+j)) (aG _ _ (h j c).2)).trans (h j c).2⟩
end
def pL(e:Ending)(p:Prop):Prop:=∃r:Bool,e=.returned (.bool r)/\(r=true↔p)
theorem aaG:Cl 145 #[.i z,.bool f] w fun e b=>pL e (wg z f)/\w.S b:=by
 cases f
 . go_enter func145,ntmps145;go_wp2;go_ret;exact⟨⟨z==0,rfl,by simp[wg]⟩,aF _ _⟩
 . by_cases h:1<=z
   . by_cases a:z<=1000
     . go_enter func145,ntmps145;go_wp2;go_ret;exact⟨⟨true,rfl,by simp[wg,h,a]⟩,aF _ _⟩
     . go_enter func145,ntmps145;go_wp2;go_ret;exact⟨⟨false,rfl,by unfold wg;simp;omega⟩,aF _ _⟩
   . go_enter func145,ntmps145;go_wp2;go_ret;exact⟨⟨false,rfl,by unfold wg;simp;omega⟩,aF _ _⟩
theorem alE{z:Int}{f F i:Bool}{lH:Int}{D:dA}{a:Option Addr}{n m:Nat}{w:World}(P:0<=w.heap.size)(N:xe w)(O:D.size<=1048576)(H:tW w n D a m):
 Cl 102 #[.agg #[.i z,.bool f,.bool F,.bool i,.i lH],.agg #[.i D.op,.i D.a,.i D.b,.i D.k,.i D.s,.slice a D.nv m]] w fun e w'=>pL e (ajh D f F i lH)/\w.S w':=by
 have U:=O;unfold dA.size at U;obtain⟨c,k⟩:∃c:World,c=(w.alloc (.o #[.i z,.bool f,.bool F,.bool i,.i lH] 157)).alloc (.o #[.i D.op,.i D.a,.i D.b,.i D.k,.i D.s,.l a D.nv m] 87):=⟨_,rfl⟩;have v:w.S c:=by rw[k];exact (cV _ _).alloc qz _
 have M:jo c w.heap.size (.i z) (.bool f) (.bool F) (.bool i) (.i lH):=by rw[k];exact (jo.new w _ _ _ _ _ _).bH (cV _ _)
 have Q:dL c (w.heap.size+1) (.i D.op) (.i D.a) (.i D.b) (.i D.k) (.i D.s) (.l a D.nv m):=by rw[k];have:=dL.new (w.alloc (.o #[.i z,.bool f,.bool F,.bool i,.i lH] 157)) (.i D.op) (.i D.a) (.i D.b) (.i D.k) (.i D.s) (.l a D.nv m) 87;simpa using this
 have x:=aR k;by_cases Y:f=false/\D.b≠0
 . obtain⟨rfl,hb⟩:=Y;go_enter func102,ntmps102;go_wp2;go_ret;exact⟨⟨false,rfl,by simp[ajh,hb]⟩,by rw[<-x.out];exact v⟩
 have g:f=true∨(f=false/\D.b=0):=by
  cases f
  . exact .inr ⟨rfl,by simpa using Y⟩
  . exact .inl rfl
 have E:f=false->D.b=0:=by
  intro h;rcases g with e | e
  . rw[h] at e;cases e
  . exact e.2
 have j:=aR E;clear E;rcases g with rfl | ⟨rfl,hb⟩
 focus
  go_enter func102,ntmps102
 rotate_left
 focus
  have ab:(D.b != 0)=false:=by simp[hb]
  clear hb;go_enter func102,ntmps102
 all_goals
  go_wp2_with fail;rw[<-x.out];refine (aaG).mono ?_;rintro e W ⟨⟨S,rfl,l⟩,o⟩;have y:=M.bH o;have A:=Q.bH o;have q3:=y.c3;have q4:=A.c4;cases S
  . go_wp2;go_ret;exact⟨⟨false,rfl,by simp only[gX,oU] at l⊢;exact fun h=>l h.2.1⟩,v.tr o⟩
  have B:=aR (l.1 rfl);clear l;go_wp2_with fail;refine (aaG).mono ?_;rintro e X ⟨⟨T,rfl,d⟩,t⟩;have G:=y.bH t;have K:=A.bH t;have V:=o.tr t;have b:=v.tr V;cases T
  . go_wp2;go_ret;exact⟨⟨false,rfl,by simp only[gX,oU] at d⊢;exact fun h=>d h.2.2.1⟩,b⟩
  have C:=aR (d.1 rfl);clear d;have p4:=G.c4;have p5:=K.c5;obtain⟨L,R,-,I⟩:=(H.bH b).LV;have Z:=@we a n L R D.nv m D.V X (aJ _) (N.stay P b) om om I;by_cases r:lH=-1
  . subst r;go_wp2_with fail;refine Z.mono ?_;rintro e aa ⟨s,rfl,p,u⟩;go_wp2;go_ret;exact⟨⟨s,rfl,p.trans ⟨fun h=>⟨(fun h=>by first | exact j.out h | exact j.out trivial),B.out,C.out,fun h=>absurd rfl h,h⟩,fun h=>h.2.2.2.2⟩⟩,b.tr u⟩
  by_cases q:(D.nv:Int)=lH
  . subst q;go_wp2_with fail;refine Z.mono ?_;rintro e aa ⟨s,rfl,p,u⟩;go_wp2;go_ret;exact⟨⟨s,rfl,p.trans ⟨fun h=>⟨(fun h=>by first | exact j.out h | exact j.out trivial),B.out,C.out,fun _=>rfl,h⟩,fun h=>h.2.2.2.2⟩⟩,b.tr u⟩
  have n1:(lH != -1)=true:=by simp[r]
  have n2:((D.nv:Int) != lH)=true:=by simp[q]
  go_wp2;go_ret;exact⟨⟨false,rfl,by simp only[gX,oU];exact fun h=>q (h.2.2.2.1 r)⟩,b⟩
def yi(va vb:Int)(n:Nat)(ub:Bool):Prop:=0<=va/\va<n/\(ub=true->0<=vb/\vb<n)
theorem akg{z:Int}{f F k:Bool}{lH y b g h o:Int}{a:Option Addr}{n m c:Nat}{w:World}:
 Cl 103 #[.agg #[.i z,.bool f,.bool F,.bool k,.i lH],.agg #[.i y,.i b,.i g,.i h,.i o,.slice a n m],.i c] w fun e i=>pL e (yi b g c f)/\w.S i:=by
 have d:w.S ((w.alloc (.o #[.i z,.bool f,.bool F,.bool k,.i lH] 157)).alloc (.o #[.i y,.i b,.i g,.i h,.i o,.l a n m] 87)):=(cV _ _).alloc qz _;by_cases p:b<0
 . go_enter func103,ntmps103;go_wp2;go_ret;exact⟨⟨_,rfl,by unfold yi;simp<;>omega⟩,d⟩
 by_cases q:(c:Int)<=b
 . go_enter func103,ntmps103;go_wp2;go_ret;exact⟨⟨_,rfl,by unfold yi;simp<;>omega⟩,d⟩
 cases f
 . go_enter func103,ntmps103;go_wp2;go_ret;exact⟨⟨_,rfl,by unfold yi;simp<;>omega⟩,d⟩
 . by_cases r:g<0
   . go_enter func103,ntmps103;go_wp2;go_ret;exact⟨⟨_,rfl,by unfold yi;simp<;>omega⟩,d⟩
   by_cases s:(c:Int)<=g
   . go_enter func103,ntmps103;go_wp2;go_ret;exact⟨⟨_,rfl,by unfold yi;simp<;>omega⟩,d⟩
   go_enter func103,ntmps103;go_wp2;go_ret;exact⟨⟨_,rfl,by unfold yi;simp<;>omega⟩,d⟩
theorem fO(a:-9223372036854775808<=z)(b:z<=9223372036854775807):IntKind.i64.wrap z=z:=by
 rw[tR];omega
theorem dim1{v0 v2 v3 v4 x:Int}{j:Nat}{a1:Option Addr}{nv k1:Nat}{aD:Option Addr}{bD n cD:Nat}{D:Nat->Int}{w:World}(HD:Ints w aD bD 0 n D)(hjn:j<n)(hx:D j=x)(_x1:1<=x)(_x2:x<=1000)(c0:0<=v3)(c1:v3<=1000)(_hv:nv<=1048576):
 Cl 246 #[.agg #[.i v0,.i (j:Int),.i v2,.i v3,.i v4,.slice a1 nv k1],.slice aD n cD] w fun e w'=>e=.returned (.tuple #[.i (if (nv:Int)=v3*(x+1) then v3 else 0),.i (if (nv:Int)=v3*(x+1) then 0 else 14)])/\w.S w':=by
 have sA:=cV w (.o #[.i v0,.i j,.i v2,.i v3,.i v4,.l a1 nv k1] 146);have hz:(j:Int)<n:=om;obtain⟨rfl,g0⟩:=(HD.bH sA) j hjn;rw[aZ,hx] at g0;have y0:0<=v3*(x+1):=tF c0 om;have y1:v3*(x+1)<=1000*1001:=Int.mul_le_mul c1 om om om;obtain⟨y,hy⟩:∃y,y=v3*(x+1):=⟨_,rfl⟩;rw[<-hy] at y0 y1⊢;have q1:=fO (z:=x+1) om om;have q2:IntKind.i64.wrap (v3*(x+1))=y:=by rw[<-hy];exact fO om om
 by_cases h:(nv:Int)=y
 . rw[aY h,aY h];have q3:((nv:Int) != y)=false:=(by simp[h]);go_enter func246,ntmps246;go_wp2;go_region;go_wp2;go_ret2;exact⟨rfl,sA.drew⟩
 . rw[aM h,aM h];have q3:((nv:Int) != y)=true:=(by simp[h]);go_enter func246,ntmps246;go_wp2;go_region;go_wp2;go_ret2;exact⟨rfl,sA.drew⟩
theorem dim2{v0 v2 v3 v4 x:Int}{j:Nat}{a1:Option Addr}{nv k1:Nat}{aD:Option Addr}{bD n cD:Nat}{D:Nat->Int}{w:World}(HD:Ints w aD bD 0 n D)(hjn:j<n)(hx:D j=x)(_x1:1<=x)(_x2:x<=1000):
 Cl 249 #[.agg #[.i v0,.i (j:Int),.i v2,.i v3,.i v4,.slice a1 nv k1],.slice aD n cD] w fun e w'=>e=.returned (.tuple #[.i x,.i 0])/\w.S w':=by
 have sA:=cV w (.o #[.i v0,.i j,.i v2,.i v3,.i v4,.l a1 nv k1] 148);have hz:(j:Int)<n:=om;obtain⟨rfl,g0⟩:=(HD.bH sA) j hjn;rw[aZ,hx] at g0;go_enter func249,ntmps249;go_wp2;go_ret2;exact⟨rfl,sA⟩
theorem dim3{v0 v2 v3 v4 x:Int}{j:Nat}{a1:Option Addr}{nv k1:Nat}{aD:Option Addr}{bD n cD:Nat}{D:Nat->Int}{w:World}(HD:Ints w aD bD 0 n D)(hjn:j<n)(hx:D j=x)(_x1:1<=x)(_x2:x<=1000):
 Cl 252 #[.agg #[.i v0,.i (j:Int),.i v2,.i v3,.i v4,.slice a1 nv k1],.slice aD n cD] w fun e w'=>e=.returned (.tuple #[.i x,.i 0])/\w.S w':=by
 have sA:=cV w (.o #[.i v0,.i j,.i v2,.i v3,.i v4,.l a1 nv k1] 149);have hz:(j:Int)<n:=om;obtain⟨rfl,g0⟩:=(HD.bH sA) j hjn;rw[aZ,hx] at g0;go_enter func252,ntmps252;go_wp2;go_ret2;exact⟨rfl,sA⟩
theorem dim4{v0 v2 v3 v4 x:Int}{j:Nat}{a1:Option Addr}{nv k1:Nat}{aD:Option Addr}{bD n cD:Nat}{D:Nat->Int}{w:World}(HD:Ints w aD bD 0 n D)(hjn:j<n)(hx:D j=x)(_x1:1<=x)(_x2:x<=1000){i:Nat}(hi:i<n)(hv2:v2=i):
 Cl 255 #[.agg #[.i v0,.i (j:Int),.i v2,.i v3,.i v4,.slice a1 nv k1],.slice aD n cD] w fun e w'=>e=.returned (.tuple #[.i (if D i=x then x else 0),.i (if D i=x then 0 else 14)])/\w.S w':=by
 have sA:=cV w (.o #[.i v0,.i j,.i v2,.i v3,.i v4,.l a1 nv k1] 150);have hz:(j:Int)<n:=om;obtain⟨rfl,g0⟩:=(HD.bH sA) j hjn;rw[aZ,hx] at g0;subst hv2;have hz2:(i:Int)<n:=om;obtain⟨-,g1⟩:=(HD.bH sA) i hi;rw[aZ] at g1;obtain⟨y,hy⟩:∃y,y=D i:=⟨_,rfl⟩;rw[<-hy] at g1⊢;by_cases h:y=x
 . rw[aY h,aY h];have q3:(x != y)=false:=(by simp[h]);go_enter func255,ntmps255;go_wp2;go_region;go_wp2;go_ret2;exact⟨rfl,sA.drew⟩
 . rw[aM h,aM h];have q3:(x != y)=true:=(by simp;omega);go_enter func255,ntmps255;go_wp2;go_region;go_wp2;go_ret2;exact⟨rfl,sA.drew⟩
theorem dim5{z y b K x:Int}{n:Nat}{a:Option Addr}{m c:Nat}{A:Option Addr}{bD d k:Nat}{D:Nat->Int}{w:World}(o:Ints w A bD 0 d D)(t:n<d)(u:D n=x)(B:1<=x)(C:x<=1000)(E:1<=b)(F:b<=1000):
 Cl 258 #[.agg #[.i z,.i (n:Int),.i y,.i b,.i K,.slice a m c],.slice A d k] w fun e M=>e=.returned (.tuple #[.i (if x % b=0 then x/b else 0),.i (if x % b=0 then 0 else 14)])/\w.S M:=by
 have i:=cV w (.o #[.i z,.i n,.i y,.i b,.i K,.l a m c] 151);have G:(n:Int)<d:=om;obtain⟨rfl,s⟩:=(o.bH i) n t;rw[aZ,u] at s;have v:x.tmod b=x % b:=Int.tmod_eq_emod_of_nonneg om;have p:x.tdiv b=x/b:=qT om;have q:0<=x/b:=qH om om;have r:x/b<=x:=rI _ om;obtain⟨g,l⟩:∃g,g=x % b:=⟨_,rfl⟩;obtain⟨j,f⟩:∃j,j=x/b:=⟨_,rfl⟩;rw[<-l] at v⊢;rw[<-f] at p q r⊢;have H:¬b=0:=om;have I:IntKind.i64.wrap (x.tdiv b)=j:=by rw[p];exact fO om om
 clear l f;by_cases h:g=0
 . rw[aY h,aY h];have L:(g != 0)=false:=(by simp[h]);go_enter func258,ntmps258;go_wp2;go_region;go_wp2;go_region;go_wp2;go_ret2;exact⟨rfl,i.drew.drew⟩
 . rw[aM h,aM h];have L:(g != 0)=true:=(by simp[h]);go_enter func258,ntmps258;go_wp2;go_region;go_wp2;go_ret2;exact⟨rfl,i.drew⟩
theorem dim6{v0 v2 v3 v4 x:Int}{j:Nat}{a1:Option Addr}{nv k1:Nat}{aD:Option Addr}{bD n cD:Nat}{D:Nat->Int}{w:World}(HD:Ints w aD bD 0 n D)(hjn:j<n)(hx:D j=x)(_x1:1<=x)(_x2:x<=1000)(c0:1<=v3)(c1:v3<=1000)(s0:1<=v4)(s1:v4<=1000)(_hv:nv<=1048576):
 Cl 261 #[.agg #[.i v0,.i (j:Int),.i v2,.i v3,.i v4,.slice a1 nv k1],.slice aD n cD] w fun e w'=>e=.returned (.tuple #[.i (if v3>x∨(nv:Int)≠v3+1 then 0 else (x-v3)/v4+1),.i (if v3>x∨(nv:Int)≠v3+1 then 14 else 0)])/\w.S w':=by
 have sA:=cV w (.o #[.i v0,.i j,.i v2,.i v3,.i v4,.l a1 nv k1] 152);have hz:(j:Int)<n:=om;obtain⟨rfl,g0⟩:=(HD.bH sA) j hjn;rw[aZ,hx] at g0;by_cases h:v3>x
 . rw[aY (.inl h),aY (.inl h)];have h':x<v3:=h;go_enter func261,ntmps261;go_wp2;go_ret2;exact⟨rfl,sA⟩
 by_cases h2:(nv:Int)=v3+1
 . rw[aM om,aM om];have p2:(x-v3).tdiv v4=(x-v3)/v4:=qT om;have d0:0<=(x-v3)/v4:=qH om om;have d1:(x-v3)/v4<=x-v3:=rI _ om;obtain⟨z,hz'⟩:∃z,z=(x-v3)/v4:=⟨_,rfl⟩;rw[<-hz'] at p2 d0 d1⊢;have q0:¬v4=0:=om;go_enter func261,ntmps261;go_wp2;go_ret2;exact⟨rfl,sA⟩
 . rw[aY (.inr h2),aY (.inr h2)];have q3:((nv:Int) != v3+1)=true:=(by simp[h2]);go_enter func261,ntmps261;go_wp2;go_ret2;exact⟨rfl,sA⟩
theorem dim7{v0 v2 v3 v4 x:Int}{j:Nat}{a1:Option Addr}{nv k1:Nat}{aD:Option Addr}{bD n cD:Nat}{D:Nat->Int}{w:World}(HD:Ints w aD bD 0 n D)(hjn:j<n)(hx:D j=x)(_x1:1<=x)(_x2:x<=1000){lo bV oV:Nat}{V:Nat->jd}(HV:pG w lo a1 bV oV nv V)(h4:nv=4):
 Cl 264 #[.agg #[.i v0,.i (j:Int),.i v2,.i v3,.i v4,.slice a1 nv k1],.slice aD n cD] w fun e w'=>e=.returned (.tuple #[.i (if (V 2).n=0 then 0 else x),.i (if (V 2).n=0 then 15 else 0)])/\w.S w':=by
 have sA:=cV w (.o #[.i v0,.i j,.i v2,.i v3,.i v4,.l a1 nv k1] 153);have hz:(j:Int)<n:=om;obtain⟨rfl,g0⟩:=(HD.bH sA) j hjn;rw[aZ,hx] at g0;subst h4;obtain⟨ea1,y1,y2,l1,l2,M⟩:=(HV.bH sA) 2 om;subst ea1;obtain⟨m0,m1,m2⟩:=M.g;have nA:=dL.new w (.i v0) (.i j) (.i v2) (.i v3) (.i v4) (.l (jp bV oV) 4 k1) 153;by_cases h:(V 2).n=0
 . rw[aY h,aY h];have q:(((V 2).n:Int)==0)=true:=(by simp[h]);clear h;go_enter func264,ntmps264;go_wp2_with fail;generalize w.alloc _=wA at*;refine (ov).mono ?_;rintro e w1 ⟨rfl,s1⟩;have N1:=nA.bH s1;have n1:=N1.c1;have S1:=sA.tr s1;have g1:=(s1.cell (a:=jj bD j) (aG _ _ g0)).trans g0;go_wp2;go_ret2;exact⟨rfl,S1⟩
 . rw[aM h,aM h];have q:(((V 2).n:Int)==0)=false:=(by simp;omega);go_enter func264,ntmps264;go_wp2_with fail;generalize w.alloc _=wA at*;refine (ov).mono ?_;rintro e w1 ⟨rfl,s1⟩;have N1:=nA.bH s1;have n1:=N1.c1;have S1:=sA.tr s1;have g1:=(s1.cell (a:=jj bD j) (aG _ _ g0)).trans g0;go_wp2;go_ret2;exact⟨rfl,S1⟩
def xS(D:Nat->Int)(n:Nat)(d:dA):Int:=if ix D n d=0 then jy D d else 0
theorem vT(z:Int)(n m c:Nat)(f F u:Bool)(lH:Int)(y b g p:Int)(d:Nat)(V:Nat->jd)(a:Option Addr)(k i j:Nat)(A:Option Addr)(l o:Nat)(D:Nat->Int)(w:World)(hw:0<=w.heap.size)(hT:xe w)(af:nP w j)(hd:(dA.mk z y b g p d V).size<=1048576)(ae:tW w k (dA.mk z y b g p d V) a i)
 (U:∀w,nP w j->Cl 101 #[.map (some j),.agg #[.i z,.i y,.i b,.i g,.i p,.l a d i]] w fun e q=>e=.returned (.tuple #[.iface n (.agg #[.i z,.i y,.i b,.i g,.i p,.l a d i]),.bool true])/\w.S q)
 (S:∀w,Cl m #[.agg #[.i z,.i y,.i b,.i g,.i p,.l a d i]] w fun e q=>e=.returned (.agg #[.i z,.bool f,.bool F,.bool u,.i lH])/\w.S q)
 (P:(dA.mk z y b g p d V).Form↔ajh (dA.mk z y b g p d V) f F u lH)(Q:wH (dA.mk z y b g p d V) l↔yi y b l f)
 (R:∀q,w.S q->(dA.mk z y b g p d V).Form->wH (dA.mk z y b g p d V) l->Cl c #[.agg #[.i z,.i y,.i b,.i g,.i p,.l a d i],.l A l o] q fun e ac=>e=.returned (.tuple #[.i (xS D l (dA.mk z y b g p d V)),.i (ix D l (dA.mk z y b g p d V))])/\q.S ac)
 (m1:∀w:World,(method 381 n (.agg #[.i z,.i y,.i b,.i g,.i p,.l a d i]) "loop.example/s0015/impl.form").run Tryz.prog w=.ok (m,.agg #[.i z,.i y,.i b,.i g,.i p,.l a d i]) w:=by intro;kernel_rfl)
 (m2:∀w:World,(method 381 n (.agg #[.i z,.i y,.i b,.i g,.i p,.l a d i]) "loop.example/s0015/impl.dimension").run Tryz.prog w=.ok (c,.agg #[.i z,.i y,.i b,.i g,.i p,.l a d i]) w:=by intro;kernel_rfl)
 (e1:∀(t:Array Value) (w:World),(callFunc m t).run Tryz.prog w=.ok (.enter m t) w:=by intros;kernel_rfl)(e2:∀(t:Array Value) (w:World),(callFunc c t).run Tryz.prog w=.ok (.enter c t) w:=by intros;kernel_rfl):
 Cl 58 #[.agg #[.i z,.i y,.i b,.i g,.i p,.slice a d i],.slice A l o,.map (some j)] w fun e q=>e=.returned (.tuple #[.i (xS D l (dA.mk z y b g p d V)),.i (ix D l (dA.mk z y b g p d V))])/\w.S q:=by
 have Z:=cV w (.o #[.i z,.i y,.i b,.i g,.i p,.l a d i] 87);have nA:=dL.new w (.i z) (.i y) (.i b) (.i g) (.i p) (.l a d i) 87;have HF:=aR P;have N:=aR Q;have ad:=aR S;have HO:=aR U;have ab:=aR R;clear P Q S U R;go_enter func58,ntmps58;go_wp2_with fail;generalize w.alloc _=wA at*;refine (HO.out wA (af.bH Z)).mono ?_;rintro e w1 ⟨rfl,W⟩;have d1:=ue w1;have S1:=Z.tr W;have C:=nA.bH W;have J1:=ad.out w1.drew;obtain⟨q0,q1,q2,q3,q4,q5⟩:=C.g;go_wp2_with fail
 go_region_held3 (fun q=>q.cell? (jj w.heap.size 0)=some (.i z)/\q.cell? (jj w.heap.size 1)=some (.i y)/\q.cell? (jj w.heap.size 2)=some (.i b)/\q.cell? (jj w.heap.size 3)=some (.i g)/\q.cell? (jj w.heap.size 4)=some (.i p)/\q.cell? (jj w.heap.size 5)=some (.l a d i)) (go_keep)
  (first
    | (go_at_call 102;(with_reducible refine B.mono ?_);rintro e w3 ⟨⟨r,rfl,H⟩,X⟩;have M:=v.tr X;have I:=G.bH X;obtain⟨i0,i1,i2,i3,i4,i5⟩:=I.g;have hF:=aR (H.trans HF.out.symm);clear H)
    | (with_reducible refine J1.mono ?_
       rintro e w2 ⟨rfl,s2⟩;have O:=d1.tr s2;have v:=S1.tr O;have G:=C.bH O;obtain⟨i0,i1,i2,i3,i4,i5⟩:=G.g;have B:=@alE z f F u lH (dA.mk z y b g p d V) a k i w2 (aJ _) (hT.stay hw v) hd (ae.bH v);dsimp only at B))
 cases r
 . have E:=aR (abE (D:=D) (i:=l) (d:=(dA.mk z y b g p d V)) (fun h=>by have:=hF.out.2 h;cases this));clear hF;go_wp2;go_ret2;exact⟨by rw[E.out];unfold xS;rw[E.out];rfl,M⟩
 have K:=aR (hF.out.1 rfl);clear hF q0 q1 q2 q3 q4 q5;have d3:=ue w3;have J3:=ad.out w3.drew;go_wp2_with fail
 go_region_held3 (fun q=>q.cell? (jj w.heap.size 0)=some (.i z)/\q.cell? (jj w.heap.size 1)=some (.i y)/\q.cell? (jj w.heap.size 2)=some (.i b)/\q.cell? (jj w.heap.size 3)=some (.i g)/\q.cell? (jj w.heap.size 4)=some (.i p)/\q.cell? (jj w.heap.size 5)=some (.l a d i)) (go_keep)
  (first
    | (go_at_call 103;(with_reducible refine J4.mono ?_);rintro e w5 ⟨⟨r,rfl,H⟩,Y⟩;have x:=S4.tr Y;have N5:=L.bH Y;obtain⟨j0,j1,j2,j3,j4,j5⟩:=N5.g;have s:=aR H;clear H)
    | (with_reducible refine J3.mono ?_
       rintro e w4 ⟨rfl,s4⟩;have T:=d3.tr s4;have S4:=M.tr T;have L:=I.bH T;obtain⟨j0,j1,j2,j3,j4,j5⟩:=L.g;have J4:=@akg z f F u lH z y b g p a d i l w4))
 cases r
 . have E:=aR (adt (D:=D) K.out (fun h=>by have:=s.out.2 (N.out.1 h);cases this));clear s K;go_wp2;go_ret2;exact⟨by rw[E.out];unfold xS;rw[E.out];rfl,x⟩
 have aa:=aR (show wH (dA.mk z y b g p d V) l from N.out.2 (s.out.1 rfl));clear s;have J5:=ab.out w5 x K.out aa.out;go_wp2_with fail;refine J5.mono ?_;rintro e w6 ⟨rfl,s6⟩;go_wp2;go_ret2;exact⟨rfl,x.tr s6⟩
theorem amP{a:Array Value}{b:Nat->Int}(J:Cl n a w fun e c=>e=.returned (.tuple #[.i z,.i y])/\w.S c)(F:D.Form)(G:wH D m)(h:gR b D=y/\(if y=0 then jy b D else 0)=z):Cl n a w fun e c=>e=.returned (.tuple #[.i (xS b m D),.i (ix b m D)])/\w.S c:=by
 unfold xS;rw[adu F G,h.1,h.2];exact J
theorem dmT{p:Prop}(h:p:=by
 refine amP J F G ?_;clear J;simp only[gR,jy,hx]
 (repeat' split)<;>simp_all<;>omega):p:=h
theorem alG{i:Nat->Int}(K:nP w m)(o:I64 D.op)(h:D.op<1∨7<D.op):
 Cl 58 #[.agg #[.i D.op,.i D.a,.i D.b,.i D.k,.i D.s,.slice a D.nv n],.slice A c d,.map (some m)] w fun e b=>e=.returned (.tuple #[.i (xS i c D),.i (ix i c D)])/\w.S b:=by
 have E:=aR (abE (D:=i) (i:=c) (d:=D) (fun f=>by have:=f.o1;have:=f.o7;omega));have g:=cV w (.o #[.i D.op,.i D.a,.i D.b,.i D.k,.i D.s,.l a D.nv n] 87);go_enter func58,ntmps58;go_wp2_with fail;generalize w.alloc _=s at*;refine (adG (K.bH g) h o).mono ?_;rintro e r ⟨rfl,p⟩;have j:=g.tr p;go_wp2_with fail;refine wp_region_held_drew (S:=fun _=>True) kr trivial (fun q=> ?_);refine vE 0 (some 16) (.bool false) rfl kr kr kr kr (fun _ _ _ h=>h) kr trivial ?_ ?_
 . intro b k;kernel_rfl
 simp only[ap,la,lz,ls];refine vE 1 (some 17) (.bool true) rfl kr kr kr kr (fun _ _ _ h=>h) kr trivial ?_ ?_
 . intro b k;kernel_rfl
 simp only[ap,la,lz,ls];refine vE 2 (some 18) (.bool true) rfl kr kr kr kr (fun _ _ _ h=>h) kr trivial ?_ ?_
 . intro b k;kernel_rfl
 simp only[ap,la,lz,ls];refine yn 3 (some 19) rfl kr kr kr kr (fun _ _ _ h=>h) kr trivial ?_;simp only[ap,la,lz,ls];refine yn 4 (some 20) rfl kr kr kr kr (fun _ _ _ h=>h) kr trivial ?_;simp only[ap,la,lz,ls];refine yn 5 (some 21) rfl kr kr kr kr (fun _ _ _ h=>h) kr trivial ?_;simp only[ap,la,lz,ls];refine yn 6 (some 22) rfl kr kr kr kr (fun _ _ _ h=>h) kr trivial ?_;simp only[ap,la,lz,ls];refine yn 7 (some 23) rfl kr kr kr kr (fun _ _ _ h=>h) kr trivial ?_;simp only[ap,la,lz,ls];refine vE 8 (some 24) (.bool true) rfl kr kr kr kr (fun _ _ _ h=>h) kr trivial ?_ ?_
 . intro b k;kernel_rfl
 simp only[ap,la,lz,ls];refine wpAnyH_done kr ?_ _;go_wp2;go_ret2;exact⟨by rw[E.out];unfold xS;rw[E.out];rfl,j.drew⟩
theorem acn{D:dA}{a:Option Addr}{n m c:Nat}{A:Option Addr}{bD d k:Nat}{r:Nat->Int}{w:World}(C:0<=w.heap.size)(B:xe w)(K:nP w c)(u:D.size<=1048576)(H:tW w n D a m)(y:Ints w A bD 0 d r)(T:Dok r d):
 Cl 58 #[.agg #[.i D.op,.i D.a,.i D.b,.i D.k,.i D.s,.slice a D.nv m],.slice A d k,.map (some c)] w fun e z=>e=.returned (.tuple #[.i (xS r d D),.i (ix r d D)])/\w.S z:=by
 by_cases h:D.op<1∨7<D.op
 . exact alG K H.iop h
 have I:D.op=1∨D.op=2∨D.op=3∨D.op=4∨D.op=5∨D.op=6∨D.op=7:=om;clear h;obtain⟨R,f,b,g,s,q,V⟩:=D;dsimp only at I;rcases I with rfl | rfl | rfl | rfl | rfl | rfl | rfl
 . refine vT 1 146 247 246 false true false (-1) f b g s q V a n m c A d k r w C B K u H (@agd c f b g s a q m) (aot 1 f b g s a q m) (tz (z:=1) rfl qd qd rfl rfl rfl (.inl ⟨rfl,rfl,by decide,by decide⟩)) Iff.rfl (fun z S F G=> ?_);obtain⟨j,t⟩:∃j:Nat,f=j:=⟨f.toNat,by have h:0<=f:=G.1;omega⟩;subst t;have o:j<d:=(by have h:(j:Int)<d:=G.2.1;omega);obtain⟨x,hx⟩:∃x,r j=x:=⟨_,rfl⟩;have l:=T j o;rw[hx] at l;have v:0<=g/\g<=1000:=(by have h:1<=g/\g<=1000:=F.k;omega);have E:q<=1048576:=(by have h:q+pi V q<=1048576:=u;omega);have J:=@dim1 1 b g s x j a q m A bD d k r z (y.bH S) o hx l.1 l.2 v.1 v.2 E;exact dmT
 . refine vT 2 148 250 249 false false false (0) f b g s q V a n m c A d k r w C B K u H (@agc c f b g s a q m) (aos 2 f b g s a q m) (tz (z:=2) rfl qd qd rfl rfl rfl (.inr (.inl ⟨rfl,rfl⟩))) Iff.rfl (fun z S F G=> ?_);obtain⟨j,t⟩:∃j:Nat,f=j:=⟨f.toNat,by have h:0<=f:=G.1;omega⟩;subst t;have o:j<d:=(by have h:(j:Int)<d:=G.2.1;omega);obtain⟨x,hx⟩:∃x,r j=x:=⟨_,rfl⟩;have l:=T j o;rw[hx] at l;have J:=@dim2 2 b g s x j a q m A bD d k r z (y.bH S) o hx l.1 l.2;exact dmT
 . refine vT 3 149 253 252 false false false (1) f b g s q V a n m c A d k r w C B K u H (@agb c f b g s a q m) (aor 3 f b g s a q m) (tz (z:=3) rfl qd qd rfl rfl rfl (.inr (.inr (.inl ⟨rfl,rfl⟩)))) Iff.rfl (fun z S F G=> ?_);obtain⟨j,t⟩:∃j:Nat,f=j:=⟨f.toNat,by have h:0<=f:=G.1;omega⟩;subst t;have o:j<d:=(by have h:(j:Int)<d:=G.2.1;omega);obtain⟨x,hx⟩:∃x,r j=x:=⟨_,rfl⟩;have l:=T j o;rw[hx] at l;have J:=@dim3 3 b g s x j a q m A bD d k r z (y.bH S) o hx l.1 l.2;exact dmT
 . refine vT 4 150 256 255 true false false (0) f b g s q V a n m c A d k r w C B K u H (@aga c f b g s a q m) (aoq 4 f b g s a q m) (tz (z:=4) rfl qd qd rfl rfl rfl (.inr (.inl ⟨rfl,rfl⟩))) Iff.rfl (fun z S F G=> ?_);obtain⟨j,t⟩:∃j:Nat,f=j:=⟨f.toNat,by have h:0<=f:=G.1;omega⟩;subst t;have o:j<d:=(by have h:(j:Int)<d:=G.2.1;omega);obtain⟨x,hx⟩:∃x,r j=x:=⟨_,rfl⟩;have l:=T j o;rw[hx] at l;obtain⟨i,P⟩:∃i:Nat,b=i:=⟨b.toNat,by have h:0<=b/\b<d:=G.2.2 rfl;omega⟩;subst P;have O:i<d:=(by have h:0<=(i:Int)/\(i:Int)<d:=G.2.2 rfl;omega);have J:=@dim4 4 (i:Int) g s x j a q m A bD d k r z (y.bH S) o hx l.1 l.2 i O rfl;exact dmT
 . refine vT 5 151 259 258 false true false (0) f b g s q V a n m c A d k r w C B K u H (@afZ c f b g s a q m) (aop 5 f b g s a q m) (tz (z:=5) rfl qd qd rfl rfl rfl (.inr (.inl ⟨rfl,rfl⟩))) Iff.rfl (fun z S F G=> ?_);obtain⟨j,t⟩:∃j:Nat,f=j:=⟨f.toNat,by have h:0<=f:=G.1;omega⟩;subst t;have o:j<d:=(by have h:(j:Int)<d:=G.2.1;omega);obtain⟨x,hx⟩:∃x,r j=x:=⟨_,rfl⟩;have l:=T j o;rw[hx] at l;have v:1<=g/\g<=1000:=F.k;have J:=@dim5 5 b g s x j a q m A bD d k r z (y.bH S) o hx l.1 l.2 v.1 v.2;exact dmT
 . refine vT 6 152 262 261 false true true (-1) f b g s q V a n m c A d k r w C B K u H (@afY c f b g s a q m) (aoo 6 f b g s a q m) (tz (z:=6) rfl qd qd rfl rfl rfl (.inl ⟨rfl,rfl,by decide,by decide⟩)) Iff.rfl (fun z S F G=> ?_);obtain⟨j,t⟩:∃j:Nat,f=j:=⟨f.toNat,by have h:0<=f:=G.1;omega⟩;subst t;have o:j<d:=(by have h:(j:Int)<d:=G.2.1;omega);obtain⟨x,hx⟩:∃x,r j=x:=⟨_,rfl⟩;have l:=T j o;rw[hx] at l;have v:1<=g/\g<=1000:=F.k;have L:1<=s/\s<=1000:=F.s;have E:q<=1048576:=(by have h:q+pi V q<=1048576:=u;omega);have J:=@dim6 6 b g s x j a q m A bD d k r z (y.bH S) o hx l.1 l.2 v.1 v.2 L.1 L.2 E;exact dmT
 . refine vT 7 153 265 264 false false false (4) f b g s q V a n m c A d k r w C B K u H (@afX c f b g s a q m) (aon 7 f b g s a q m) (tz (z:=7) rfl qd qd rfl rfl rfl (.inr (.inr (.inr ⟨rfl,rfl⟩)))) Iff.rfl (fun z S F G=> ?_);obtain⟨j,t⟩:∃j:Nat,f=j:=⟨f.toNat,by have h:0<=f:=G.1;omega⟩;subst t;have o:j<d:=(by have h:(j:Int)<d:=G.2.1;omega);obtain⟨x,hx⟩:∃x,r j=x:=⟨_,rfl⟩;have l:=T j o;rw[hx] at l;obtain⟨N,Q,-,M⟩:=(H.bH S).LV;have J:=@dim7 7 b g s x j a q m A bD d k r z (y.bH S) o hx l.1 l.2 n N Q V M (F.v7 rfl);exact dmT
def Bq(lo:Nat)(w:World)(t x y z:Value):Prop:=∃c,t=.pointer (some ⟨c,0,none⟩)/\lo<=c/\fZ w c x y z (.slice none 0 0)
theorem Bq.bH{lo:Nat}{w w':World}{y z:Value}(h:Bq lo w u U y z)(s:w.S w'):Bq lo w' u U y z:=by
 obtain⟨c,a,b,d⟩:=h;exact⟨c,a,b,d.bH s⟩
theorem Bq.marked{y z:Value}(h:Bq n w u U y z)(s:aV w v m)(g:u≠ .p m 0):Bq n v u U y z:=by
 obtain⟨c,a,b,f⟩:=h;exact⟨c,a,b,f.marked s (fun e=>g (by rw[a,e]))⟩
structure J8(wA:World)(f f':Bool)(A B A' B':Value)(l0 l1 l2 l3 l4 l5 l6 l7:Bool)(t5 t6 t7 t8 t9 t10:Value)(w:World):Prop where
 S:wA.Since wA.heap.size w
 h0:l0=true->t7=.agg #[.bool f,A,B]
 h1:l1=true->t8=.agg #[.bool f,A,B,.slice none 0 0]
 h2:l2=true->t9=.agg #[.bool f',A',B']
 h3:l3=true->t10=.agg #[.bool f',A',B',.slice none 0 0]
 h4:l4=true->l6=false->Bq wA.heap.size w t5 (.bool false) (.slice none 0 0) (.slice none 0 0)
 h5:l5=true->l7=false->Bq wA.heap.size w t6 (.bool false) (.slice none 0 0) (.slice none 0 0)
 h6:l6=true->Bq wA.heap.size w t5 (.bool f) A B
 h7:l7=true->Bq wA.heap.size w t6 (.bool f') A' B'
 ne:l4=true->l5=true->t5≠t6
 b5:l4=true->∃c,t5=.pointer (some ⟨c,0,none⟩)/\c<w.heap.size
 b6:l5=true->∃c,t6=.pointer (some ⟨c,0,none⟩)/\c<w.heap.size
section
variable{wA:World}{f f':Bool}{A B A' B':Value}{l0 l1 l2 l3 l4 l5 l6 l7:Bool}{t5 t6 t7 t8 t9 t10:Value}{w w':World}
theorem J8.grow(h:J8 wA f f' A B A' B' l0 l1 l2 l3 l4 l5 l6 l7 t5 t6 t7 t8 t9 t10 w)(s:w.S w'):J8 wA f f' A B A' B' l0 l1 l2 l3 l4 l5 l6 l7 t5 t6 t7 t8 t9 t10 w':=
 ⟨h.S.trans (ac9 s h.S.size),h.h0,h.h1,h.h2,h.h3,fun e a=>(h.h4 e a).bH s,fun e a=>(h.h5 e a).bH s,fun e=>(h.h6 e).bH s,fun e=>(h.h7 e).bH s,h.ne,
   fun e=>(by obtain⟨c,b,d⟩:=h.b5 e;exact⟨c,b,aS d s.size⟩),fun e=>(by obtain⟨c,b,d⟩:=h.b6 e;exact⟨c,b,aS d s.size⟩)⟩
theorem J8.start(w:World)(f F:Bool)(u U a b e g h i j d:Value):J8 w f F u U a b false false false false false false false false e g h i j d w:=
 ⟨.refl _ _,nofun,nofun,nofun,nofun,nofun,nofun,nofun,nofun,nofun,nofun,nofun⟩
theorem J8.op4(h:J8 wA f f' A B A' B' l0 l1 l2 l3 l4 l5 false l7 t5 t6 t7 t8 t9 t10 w)(a:TypeId):J8 wA f f' A B A' B' l0 l1 l2 l3 true l5 false l7 (.p w.heap.size 0) t6 t7 t8 t9 t10 (w.alloc (.cells #[.bool false,.n,.n,.n] a)):=
 have g:=h.grow (yD.alloc zR (.o #[.bool false,.n,.n,.n] a))
 { g with
  h4:=fun _ _=>⟨_,rfl,h.S.size,fZ.new _ _ _ _ _ _⟩
  h6:=nofun
  ne:=fun _ e k=>by
   obtain⟨c,b,d⟩:=h.b6 e;rw[b] at k;simp only[Value.pointer.injEq,Option.some.injEq,Addr.mk.injEq] at k;omega
  b5:=fun _=>⟨_,rfl,qz⟩ }
theorem J8.op5(h:J8 wA f f' A B A' B' l0 l1 l2 l3 l4 l5 l6 false t5 t6 t7 t8 t9 t10 w)(a:TypeId):J8 wA f f' A B A' B' l0 l1 l2 l3 l4 true l6 false t5 (.p w.heap.size 0) t7 t8 t9 t10 (w.alloc (.cells #[.bool false,.n,.n,.n] a)):=
 have g:=h.grow (yD.alloc zR (.o #[.bool false,.n,.n,.n] a))
 { g with
  h5:=fun _ _=>⟨_,rfl,h.S.size,fZ.new _ _ _ _ _ _⟩
  h7:=nofun
  ne:=fun e _ k=>by
   obtain⟨c,b,d⟩:=h.b5 e;rw[b] at k;simp only[Value.pointer.injEq,Option.some.injEq,Addr.mk.injEq] at k;omega
  b6:=fun _=>⟨_,rfl,qz⟩ }
theorem aV.put4(w:World)(n:Nat)(u U z a:Value):aV w ((((w.setCell ⟨n,0,none⟩ u).setCell ⟨n,1,none⟩ U).setCell ⟨n,2,none⟩ z).setCell ⟨n,3,none⟩ a) n:=
 ((((aV.refl w _).setCell 0 u).setCell 1 U).setCell 2 z).setCell 3 a
theorem J8.op6(h:J8 wA f f' A B A' B' l0 l1 l2 l3 true true false l7 t5 t6 t7 t8 t9 t10 w)(e:t5=.p n 0):J8 wA f f' A B A' B' l0 l1 l2 l3 true true true l7 t5 t6 t7 t8 t9 t10 ((((w.setCell ⟨n,0,none⟩ (.bool f)).setCell ⟨n,1,none⟩ A).setCell ⟨n,2,none⟩ B).setCell ⟨n,3,none⟩ (.n)):=by
 have M:=aV.put4 w n (.bool f) A B (.n);obtain⟨a,d,g,b⟩:=h.h4 rfl rfl;have:a=n:=by rw[e] at d;simp only[Value.pointer.injEq,Option.some.injEq,Addr.mk.injEq] at d;omega
 subst this;have i:t6≠ .p a 0:=fun k=>h.ne rfl rfl (by rw[e,k]);have j:((((w.setCell (jj a 0) (.bool f)).setCell (jj a 1) A).setCell (jj a 2) B).setCell (jj a 3) (.n)).heap.size=w.heap.size:=by simp
 exact⟨h.S.trans (M.since g),h.h0,h.h1,h.h2,h.h3,nofun,fun k l=>(h.h5 k l).marked M i,fun _=>⟨a,e,g,(((b.gH _).gM _).gZ _).rL _⟩,fun k=>(h.h7 k).marked M i,h.ne,by rw[j];exact h.b5,by rw[j];exact h.b6⟩
theorem J8.op7(h:J8 wA f f' A B A' B' l0 l1 l2 l3 true true true false t5 t6 t7 t8 t9 t10 w)(e:t6=.p n 0):J8 wA f f' A B A' B' l0 l1 l2 l3 true true true true t5 t6 t7 t8 t9 t10 ((((w.setCell ⟨n,0,none⟩ (.bool f')).setCell ⟨n,1,none⟩ A').setCell ⟨n,2,none⟩ B').setCell ⟨n,3,none⟩ (.n)):=by
 have M:=aV.put4 w n (.bool f') A' B' (.n);obtain⟨a,d,g,b⟩:=h.h5 rfl rfl;have:a=n:=by rw[e] at d;simp only[Value.pointer.injEq,Option.some.injEq,Addr.mk.injEq] at d;omega
 subst this;have j:t5≠ .p a 0:=fun k=>h.ne rfl rfl (by rw[e,k]);have i:((((w.setCell (jj a 0) (.bool f')).setCell (jj a 1) A').setCell (jj a 2) B').setCell (jj a 3) (.n)).heap.size=w.heap.size:=by simp
 exact⟨h.S.trans (M.since g),h.h0,h.h1,h.h2,h.h3,nofun,nofun,fun _=>(h.h6 rfl).marked M j,fun _=>⟨a,e,g,(((b.gH _).gM _).gZ _).rL _⟩,h.ne,by rw[i];exact h.b5,by rw[i];exact h.b6⟩
end
theorem abC{f F:Bool}{a A B W:Option Addr}{n m c d k i j l o b p q t r s g:Nat}{X Y Z u:Nat->Nat}{w:World}(hw:0<=w.heap.size)(hT:xe w)(hn:c+p+j+s<=16777216)
 (R:se w a A n m c d k i j l X Y)(z:se w B W o b p q t r s g Z u)(co:Nat.gcd (lv X c) (lv Y j)=1)(ay:Nat.gcd (lv Z p) (lv u s)=1):
 Cl 154 #[.agg #[.bool f,.slice a c d,.slice A j l],.agg #[.bool F,.slice B p q,.slice W s g]] w fun e w'=>∃av,e=.returned av/\
  pe w' av (gj f (!F) (lv X c*lv u s) (lv Z p*lv Y j)&&cH f (!F) (lv X c*lv u s) (lv Z p*lv Y j) != 0) (cH f (!F) (lv X c*lv u s) (lv Z p*lv Y j)/Nat.gcd (cH f (!F) (lv X c*lv u s) (lv Z p*lv Y j)) (lv Y j*lv u s)) (lv Y j*lv u s/Nat.gcd (cH f (!F) (lv X c*lv u s) (lv Z p*lv Y j)) (lv Y j*lv u s)) w.heap.size 16777218/\w.S w':=by
 have ax:=aR (xQ f (!F) co ay R.den);obtain⟨x,ag⟩:∃x,x=Nat.gcd (lv Y j) (lv u s):=⟨_,rfl⟩;have aj:0<x:=by rw[ag];exact Nat.gcd_pos_of_pos_left _ R.den
 have dY:lv Y j/x*x=lv Y j:=by rw[ag];exact Nat.div_mul_cancel (Nat.gcd_dvd_left _ _)
 have ak:lv u s/x*x=lv u s:=by rw[ag];exact Nat.div_mul_cancel (Nat.gcd_dvd_right _ _)
 rw[<-ag] at ax;have eP:lv X c*lv u s=lv X c*(lv u s/x)*x:=by rw[Nat.mul_assoc,ak]
 have eR:lv Z p*lv Y j=lv Z p*(lv Y j/x)*x:=by rw[Nat.mul_assoc,dY]
 have eD:lv Y j*lv u s=lv Y j*(lv u s/x)*x:=by rw[Nat.mul_assoc,ak]
 have az:0<lv Y j*(lv u s/x):=Nat.mul_pos R.den (by rcases Nat.eq_zero_or_pos (lv u s/x) with e | e;(have h2:=z.den;rw[e] at ak;omega);exact e);rw[eP,eR,eD,aaB _ _ _ _ _ aj,aaC _ _ _ _ _ aj,Nat.gcd_mul_right,Nat.mul_div_mul_right _ _ aj,Nat.mul_div_mul_right _ _ aj];have a3:∀ah:Nat,(ah*x != 0)=(ah != 0):=fun ah=>by
  rcases Nat.eq_zero_or_pos ah with e | e
  . subst e;simp
  . have h2:=Nat.mul_pos e aj;have h3:(ah*x != 0)=true:=bne_iff_ne.2 om;have h4:(ah != 0)=true:=bne_iff_ne.2 om;rw[h3,h4]
 rw[a3];have a8:=aR ag;have a7:=aR az;clear co ay ag dY ak eP eR eD a3 az;obtain⟨sA,zA,-,-,-⟩:=bx w (.bool f) (.l a c d) (.l A j l) (.bool F) (.l B p q) (.l W s g) (.bool false) (.n) (.n);have qA:cR (((w.alloc (.o #[.bool f,.l a c d,.l A j l] 83)).alloc (.o #[.bool F,.l B p q,.l W s g] 83)).alloc (.o #[.bool false,.n,.n] 83)) w.heap.size (.bool f) (.l a c d) (.l A j l):=((cR.new w _ _ _ _).bH (cV _ _)).bH (cV _ _);obtain⟨-,-,-,pA,rA⟩:=bx w (.bool f) (.l a c d) (.l A j l) (.bool F) (.l B p q) (.l W s g) (.bool false) (.n) (.n);have m1:=R.m0;have bh:=z.m0;go_enter func154,ntmps154;go_wp2_with fail;generalize ((w.alloc _).alloc _).alloc _=w1 at*;refine wp_region_any kr ?_;change wpAny _ _ _ _ _ _ _ (World.drew _);have dr:=ue w1;replace qA:=qA.bH dr;replace pA:=pA.bH dr;replace rA:=rA.bH dr;replace zA:w1.drew.heap.size=w.heap.size+1+1+1:=zA;replace sA:w.S w1.drew:=sA.tr dr;clear dr;generalize w1.drew=wD at*
 refine ym (fun ar an ac V=>∃G y H I v C D K P Q S T U O,an= #[G,y,H,I,v,C,D,K]/\ar=mm G y H I v C D K/\okl y I v C D K=true/\
  ac={ tmps:= #[.agg #[.bool f,.l a c d,.l A j l],.agg #[.bool F,.l B p q,.l W s g],.pointer (some { block:=w.heap.size,off:=0 }),.pointer (some { block:=w.heap.size+1,off:=0 }),.pointer (some { block:=w.heap.size+1+1,off:=0 }),P,Q,S,T,U,O,undef,undef,undef,undef,undef,undef,undef],defers:=[] }/\
  J8 wD f F (.l a c d) (.l A j l) (.l B p q) (.l W s g) G y H I v C D K P Q S T U O V) ?_ ?_ ?_ _ _ _ _ ⟨_,_,_,_,_,_,_,_,_,_,_,_,_,_,rfl,rfl,rfl,rfl,J8.start _ _ _ _ _ _ _ _ _ _ _ _ _⟩
 . rintro ar an ac V ⟨G,y,H,I,v,C,D,K,P,Q,S,T,U,O,rfl,M,N,rfl,h⟩ am hi;have E:rdy G y H I v C D K am=true:=by
    revert am;refine List.all_eq_true.1 ?_;revert N;clear M h;revert G y H I v C D K;exact of_decide_eq_true kr
   have ae:=sA.trans (sM h.S sA.size);have au:=qA.bH h.S;have bi:=pA.bH h.S;obtain⟨k0,k1,k2⟩:=au.g;obtain⟨k3,k4,k5⟩:=bi.g;clear hi;rcases am with _ | _ | _ | _ | _ | _ | _ | _ | am
   . simp[rdy] at E;subst E;refine⟨_,rfl,fun ad L=> ?_⟩;go_simp;refine L _ _ ⟨true,y,H,I,v,C,D,K,P,Q,_,T,U,O,rfl, ?_,N,rfl,{ h with h0:=fun _=>rfl }⟩;simp[mm] at M⊢;omega
   . simp[rdy] at E;obtain⟨⟨⟨rfl,rfl⟩,rfl⟩,rfl⟩:=E;have e:=h.h0 rfl;subst e;refine⟨_,rfl,fun ad L=> ?_⟩;go_simp;refine (iu om om R.nc R.mc (R.bH ae).LX (R.bH ae).LY R.pX R.pY).mono ?_;rintro e w' ⟨rfl,s'⟩;refine L _ _ ⟨true,true,H,false,v,C,false,K,P,Q,_,_,U,O,rfl, ?_, ?_,rfl,{ h.grow s' with h1:=fun _=>rfl }⟩
     . simp[mm] at M⊢;omega
     . simpa [okl] using N
   . simp[rdy] at E;subst E;refine⟨_,rfl,fun ad L=> ?_⟩;go_simp;refine L _ _ ⟨G,y,true,I,v,C,D,K,P,Q,S,T,_,O,rfl, ?_,N,rfl,{ h with h2:=fun _=>rfl }⟩;simp[mm] at M⊢;omega
   . simp[rdy] at E;obtain⟨⟨⟨rfl,rfl⟩,rfl⟩,rfl⟩:=E;have e:=h.h2 rfl;subst e;refine⟨_,rfl,fun ad L=> ?_⟩;go_simp;refine (iu om om z.nc z.mc (z.bH ae).LX (z.bH ae).LY z.pX z.pY).mono ?_;rintro e w' ⟨rfl,s'⟩;refine L _ _ ⟨G,true,true,true,v,C,D,false,P,Q,S,T,_,_,rfl, ?_, ?_,rfl,{ h.grow s' with h3:=fun _=>rfl }⟩
     . simp[mm] at M⊢;omega
     . revert N;cases D<;>cases v<;>cases C<;>decide
   . simp[rdy] at E;obtain⟨rfl,rfl⟩:=E;refine⟨_,rfl,fun ad L=> ?_⟩;go_simp;refine L _ _ ⟨G,y,H,I,true,C,false,K,_,Q,S,T,U,O,rfl, ?_, ?_,rfl,h.op4 140⟩
     . simp[mm] at M⊢;omega
     . simpa [okl] using N
   . simp[rdy] at E;obtain⟨rfl,rfl⟩:=E;refine⟨_,rfl,fun ad L=> ?_⟩;go_simp;refine L _ _ ⟨G,y,H,I,v,true,D,false,P,_,S,T,U,O,rfl, ?_, ?_,rfl,h.op5 140⟩
     . simp[mm] at M⊢;omega
     . revert N;cases D<;>cases v<;>cases y<;>cases I<;>decide
   . simp[rdy] at E;obtain⟨⟨⟨⟨rfl,rfl⟩,rfl⟩,rfl⟩,rfl⟩:=E;obtain⟨af,e5,hc,bq⟩:=h.h4 rfl rfl;have e8:=h.h1 rfl;subst e5 e8;obtain⟨c0,c1,c2,c3⟩:=bq.g;obtain⟨f0,f1,f2,f3⟩:=bq.k;refine⟨_,rfl,fun ad L=> ?_⟩;go_simp;refine L _ _ ⟨G,true,H,true,true,true,true,K,_,Q,S,_,U,O,rfl, ?_, ?_,rfl,h.op6 rfl⟩
     . simp[mm] at M⊢;omega
     . simp[okl]
   . simp[rdy] at E;obtain⟨⟨⟨rfl,rfl⟩,rfl⟩,rfl⟩:=E;have bg:v=true:=(by revert N;cases v<;>cases y<;>decide);subst bg;obtain⟨af,e5,hc,bq⟩:=h.h5 rfl rfl;have e8:=h.h3 rfl;subst e5 e8;obtain⟨c0,c1,c2,c3⟩:=bq.g;obtain⟨f0,f1,f2,f3⟩:=bq.k;refine⟨_,rfl,fun ad L=> ?_⟩;go_simp;refine L _ _ ⟨G,y,H,true,true,true,true,true,P,_,S,T,U,_,rfl, ?_, ?_,rfl,h.op7 rfl⟩
     . simp[mm] at M⊢;omega
     . simpa [okl] using N
   . cases E
 . rintro an ac V ⟨G,y,H,I,v,C,D,K,P,Q,S,T,U,O,rfl,M,N,rfl,h⟩;revert M;clear N h;revert G y H I v C D K;exact of_decide_eq_true kr
 . rintro ar an ac V ⟨G,y,H,I,v,C,D,K,P,Q,S,T,U,O,rfl,M,N,rfl,h⟩ he;have a0:(G&&(y&&(H&&(I&&(v&&(C&&(D&&K)))))))=true:=by
    revert he;clear M h;revert N;revert G y H I v C D K;exact of_decide_eq_true kr
   simp only[Bool.and_eq_true] at a0;obtain⟨rfl,rfl,rfl,rfl,rfl,rfl,rfl,rfl⟩:=a0;have ae:=h.S;have e1:=h.h0 rfl;have e2:=h.h1 rfl;have e3:=h.h2 rfl;have e4:=h.h3 rfl;obtain⟨af,e5,hc,Bf⟩:=h.h6 rfl;obtain⟨ai,e6,hd,Bg⟩:=h.h7 rfl;have bf:af≠ai:=fun e=>h.ne rfl rfl (by rw[e5,e6,e]);subst e1 e2 e3 e4 e5 e6;have r4:=rA.bH ae;have S4:=sA.tr ae;have lX:0<c->n<w.heap.size:=R.LX.lt;have lY:0<j->k<w.heap.size:=R.LY.lt;have a4:0<p->o<w.heap.size:=z.LX.lt;have a5:0<s->t<w.heap.size:=z.LY.lt;clear he N M h qA pA rA;have ab:aV V (V.setCell (jj ai 0) (.bool (!F))) ai:=(aV.refl V _).setCell 0 (.bool (!F));have bj:=Bg.gH (.bool (!F));have aw:=Bf.marked ab bf;have r5:=r4.marked ab om;have S5:w.S (V.setCell (jj ai 0) (.bool (!F))):=S4.trans (ab.since om);have g0:=Bg.c0;have bc:=Bg.f 0;have g1:=Bg.c1;have g2:=Bg.c2;have g3:=Bg.c3;go_wp2_with fail;generalize V.setCell (jj ai 0) (.bool (!F))=w4 at*;have R4:=R.bH S5;have aq:=z.bH S5;clear g0 g1 g2 g3 bc ab r4
   refine (@acg af f (!F) a A B W n m c d k i j l o b p q t r s g X Y Z u w4 hn m1 bh R4.LX R4.LY aq.LX aq.LY R.lX R.lY z.lX z.lY
    (fun aa=>by have:=lX aa;omega) (fun aa=>by have:=lY aa;omega) (fun aa=>by have:=a4 aa;omega) (fun aa=>by have:=a5 aa;omega) R.pY z.pY R.mc z.mc R.bc z.bc R.den z.den _ _ aw).mono ?_
   rw[<-a8.out];rintro e w5 ⟨rfl,v1,v2,v3,bd,aa,au,c5,K5,N5,D5,b5,b6,b7,b8,b9,O5⟩;have bm:=aw.lt;have r6:=r5.rD O5 om;have S6:=S5.trans (sM (O5.since om) (show w.heap.size<=af by omega));have T5:=hT.stay hw S6;clear R4 aq R z lX lY a4 a5;have h4:=S5.size;go_wp2_with fail;refine (@rh af _ v1 v2 v3 bd aa au _ _ _ (w.heap.size+1+1+1) w5 (Nat.zero_le _) T5 c5 N5 D5 K5 ax.out b7 b8 b9 om om om om om om a7.out).mono ?_;rintro e w6 ⟨av,rfl,⟨x1,x2,g6,h6,rfl,N6,D6,y1,y2,y3⟩,s6⟩;have rB:=r6.since s6 om;have a9:=N6;have a6:=D6;obtain⟨a1,q1,c1,Y1,rfl,-⟩:=N6;obtain⟨a2,q2,c2,Y2,rfl,-⟩:=D6;have S7:=S6.trans (sM s6 om);obtain⟨u0,u1,u2⟩:=rB.g;obtain⟨bn,bo,bp⟩:=rB.k;obtain⟨ao,al⟩:∃ao,(gj f (!F) (lv X c*(lv u s/x)) (lv Z p*(lv Y j/x))&&cH f (!F) (lv X c*(lv u s/x)) (lv Z p*(lv Y j/x)) != 0)=ao:=⟨_,rfl⟩;rw[al];have al:=aR al;go_wp2;have rC:=((rB.gH (.bool ao)).gM (.l a1 q1 c1)).gZ (.l a2 q2 c2);refine bodyPost_ret (re rfl _ _ _ _ _ _ rfl rC) rfl ?_;have ab:aV w6 _ (w.heap.size+1+1):=(((aV.refl w6 _).setCell 0 (.bool ao)).setCell 1 (.l a1 q1 c1)).setCell 2 (.l a2 q2 c2);exact⟨_,rfl,⟨_,_,g6,h6,by rw[al.out],a9.marked ab om,a6.marked ab om,om,om,y3⟩,S7.trans (ab.since om)⟩
theorem aoh(Q q:Rat):qn (Q-q)=(gj (qn Q) (!qn q) (Q.num.natAbs*q.den) (q.num.natAbs*Q.den)&&cH (qn Q) (!qn q) (Q.num.natAbs*q.den) (q.num.natAbs*Q.den) != 0)/\
 (Q-q).num.natAbs=cH (qn Q) (!qn q) (Q.num.natAbs*q.den) (q.num.natAbs*Q.den)/Nat.gcd (cH (qn Q) (!qn q) (Q.num.natAbs*q.den) (q.num.natAbs*Q.den)) (Q.den*q.den)/\
 (Q-q).den=Q.den*q.den/Nat.gcd (cH (qn Q) (!qn q) (Q.num.natAbs*q.den) (q.num.natAbs*Q.den)) (Q.den*q.den):=by
 have h:=bZ Q (-q);rw[<-gQ,qM,Rat.neg_den,qP] at h;by_cases a:q.num.natAbs=0
 . have e:q.num=0:=om;have b:qn (-q)=false:=(by unfold qn;rw[qM,e];rfl);have c:qn q=false:=(by unfold qn;rw[e];rfl);rw[b,a,iT] at h;rw[c,a,iT];have t:cH (qn Q) (!false) (Q.num.natAbs*q.den) 0=cH (qn Q) false (Q.num.natAbs*q.den) 0:=(by cases qn Q<;>simp[cH]);have u:gj (qn Q) (!false) (Q.num.natAbs*q.den) 0=gj (qn Q) false (Q.num.natAbs*q.den) 0:=(by cases qn Q<;>simp[gj]);rw[t,u];exact h
 . have e:qn (-q)= !qn q:=by
    unfold qn;rw[qM];by_cases k:q.num<0
    . simp[k];omega
    . simp[k];omega
   rw[e] at h;exact h
theorem pp{q:Rat}(O:0<=w.heap.size)(N:xe w)(j:Qb Q n)(o:Qb q m)(W:2*n+2*m<=16777216)(R:mH w u Q)(c:mH w U q):
 Cl 154 #[u,U] w fun e l=>∃k,e=.returned k/\fJ l (fun g=>w.heap.size<=g) k (Q-q)/\w.S l:=by
 obtain⟨a,Z,F,b,v,H,B,S,D,r,X,Y,rfl,R,d,f⟩:=R;obtain⟨z,p,G,A,P,I,C,T,E,V,x,y,rfl,c,h,i⟩:=c;have aa:=gc R.pX (by rw[d];exact j.1);have n2:=gc R.pY (by rw[f];exact j.2);have n3:=gc c.pX (by rw[h];exact o.1);have n4:=gc c.pY (by rw[i];exact o.2);have J:=@abC (qn Q) (qn q) a b z A B S Z F D r v H C T p G E V P I X Y x y w O N om R c (by rw[d,f];exact Q.reduced) (by rw[h,i];exact q.reduced);obtain⟨K,L,M⟩:=aoh Q q;rw[d,f,h,i,<-K,<-L,<-M] at J;refine J.mono ?_;rintro e l ⟨k,rfl,t,s⟩;exact⟨k,rfl,t.rp,s⟩
theorem akd(x y:Addr)(H:c<=16777216)(F:j<=16777216)(I:c<=d)(G:j<=l)(D:bE w (some x) n m c X)(E:bE w (some y) k i j Y):
 Cl 161 #[.agg #[.bool f,.slice (some x) c d,.slice (some y) j l]] w fun e Z=>∃a b g h B C,e=.returned (.agg #[.bool f,.slice b j C,.slice a c B])/\c<=B/\j<=C/\(a=none->B=0)/\(b=none->C=0)/\
  bE Z a g 0 c X/\bE Z b h 0 j Y/\w.heap.size<=g/\g<h/\h<Z.heap.size/\w.S Z:=by
 have p:w.S ((w.alloc (.cells #[.bool f,.slice (some x) c d,.slice (some y) j l] 83)).alloc yJ):=(cV _ _).alloc qz _;have q:cR ((w.alloc (.cells #[.bool f,.slice (some x) c d,.slice (some y) j l] 83)).alloc yJ) (w.heap.size+1) (.bool false) (.n) (.n):=by have:=cR.new (w.alloc (.cells #[.bool f,.slice (some x) c d,.slice (some y) j l] 83)) (.bool false) (.n) (.n) 83;simpa using this
 go_enter func161,ntmps161;go_wp2_with fail;generalize (w.alloc _).alloc _=w1 at*;refine (dm x y H F I G (D.bH p) (E.bH p)).mono ?_;rintro e P ⟨a,b,g,h,B,C,rfl,K,L,N,O,u,v,-,-,T,U,V,r⟩;have z:=p.tr r;have z1:=q.lt;have Q:=cV P (.cells #[.bool f,.slice a c B,.slice b j C] 83);have R:=cR.new P (.bool f) (.slice a c B) (.slice b j C) 83;have o:=(q.bH r).bH Q;obtain⟨ad,k1,k2⟩:=R.g;obtain⟨u0,u1,u2⟩:=o.g;obtain⟨aa,ab,ac⟩:=o.k;have A:=z.tr Q;have s:(P.alloc (.cells #[.bool f,.slice a c B,.slice b j C] 83)).heap.size=P.heap.size+1:=by simp
 have t:=aR s;clear s;go_wp2;have S:=((o.gH (.bool f)).gM (.slice b j C)).gZ (.slice a c B);have M:aV (P.alloc (.cells #[.bool f,.slice a c B,.slice b j C] 83)) _ (w.heap.size+1):=(((aV.refl (P.alloc (.cells #[.bool f,.slice a c B,.slice b j C] 83)) _).setCell 0 (.bool f)).setCell 1 (.slice b j C)).setCell 2 (.slice a c B);refine bO (re rfl _ _ _ _ _ _ rfl S) rfl ?_;have W:=t.out;have zM:=M.size;exact⟨a,b,g,h,B,C,rfl,K,L,N,O,(u.bH Q).marked M (fun _=>by omega),(v.bH Q).marked M (fun _=>by omega),om,om,om,A.trans (M.since om)⟩
theorem dw(Q:Rat):qn (-Q)=(!qn Q&&decide (0<Q.num.natAbs)):=by
 unfold qn;rw[qM];by_cases h:Q.num<0
 . have d:¬0<Q.num:=om;simp[h];omega
 . by_cases a:Q.num=0
   . simp[a]
   . have b:0<Q.num:=om;have c:0<Q.num.natAbs:=om;simp[h,c,b]
theorem uo{q:Rat}(x:Qb Q n)(y:Qb q m)(l:2*n+2*m<=16777216)(R:mH w u Q)(c:mH w U q):
 Cl 52 #[u,U] w fun e k=>∃b,e=.returned b/\fJ k (fun g=>w.heap.size<=g) b (Q-q)/\w.S k:=by
 obtain⟨a,ae,M,ac,ad,O,H,Z,K,ob,X,Y,rfl,R,f,i⟩:=R;obtain⟨F,z,N,G,S,P,I,v,L,A,D,E,rfl,c,d,j⟩:=c;have T:=gc R.pX (by rw[f];exact x.1);have p:=gc R.pY (by rw[i];exact x.2);have V:=gc c.pX (by rw[d];exact y.1);have W:=gc c.pY (by rw[j];exact y.2);have J:=aeo om R c (R.ok f i) (c.ok d j);have C:(!qn q&&decide (0<z))=qn (-q):=by
  rw[dw];have h:=jr c.pX;rw[d] at h;have:decide (0<z)=decide (0<q.num.natAbs):=by rw[tL];omega
  rw[this]
 obtain⟨o,r,t⟩:=bZ Q (-q);rw[<-gQ,qM,Rat.neg_den,qP] at o r t;rw[C,f,i,d,j,<-o,<-r,<-t] at J;refine J.mono ?_;rintro e k ⟨b,rfl,B,s⟩;exact⟨b,rfl,B.rp,s⟩
theorem amH(f:Qb Q n)(M:n<=4194304)(d:Q.num.natAbs≠0)(R:mH w u Q):
 Cl 161 #[u] w fun e q=>∃v,e=.returned v/\fJ q (fun g=>w.heap.size<=g) v Q⁻¹ /\w.S q:=by
 obtain⟨a,k,K,b,m,L,H,S,I,T,X,Y,rfl,R,c,j⟩:=R;have P:=gc R.pX (by rw[c];exact f.1);have U:=gc R.pY (by rw[j];exact f.2);have i:0<k:=by
  rcases cQ k with e | e
  . exact absurd ((jr R.pX).1 e) (by rw[c];exact d)
  . exact e
 have B:=(R.LX 0 i).1;have eb:=(R.LY 0 R.m0).1;subst B eb;obtain⟨y,z,A⟩:=e8 Q d;refine (akd _ _ om om R.nc R.mc R.LX R.LY).mono ?_;rintro e q ⟨p,r,g,h,t,x,rfl,C,D,E,F,l,o,G,N,O,s⟩;exact⟨_,rfl,⟨r,m,x,p,k,t,h,0,g,0,Y,X,by rw[y],⟨D,C,F,E,o,l,R.lY,R.lX,R.pY,R.pX,i⟩,by rw[z];exact j,by rw[A];exact c,fun _=>by omega,fun _=>G⟩,s⟩
theorem dQ.part{Q:Nat->Rat}(h:dQ w P a n m c Q){F:Nat}(d:F+k<=c):dQ w P (jp n (m+F*3)) n (m+F*3) k (fun t=>Q (F+t)):=fun i b=>by
 obtain⟨-,x,y,C⟩:=h (F+i) om;refine⟨rfl,x,y, ?_⟩;rw[show m+F*3+i*3=m+(F+i)*3 by omega];exact C
theorem Qb.neg(h:Qb Q n):Qb (-Q) n:=⟨by rw[qM,qP];exact h.1,by rw[Rat.neg_den];exact h.2⟩
theorem Qb.sub{q:Rat}(h:Qb Q n)(a:Qb q m):Qb (Q-q) (n+m+1):=by rw[gQ];exact h.add a.neg
def InP(x a b:Int):Prop:=a<=x/\x<=b
theorem rv{z y b:Int}{w:World}:Cl 40 #[.i z,.i y,.i b] w fun e c=>pL e (InP z y b)/\c=w:=by
 by_cases h:y<=z
 . by_cases d:z<=b
   . go_enter func40,ntmps40;go_wp2;go_ret;exact⟨⟨_,rfl,by unfold InP;simp<;>omega⟩,rfl⟩
   . go_enter func40,ntmps40;go_wp2;go_ret;exact⟨⟨_,rfl,by unfold InP;simp<;>omega⟩,rfl⟩
 . go_enter func40,ntmps40;go_wp2;go_ret;exact⟨⟨_,rfl,by unfold InP;simp<;>omega⟩,rfl⟩
theorem ag5:Cl 129 #[.i z] w fun e c=>pL e (av z=true)/\c=w:=by
 by_cases a:z=1
 . subst a;go_enter func129,ntmps129;go_wp2;go_ret;exact⟨⟨true,rfl,by decide⟩,rfl⟩
 by_cases b:z=5
 . subst b;go_enter func129,ntmps129;go_wp2;go_ret;exact⟨⟨true,rfl,by decide⟩,rfl⟩
 go_enter func129,ntmps129;go_wp2;go_ret;exact⟨⟨_,rfl,by unfold av;simp<;>omega⟩,rfl⟩
theorem ag4:Cl 130 #[.i z] w fun e a=>pL e (ar z=true)/\a=w:=by
 go_enter func130,ntmps130;go_wp2;go_ret;exact⟨⟨_,rfl,by unfold ar;simp<;>omega⟩,rfl⟩
theorem ag3q:Cl 131 #[.i z] w fun e d=>pL e (xu z=true)/\d=w:=by
 by_cases a:z=1
 . subst a;go_enter func131,ntmps131;go_wp2;go_ret;exact⟨⟨true,rfl,by decide⟩,rfl⟩
 by_cases b:z=3
 . subst b;go_enter func131,ntmps131;go_wp2;go_ret;exact⟨⟨true,rfl,by decide⟩,rfl⟩
 by_cases c:z=6
 . subst c;go_enter func131,ntmps131;go_wp2;go_ret;exact⟨⟨true,rfl,by decide⟩,rfl⟩
 go_enter func131,ntmps131;go_wp2;go_ret;exact⟨⟨_,rfl,by unfold xu;simp<;>omega⟩,rfl⟩
theorem ag6:Cl 80 #[.i z] w fun e a=>pL e (u9 z=true)/\a=w:=by
 go_enter func80,ntmps80;go_wp2;go_ret;exact⟨⟨_,rfl,by unfold u9;simp<;>omega⟩,rfl⟩
theorem vZ{a:Array Value}(H:Cl n a w fun e c=>pL e (f=true)/\c=w)(h:f=F):Cl n a w fun e c=>e=.returned (.bool F)/\c=w:=
 H.mono (by
  rintro e c ⟨⟨r,rfl,d⟩,rfl⟩;subst h;refine⟨?_,rfl⟩;cases r<;>cases f<;>simp_all)
theorem ahW{z:Int}{f:Bool}{w:World}(h:av z=f):Cl 129 #[.i z] w fun e a=>e=.returned (.bool f)/\a=w:=vZ (ag5) h
theorem ahV{z:Int}{f:Bool}{w:World}(h:ar z=f):Cl 130 #[.i z] w fun e a=>e=.returned (.bool f)/\a=w:=vZ (ag4) h
theorem ahU{z:Int}{f:Bool}{w:World}(h:xu z=f):Cl 131 #[.i z] w fun e a=>e=.returned (.bool f)/\a=w:=vZ (ag3q) h
theorem adg{z:Int}{f:Bool}{w:World}(h:u9 z=f):Cl 80 #[.i z] w fun e a=>e=.returned (.bool f)/\a=w:=vZ (ag6) h
def Vn(c z:Int)(m nv:Nat):Prop:=z=c->nv=m
theorem akG(h:wg z f):(z != 0)=f:=by
 cases f<;>simp[wg] at h<;>simp<;>omega
theorem ai9(h:wg z f):InP z 0 1000:=by
 cases f<;>simp[wg] at h<;>exact⟨om,om⟩
theorem ai8(h:InP z 0 1000)(e:(z != 0)=f):wg z f:=by
 obtain⟨b,c⟩:=h;subst e;by_cases a:z=0
 . subst a;simp[wg]
 . simp[wg,a];omega
theorem fkN{p:Prop}(h:p:=by
 go_wp2;go_ret;exact⟨⟨false,rfl,by simp only[gX,oU];exact NF.out⟩,SD⟩):p:=h
theorem fkM2{p:Prop}(h:p:=by
 clear m1;refine vC 6 13 ?_;refine vC 7 14 ?_;refine sk 8 15 ?_;simp only[ap,la,lz,ls];refine sk 9 16 ?_;simp only[ap,la,lz,ls];refine sk 10 17 ?_;simp only[ap,la,lz,ls];refine sk 11 18 ?_;simp only[ap,la,lz,ls];refine sk 12 19 ?_;simp only[ap,la,lz,ls];refine sk 13 20 ?_;simp only[ap,la,lz,ls];refine sk 14 21 ?_;simp only[ap,la,lz,ls];refine vC 15 22 ?_;refine wpAnyH_done kr ?_ _;exact fkN):p:=h
theorem fkM{p:Prop}(h:p:=by
 go_wp2_with fail;refine wp_region_held_drew (S:=fun w'=>w'.cell? (jj w.heap.size 0)=some (.i z)/\w'.cell? (jj w.heap.size 3)=some (.i v3)) kr ⟨p0,p3⟩ (fun hHeld=> ?_);refine vC 0 7 ?_;refine ta 1 8 (.i z) ?_ ?_
 . intro w' hSw;try dsimp only at hSw
   go_simp
 simp only[ap,la,lz,ls];refine vC 3 10 ?_;refine ta 4 11 (.i v3) ?_ ?_
 . intro w' hSw;try dsimp only at hSw
   go_simp
 simp only[ap,la,lz,ls];refine ta 5 12 (.bool kb) ?_ ?_
 . intro w' hSw;try dsimp only at hSw
   go_simp
 simp only[ap,la,lz,ls];refine rkH 2 fun K hK=> ?_;go_simp;go_wp2_with (go_at_call 129;with_reducible refine JK.mono ?_;rintro e w2 ⟨rfl,rfl⟩);refine hK.out _ _ ⟨p0,p3⟩ (fun h1=> ?_);clear hK K hHeld;cases uk<;>cases kb<;>first | exact absurd rfl m1 | exact fkM2):p:=h
theorem fkS{p:Prop}(h:p:=by
 go_wp2_with fail
 go_region_held3 (fun w'=>w'.cell? (jj w.heap.size 0)=some (.i z)/\w'.cell? (jj w.heap.size 3)=some (.i v3)/\w'.cell? (jj w.heap.size 4)=some (.i v4)) (go_keep)
  (first
    | (go_at_call 129;(with_reducible refine JK.mono ?_);rintro e w2 ⟨rfl,rfl⟩)
    | (go_at_call 130;(with_reducible refine JS.mono ?_);rintro e w2 ⟨rfl,rfl⟩))
 exact fkN):p:=h
theorem fkL{p:Prop}(h:p:=by
 have JA:=@xK a1 lo bV oV nv k1 V wA.drew om om (LV.bH NN);go_wp2_with fail;refine JA.mono ?_;rintro e w3 ⟨r,rfl,hr,s3⟩;have HR:=aR hr;clear hr;go_wp2;go_ret;exact⟨⟨r,rfl,HR.out.trans ⟨fun h=>⟨I0.out.1,I0.out.2,ai8 IK.out (HK.out.trans EK.out.symm),ai8 IS.out (HS.out.trans ES.out.symm),HB.out,HV.out,H3.out,H7.out,h⟩,fun f=>f.ok⟩⟩,SD.trans (sM s3 SD.size)⟩):p:=h
theorem fkV{p:Prop}(h:p:=by
 obtain⟨uv,ev⟩:∃x,xu z=x:=⟨_,rfl⟩;have JV:=@ahU z uv wA.drew ev;have EV:=aR ev;clear ev;go_wp2_with fail;refine JV.mono ?_;rintro e w2 ⟨rfl,rfl⟩;clear JV;cases uv
 . have h3:¬z=3:=fun e=>by have:=EV.out;rw[e] at this;cases this
   have h7:¬z=7:=fun e=>by have:=EV.out;rw[e] at this;cases this
   have H3:=aR (show Vn 3 z 1 nv from fun e=>absurd e h3);have H7:=aR (show Vn 7 z 4 nv from fun e=>absurd e h7);by_cases hv:nv=0
   . have HV:=aR (show xu z=false->nv=0 from fun _=>hv);have vq:((nv:Int) != 0)=false:=(by simp;omega);clear hv;exact fkL
   . have vq:((nv:Int) != 0)=true:=(by simp;omega);have NF:=aR (show ¬(dA.mk z v1 v2 v3 v4 nv V).Form from fun f=>hv (f.v EV.out));clear hv;exact fkN
 . have HV:=aR (show xu z=false->nv=0 from fun e=>by rw[EV.out] at e;cases e);by_cases h3:z=3
   . subst h3;have H7:=aR (show Vn 7 3 4 nv from fun e=>by cases e);by_cases hv:nv=1
     . have H3:=aR (show Vn 3 3 1 nv from fun _=>hv);have vq:((nv:Int) != 1)=false:=(by simp;omega);clear hv;exact fkL
     . have vq:((nv:Int) != 1)=true:=(by simp;omega);have NF:=aR (show ¬(dA.mk 3 v1 v2 v3 v4 nv V).Form from fun f=>hv (f.v3 rfl));clear hv;exact fkN
   have H3:=aR (show Vn 3 z 1 nv from fun e=>absurd e h3);by_cases h7:z=7
   . subst h7;by_cases hv:nv=4
     . have H7:=aR (show Vn 7 7 4 nv from fun _=>hv);have vq:((nv:Int) != 4)=false:=(by simp;omega);clear hv;exact fkL
     . have vq:((nv:Int) != 4)=true:=(by simp;omega);have NF:=aR (show ¬(dA.mk 7 v1 v2 v3 v4 nv V).Form from fun f=>hv (f.v7 rfl));clear hv;exact fkN
   have H7:=aR (show Vn 7 z 4 nv from fun e=>absurd e h7);exact fkL):p:=h
theorem fkR{p:Prop}(h:p:=by
 go_wp2_with fail
 go_region_held3 (fun w'=>w'.cell? (jj w.heap.size 0)=some (.i z)/\w'.cell? (jj w.heap.size 3)=some (.i v3)/\w'.cell? (jj w.heap.size 4)=some (.i v4)) (go_keep)
  (first
    | (go_at_call 129;(with_reducible refine JK.mono ?_);rintro e w2 ⟨rfl,rfl⟩)
    | (go_at_call 130;(with_reducible refine JS.mono ?_);rintro e w2 ⟨rfl,rfl⟩))
 clear q0 q1 q2 q3 q4 q5 JK JS hk hs;go_wp2_with fail;refine (@rv v3 0 1000 wA.drew).mono ?_;rintro e w2 ⟨⟨r,rfl,hr⟩,rfl⟩;cases r
 . have NF:=aR (show ¬(dA.mk z v1 v2 v3 v4 nv V).Form from fun f=>absurd (hr.2 (ai9 f.k)) qz);clear hr;exact fkN
 have IK:=aR (hr.1 rfl);clear hr;go_wp2_with fail;refine (@rv v4 0 1000 wA.drew).mono ?_;rintro e w2 ⟨⟨r,rfl,hr⟩,rfl⟩;cases r
 . have NF:=aR (show ¬(dA.mk z v1 v2 v3 v4 nv V).Form from fun f=>absurd (hr.2 (ai9 f.s)) qz);clear hr;exact fkN
 have IS:=aR (hr.1 rfl);clear hr;obtain⟨ub,eb⟩:∃x,u9 z=x:=⟨_,rfl⟩;have JB:=@adg z ub wA.drew eb;have EB:=aR eb;clear eb;go_wp2_with fail;refine JB.mono ?_;rintro e w2 ⟨rfl,rfl⟩;clear JB;cases ub
 . by_cases hb:v2=0
   . have bq:(v2 != 0)=false:=(by simp[hb]);have HB:=aR (show u9 z=false->v2=0 from fun _=>hb);clear hb;exact fkV
   . have bq:(v2 != 0)=true:=(by simp[hb]);have NF:=aR (show ¬(dA.mk z v1 v2 v3 v4 nv V).Form from fun f=>hb (f.b EB.out));clear hb;exact fkN
 . have HB:=aR (show u9 z=false->v2=0 from fun e=>by rw[EB.out] at e;cases e);exact fkV):p:=h
theorem aeW{a1:Option Addr}{lo k1:Nat}(l:D.size<=1048576)(H:tW w lo D a1 k1):
 Cl 79 #[.agg #[.i D.op,.i D.a,.i D.b,.i D.k,.i D.s,.slice a1 D.nv k1]] w fun e w'=>pL e D.Form/\w.S w':=by
 obtain⟨z,v1,v2,v3,v4,nv,V⟩:=D;dsimp only;have C:nv+pi V nv<=1048576:=l;have j:=cV w (.o #[.i z,.i v1,.i v2,.i v3,.i v4,.l a1 nv k1] 87);have n:=dL.new w (.i z) (.i v1) (.i v2) (.i v3) (.i v4) (.l a1 nv k1) 87;obtain⟨bV,oV,-,LV⟩:=(H.bH j).LV;dsimp only at LV;clear H l;go_enter func79,ntmps79;go_wp2_with fail;generalize w.alloc _=wA at*;refine (rv).mono ?_;rintro e d ⟨⟨r,rfl,hr⟩,m⟩;have q:=m.symm;clear m;subst q;cases r
 . have NF:=aR (show ¬(dA.mk z v1 v2 v3 v4 nv V).Form from fun f=>absurd (hr.2 ⟨f.o1,f.o7⟩) qz);have SD:=j;clear hr;exact fkN
 have I0:=aR (hr.1 rfl);clear hr;obtain⟨q0,q1,q2,q3,q4,q5⟩:=n.g;have NN:=ue wA;have t:=n.bH NN;obtain⟨p0,u,y,p3,A,B⟩:=t.g;have SD:=j.tr NN;obtain⟨uk,g⟩:∃x,av z=x:=⟨_,rfl⟩;obtain⟨c,i⟩:∃x,ar z=x:=⟨_,rfl⟩;have JK:=@ahW z uk wA.drew g;have JS:=@ahV z c wA.drew i;have EK:=aR g;have ES:=aR i;clear g i;obtain⟨kb,hk⟩:∃x,(v3 != 0)=x:=⟨_,rfl⟩;obtain⟨o,hs⟩:∃x,(v4 != 0)=x:=⟨_,rfl⟩;have HK:=aR hk;have HS:=aR hs;by_cases m1:uk=kb
 case neg=>have NF:=aR (show ¬(dA.mk z v1 v2 v3 v4 nv V).Form from fun f=>m1 (by rw[<-EK.out,<-HK.out];exact (akG f.k).symm));exact fkM
 subst m1;by_cases a:c=o
 case neg=>have NF:=aR (show ¬(dA.mk z v1 v2 v3 v4 nv V).Form from fun f=>a (by rw[<-ES.out,<-HS.out];exact (akG f.s).symm));cases uk<;>cases c<;>cases o<;>first | exact absurd rfl a | (clear a;exact fkS)
 subst a;cases uk<;>cases c<;>exact fkR
theorem nkE{p:Prop}(h:p:=by
 go_wp2;go_ret;exact⟨gL E.out.symm,S3⟩):p:=h
theorem nkD{p:Prop}(h:p:=by
 have HE:=aR (adu (D:=D) F.out G.out);obtain⟨j,hj⟩:∃j:Nat,v1=j:=⟨v1.toNat,by have h:0<=v1/\v1<=i:=IA.out;omega⟩;subst hj;have hjn:j<i+1:=by have h:0<=(j:Int)/\(j:Int)<=i:=IA.out;omega
 obtain⟨x,hx⟩:∃x,D j=x:=⟨_,rfl⟩;have hDj:=hD j hjn;rw[hx] at hDj;obtain⟨ed,gx⟩:=(HD.bH S3) j hjn;rw[aZ,hx] at gx;subst ed;have hz2:(j:Int)<((i+1:Nat):Int):=om;have hc:op=1∨op=2∨op=3∨op=4∨op=5∨op=6∨op=7:=by have h1:1<=op:=F.out.o1;have h7:op<=7:=F.out.o7;omega
 rcases hc with rfl | rfl | rfl | rfl | rfl | rfl | rfl
 . have hk:0<=v3/\v3<=1000:=(by have h:1<=v3/\v3<=1000:=F.out.k;omega);have hv:nv<=1048576:=(by have h:nv+pi V nv<=1048576:=hd;omega);have y0:0<=v3*(x+1):=tF hk.1 om;have y1:v3*(x+1)<=1000*1001:=Int.mul_le_mul hk.2 om om om;obtain⟨y,hy⟩:∃y,v3*(x+1)=y:=⟨_,rfl⟩;rw[hy] at y0 y1;by_cases h:(nv:Int)=y
   . have E:=aR (HE.out.trans (c:=0) (by simp[gR,hx,hy,h]));have tq:((nv:Int) != y)=false:=(by simp[h]);clear h;exact nkE
   . have E:=aR (HE.out.trans (c:=14) (by simp[gR,hx,hy,h]));have tq:((nv:Int) != y)=true:=(by simp[h]);clear h;exact nkE
 . have E:=aR (HE.out.trans (c:=0) (by simp[gR]));exact nkE
 . have E:=aR (HE.out.trans (c:=0) (by simp[gR]));exact nkE
 . obtain⟨i2,hi2⟩:∃i2:Nat,v2=i2:=⟨v2.toNat,by have h:0<=v2/\v2<((i+1:Nat):Int):=G.out.2.2 rfl;omega⟩;subst hi2;have hi3:i2<i+1:=(by have h:0<=(i2:Int)/\(i2:Int)<((i+1:Nat):Int):=G.out.2.2 rfl;omega);obtain⟨-,gy⟩:=(HD.bH S3) i2 hi3;rw[aZ] at gy;have hz3:(i2:Int)<((i+1:Nat):Int):=om;obtain⟨y,hy⟩:∃y,D i2=y:=⟨_,rfl⟩;rw[hy] at gy;by_cases h:y=x
   . have E:=aR (HE.out.trans (c:=0) (by simp[gR,hx,hy,h]));have tq:(y != x)=false:=(by simp[h]);clear h;exact nkE
   . have E:=aR (HE.out.trans (c:=14) (by simp[gR,hx,hy,h]));have tq:(y != x)=true:=(by simp[h]);clear h;exact nkE
 . have hk:1<=v3/\v3<=1000:=F.out.k;have hk0:¬v3=0:=om;have p1:x.tmod v3=x % v3:=Int.tmod_eq_emod_of_nonneg om;obtain⟨y,hy⟩:∃y,y=x % v3:=⟨_,rfl⟩;rw[<-hy] at p1;by_cases h:y=0
   . have E:=aR (HE.out.trans (c:=0) (by rw[h] at hy;simp[gR,hx,<-hy]));have tq:(y != 0)=false:=(by simp[h]);clear h hy;exact nkE
   . have E:=aR (HE.out.trans (c:=14) (by rw[hy] at h;simp[gR,hx,h]));have tq:(y != 0)=true:=(by simp[h]);clear h hy;exact nkE
 . have hk:1<=v3/\v3<=1000:=F.out.k;have hv:nv<=1048576:=(by have h:nv+pi V nv<=1048576:=hd;omega);by_cases h:x<v3
   . have E:=aR (HE.out.trans (c:=14) (by simp[gR,hx,h]));exact nkE
   by_cases h2:(nv:Int)=v3+1
   . have E:=aR (HE.out.trans (c:=0) (by simp[gR,hx,h2]<;>omega))
     have tq:((nv:Int) != v3+1)=false:=(by simp[h2]);clear h2;exact nkE
   . have E:=aR (HE.out.trans (c:=14) (by simp[gR,hx,h2]));have tq:((nv:Int) != v3+1)=true:=(by simp[h2]);clear h2;exact nkE
 . have h4:=aR (show nv=4 from F.out.v7 rfl);obtain⟨bV,oV,-,LV⟩:=(M.L.bH S3).LV;obtain⟨ev,y1,y2,l1,l2,MV⟩:=LV 2 (by show 2<nv;rw[h4.out];omega);have mv1:=MV.c1;subst ev;have hz4:(2:Int)<(nv:Int):=(by rw[h4.out];decide);by_cases h:(V 2).n=0
   . have E:=aR (HE.out.trans (c:=15) (by simp[gR,h]));have tq:(((V 2).n:Int)==0)=true:=(by simp[h]);clear h;exact nkE
   . have E:=aR (HE.out.trans (c:=0) (by simp[gR,h]));have tq:(((V 2).n:Int)==0)=false:=(by simp;omega);clear h;exact nkE):p:=h
theorem adh{g:be}{Z:dA}{a A:Option Addr}{m d l o b q:Nat}{B:Option Addr}{t i:Nat}{P:Option Addr}{bD r:Nat}{D:Nat->Int}{w:World}(hd:Z.size<=1048576)(M:ad w m b (q+i*6) Z B t)(hi:i<g.nn)(aa:g.nn<=1000)(HD:Ints w P bD 0 (i+1) D)(hD:Dok D (i+1)):
 Cl 43 #[.agg #[.i g.inn,.i g.rounds,.slice a g.nl d,.slice A g.nh l,.slice (jp b q) g.nn o,.i g.out],.slice P (i+1) r,.i ((i+1:Nat):Int)] w fun e w'=>e=.returned (.i (ix D (i+1) Z))/\w.S w':=by
 obtain⟨op,v1,v2,v3,u,nv,V⟩:=Z;have S:=cV w (.o #[.i g.inn,.i g.rounds,.l a g.nl d,.l A g.nh l,.l (jp b q) g.nn o,.i g.out] 35);have zA:(w.alloc (.o #[.i g.inn,.i g.rounds,.l a g.nl d,.l A g.nh l,.l (jp b q) g.nn o,.i g.out] 35)).heap.size=w.heap.size+1:=by simp
 have N:=M.bH S;obtain⟨Y,ab,g2,g3,g4,g5⟩:=N.g;have hz:(i:Int)<(g.nn:Int):=om;go_enter func43,ntmps43;go_wp2_with fail;have sB:=(aF (w.alloc (.o #[.i g.inn,.i g.rounds,.l a g.nl d,.l A g.nh l,.l (jp b q) g.nn o,.i g.out] 35)).heap.size (w.alloc (.o #[.i g.inn,.i g.rounds,.l a g.nl d,.l A g.nh l,.l (jp b q) g.nn o,.i g.out] 35))).alloc zR (.o #[.i op,.i v1,.i v2,.i v3,.i u,.l B nv t] 87);have Q:=dL.new (w.alloc (.o #[.i g.inn,.i g.rounds,.l a g.nl d,.l A g.nh l,.l (jp b q) g.nn o,.i g.out] 35)) (.i op) (.i v1) (.i v2) (.i v3) (.i u) (.l B nv t) 87;rw[zA] at Q;have O:=S.tr sB;generalize (w.alloc _).alloc _=w2 at*;refine (aeW hd (M.L.bH O)).mono ?_;rintro e H ⟨⟨C,rfl,f⟩,R⟩;have S3:=O.tr R;have W:=Q.bH R;clear Y ab g2 g3 g4 g5 N;cases C
 . have E:=aR (abE (D:=D) (i:=i+1) (d:=(dA.mk op v1 v2 v3 u nv V)) (fun h=>by have:=f.2 h;cases this));clear f;exact nkE
 have F:=aR (f.1 rfl);clear f;obtain⟨q0,q1,q2,q3,q4,q5⟩:=W.g;go_wp2_with fail;refine (rv).mono ?_;rintro e U ⟨⟨C,rfl,f⟩,s⟩;have v:=s.symm;clear s;subst v;cases C
 . have E:=aR (adt (D:=D) (i:=i+1) F.out (fun h=>by have h2:0<=v1/\v1<((i+1:Nat):Int):=⟨h.1,h.2.1⟩;have:=f.2 (by unfold InP;omega);cases this));clear f;exact nkE
 have IA:=aR (f.1 rfl);clear f;obtain⟨T,eb⟩:∃x,u9 op=x:=⟨_,rfl⟩;have K:=@adg op T H eb;have z:=aR eb;clear eb;go_wp2_with fail;refine K.mono ?_;rintro e U ⟨rfl,s⟩;have v:=s.symm;clear s;subst v;clear K;have X:=aR (show 0<=v1/\v1<((i+1:Nat):Int) by have h:0<=v1/\v1<=i:=IA.out;omega);cases T
 . have G:=aR (show wH (dA.mk op v1 v2 v3 u nv V) (i+1) from⟨X.out.1,X.out.2,fun h=>by have:=z.out.symm.trans h;cases this⟩);clear z;exact nkD
 go_wp2_with fail;refine (rv).mono ?_;rintro e U ⟨⟨C,rfl,f⟩,s⟩;have v:=s.symm;clear s;subst v;cases C
 . have E:=aR (adt (D:=D) (i:=i+1) F.out (fun h=>by have h2:0<=v2/\v2<((i+1:Nat):Int):=h.2.2 z.out;have:=f.2 (by unfold InP;omega);cases this));clear f;exact nkE
 have I:=aR (f.1 rfl);clear f;have G:=aR (show wH (dA.mk op v1 v2 v3 u nv V) (i+1) from⟨X.out.1,X.out.2,fun _=>by have h:0<=v2/\v2<=i:=I.out;show 0<=v2/\v2<((i+1:Nat):Int);omega⟩);clear z I;exact nkD
def bB(op k s x:Int):Int:=if op=1 then k else if op=5 then x/k else if op=6 then (x-k)/s+1 else x
theorem adN{z y j b d x:Int}{a:Option Addr}{n m:Nat}{w:World}(Z:1<=x)(x2:x<=1000)(s:z=5->1<=b/\b<=1000)(u:z=6->1<=b/\b<=x/\1<=d/\d<=1000):
 Cl 44 #[.agg #[.i z,.i y,.i j,.i b,.i d,.slice a n m],.i x] w fun e Q=>e=.returned (.i (bB z b d x))/\w.S Q:=by
 by_cases v:z=1
 . subst v;have g:=cV w (.o #[.i 1,.i y,.i j,.i b,.i d,.l a n m] 87);have f:=aR (show bB 1 b d x=b from rfl);go_enter func44,ntmps44;go_wp2;go_ret;exact⟨gL f.out.symm,g⟩
 by_cases A:z=5
 . subst A;obtain⟨H,I⟩:=s rfl;have g:=cV w (.o #[.i 5,.i y,.i j,.i b,.i d,.l a n m] 87);have O:x.tdiv b=x/b:=qT om;have D:0<=x/b:=qH om om;have E:x/b<=x:=rI _ om;obtain⟨r,p⟩:∃r,r=x/b:=⟨_,rfl⟩;have f:=aR (show bB 5 b d x=r by rw[p];rfl);rw[<-p] at O D E;have X:¬b=0:=om;clear s u p;go_enter func44,ntmps44;go_wp2;go_ret;exact⟨gL f.out.symm,g⟩
 by_cases B:z=6
 . subst B;obtain⟨H,I,P,Y⟩:=u rfl;have g:=cV w (.o #[.i 6,.i y,.i j,.i b,.i d,.l a n m] 87);have C:=dL.new w (.i 6) (.i y) (.i j) (.i b) (.i d) (.l a n m) 87;go_enter func44,ntmps44;go_wp2_with fail;generalize w.alloc _=R at*;go_loopw [5,6] (fun c i wr=>∃k:Nat,k<=1000/\c=.i k/\i=.i k/\wr=R/\(0<k->((k:Int)-1)*d+b<=x)) (fun _ i _=>1001-(intOf i).toNat)
   case atStart=>exact⟨0,om,rfl,rfl,rfl,fun h=>absurd h om⟩
   case round=>
    obtain⟨k,W,rfl,rfl,rfl,hb⟩:=hrel;have T:=C.c3;have U:=C.c4;have L:0<=(k:Int)*d:=tF om om;have M:=Int.mul_le_mul om om om om;have q:((k:Int)-1)*d=(k:Int)*d-d:=(by rw[Int.sub_mul,Int.one_mul]);have N:(k:Int)<=k*d:=(by have:=Int.mul_le_mul_of_nonneg_left P (show 0<=(k:Int) by omega);omega);obtain⟨t,l⟩:∃t,t=(k:Int)*d:=⟨_,rfl⟩;rw[<-l] at L M q N;rw[q] at hb;have o:=aR l;have S:=l.symm;clear l q;by_cases G:t+b<=x
    . go_wp2;go_roundw
      case rel=>exact⟨k+1,om,by go_num,by go_num,(by first | rfl | trivial),fun _=>by rw[show (((k+1:Nat):Int)-1)=(k:Int) by omega,<-o.out];exact G⟩
      case measure=>exact yI
    . have K:0<k:=by
       rcases cQ k with e | e
       . subst e;exfalso;have:t=0:=(by rw[o.out];simp);omega
       . exact e
      have V:=hb K;have F:(x-b)/d=(k:Int)-1:=(by rw[Int.ediv_eq_iff_of_pos om];rw[Int.sub_mul,Int.one_mul,<-o.out];constructor<;>omega);have f:=aR (show bB 6 b d x=(k:Int) by unfold bB;rw[aM qd,aM qd,aY rfl,F];omega);go_wp2;go_ret;exact⟨gL f.out.symm,g⟩
 have g:=cV w (.o #[.i z,.i y,.i j,.i b,.i d,.l a n m] 87);have f:=aR (show bB z b d x=x by unfold bB;rw[aM v,aM A,aM B]);go_enter func44,ntmps44;go_wp2;go_ret;exact⟨gL f.out.symm,g⟩
structure ax(w:World)(p:Nat->Prop)(b off:Nat)(f:Bool)(g h:Nat)(a1:Option Addr)(n1 k1:Nat)(a2:Option Addr)(n2 k2:Nat)(X Y:Nat->Nat):Prop where
 c0:w.cell? ⟨b,off,none⟩=some (.bool f)
 c1:w.cell? ⟨b,off+1,none⟩=some (.slice a1 n1 k1)
 c2:w.cell? ⟨b,off+2,none⟩=some (.slice a2 n2 k2)
 L1:bE w a1 g 0 n1 X
 L2:bE w a2 h 0 n2 Y
 s1:n1<=8388608
 s2:n2<=8388608
 lg:0<n1->p g/\∀o,w.frozen? ⟨g,o,none⟩=false
 lh:0<n2->p h/\∀o,w.frozen? ⟨h,o,none⟩=false
 ne:0<n1->0<n2->g≠h
theorem ax.frame{p:Nat->Prop}(r:ax w p n m f c d a k i A j l X Y)(F:tc w v P)
 (g:∀h,p h->¬P h)(e:∀o,m<=o->o<m+3->v.cell? (jj n o)=w.cell? (jj n o)):ax v p n m f c d a k i A j l X Y:=
 ⟨by rw[e _ om om];exact r.c0,by rw[e _ om om];exact r.c1,by rw[e _ om om];exact r.c2,
   F.sT r.L1 (fun b=>g c (r.lg b).1),F.sT r.L2 (fun b=>g d (r.lh b).1),r.s1,r.s2,
   fun b=>⟨(r.lg b).1,fun o=>by rw[F.frozen];exact (r.lg b).2 o⟩,fun b=>⟨(r.lh b).1,fun o=>by rw[F.frozen];exact (r.lh b).2 o⟩,r.ne⟩
def fc(w:World)(b k n:Nat)(p:Nat->Nat->Prop):Prop:=∀i,k<=i->i<n->∃f g h a1 n1 k1 a2 n2 k2 X Y,ax w (p i) b (i*3) f g h a1 n1 k1 a2 n2 k2 X Y
def c5(w:World)(b n:Nat)(p:Nat->Nat->Prop)(K:Nat->Nat):Prop:=∀i,i<n->∃g h a1 n1 k1 a2 n2 k2,ax w (p i) b (i*3) (decide (K i % 3=0)) g h a1 n1 k1 a2 n2 k2 (fun j=>(K i+1+j) % 4294967296) (fun j=>(K i+1+n1+j) % 4294967296)/\K (i+1)=K i+1+n1+n2
structure db(n:Nat)(p:Nat->Nat->Prop)(b:Nat):Prop where
 one:∀i j q,i<n->j<n->p i q->p j q->i=j
 nb:∀i q,i<n->p i q->q≠b
def wJ(b n:Nat)(p:Nat->Nat->Prop)(q:Nat):Prop:=0<n/\(q=b∨∃i,i<n/\p i q)
theorem ahD{p:Nat->Nat->Prop}(hn:m<=1048576)(ai:d<=576460752303423488)(ha:0<m->a=jp n 0)(D:db m p n)(hf:0<m->∀o,w.frozen? (jj n o)=false)(aj:fc w n 0 m p):
 Cl 34 #[.slice a m c,.i d] w fun e w'=>∃K:Nat->Nat,K 0=d/\K m<=d+m*16777217/\e=.returned (.i ((K m:Nat):Int))/\tc w w' (wJ n m p)/\c5 w' n m p K:=by
 go_enter func34,ntmps34;go_wp2;go_loopw [1,5] (fun ag i wr=>∃(k:Nat) (K:Nat->Nat),k<=m/\i=.i k/\ag=.i ((K k:Nat):Int)/\K 0=d/\K k<=d+k*16777217/\tc w wr (wJ n m p)/\c5 wr n k p K/\fc wr n k m p) (fun _ i _=>m-(intOf i).toNat)
 case atStart=>exact⟨0,fun _=>d,aJ _,rfl,rfl,rfl,qz,tc.refl _ _,fun i I=>absurd I om,aj⟩
 case round=>
  obtain⟨k,K,hk,rfl,rfl,aa,hK,N,hm,M⟩:=hrel;by_cases H:k<m
  . obtain⟨ah,g,h,W,x,k1,z,t,P,ac,Y,r⟩:=M k zR H;obtain rfl:=ha om;have g0:=r.c0;have g1:=r.c1;have Z:=r.c2;have fz:wr.frozen? (jj n (k*3))=false:=(by rw[N.frozen];exact hf om _);have s1:=r.s1;have s2:=r.s2;have zK:K k<=1125899906842624000:=om;generalize ae:K k=j at*;go_wp2_with fail;have u:aV wr (wr.setCell (jj n (k*3)) (.bool ((j:Int) % 3==0))) n:=(aV.refl wr n).setCell _ _;have d0:(wr.setCell (jj n (k*3)) (.bool ((j:Int) % 3==0))).cell? (jj n (k*3))=some (.bool (decide (j % 3=0))):=by
     rw[aQ _ _ _ g0];have:((j:Int) % 3==0)=decide (j % 3=0):=(by rw[gG,jJ,jU];omega);rw[this]
    have X:∀o,o≠k*3->(wr.setCell (jj n (k*3)) (.bool ((j:Int) % 3==0))).cell? (jj n o)=wr.cell? (jj n o):=fun o M=>
     aI _ _ _ _ (fun h=>by have:=congrArg Addr.off h;simp at this;omega)
    generalize wr.setCell (jj n (k*3)) (.bool ((j:Int) % 3==0))=w1 at*;rw[show ((j:Int)+1)=((j+1:Nat):Int) by omega];refine (yH s1 om (r.L1.marked u (fun b=>by have:=D.nb k g H (r.lg b).1;omega)) (fun b o=>by rw[u.fr.frozen];exact (r.lg b).2 o)).mono ?_;rintro e V ⟨rfl,M2,z2,L2⟩;have s:=M2.frN z2;have T:¬(0<x/\n=g):=fun b=>by have:=D.nb k g H (r.lg b.1).1;omega
    have ab:¬(0<t/\n=h):=fun b=>by have:=D.nb k h H (r.lh b.1).1;omega
    have i2:V.cell? (jj n (k*3+2))=some (.l z t P):=(by rw[s.cell (a:=jj n (k*3+2)) T,X _ om];exact Z);go_wp2_with fail;have Y2:bE V z h 0 t Y:=s.sT (r.L2.marked u (fun b=>by have:=D.nb k h H (r.lh b).1;omega)) (fun b f=>r.ne f.1 b f.2.symm);refine (@yH z h t P Y (j+1+x) V s2 om Y2 (fun b o=>by rw[s.frozen,u.fr.frozen];exact (r.lh b).2 o)).mono ?_;rintro e w3 ⟨rfl,M3,z3,L3⟩;have y:=M3.frN z3;go_wp2;go_roundw
    case rel=>
     have F:tc wr w3 (fun q=>q=n∨p k q):=
      ((u.fr.mono (fun q b=>.inl b)).trans (s.mono (fun q b=>.inr (by rw[b.2];exact (r.lg b.1).1)))).trans (y.mono (fun q b=>.inr (by rw[b.2];exact (r.lh b.1).1)))
     have A:∀o,o≠k*3->w3.cell? (jj n o)=wr.cell? (jj n o):=fun o b=>by rw[y.cell (a:=jj n o) ab,s.cell (a:=jj n o) T,X o b]
     refine⟨k+1,fun i=>if i<=k then K i else j+1+x+t,om,by go_num, ?_, ?_, ?_,N.trans (F.mono ?_),fun i I=> ?_,fun i I L=> ?_⟩
     . simp only[show ¬k+1<=k by omega,iO];go_num
     . simpa using aa
     . simp only[show ¬k+1<=k by omega,iO];omega
     . intro q v;refine⟨om, ?_⟩;rcases v with v | v
       . exact .inl v
       . exact .inr ⟨k,H,v⟩
     . by_cases e:i=k
       . subst e;simp only[aC,jG,show ¬i+1<=i by omega,iO,ae];refine⟨g,h,W,x,k1,z,t,P,⟨?_, ?_, ?_,y.sT L2 (fun b f=>r.ne b f.1 f.2),L3,s1,s2,fun b=>⟨(r.lg b).1,fun o=>by rw[F.frozen];exact (r.lg b).2 o⟩,fun b=>⟨(r.lh b).1,fun o=>by rw[F.frozen];exact (r.lh b).2 o⟩,r.ne⟩,rfl⟩
         . rw[y.cell (a:=jj n (i*3)) ab,s.cell (a:=jj n (i*3)) T];exact d0
         . rw[A _ om];exact g1
         . rw[A _ om];exact Z
       . have af:i<k:=om;simp only[show i<=k by omega,show i+1<=k by omega,jG];obtain⟨E,G,B,R,O,C,S,Q,U,e'⟩:=hm i af;exact⟨E,G,B,R,O,C,S,Q,U.frame F (fun q f l=>by
          rcases l with l | l
          . exact D.nb i q om f l
          . exact e (D.one i k q om H f l)) (fun o f h2=>A o om),e'⟩
     . obtain⟨f',E,G,B,R,O,C,S,Q,X',Y',U⟩:=M i om L;exact⟨f',E,G,B,R,O,C,S,Q,X',Y',U.frame F (fun q f l=>by
        rcases l with l | l
        . exact D.nb i q L f l
        . have:=D.one i k q L H f l;omega) (fun o f h2=>A o om)⟩
    case measure=>exact yI
  . have e:k=m:=om;subst e;go_wp2;go_ret;exact⟨K,aa,hK,rfl,N,hm⟩
theorem adl{p:Nat->Nat->Prop}(P:m<=1048576)(O:d<=576460752303423488)(y:0<m->a=jp n 0)(x:X 0=d)(H:c5 w n m p X):
 Cl 75 #[.slice a m c,.i d] w fun e F=>e=.returned (.i ((X m:Nat):Int))/\F=w:=by
 go_enter func75,ntmps75;go_wp2;go_loop [1,5] (fun q i=>∃k:Nat,k<=m/\i=.i k/\q=.i ((X k:Nat):Int)/\X k<=d+k*16777217) (fun _ i=>m-(intOf i).toNat)
 case atStart=>exact⟨0,aJ _,rfl,by rw[x],om⟩
 case round=>
  obtain⟨k,N,rfl,rfl,L⟩:=hrel;by_cases z:k<m
  . obtain⟨g,h,s,f,A,o,C,B,r,u⟩:=H k z;obtain rfl:=y om;have v:=r.c0;have G:=r.c1;have I:=r.c2;have D:=r.s1;have E:=r.s2;have j:=r.L1;have l:=r.L2;have S:X k<=1125899906842624000:=om;clear r;generalize M:X k=b at*;have t:decide (b % 3=0)=((b:Int) % 3==0):=by
     rw[gG,jJ,jU];omega
    rw[t] at v;go_wp2_with fail;rw[show ((b:Int)+1)=((b+1:Nat):Int) by omega];refine (aes D om j).mono ?_;rintro e Q ⟨rfl,rfl⟩;go_wp2_with fail;refine (aes E om l).mono ?_;rintro e R ⟨rfl,rfl⟩;go_wp2;go_round
    case rel=>exact⟨k+1,om,by go_num,by rw[u];go_num,om⟩
    case measure=>exact yI
  . have e:k=m:=om;subst e;go_wp2;go_ret;exact⟨rfl,rfl⟩
structure LQ(w:World)(a:Option Addr)(g n:Nat)(p:Nat->Nat->Prop):Prop where
 ha:0<n->a=some ⟨g,0,none⟩
 f:0<n->∀o,w.frozen? ⟨g,o,none⟩=false
 Q:fc w g 0 n p
 D:db n p g
structure LM(w:World)(a:Option Addr)(g n:Nat)(p:Nat->Nat->Prop)(K:Nat->Nat):Prop where
 ha:0<n->a=some ⟨g,0,none⟩
 M:c5 w g n p K
section
variable{w w':World}{S:Nat->Prop}{a:Option Addr}{g n:Nat}{p:Nat->Nat->Prop}{K:Nat->Nat}
theorem LQ.frame(h:LQ w a g n p)(F:tc w w' S)(d:∀q,wJ g n p q->¬S q):LQ w' a g n p:=
 ⟨h.ha,fun s o=>by rw[F.frozen];exact h.f s o,fun i t b=>by
   obtain⟨l,m,r,j,y,v,k,z,x,e,f,A⟩:=h.Q i t b;exact⟨l,m,r,j,y,v,k,z,x,e,f,A.frame F (fun c u=>d c ⟨om,.inr ⟨i,b,u⟩⟩) (fun o _ _=>F.cell (a:=jj g o) (d g ⟨om,.inl rfl⟩))⟩,h.D⟩
theorem LM.frame(h:LM w a g n p K)(F:tc w w' S)(d:∀q,wJ g n p q->¬S q):LM w' a g n p K:=
 ⟨h.ha,fun i b=>by
   obtain⟨k,l,e,t,r,f,u,s,v,j⟩:=h.M i b;exact⟨k,l,e,t,r,f,u,s,v.frame F (fun c m=>d c ⟨om,.inr ⟨i,b,m⟩⟩) (fun o _ _=>F.cell (a:=jj g o) (d g ⟨om,.inl rfl⟩)),j⟩⟩
theorem LQ.bH(h:LQ w a g n p)(s:w.S w'):LQ w' a g n p:=by
 refine⟨h.ha,fun c o=> ?_,fun i y z=> ?_,h.D⟩
 . obtain⟨r,e,f,m,v,t,q,x,u,k,l,b⟩:=h.Q 0 zR c;have d:=aG _ _ b.c0;rw[s.frozen (a:=jj g o) d];exact h.f c o
 . obtain⟨r,e,f,m,v,t,q,x,u,k,l,b⟩:=h.Q i y z;have d:=aG _ _ b.c0;refine⟨r,e,f,m,v,t,q,x,u,k,l,(s.cell (a:=jj g (i*3)) d).trans b.c0,(s.cell (a:=jj g (i*3+1)) d).trans b.c1,(s.cell (a:=jj g (i*3+2)) d).trans b.c2,b.L1.bH s,b.L2.bH s,b.s1,b.s2,fun c=>⟨(b.lg c).1,fun o=> ?_⟩,fun c=>⟨(b.lh c).1,fun o=> ?_⟩,b.ne⟩
   . have j:=aG _ _ (b.L1 0 c).2;rw[s.frozen (a:=jj e o) j];exact (b.lg c).2 o
   . have j:=aG _ _ (b.L2 0 c).2;rw[s.frozen (a:=jj f o) j];exact (b.lh c).2 o
end
theorem acU{p:Nat->Nat->Prop}(c d:Nat)(g:m<=1048576)(l:d<=576460752303423488)(H:LQ w a n m p):
 Cl 34 #[.slice a m c,.i d] w fun e b=>∃K:Nat->Nat,K 0=d/\K m<=d+m*16777217/\e=.returned (.i ((K m:Nat):Int))/\tc w b (wJ n m p)/\LM b a n m p K:=by
 refine (ahD g l H.ha H.D H.f H.Q).mono ?_;rintro e b ⟨K,f,h,i,j,k⟩;exact⟨K,f,h,i,j,H.ha,k⟩
structure AQ(w:World)(p:Nat->Prop)(c i:Nat)(v0 v1:Value)(aW:Option Addr)(gW nW cW:Nat)(pW:Nat->Nat->Prop)(aB:Option Addr)(gB nB cB:Nat)(pB:Nat->Nat->Prop):Prop where
 c0:w.cell? ⟨c,i*4,none⟩=some v0
 c1:w.cell? ⟨c,i*4+1,none⟩=some v1
 c2:w.cell? ⟨c,i*4+2,none⟩=some (.slice aW nW cW)
 c3:w.cell? ⟨c,i*4+3,none⟩=some (.slice aB nB cB)
 W:LQ w aW gW nW pW
 B:LQ w aB gB nB pB
 dis:∀q,wJ gW nW pW q->¬wJ gB nB pB q
 inW:∀q,wJ gW nW pW q->p q
 inB:∀q,wJ gB nB pB q->p q
 sz:nW+nB<=1048576
structure AM(w:World)(p:Nat->Prop)(c i K K':Nat)(aW:Option Addr)(gW nW cW:Nat)(pW:Nat->Nat->Prop)(kW:Nat->Nat)(aB:Option Addr)(gB nB cB:Nat)(pB:Nat->Nat->Prop)(kB:Nat->Nat):Prop where
 c0:w.cell? ⟨c,i*4,none⟩=some (.int .i64 (K:Int))
 c1:w.cell? ⟨c,i*4+1,none⟩=some (.int .i64 ((K:Int)+1))
 c2:w.cell? ⟨c,i*4+2,none⟩=some (.slice aW nW cW)
 c3:w.cell? ⟨c,i*4+3,none⟩=some (.slice aB nB cB)
 W:LM w aW gW nW pW kW
 B:LM w aB gB nB pB kB
 inW:∀q,wJ gW nW pW q->p q
 inB:∀q,wJ gB nB pB q->p q
 sz:nW+nB<=1048576
 k0:kW 0=K+2
 k1:kB 0=kW nW
 k2:K'=kB nB
 z1:kW nW<=K+2+nW*16777217
 z2:K'<=K+2+(nW+nB)*16777217
def NQ(w:World)(c k n:Nat)(p:Nat->Nat->Prop)(z:Nat->Nat):Prop:=∀i,k<=i->i<n->∃v0 v1 aW gW nW cW pW aB gB nB cB pB,AQ w (p i) c i v0 v1 aW gW nW cW pW aB gB nB cB pB/\nW+nB<=z i
def NM(w:World)(c n:Nat)(p:Nat->Nat->Prop)(K:Nat->Nat):Prop:=∀i,i<n->∃aW gW nW cW pW kW aB gB nB cB pB kB,AM w (p i) c i (K i) (K (i+1)) aW gW nW cW pW kW aB gB nB cB pB kB
section
variable{w w':World}{S p:Nat->Prop}{c i K K':Nat}{v0 v1:Value}{aW aB:Option Addr}{gW nW cW gB nB cB:Nat}{pW pB:Nat->Nat->Prop}{kW kB:Nat->Nat}
theorem AQ.frame(h:AQ w p c i v0 v1 aW gW nW cW pW aB gB nB cB pB)(F:tc w w' S)(d:∀q,p q->¬S q)(a:∀o,i*4<=o->o<i*4+4->w'.cell? (jj c o)=w.cell? (jj c o)):AQ w' p c i v0 v1 aW gW nW cW pW aB gB nB cB pB:=
 ⟨by rw[a _ om om];exact h.c0,by rw[a _ om om];exact h.c1,by rw[a _ om om];exact h.c2,by rw[a _ om om];exact h.c3,h.W.frame F (fun q b=>d q (h.inW q b)),h.B.frame F (fun q b=>d q (h.inB q b)),h.dis,h.inW,h.inB,h.sz⟩
theorem AM.frame(h:AM w p c i K K' aW gW nW cW pW kW aB gB nB cB pB kB)(F:tc w w' S)(d:∀q,p q->¬S q)(a:∀o,i*4<=o->o<i*4+4->w'.cell? (jj c o)=w.cell? (jj c o)):AM w' p c i K K' aW gW nW cW pW kW aB gB nB cB pB kB:=
 ⟨by rw[a _ om om];exact h.c0,by rw[a _ om om];exact h.c1,by rw[a _ om om];exact h.c2,by rw[a _ om om];exact h.c3,h.W.frame F (fun q b=>d q (h.inW q b)),h.B.frame F (fun q b=>d q (h.inB q b)),h.inW,h.inB,h.sz,h.k0,h.k1,h.k2,h.z1,h.z2⟩
end
theorem cm(n:Nat)(u:Value)(h:c≠m):(w.setCell ⟨n,m,none⟩ u).cell? (jj n c)=w.cell? (jj n c):=
 aI _ _ _ _ (fun e=>by have:=congrArg Addr.off e;simp at this;omega)
def psN(z:Nat->Nat):Nat->Nat
 | 0=>0
 | i+1=>psN z i+z i
theorem adL{p:Nat->Nat->Prop}(hn:m<=1048576)(a8:d<=1000000)(hz:∀i,i<=m->psN X i<=16777216)(ha:0<m->a=jp n 0)(D:db m p n)(hf:0<m->∀o,w.frozen? (jj n o)=false)(a9:NQ w n 0 m p X):
 Cl 36 #[.slice a m c,.i d] w fun e w'=>∃K:Nat->Nat,K 0=d/\(∀i,i<=m->K i<=282000000000000)/\e=.returned (.i ((K m:Nat):Int))/\tc w w' (wJ n m p)/\NM w' n m p K:=by
 go_enter func36,ntmps36;go_wp2;go_loopw [1,5] (fun q i wr=>∃(k:Nat) (K:Nat->Nat),k<=m/\i=.i k/\q=.i ((K k:Nat):Int)/\K 0=d/\K k<=d+2*k+psN X k*16777217/\tc w wr (wJ n m p)/\NM wr n k p K/\NQ wr n k m p X/\Hid (∀i,i<=k->K i<=282000000000000)) (fun _ i _=>m-(intOf i).toNat)
 case atStart=>exact⟨0,fun _=>d,aJ _,rfl,rfl,rfl,by simp[psN],tc.refl _ _,fun i A=>absurd A om,a9,aR (fun _ _=>by show d<=282000000000000;omega)⟩
 case round=>
  obtain⟨k,K,hk,rfl,rfl,ae,Q,B,hm,ho,aa⟩:=hrel;have ak:=hz k hk;by_cases j:k<m
  . obtain⟨v0,v1,aW,gW,u,cW,pW,aB,gB,s,L,pB,r,al⟩:=ho k zR j;obtain rfl:=ha om;have aj:=hz (k+1) om;have ai:psN X (k+1)=psN X k+X k:=rfl;have e0:=r.c0;have e1:=r.c1;have e2:=r.c2;have e3:=r.c3;have a0:=r.sz;have a6:wr.frozen? (jj n (k*4))=false:=(by rw[B.frozen];exact hf om _);have a7:wr.frozen? (jj n (k*4+1))=false:=(by rw[B.frozen];exact hf om _);have ac:=aR Q;have zK:K k<=282000000000000:=om;have z:¬wJ gW u pW n:=fun h=>D.nb k n j (r.inW n h) rfl;have am:¬wJ gB s pB n:=fun h=>D.nb k n j (r.inB n h) rfl;have ad:=aR ai;have ar:=aR aj;have a5:=aR ak;generalize ax:K k=f at*;clear Q ai aj ak;go_wp2_with fail;have E:aV wr ((wr.setCell (jj n (k*4)) (.i (f:Int))).setCell (jj n (k*4+1)) (.i ((f:Int)+1))) n:=((aV.refl wr n).setCell _ _).setCell _ _;have d1:∀o,o≠k*4->o≠k*4+1->((wr.setCell (jj n (k*4)) (.i (f:Int))).setCell (jj n (k*4+1)) (.i ((f:Int)+1))).cell? (jj n o)=wr.cell? (jj n o):=fun o b l=>by
     rw[cm _ _ l,cm _ _ b]
    have d2:((wr.setCell (jj n (k*4)) (.i (f:Int))).setCell (jj n (k*4+1)) (.i ((f:Int)+1))).cell? (jj n (k*4))=some (.i (f:Int)):=(by rw[cm _ _ om,aQ _ _ _ e0]);have d3:((wr.setCell (jj n (k*4)) (.i (f:Int))).setCell (jj n (k*4+1)) (.i ((f:Int)+1))).cell? (jj n (k*4+1))=some (.i ((f:Int)+1)):=(by have h9:(wr.setCell (jj n (k*4)) (.i (f:Int))).cell? (jj n (k*4+1))=some v1:=(by rw[cm _ _ om];exact e1);rw[aQ _ _ _ h9]);have D1:=aR d1;have D2:=aR d2;have D3:=aR d3;clear d1 d2 d3;generalize (wr.setCell (jj n (k*4)) (.i (f:Int))).setCell (jj n (k*4+1)) (.i ((f:Int)+1))=w1 at*;rw[show ((f:Int)+1+1)=((f+2:Nat):Int) by omega];refine (acU cW (f+2) om om (r.W.frame E.fr (fun q h b=>z (b▸h)))).mono ?_;rintro e w2 ⟨kW,ah,ag,rfl,v,au⟩;have i3:w2.cell? (jj n (k*4+3))=some (.l aB s L):=(by rw[v.cell (a:=jj n (k*4+3)) z,D1.out _ om om];exact e3);obtain⟨kw,U⟩:∃x,kW u=x:=⟨_,rfl⟩;rw[U] at ag⊢;have ab:=aR U;have aq:=aR ah;clear U ah;go_wp2_with fail;refine (acU L kw om om ((r.B.frame E.fr (fun q h b=>am (b▸h))).frame v (fun q h b=>r.dis q b h))).mono ?_;rintro e w3 ⟨kB,af,az,rfl,C,av⟩;obtain⟨kb,T⟩:∃x,kB s=x:=⟨_,rfl⟩;rw[T] at az⊢;have an:=aR T;have ao:=aR af;clear T af;go_wp2;go_roundw
    case rel=>
     have F:tc wr w3 (fun x=>x=n∨p k x):=
      ((E.fr.mono (fun x h=>.inl h)).trans (v.mono (fun x h=>.inr (r.inW x h)))).trans (C.mono (fun x h=>.inr (r.inB x h)))
     have R:∀o,w3.cell? (jj n o)=w1.cell? (jj n o):=fun o=>by rw[C.cell (a:=jj n o) am,v.cell (a:=jj n o) z]
     have y:∀o,o≠k*4->o≠k*4+1->w3.cell? (jj n o)=wr.cell? (jj n o):=fun o h b=>by rw[R,D1.out o h b]
     refine⟨k+1,fun i=>if i<=k then K i else kb,om,by go_num, ?_, ?_, ?_,B.trans (F.mono ?_),fun i A=> ?_,fun i A S=> ?_,aR (fun i A=> ?_)⟩
     . simp only[show ¬k+1<=k by omega,iO]
     . simpa using ae
     . simp only[show ¬k+1<=k by omega,iO];have b:=ac.out;have l:=ad.out;have g:(psN X k+X k)*16777217=psN X k*16777217+X k*16777217:=bI _ _ _;rw[l,g];have h4:(u+s)*16777217<=X k*16777217:=aP _ al;omega
     . intro x t;refine⟨om, ?_⟩;rcases t with t | t
       . exact .inl t
       . exact .inr ⟨k,j,t⟩
     . by_cases e:i=k
       . subst e;simp only[aC,jG,show ¬i+1<=i by omega,iO,ax];refine⟨aW,gW,u,cW,pW,kW,aB,gB,s,L,pB,kB,⟨?_, ?_, ?_, ?_,au.frame C (fun q h b=>r.dis q h b),av,r.inW,r.inB,a0,aq.out,by rw[ao.out,ab.out],an.out.symm,by rw[ab.out];exact ag,om⟩⟩
         . rw[R];exact D2.out
         . rw[R];exact D3.out
         . rw[y _ om om];exact e2
         . rw[y _ om om];exact e3
       . have ay:i<k:=om;simp only[show i<=k by omega,show i+1<=k by omega,jG];obtain⟨I,P,W,N,Z,a2,G,O,V,M,Y,a1,H⟩:=hm i ay;exact⟨I,P,W,N,Z,a2,G,O,V,M,Y,a1,H.frame F (fun x b g=>by
          rcases g with g | g
          . exact D.nb i x om b g
          . exact e (D.one i k x om j b g)) (fun o b l=>y o om om)⟩
     . obtain⟨a3,a4,I,P,W,N,Z,G,O,V,M,Y,H,z'⟩:=ho i om S;exact⟨a3,a4,I,P,W,N,Z,G,O,V,M,Y,H.frame F (fun x b g=>by
        rcases g with g | g
        . exact D.nb i x S b g
        . have:=D.one i k x S j b g;omega) (fun o b l=>y o om om),z'⟩
     . by_cases e:i<=k
       . simp only[e,jG];exact aa.out i e
       . simp only[e,iO];have b:=ac.out;have l:=ar.out;have h5:=ad.out;have h4:(u+s)*16777217<=X k*16777217:=aP _ al;omega
    case measure=>exact yI
  . have e:k=m:=om;subst e;clear Q;go_wp2;go_ret;exact⟨K,ae,aa.out,rfl,B,hm⟩
theorem adR{p:Nat->Nat->Prop}(hn:m<=1048576)(M:X 0=d)(N:0<m->a=jp n 0)(o:∀i,i<=m->X i<=282000000000000)(H:NM w n m p X):
 Cl 37 #[.slice a m c,.i d] w fun e U=>e=.returned (.i ((X m:Nat):Int))/\U=w:=by
 go_enter func37,ntmps37;go_wp2;go_loop [1,5] (fun q i=>∃k:Nat,k<=m/\i=.i k/\q=.i ((X k:Nat):Int)) (fun _ i=>m-(intOf i).toNat)
 case atStart=>exact⟨0,aJ _,rfl,by rw[M]⟩
 case round=>
  obtain⟨k,O,rfl,rfl⟩:=hrel;by_cases P:k<m
  . obtain⟨A,F,v,C,T,t,z,E,u,B,S,s,r⟩:=H k P;obtain rfl:=N om;have V:=r.c0;have W:=r.c1;have D:=r.c2;have Y:=r.c3;have zK:=o k O;have ab:=o (k+1) om;have K:=r.sz;have l:=r.W;have j:=r.B;have G:=aR r.k0;have I:=aR r.k1;have L:=aR r.k2;have Q:=r.z1;clear r;generalize Z:X k=b at*;obtain⟨R,f⟩:∃x,t v=x:=⟨_,rfl⟩;rw[f] at Q;have g:=aR f;clear f;go_wp2_with fail;rw[show ((b:Int)+1+1)=((b+2:Nat):Int) by omega];refine (adl om om l.ha G.out l.M).mono ?_;rintro e w2 ⟨rfl,rfl⟩;rw[g.out];go_wp2_with fail;refine (adl om om j.ha (by rw[I.out,g.out]) j.M).mono ?_;rintro e w3 ⟨rfl,rfl⟩;obtain⟨kb,h⟩:∃x,s u=x:=⟨_,rfl⟩;rw[h];have y:=aR h;clear h;go_wp2;go_round
    case rel=>exact⟨k+1,om,by go_num,by rw[L.out,y.out]⟩
    case measure=>exact yI
  . have e:k=m:=om;subst e;go_wp2;go_ret;exact⟨rfl,rfl⟩
theorem ay.bH{w w':World}{lo j b off:Nat}{i:Option Addr}(r:ay w lo j b off f m c a d k i n l X Y)(s:w.S w'):ay w' lo j b off f m c a d k i n l X Y:=by
 have g:b<w.heap.size:=aG _ _ r.c0
 exact⟨(s.cell (a:=jj b off) g).trans r.c0,(s.cell (a:=jj b (off+1)) g).trans r.c1,(s.cell (a:=jj b (off+2)) g).trans r.c2,r.L1.bH s,r.L2.bH s,r.s1,r.s2,
  fun e=>⟨(r.lg e).1,(r.lg e).2.1,fun o=>by rw[s.frozen (a:=jj m o) (r.L1.lt e)];exact (r.lg e).2.2 o⟩,
  fun e=>⟨(r.lh e).1,(r.lh e).2.1,fun o=>by rw[s.frozen (a:=jj c o) (r.L2.lt e)];exact (r.lh e).2.2 o⟩,r.ne⟩
theorem OwnFrom.bH{w w':World}(H:OwnFrom w b k n X)(s:w.S w'):OwnFrom w' b k n X:=fun i d e=>by
 obtain⟨f,g,h,a,m,j,c,o,l,p,Y,r⟩:=H i d e;exact⟨f,g,h,a,m,j,c,o,l,p,Y,r.bH s⟩
structure a8(w:World)(c k:Nat)(E:Nat->Nat):Prop where
 lo:c<E 0
 mono:∀i,i<k->E i<=E (i+1)
 hi:E k<=w.heap.size
 own:OwnFrom w c 0 k E
theorem a8.bH{w w':World}(H:a8 w n k X)(s:w.S w'):a8 w' n k X:=
 ⟨H.lo,H.mono,aU H.hi s.size,H.own.bH s⟩
theorem a8.put(H:a8 w n m X)(R:X m<=c)(M:aV w v n)(C:∀o,o<m*3->v.cell? (jj n o)=w.cell? (jj n o))
 (q:v.cell? (jj n (m*3))=some (.bool f))(r:v.cell? (jj n (m*3+1))=some (.s k d d))(s:v.cell? (jj n (m*3+2))=some (.s i b b))
 (g:bE w (jp k 0) k 0 d Y)(j:bE w (jp i 0) i 0 b Z)(N:d<=8388608)(O:b<=8388608)(S:c<=k)(T:k<i)(U:i<w.heap.size)
 (u:∀o,w.frozen? (jj k o)=false)(E:∀o,w.frozen? (jj i o)=false):a8 v n (m+1) (fun a=>if a<=m then X a else w.heap.size):=by
 have P:n<X m:=aS H.lo (kV H.mono (aJ _) zR);refine⟨by simpa using H.lo,fun a D=> ?_, ?_,fun a _ D=> ?_⟩
 . by_cases e:a=m
   . subst e;simp only[aC,jG,show ¬a+1<=a by omega,iO];exact H.hi
   . simp only[show a<=m by omega,show a+1<=m by omega,jG];exact H.mono a om
 . simp only[show ¬m+1<=m by omega,iO];rw[M.size];exact aC _
 . by_cases e:a=m
   . subst e;simp only[aC,jG,show ¬a+1<=a by omega,iO];exact⟨f,k,i,_,d,d,_,b,b,Y,Z,q,r,s,g.marked M (fun _=>by omega),j.marked M (fun _=>by omega),N,O,fun _=>⟨om,om,fun o=>by rw[M.fr.frozen];exact u o⟩,fun _=>⟨om,om,fun o=>by rw[M.fr.frozen];exact E o⟩,fun _ _=>by omega⟩
   . simp only[show a<=m by omega,show a+1<=m by omega,jG];obtain⟨t,x,y,B,I,F,p,K,G,l,h,L⟩:=H.own a (aJ _) om;have:=kV H.mono (aJ a) (show a<=m by omega);have:=H.lo;exact⟨t,x,y,B,I,F,p,K,G,l,h,L.frame M.fr (fun n z A Q=>by omega) (fun o z A=>C o om)⟩
structure wS(w:World)(lo hi c n:Nat):Prop where
 ex:∃E:Nat->Nat,lo<=c/\c<E 0/\(∀i,i<n->E i<=E (i+1))/\E n<=hi/\OwnFrom w c 0 n E
 f:∀o,w.frozen? ⟨c,o,none⟩=false
 lt:c<w.heap.size
theorem dd{R:Nat->jd}(hn:d<=1048576)(hs:pi R d<=1048576)(H:pG w n a m c d R):
 Cl 24 #[.slice a d k] w fun e L=>∃p,e=.returned (.s p d d)/\w.heap.size<=p/\p<L.heap.size/\wS L w.heap.size L.heap.size p d/\pG L (p+1) (jp p 0) p 0 d R/\w.S L:=by
 have aa:=qy (P:=Tryz.prog) 32 83 _ 3 56 underlying32 ck .i64 .i64 d om om;have sA:=cV w (.o (madeCells #[.bool false,.n,.n] (d*3)) 83);have rA:=rZ.new w #[.bool false,.n,.n] (d*3) 83;go_enter func24,ntmps24;go_wp2;go_loopw [4] (fun i wr=>∃(b:Nat) (E:Nat->Nat),a8 wr w.heap.size b E/\b<=d/\i=.i b/\w.S wr/\rZ wr w.heap.size (d*3)/\pG wr (w.heap.size+1) (jp w.heap.size 0) w.heap.size 0 b R) (fun i _=>d-(intOf i).toNat)
 case atStart=>exact⟨0,fun _=>w.heap.size+1,⟨iZ _,fun i j=>absurd j om,qz,fun i _ j=>absurd j om⟩,aJ _,rfl,sA,rA,fun i j=>absurd j om⟩
 case round=>
  obtain⟨b,E,f,hk,rfl,s,r,T⟩:=hrel;by_cases y:b<d
  . obtain⟨rfl,a1,a2,k1,k2,M⟩:=H b y;have P:=M.bH s;obtain⟨S,U,V⟩:=P.g;have hz:(b:Int)<d:=om;have ab:=uu (R:=R) y;obtain⟨ba,oa,-,D⟩:=P.L.LX;obtain⟨bb,ob,-,F⟩:=P.L.LY;go_wp2_with fail;refine (ajo om om D F).mono ?_;rintro e w2 ⟨g,h,rfl,l,X,Y,Z,v,x,O,Q⟩;have q:=r.bH l;have K:=T.bH l;have I:=s.tr l;obtain⟨v0,u0⟩:=q.cell (b*3) om;obtain⟨v1,u1⟩:=q.cell (b*3+1) om;obtain⟨v2,u2⟩:=q.cell (b*3+2) om;have f0:=q.f (b*3);have f1:=q.f (b*3+1);have f2:=q.f (b*3+2);have u:=r.lt;clear S U V;go_wp2;go_roundw
    case rel=>go_light;obtain⟨w3,N,t,G,z,A,B,C⟩:=cr (q:=b*3) q om (.bool (R b).neg) (.s g (R b).n (R b).n) (.s h (R b).m (R b).m);rw[<-N];exact⟨b+1,_,(f.bH l).put f.hi t (fun o W=>C o om) z A B v x om om X Y Z O Q,om,by go_num,I.trans (t.since zR),G,K.put t (fun o W=>C o om) ⟨aC _,aC _,(fun h=>by cases h),(fun h=>by cases h),⟨g,0,fun _=>by omega,v⟩,⟨h,0,fun _=>by omega,x⟩,M.L.lX,M.L.lY,M.L.n63,M.L.m63⟩ z A B⟩
    case measure=>exact yI
  . have e:b=d:=om;subst e;have u:=r.lt;go_wp2;go_ret;exact⟨w.heap.size,rfl,aC _,u,⟨⟨E,aC _,f.lo,f.mono,f.hi,f.own⟩,r.f,u⟩,T,s⟩
section
variable{w w':World}{lo hi lo' hi' c n:Nat}
theorem wS.span(H:wS w lo hi c n):lo<=c/\c<hi:=by
 obtain⟨E,a,d,b,e,-⟩:=H.ex;have:=kV b (aJ n) zR;exact⟨a,om⟩
theorem wS.wide(H:wS w lo hi c n)(f:lo'<=lo)(g:hi<=hi'):wS w lo' hi' c n:=by
 obtain⟨E,a,b,e,d,o⟩:=H.ex;exact⟨⟨E,om,b,e,om,o⟩,H.f,H.lt⟩
theorem wS.bH(H:wS w lo hi c n)(s:w.S w'):wS w' lo hi c n:=by
 obtain⟨E,a,b,e,d,o⟩:=H.ex;exact⟨⟨E,a,b,e,d,o.bH s⟩,fun o=>by rw[s.frozen (a:=jj c o) H.lt];exact H.f o,aS H.lt s.size⟩
theorem wS.frame(H:wS w lo hi c n)(F:tc w w' P)(h:∀k,lo<=k->k<hi->¬P k):wS w' lo hi c n:=by
 have l:=H.span;obtain⟨E,a,b,e,d,o⟩:=H.ex;refine⟨⟨E,a,b,e,d,fun i f g=> ?_⟩,fun o=>by rw[F.frozen];exact H.f o,by rw[F.size];exact H.lt⟩;obtain⟨s,t,u,q,y,v,r,z,x,m,p,A⟩:=o i f g;have B:=kV e (aJ i) (show i<=n by omega);have C:=kV e (i:=i+1) (j:=n) om zR;exact⟨s,t,u,q,y,v,r,z,x,m,p,A.frame F (fun k f g=>h k om om) (fun o _ _=>F.cell (a:=jj c o) (h c l.1 l.2))⟩
end
theorem vK(p:d<=1048576)(j:i<=576460752303423488)(H:wS w n m c d):
 Cl 34 #[.s c d k,.i i] w fun e g=>∃h:Nat,h<=i+d*16777217/\e=.returned (.i (h:Int))/\tc w g (fun f=>n<=f/\f<m):=by
 have r:=H.span;obtain⟨E,a,b,e,s,o⟩:=H.ex;refine (aeO p j (fun _=>rfl) e b (fun _=>H.f) o).mono ?_;rintro e g ⟨K,-,l,rfl,F,-⟩;exact⟨K d,l,rfl,F.mono (fun f q=>by omega)⟩
theorem aj1:(Tryz.prog.info? 87).map (·.size)=some 6:=by kernel_rfl
theorem ahs:(Tryz.prog.info? 35).map (·.size)=some 6:=by kernel_rfl
theorem akh:(Tryz.prog.info? 87).map (fun i=>(i.zero,i.size,i.bytes))=some (some (.agg #[.i 0,.i 0,.i 0,.i 0,.i 0,.n]),6,64):=by kernel_rfl
theorem ahg(B:D.size<=1048576)(H:tW w n D a m):
 Calls Tryz.prog 54 #[.agg #[.int .i64 D.op,.int .i64 D.a,.int .i64 D.b,.int .i64 D.k,.int .i64 D.s,.slice a D.nv m]] w fun e h=>∃b,e=.returned (.agg #[.int .i64 D.op,.int .i64 D.a,.int .i64 D.b,.int .i64 D.k,.int .i64 D.s,.slice (some ⟨b,0,none⟩) D.nv D.nv])/\wS h w.heap.size h.heap.size b D.nv/\
  tW h w.heap.size D (some ⟨b,0,none⟩) D.nv/\w.Since w.heap.size h:=by
 have Z:=B;unfold dA.size at Z;obtain⟨f,g⟩:∃f:World,f=(((w.alloc (.cells #[.int .i64 D.op,.int .i64 D.a,.int .i64 D.b,.int .i64 D.k,.int .i64 D.s,.slice a D.nv m] 79)).alloc (.cells #[.int .i64 0,.int .i64 0,.int .i64 0,.int .i64 0,.int .i64 0,.slice none 0 0] 87)).alloc (.cells #[.int .i64 D.op,.int .i64 D.a,.int .i64 D.b,.int .i64 D.k,.int .i64 D.s,.slice none 0 0] 87)):=⟨_,rfl⟩;have Y:w.Since w.heap.size f:=by rw[g];exact ((yD.alloc zR _).alloc qz _).alloc (by simp;omega) _
 have zA:f.heap.size=w.heap.size+1+1+1:=by rw[g];simp
 have r:dL f (w.heap.size+1) (.int .i64 0) (.int .i64 0) (.int .i64 0) (.int .i64 0) (.int .i64 0) (.slice none 0 0):=by rw[g];have:=(dL.new (w.alloc (.cells #[.int .i64 D.op,.int .i64 D.a,.int .i64 D.b,.int .i64 D.k,.int .i64 D.s,.slice a D.nv m] 79)) (.int .i64 0) (.int .i64 0) (.int .i64 0) (.int .i64 0) (.int .i64 0) (.slice none 0 0) 87).bH (yD.alloc zR (.cells #[.int .i64 D.op,.int .i64 D.a,.int .i64 D.b,.int .i64 D.k,.int .i64 D.s,.slice none 0 0] 87));simpa using this
 have q:dL f (w.heap.size+1+1) (.int .i64 D.op) (.int .i64 D.a) (.int .i64 D.b) (.int .i64 D.k) (.int .i64 D.s) (.slice none 0 0):=by rw[g];have:=dL.new ((w.alloc (.cells #[.int .i64 D.op,.int .i64 D.a,.int .i64 D.b,.int .i64 D.k,.int .i64 D.s,.slice a D.nv m] 79)).alloc (.cells #[.int .i64 0,.int .i64 0,.int .i64 0,.int .i64 0,.int .i64 0,.slice none 0 0] 87)) (.int .i64 D.op) (.int .i64 D.a) (.int .i64 D.b) (.int .i64 D.k) (.int .i64 D.s) (.slice none 0 0) 87;simpa using this
 obtain⟨x,C,-,p⟩:=(H.bH Y).LV;have o:=aR g;clear g;go_enter func54,ntmps54;go_wp2_with fail;rw[<-o.out];refine (dd om om p).mono ?_;rintro e l ⟨b,rfl,E,F,v,t,X⟩;have u:=Y.trans (sM X Y.size);have d:=r.bH X;have c:=q.bH X;have G:=c.c0;have I:=c.c1;have K:=c.c2;have L:=c.c3;have M:=c.c4;have N:=c.c5;have O:=c.f 5;have P:=d.c0;have Q:=d.c1;have R:=d.c2;have S:=d.c3;have T:=d.c4;have U:=d.c5;have V:=d.f 0;have W:=d.f 1;have ab:=d.f 2;have ac:=d.f 3;have ad:=d.f 4;have aa:=d.f 5;clear p r q o;have i:aV l (l.setCell ⟨w.heap.size+1+1,5,none⟩ (.slice (some ⟨b,0,none⟩) D.nv D.nv)) (w.heap.size+1+1):=(aV.refl l _).setCell _ _;go_wp2;have s:=((((((d.marked i om).gH (.int .i64 D.op)).gM (.int .i64 D.a)).gZ (.int .i64 D.b)).rL (.int .i64 D.k)).set4 (.int .i64 D.s)).set5 (.slice (some ⟨b,0,none⟩) D.nv D.nv);refine bO (ol rfl underlying87 rfl aj1 _ _ _ _ _ _ _ _ _ rfl s) rfl ?_;have j:aV (l.setCell ⟨w.heap.size+1+1,5,none⟩ (.slice (some ⟨b,0,none⟩) D.nv D.nv)) _ (w.heap.size+1):=((((((aV.refl _ _).setCell 0 (.int .i64 D.op)).setCell 1 (.int .i64 D.a)).setCell 2 (.int .i64 D.b)).setCell 3 (.int .i64 D.k)).setCell 4 (.int .i64 D.s)).setCell 5 (.slice (some ⟨b,0,none⟩) D.nv D.nv);have z5:=j.size;have z4:=i.size;refine⟨b,rfl,((v.frame i.fr (fun k y z A=>by omega)).frame j.fr (fun k y z A=>by omega)).wide om om,⟨aC _,⟨b,0,fun _=>by omega, ?_⟩,H.iop,H.ia,H.ib,H.ik,H.is,H.n63⟩,(u.trans (i.since om)).trans (j.since om)⟩;exact ((t.marked i om (fun _=>by omega)).marked j om (fun _=>by omega)).down om
structure ba(w:World)(lo hi b off:Nat)(d:dA)(v0 v1 v2 v3 v4:Value)(g1:Nat):Prop where
 c0:w.cell? ⟨b,off,none⟩=some v0
 c1:w.cell? ⟨b,off+1,none⟩=some v1
 c2:w.cell? ⟨b,off+2,none⟩=some v2
 c3:w.cell? ⟨b,off+3,none⟩=some v3
 c4:w.cell? ⟨b,off+4,none⟩=some v4
 c5:w.cell? ⟨b,off+5,none⟩=some (.slice (some ⟨g1,0,none⟩) d.nv d.nv)
 U1:wS w lo hi g1 d.nv
section
variable{w w':World}{lo hi b off:Nat}{d:dA}{v0 v1 v2 v3 v4:Value}{g1:Nat}
theorem ba.bH(r:ba w lo hi b off d v0 v1 v2 v3 v4 g1)(s:w.S w'):ba w' lo hi b off d v0 v1 v2 v3 v4 g1:=by
 have c:b<w.heap.size:=aG _ _ r.c0;exact⟨(s.cell (a:=jj b off) c).trans r.c0,(s.cell (a:=jj b (off+1)) c).trans r.c1,(s.cell (a:=jj b (off+2)) c).trans r.c2,(s.cell (a:=jj b (off+3)) c).trans r.c3,(s.cell (a:=jj b (off+4)) c).trans r.c4,(s.cell (a:=jj b (off+5)) c).trans r.c5,r.U1.bH s⟩
theorem ba.frame(r:ba w lo hi b off d v0 v1 v2 v3 v4 g1)(F:tc w w' P)(c:∀k,lo<=k->k<hi->¬P k)(a:∀o,off<=o->o<off+6->w'.cell? (jj b o)=w.cell? (jj b o)):ba w' lo hi b off d v0 v1 v2 v3 v4 g1:=
 ⟨by rw[a _ om om];exact r.c0,by rw[a _ om om];exact r.c1,by rw[a _ om om];exact r.c2,by rw[a _ om om];exact r.c3,by rw[a _ om om];exact r.c4,by rw[a _ om om];exact r.c5,
   r.U1.frame F c⟩
end
def fe(w:World)(c k n:Nat)(E:Nat->Nat)(A:Nat->dA):Prop:=∀i,k<=i->i<n->∃v0 v1 v2 v3 v4 g1,ba w (E i) (E (i+1)) c (i*6) (A i) v0 v1 v2 v3 v4 g1
structure a6(w:World)(c k:Nat)(E:Nat->Nat)(A:Nat->dA):Prop where
 lo:c<E 0
 mono:∀i,i<k->E i<=E (i+1)
 hi:E k<=w.heap.size
 own:fe w c 0 k E A
theorem a6.bH{w w':World}{A:Nat->dA}(H:a6 w n k X A)(s:w.S w'):a6 w' n k X A:=
 ⟨H.lo,H.mono,aU H.hi s.size,fun i b d=>by
   obtain⟨e,f,g,h,j,a,r⟩:=H.own i b d;exact⟨e,f,g,h,j,a,r.bH s⟩⟩
theorem a6.put{A:Nat->dA}{g j l:Value}(H:a6 w m c X A)(E:X c<=d)(M:aV w v m)(x:∀o,o<c*6->v.cell? (jj m o)=w.cell? (jj m o))
 (h:v.cell? (jj m (c*6))=some u)(n:v.cell? (jj m (c*6+1))=some U)(p:v.cell? (jj m (c*6+2))=some g)(q:v.cell? (jj m (c*6+3))=some j)(r:v.cell? (jj m (c*6+4))=some l)(s:v.cell? (jj m (c*6+5))=some (.s k (A c).nv (A c).nv))
 (b:wS w d w.heap.size k (A c).nv):a6 v m (c+1) (fun i=>if i<=c then X i else w.heap.size) A:=by
 have K:m<X c:=aS H.lo (kV H.mono (aJ _) zR);have L:=b.span;refine⟨by simpa using H.lo,fun i y=> ?_, ?_,fun i _ y=> ?_⟩
 . by_cases e:i=c
   . subst e;simp only[aC,jG,show ¬i+1<=i by omega,iO];exact H.hi
   . simp only[show i<=c by omega,show i+1<=c by omega,jG];exact H.mono i om
 . simp only[show ¬c+1<=c by omega,iO];rw[M.size];exact aC _
 . by_cases e:i=c
   . subst e;simp only[aC,jG,show ¬i+1<=i by omega,iO];exact⟨u,U,g,j,l,k,h,n,p,q,r,s,(b.frame M.fr (fun c a f B=>by omega)).wide E zR⟩
   . simp only[show i<=c by omega,show i+1<=c by omega,jG];obtain⟨C,D,F,G,I,t,z⟩:=H.own i (aJ _) om;have:=kV H.mono (aJ i) (show i<=c by omega);have:=H.lo;exact⟨C,D,F,G,I,t,z.frame M.fr (fun m a f B=>by omega) (fun o a f=>x o om)⟩
structure ai(w:World)(lo hi c n:Nat)(A:Nat->dA):Prop where
 ex:∃E:Nat->Nat,lo<=c/\c<E 0/\(∀i,i<n->E i<=E (i+1))/\E n<=hi/\fe w c 0 n E A
 f:∀o,w.frozen? ⟨c,o,none⟩=false
 lt:c<w.heap.size
section
variable{w w':World}{lo hi lo' hi' c n:Nat}{A:Nat->dA}
theorem ai.span(H:ai w lo hi c n A):lo<=c/\c<hi:=by
 obtain⟨E,a,d,b,e,-⟩:=H.ex;have:=kV b (aJ n) zR;exact⟨a,om⟩
theorem ai.wide(H:ai w lo hi c n A)(f:lo'<=lo)(g:hi<=hi'):ai w lo' hi' c n A:=by
 obtain⟨E,a,b,e,d,o⟩:=H.ex;exact⟨⟨E,om,b,e,om,o⟩,H.f,H.lt⟩
theorem ai.bH(H:ai w lo hi c n A)(s:w.S w'):ai w' lo hi c n A:=by
 obtain⟨E,a,b,e,d,o⟩:=H.ex;exact⟨⟨E,a,b,e,d,fun i g h=>by
  obtain⟨j,k,l,m,p,f,r⟩:=o i g h;exact⟨j,k,l,m,p,f,r.bH s⟩⟩,fun o=>by rw[s.frozen (a:=jj c o) H.lt];exact H.f o,aS H.lt s.size⟩
theorem ai.frame(H:ai w lo hi c n A)(F:tc w w' P)(h:∀k,lo<=k->k<hi->¬P k):ai w' lo hi c n A:=by
 have l:=H.span;obtain⟨E,a,b,e,d,o⟩:=H.ex;refine⟨⟨E,a,b,e,d,fun i f g=> ?_⟩,fun o=>by rw[F.frozen];exact H.f o,by rw[F.size];exact H.lt⟩;obtain⟨p,q,s,t,u,m,r⟩:=o i f g;have v:=kV e (aJ i) (show i<=n by omega);have x:=kV e (i:=i+1) (j:=n) om zR;exact⟨p,q,s,t,u,m,r.frame F (fun k f g=>h k om om) (fun o _ _=>F.cell (a:=jj c o) (h c l.1 l.2))⟩
end
theorem af4{A:Nat->dA}(hn:d<=1048576)(hs:xd A d<=1048576)(H:vv w n a m c d A):
 Cl 25 #[.slice a d k] w fun e q=>∃p,e=.returned (.s p d d)/\w.heap.size<=p/\p<q.heap.size/\ai q w.heap.size q.heap.size p d A/\vv q (p+1) (jp p 0) p 0 d A/\w.S q:=by
 have aa:=qy (P:=Tryz.prog) 33 87 _ 6 64 underlying33 akh .i64 .i64 d om om;have Z:=cV w (.o (madeCells #[.i 0,.i 0,.i 0,.i 0,.i 0,.n] (d*6)) 87);have Y:=rZ.new w #[.i 0,.i 0,.i 0,.i 0,.i 0,.n] (d*6) 87;go_enter func25,ntmps25;go_wp2;go_loopw [4] (fun i wr=>∃(b:Nat) (E:Nat->Nat),a6 wr w.heap.size b E A/\b<=d/\i=.i b/\w.S wr/\rZ wr w.heap.size (d*6)/\vv wr (w.heap.size+1) (jp w.heap.size 0) w.heap.size 0 b A) (fun i _=>d-(intOf i).toNat)
 case atStart=>exact⟨0,fun _=>w.heap.size+1,⟨iZ _,fun i g=>absurd g om,qz,fun i _ g=>absurd g om⟩,aJ _,rfl,Z,Y,fun i g=>absurd g om⟩
 case round=>
  obtain⟨b,E,f,hk,rfl,s,r,T⟩:=hrel;by_cases u:b<d
  . obtain⟨rfl,a1,k1,M⟩:=H b u;have t:=M.bH s;obtain⟨Q,R,S,U,V,W⟩:=t.g;have hz:(b:Int)<d:=om;have ab:=bM (A:=A) u;go_wp2_with fail;refine (ahg om t.L).mono ?_;rintro e w2 ⟨P,rfl,L,F,j⟩;have h:=r.bH j;have K:=T.bH j;have I:=s.tr j;obtain⟨v0,u0⟩:=h.cell (b*6) om;obtain⟨v1,u1⟩:=h.cell (b*6+1) om;obtain⟨v2,u2⟩:=h.cell (b*6+2) om;obtain⟨v3,u3⟩:=h.cell (b*6+3) om;obtain⟨v4,u4⟩:=h.cell (b*6+4) om;obtain⟨v5,u5⟩:=h.cell (b*6+5) om;have f0:=h.f (b*6);have f1:=h.f (b*6+1);have f2:=h.f (b*6+2);have f3:=h.f (b*6+3);have f4:=h.f (b*6+4);have f5:=h.f (b*6+5);have N:=r.lt;clear Q R S U V W;go_wp2;go_roundw
    case rel=>go_light;obtain⟨w3,O,l,G,v,x,y,z,B,C,D⟩:=put6 (q:=b*6) h om (.i (A b).op) (.i (A b).a) (.i (A b).b) (.i (A b).k) (.i (A b).s) (.s P (A b).nv (A b).nv);rw[<-O];exact⟨b+1,_,(f.bH j).put f.hi l (fun o X=>D o om) v x y z B C L,om,by go_num,I.trans (l.since zR),G,K.put l (fun o X=>D o om) (F.down om) v x y z B C⟩
    case measure=>exact yI
  . have e:b=d:=om;subst e;have N:=r.lt;go_wp2;go_ret;exact⟨w.heap.size,rfl,aC _,N,⟨⟨E,aC _,f.lo,f.mono,f.hi,f.own⟩,r.f,N⟩,T,s⟩
structure b6(w:World)(lo hi:Nat)(g:be)(c1 c2 c3:Nat):Prop where
 ex:∃m1 m2,lo<=m1/\m1<=m2/\m2<=hi/\wS w lo m1 c1 g.nl/\wS w m1 m2 c2 g.nh/\ai w m2 hi c3 g.nn g.N
section
variable{w w':World}{lo hi lo' hi' c1 c2 c3:Nat}{g:be}
theorem b6.bH(H:b6 w lo hi g c1 c2 c3)(s:w.S w'):b6 w' lo hi g c1 c2 c3:=by
 obtain⟨h,i,d,e,f,a,b,c⟩:=H.ex;exact⟨h,i,d,e,f,a.bH s,b.bH s,c.bH s⟩
end
theorem uj{G:be}{a A B:Option Addr}{n m c d:Nat}{w:World}(hd:G.size<=1048576)(H:rH w n G a A B m c d):
 Calls Tryz.prog 6 #[.agg #[.int .i64 G.inn,.int .i64 G.rounds,.slice a G.nl m,.slice A G.nh c,.slice B G.nn d,.int .i64 G.out]] w fun e W=>∃R S T,e=.returned (.agg #[.int .i64 G.inn,.int .i64 G.rounds,.slice (some ⟨R,0,none⟩) G.nl G.nl,.slice (some ⟨S,0,none⟩) G.nh G.nh,.slice (some ⟨T,0,none⟩) G.nn G.nn,.int .i64 G.out])/\b6 W w.heap.size W.heap.size G R S T/\
  rH W w.heap.size G (some ⟨R,0,none⟩) (some ⟨S,0,none⟩) (some ⟨T,0,none⟩) G.nl G.nh G.nn/\w.Since w.heap.size W:=by
 have ts:=hd;unfold be.size at ts;obtain⟨t,q⟩:∃t:World,t=(((w.alloc (.cells #[.int .i64 G.inn,.int .i64 G.rounds,.slice a G.nl m,.slice A G.nh c,.slice B G.nn d,.int .i64 G.out] 25)).alloc (.cells #[.int .i64 0,.int .i64 0,.slice none 0 0,.slice none 0 0,.slice none 0 0,.int .i64 0] 35)).alloc (.cells #[.int .i64 G.inn,.int .i64 G.rounds,.slice none 0 0,.slice none 0 0,.slice none 0 0,.int .i64 0] 35)):=⟨_,rfl⟩;have U:w.Since w.heap.size t:=by rw[q];exact ((yD.alloc zR _).alloc qz _).alloc (by simp;omega) _
 have zA:t.heap.size=w.heap.size+1+1+1:=by rw[q];simp
 have bA:dL t w.heap.size (.int .i64 G.inn) (.int .i64 G.rounds) (.slice a G.nl m) (.slice A G.nh c) (.slice B G.nn d) (.int .i64 G.out):=by rw[q];exact ((dL.new w _ _ _ _ _ _ _).bH (yD.alloc zR _)).bH (yD.alloc zR _)
 have rA:dL t (w.heap.size+1) (.int .i64 0) (.int .i64 0) (.slice none 0 0) (.slice none 0 0) (.slice none 0 0) (.int .i64 0):=by rw[q];have:=(dL.new (w.alloc (.cells #[.int .i64 G.inn,.int .i64 G.rounds,.slice a G.nl m,.slice A G.nh c,.slice B G.nn d,.int .i64 G.out] 25)) (.int .i64 0) (.int .i64 0) (.slice none 0 0) (.slice none 0 0) (.slice none 0 0) (.int .i64 0) 35).bH (yD.alloc zR (.cells #[.int .i64 G.inn,.int .i64 G.rounds,.slice none 0 0,.slice none 0 0,.slice none 0 0,.int .i64 0] 35));simpa using this
 have oA:dL t (w.heap.size+1+1) (.int .i64 G.inn) (.int .i64 G.rounds) (.slice none 0 0) (.slice none 0 0) (.slice none 0 0) (.int .i64 0):=by rw[q];have:=dL.new ((w.alloc (.cells #[.int .i64 G.inn,.int .i64 G.rounds,.slice a G.nl m,.slice A G.nh c,.slice B G.nn d,.int .i64 G.out] 25)).alloc (.cells #[.int .i64 0,.int .i64 0,.slice none 0 0,.slice none 0 0,.slice none 0 0,.int .i64 0] 35)) (.int .i64 G.inn) (.int .i64 G.rounds) (.slice none 0 0) (.slice none 0 0) (.slice none 0 0) (.int .i64 0) 35;simpa using this
 obtain⟨b1,o1,-,ao⟩:=(H.bH U).LL;have an:=aR q;clear q;go_enter func6,ntmps6;go_wp2_with fail;rw[<-an.out];refine (dd om om ao).mono ?_;rintro e z ⟨r,rfl,l1,aa,O,R1,I⟩;have S1:=U.trans (sM I U.size);have L:=bA.bH I;have Q1:=rA.bH I;have C:=oA.bH I;have Q:=L.c3;have F:=C.c2;have f2:=C.f 2;clear bA rA oA ao an;go_wp2_with fail;have u:aV z (z.setCell ⟨w.heap.size+1+1,2,none⟩ (.slice (some ⟨r,0,none⟩) G.nl G.nl)) (w.heap.size+1+1):=(aV.refl z _).setCell _ _;have Y:=C.gZ (.slice (some ⟨r,0,none⟩) G.nl G.nl);have Q2:=Q1.marked u om;have al:=L.marked u om;have R2:=R1.marked u om (fun _=>by omega);have N:=S1.trans (u.since (B:=w.heap.size) om);have z2:=u.size;have z1:=O.span;have U2:=O.frame u.fr (fun k h i j=>by omega);clear O Q F f2 L u C Q1 R1 S1;generalize z.setCell ⟨w.heap.size+1+1,2,none⟩ (.slice (some ⟨r,0,none⟩) G.nl G.nl)=w2 at*;obtain⟨b2,F,-,aq⟩:=(H.bH N).LH;refine (dd om om aq).mono ?_;rintro e v ⟨s,rfl,l3,ab,P,T1,y⟩;have S3:=N.trans (sM y N.size);have M:=al.bH y;have Q3:=Q2.bH y;have D:=Y.bH y;have R3:=R2.bH y;have U3:=U2.bH y;have b4:=M.c4;have V:=D.c3;have f3:=D.f 3;clear al Q2 Y R2 U2 aq;go_wp2_with fail;have b:aV v (v.setCell ⟨w.heap.size+1+1,3,none⟩ (.slice (some ⟨s,0,none⟩) G.nh G.nh)) (w.heap.size+1+1):=(aV.refl v _).setCell _ _;have Z:=D.rL (.slice (some ⟨s,0,none⟩) G.nh G.nh);have Q4:=Q3.marked b om;have am:=M.marked b om;have R4:=R3.marked b om (fun _=>by omega);have T4:=T1.marked b om (fun _=>by omega);have E:=S3.trans (b.since (B:=w.heap.size) om);have z4:=b.size;have z3:=P.span;have U4:=U3.frame b.fr (fun k h i j=>by omega);have V4:=P.frame b.fr (fun k h i j=>by omega);clear U3 P b4 V f3 M b D Q3 R3 T1 S3;generalize v.setCell ⟨w.heap.size+1+1,3,none⟩ (.slice (some ⟨s,0,none⟩) G.nh G.nh)=w4 at*;obtain⟨Q,V,-,X⟩:=(H.bH E).LN;refine (af4 om om X).mono ?_;rintro e K ⟨x,rfl,l5,ac,W1,X1,l⟩;have S5:=E.trans (sM l E.size);have g:=Q4.bH l;have B5:=am.bH l;have f:=Z.bH l;have R5:=R4.bH l;have T5:=T4.bH l;have U5:=U4.bH l;have V5:=V4.bH l;have z5:=W1.span;have o0:=f.c0;have o1:=f.c1;have F:=f.c2;have V:=f.c3;have o4:=f.c4;have o5:=f.c5;have ad:=f.f 4;have ae:=f.f 5;have q0:=g.c0;have q1:=g.c1;have q2:=g.c2;have q3:=g.c3;have q4:=g.c4;have q5:=g.c5;have af:=g.f 0;have ag:=g.f 1;have ah:=g.f 2;have ai:=g.f 3;have aj:=g.f 4;have ak:=g.f 5;clear Q4 Z R4 T4 U4 V4 X E am;have o:aV K ((K.setCell ⟨w.heap.size+1+1,4,none⟩ (.slice (some ⟨x,0,none⟩) G.nn G.nn)).setCell ⟨w.heap.size+1+1,5,none⟩ (.int .i64 G.out)) (w.heap.size+1+1):=((aV.refl K _).setCell _ _).setCell _ _;have b5:=B5.c5;go_wp2;have Q6:=((((((g.marked o om).gH (.int .i64 G.inn)).gM (.int .i64 G.rounds)).gZ (.slice (some ⟨r,0,none⟩) G.nl G.nl)).rL (.slice (some ⟨s,0,none⟩) G.nh G.nh)).set4 (.slice (some ⟨x,0,none⟩) G.nn G.nn)).set5 (.int .i64 G.out);refine bO (ol rfl underlying35 rfl ahs _ _ _ _ _ _ _ _ _ rfl Q6) rfl ?_;have p:aV ((K.setCell ⟨w.heap.size+1+1,4,none⟩ (.slice (some ⟨x,0,none⟩) G.nn G.nn)).setCell ⟨w.heap.size+1+1,5,none⟩ (.int .i64 G.out)) _ (w.heap.size+1):=((((((aV.refl _ _).setCell 0 (.int .i64 G.inn)).setCell 1 (.int .i64 G.rounds)).setCell 2 (.slice (some ⟨r,0,none⟩) G.nl G.nl)).setCell 3 (.slice (some ⟨s,0,none⟩) G.nh G.nh)).setCell 4 (.slice (some ⟨x,0,none⟩) G.nn G.nn)).setCell 5 (.int .i64 G.out);have z7:=p.size;have z6:=o.size
 refine⟨r,s,x,rfl,⟨z.heap.size,v.heap.size,om,om,om,((U5.frame o.fr (fun k h i j=>by omega)).frame p.fr (fun k h i j=>by omega)).wide om zR,((V5.frame o.fr (fun k h i j=>by omega)).frame p.fr (fun k h i j=>by omega)).wide om zR,((W1.frame o.fr (fun k h i j=>by omega)).frame p.fr (fun k h i j=>by omega)).wide om om⟩,
  ⟨aC _,aC _,aC _,⟨r,0,fun _=>by omega, ?_⟩,⟨s,0,fun _=>by omega, ?_⟩,⟨x,0,fun _=>by omega, ?_⟩,H.ii,H.ir,H.io,H.l63,H.h63,H.n63⟩,(S5.trans (o.since om)).trans (p.since om)⟩
 . exact ((R5.marked o om (fun _=>by omega)).marked p om (fun _=>by omega)).down om
 . exact ((T5.marked o om (fun _=>by omega)).marked p om (fun _=>by omega)).down om
 . exact ((X1.marked o om (fun _=>by omega)).marked p om (fun _=>by omega)).down om
theorem adJ{A:Nat->dA}(hn:d<=1048576)(ah:xd A d<=1048576)(af:i<=288230376151711744)(H:ai w n m c d A):
 Cl 35 #[.s c d k,.i i] w fun e p=>∃I:Nat,I<=i+5*d+xd A d*16777217/\e=.returned (.i (I:Int))/\tc w p (fun a=>n<=a/\a<m):=by
 have sp:=H.span;obtain⟨E,ha,hb,g,hd,u⟩:=H.ex;have l:=H.f;go_enter func35,ntmps35;go_wp2;go_loopw [1,5] (fun q j wr=>∃(a b:Nat),a<=d/\j=.i a/\q=.i (b:Int)/\b<=i+5*a+xd A a*16777217/\tc w wr (fun a=>n<=a/\a<m)/\fe wr c a d E A) (fun _ j _=>d-(intOf j).toNat)
 case atStart=>exact⟨0,i,aJ _,rfl,rfl,om,tc.refl _ _,u⟩
 case round=>
  obtain⟨a,b,y,rfl,rfl,P,f,u⟩:=hrel;have m1:=og (A:=A) y;by_cases G:a<d
  . obtain⟨v0,v1,v2,v3,v4,N,r⟩:=u a zR G;have e0:=r.c0;have e1:=r.c1;have e2:=r.c2;have e3:=r.c3;have e4:=r.c4;have e5:=r.c5;have L:wr.frozen? (jj c (a*6))=false:=(by rw[f.frozen];exact l _);have ab:wr.frozen? (jj c (a*6+1))=false:=(by rw[f.frozen];exact l _);have ac:wr.frozen? (jj c (a*6+2))=false:=(by rw[f.frozen];exact l _);have ad:wr.frozen? (jj c (a*6+3))=false:=(by rw[f.frozen];exact l _);have ae:wr.frozen? (jj c (a*6+4))=false:=(by rw[f.frozen];exact l _);have p1:=r.U1.span;have b1:c<E a:=aS hb (kV g (aJ _) y);have T:=og (A:=A) (show a+1<=d by omega);rw[uG] at T;have m3:(A a).nv<=(A a).size:=(by unfold dA.size;omega);have q1:=kV g (aJ a) y;have q2:=kV g (i:=a+1) (j:=d) om zR;go_wp2_with fail;have C:aV wr (((((wr.setCell (jj c (a*6)) (.i (b:Int))).setCell (jj c (a*6+1)) (.i ((b:Int)+1))).setCell (jj c (a*6+2)) (.i ((b:Int)+1+1))).setCell (jj c (a*6+3)) (.i ((b:Int)+1+1+1))).setCell (jj c (a*6+4)) (.i ((b:Int)+1+1+1+1))) c:=(((((aV.refl wr c).setCell _ _).setCell _ _).setCell _ _).setCell _ _).setCell _ _;have M:∀o,o<a*6∨a*6+4<o->(((((wr.setCell (jj c (a*6)) (.i (b:Int))).setCell (jj c (a*6+1)) (.i ((b:Int)+1))).setCell (jj c (a*6+2)) (.i ((b:Int)+1+1))).setCell (jj c (a*6+3)) (.i ((b:Int)+1+1+1))).setCell (jj c (a*6+4)) (.i ((b:Int)+1+1+1+1))).cell? (jj c o)=wr.cell? (jj c o):=fun o v=>by
     rw[bR _ _ om,bR _ _ om,bR _ _ om,bR _ _ om,bR _ _ om]
    generalize (((((wr.setCell (jj c (a*6)) (.i (b:Int))).setCell (jj c (a*6+1)) (.i ((b:Int)+1))).setCell (jj c (a*6+2)) (.i ((b:Int)+1+1))).setCell (jj c (a*6+3)) (.i ((b:Int)+1+1+1))).setCell (jj c (a*6+4)) (.i ((b:Int)+1+1+1+1)))=t at*;rw[show ((b:Int)+1+1+1+1+1)=((b+1+1+1+1+1:Nat):Int) by omega];refine (vK om om (r.U1.frame C.fr (fun a v D s=>by omega))).mono ?_;rintro e K ⟨S,ag,rfl,B⟩;go_wp2;go_roundw
    case rel=>
     have F:tc wr K (fun x=>x=c∨E a<=x/\x<E (a+1)):=
      (C.fr.mono (fun x h=>.inl h)).trans (B.mono (fun x h=>.inr h))
     have Q:∀o,o<a*6∨a*6+4<o->K.cell? (jj c o)=wr.cell? (jj c o):=fun o h=>by rw[B.cell (a:=jj c o) (fun h=>by have:E a<=c:=h.1;omega),M o h]
     refine⟨a+1,S,om,by go_num,rfl, ?_,f.trans (F.mono fun x z=> ?_),fun j m R=> ?_⟩
     . rw[uG];omega
     . rcases z with z | z<;>omega
     . obtain⟨V,W,X,Y,Z,O,U⟩:=u j om R;have:=kV g (i:=a+1) (j:=j) om om;exact⟨V,W,X,Y,Z,O,U.frame F (fun x v D s=>by have:=g a G;rcases s with s | s<;>omega) (fun o v D=>Q o om)⟩
    case measure=>exact yI
  . have e:a=d:=om;subst e;go_wp2;go_ret;exact⟨b,P,rfl,f⟩
theorem adK{n m c d k i j l o:Nat}{G:be}{w:World}(E:G.size<=1048576)(S:o<=1048576)(R:m<=w.heap.size)(H:b6 w n m G c d k):
 Cl 10 #[.agg #[.i G.inn,.i G.rounds,.s c G.nl i,.s d G.nh j,.s k G.nn l,.i G.out],.i o] w fun e M=>∃r:Nat,e=.returned (.i (r:Int))/\r<=288230376151711744/\
  ∃s,w.S s/\tc s M (fun g=>n<=g/\g<m):=by
 have L:=E;unfold be.size at L;have y:=cV w (.o #[.i G.inn,.i G.rounds,.s c G.nl i,.s d G.nh j,.s k G.nn l,.i G.out] 35);have v:=dL.new w (.i G.inn) (.i G.rounds) (.s c G.nl i) (.s d G.nh j) (.s k G.nn l) (.i G.out) 35;go_enter func10,ntmps10;go_wp2_with fail;generalize w.alloc _=s at*;obtain⟨u,K,O,P,Q,B,C,D⟩:=(H.bH y).ex;refine (vK om om B).mono ?_;rintro e z ⟨r,p,rfl,f⟩;have F:z.cell? (jj w.heap.size 3)=some (.s d G.nh j):=by rw[f.cell (a:=jj w.heap.size 3) (fun a=>by have:w.heap.size<u:=a.2;omega)];exact v.c3
 have t:z.cell? (jj w.heap.size 4)=some (.s k G.nn l):=by rw[f.cell (a:=jj w.heap.size 4) (fun a=>by have:w.heap.size<u:=a.2;omega)];exact v.c4
 go_wp2_with fail;refine (vK om om (C.frame f (fun g p q b=>by have:=b.2;omega))).mono ?_;rintro e N ⟨U,q,rfl,h⟩;have T:N.cell? (jj w.heap.size 4)=some (.s k G.nn l):=by rw[h.cell (a:=jj w.heap.size 4) (fun a=>by have:w.heap.size<K:=a.2;omega)];exact t
 clear F t;go_wp2_with fail;refine (adJ om om om ((D.frame f (fun g p q b=>by have:=b.2;omega)).frame h (fun g p q b=>by have:=b.2;omega))).mono ?_;rintro e V ⟨I,b,rfl,A⟩;go_wp2;go_ret;exact⟨I,rfl,om,_,y,((f.mono (fun x a=>⟨a.1,by have:=a.2;omega⟩)).trans (h.mono (fun x a=>⟨by have:=a.1;omega,by have:=a.2;omega⟩))).trans (A.mono (fun x a=>⟨by have:=a.1;omega,a.2⟩))⟩
end Go.Proofs.YtaeieekkddndhaaGreat
