import Derived.Test.YtaeieekkddndhaaGreatOwnP18
import Derived.Deep.Onto
set_option maxHeartbeats 6400000
set_option maxRecDepth 100000
namespace Go.Proofs.YtaeieekkddndhaaGreat
open Tryz Go.RowKit
variable{v W V:World}{n m c d k i j l o b p t r s g h e:Nat}{a A B:Option Addr}{X Y Z:Nat->Nat}{u U:Value}{f F:Bool}{z y:Int}{G:be}{P:Nat->Prop}{Q:Rat}{D:dA}{R:jd}
theorem qg{P:Program}(w:World){E:Array Oper}{F:List Oper}{o:Oper}{v:Act}{Q:Exit->Act->World->Prop}(r:o.guard=none)(s x:Operand)(t:TypeId)
 (A:o.op=.call { callee:=.builtin .append,args:= #[s,x],argTypes:= #[t,t] })
 (n:Nat)(e:TypeId)(g:TypeInfo)(u:Value)(m c:Nat)(C:P.underlying t=some (.slice e))(y:P.info? e=some g)(S:g.zero=some u)
 (O:g.size=m)(K:g.bytes=c)(T:u.cells.size=m)(R:0<m)
 (U:Value)(d:Nat)(f:List Value)(B:v.eval s=U)(V:w.ownsRow n e m U d f)
 (a:Option Addr)(k i:Nat)(b:List Value)(D:v.eval x=.slice a k i)(hl:b.length=k*m)(N:a=none->k=0/\i=0)(M:∀q,a=some q->∀j z,b[j]?=some z->w.cell? (q.add j)=some z)(G:∀z∈b,z.oneCell'=true)
 (H:d+k<=maxLen)(L:(d+k)*c<=140737488355328)(I:n<=w.heap.size)
 (h:∀l p,p.ownsRow n e m l (d+k) (f++b)->w.grownBy p U.ownBlock->(l=.n↔U=.n/\k=0)->wpList P E Q F (v.put o.dst l) p):wpList P E Q (o::F) v w:=by
 rcases a with _ | q
 . obtain⟨rfl,rfl⟩:=N rfl;obtain rfl:b=[]:=List.length_eq_zero_iff.mp om;refine wpList_append_own_none r s x t A n e g m C y U d f B V D (h U w ?_ ?_ ?_)
   . rw[iJ];exact V
   . exact⟨rfl,rfl,rfl,aC _,fun _ _ _=>rfl⟩
   . simp
 . exact gK w r s x t A n e g u m c C y S O K T R U d f B V q k i b D hl (M q rfl) G H L I h
theorem abW{w:World}(h:bE w a n m c X):∀b,a=some b->∀j u,(ll X c)[j]?=some u->w.cell? (b.add j)=some u:=by
 intro b e;subst e;exact acZ h
theorem eD{w:World}{e:TypeId}{f:List Value}(h:w.ownsRow n e c u d f)(s:od m w v)(g:m<n):v.ownsRow n e c u d f:=
 h.kept (row:=some m) ⟨s.os,s.tape,s.output,s.size,fun k a b=>s.block k a (fun e=>b (by rw[e]))⟩ (Or.inr (fun e=>by have:=(h.lt m e).1;omega))
theorem oD{w:World}(h:w.ownsRow n 135 1 (.s m c d) c (ll X c)):c<=d/\bE w (jp m 0) m 0 c X/\∀o,w.frozen? (jj m o)=false:=by
 obtain⟨f,b,e,a,-,-,L,F⟩:=kg h qz;cases e;exact⟨a,L,F⟩
theorem adk{w:World}(hn:c<=16777216)(hm:j<=16777216)(ae:c<=d)(ad:j<=l)(aa:a=none->d=0)(ab:A=none->l=0)(hX:bE w a n m c X)(hY:bE w A k i j Y):
 Calls Tryz.prog 88 #[.agg #[.bool f,.slice a c d,.slice A j l]] w fun e U=>∃g h x y,e=.returned (.agg #[.bool f,.slice (some ⟨g,0,none⟩) c x,.slice (some ⟨h,0,none⟩) j y])/\U.ownsRow (w.heap.size+1+1) 135 1 (.slice (some ⟨g,0,none⟩) c x) c (ll X c)/\U.ownsRow (w.heap.size+1+1) 135 1 (.slice (some ⟨h,0,none⟩) j y) j (ll Y j)/\w.heap.size+1+1<=g/\g<h/\h<U.heap.size/\w.Since w.heap.size U:=by
 obtain⟨L,G,H,I,K⟩:=kT fI;have p:w.Since w.heap.size ((w.alloc (.cells #[.bool f,.slice a c d,.slice A j l] 83)).alloc (.cells #[.bool false,.slice none 0 0,.slice none 0 0] 83)):=(yD.alloc zR _).alloc qz _;have oA:cR ((w.alloc (.cells #[.bool f,.slice a c d,.slice A j l] 83)).alloc (.cells #[.bool false,.slice none 0 0,.slice none 0 0] 83)) w.heap.size (.bool f) (.slice a c d) (.slice A j l):=(cR.new w _ _ _ _).bH (yD.alloc zR _);have B:((w.alloc (.cells #[.bool f,.slice a c d,.slice A j l] 83)).alloc (.cells #[.bool false,.slice none 0 0,.slice none 0 0] 83)).Since ((w.alloc (.cells #[.bool f,.slice a c d,.slice A j l] 83)).alloc (.cells #[.bool false,.slice none 0 0,.slice none 0 0] 83)).heap.size (((w.alloc (.cells #[.bool f,.slice a c d,.slice A j l] 83)).alloc (.cells #[.bool false,.slice none 0 0,.slice none 0 0] 83)).alloc (.cells #[] 135)):=yD.alloc zR _;have ao:=p.trans (sM B p.size);have X1:=hX.bH ao;have u:=iP (e:=135) (size:=1) ((w.alloc (.cells #[.bool f,.slice a c d,.slice A j l] 83)).alloc (.cells #[.bool false,.slice none 0 0,.slice none 0 0] 83)) #[] 0 zR qd rfl;have C:((w.alloc (.cells #[.bool f,.slice a c d,.slice A j l] 83)).alloc (.cells #[.bool false,.slice none 0 0,.slice none 0 0] 83)).heap.size=w.heap.size+1+1:=by simp
 have ac:=iP (e:=135) (size:=1) ((w.alloc (.cells #[.bool f,.slice a c d,.slice A j l] 83)).alloc (.cells #[.bool false,.slice none 0 0,.slice none 0 0] 83)) #[] 0 zR qd rfl;rw[C] at u;have ai:=C;have rA:cR ((w.alloc (.cells #[.bool f,.slice a c d,.slice A j l] 83)).alloc (.cells #[.bool false,.slice none 0 0,.slice none 0 0] 83)) (w.heap.size+1) (.bool false) (.slice none 0 0) (.slice none 0 0):=by have:=cR.new (w.alloc (.cells #[.bool f,.slice a c d,.slice A j l] 83)) (.bool false) (.slice none 0 0) (.slice none 0 0) 83;simpa using this
 have D:=aR ai;clear C ai;go_enter func88,ntmps88;go_wp2_with (at_builtin;refine qg _ rfl _ _ 74 rfl (w.heap.size+1+1) 135 L (.int .u32 0) 1 4 underlying74 G H I K rfl qd _ 0 [] rfl u a c d (ll X c) rfl (by rw[xG];omega) (fun e=>by have:=aa e;omega) (abW X1) (e5 X c) (by unfold maxLen;omega) om qz ?_);intro v1 R v E N;have q:((w.alloc (.cells #[.bool f,.slice a c d,.slice A j l] 83)).alloc (.cells #[.bool false,.slice none 0 0,.slice none 0 0] 83)).Since ((w.alloc (.cells #[.bool f,.slice a c d,.slice A j l] 83)).alloc (.cells #[.bool false,.slice none 0 0,.slice none 0 0] 83)).heap.size R:=B.grown E (aU zR B.size) (fun W t=>by
  have:=ac.lt W (by rw[D.out];exact t);exact this.1)
 have o:=p.trans (sM q p.size);have P:=oA.bH q;have r2:=rA.bH q;have aj:=aR N;clear E u N;generalize ((w.alloc (.cells #[.bool f,.slice a c d,.slice A j l] 83)).alloc (.cells #[.bool false,.slice none 0 0,.slice none 0 0] 83))=wA at*;have S:=cV R (.cells #[] 135);have SD:=o.trans (sM S o.size);have Y1:=hY.bH SD;have z:=iP (e:=135) (size:=1) R #[] 0 zR qd rfl;have Q:=P.bH S;have k2:=Q.c2;go_wp2_with (at_builtin;refine qg _ rfl _ _ 74 rfl R.heap.size 135 L (.int .u32 0) 1 4 underlying74 G H I K rfl qd _ 0 [] rfl z A j l (ll Y j) rfl (by rw[xG];omega) (fun e=>by have:=ab e;omega) (abW Y1) (e5 Y j) (by unfold maxLen;omega) om S.size ?_);intro v3 Z V F O;have T:R.Since R.heap.size Z:=S.grown F S.size (fun W t=>(z.lt W t).1);have SE:=o.trans (sM T o.size);have o4:=P.bH T;have b:=r2.bH T;obtain⟨r,x,rfl,m1,b1,l1,L1,F1⟩:=kg v aj.out;obtain⟨s,y,rfl,m2,b2,l2,L2,F2⟩:=kg V O;have ak:=aR v;have al:=aR V;clear v V;clear F z O k2 Q;have j0:=o4.c0;have u0:=b.c0;have u1:=b.c1;have u2:=b.c2;have af:=b.f 0;have ag:=b.f 1;have ah:=b.f 2;go_wp2;have zC:=q.size;have zE:=T.size;have rC:=((b.gH (.bool f)).gM (.slice (some ⟨r,0,none⟩) c x)).gZ (.slice (some ⟨s,0,none⟩) j y);refine bO (re rfl _ _ _ _ _ _ rfl rC) rfl ?_;have M:aV Z _ (w.heap.size+1):=(((aV.refl Z _).setCell 0 (.bool f)).setCell 1 (.slice (some ⟨r,0,none⟩) c x)).setCell 2 (.slice (some ⟨s,0,none⟩) j y);have hz:=D.out;have zM:=M.size;have am:=eD (eD ak.out (od.mK w.heap.size T) om) (od.i8 M) om;have an:=eD al.out (od.i8 M) om;exact⟨r,s,x,y,rfl,am,an.mono om,om,om,om,SE.trans (M.since om)⟩
theorem dm(x y:Addr){w:World}(B:c<=16777216)(A:j<=16777216)(q:c<=d)(p:j<=l)(u:bE w (some x) n m c X)(v:bE w (some y) k i j Y):
 Cl 88 #[.agg #[.bool f,.slice (some x) c d,.slice (some y) j l]] w fun e r=>∃t C g h a b,e=.returned (.agg #[.bool f,.slice t c a,.slice C j b])/\c<=a/\j<=b/\(t=none->a=0)/\(C=none->b=0)/\
  bE r t g 0 c X/\bE r C h 0 j Y/\(0<c->∀o,r.frozen? (jj g o)=false)/\(0<j->∀o,r.frozen? (jj h o)=false)/\w.heap.size<=g/\g<h/\h<r.heap.size/\w.S r:=
 (adk B A q p (fun h=>by cases h) (fun h=>by cases h) u v).mono fun _ _ ⟨g,h,a,b,z,D,H,G,E,F,s⟩=>⟨_,_,g,h,a,b,z,(oD D).1,(oD H).1,fun h=>(by cases h),fun h=>(by cases h),(oD D).2.1,(oD H).2.1,fun _=>(oD D).2.2,fun _=>(oD H).2.2,om,E,F,s⟩
theorem adW{a:Nat->Nat}(r:fF f X n Z c=true)(b:fF F Y m a d=true)(j:n=0):
 (gj f F (lv X n*lv a d) (lv Y m*lv Z c)&&cH f F (lv X n*lv a d) (lv Y m*lv Z c) != 0)=F/\cH f F (lv X n*lv a d) (lv Y m*lv Z c)/Nat.gcd (cH f F (lv X n*lv a d) (lv Y m*lv Z c)) (lv Z c*lv a d)=lv Y m/\(lv Z c*lv a d)/Nat.gcd (cH f F (lv X n*lv a d) (lv Y m*lv Z c)) (lv Z c*lv a d)=lv a d:=by
 subst j;unfold fF at r b;simp only[fT,nG,jJ,tH,Bool.and_eq_false_imp] at r b;have p:f=false:=by cases f;rfl;have:=r.1.2;simp at this
 have g:lv Z c=1:=by have:=r.2;simpa [lv] using this
 have q:=b.2;have i:F=true->lv Y m≠0:=fun e h=>by have k:=(jr (nm.1 b.1.1.1.1)).2 h;have:=b.1.2 e;simp[k] at this
 subst p;have o:cH false F (lv X 0*lv a d) (lv Y m*lv Z c)=lv Y m:=by
  simp only[lv,iT,g,iF,cH];cases F
  . simp
  . have:=i rfl;simp;omega
 rw[o,g,dS,q,pI,pI];refine⟨?_,rfl,rfl⟩;simp only[lv,iT,iF,gj];cases F
 . simp
 . have:=i rfl;have l:0<lv Y m:=om;simp[l];omega
theorem adV{a:Nat->Nat}(b:fF f X n Z c=true)(g:fF F Y m a d=true)(j:m=0):
 (gj f F (lv X n*lv a d) (lv Y m*lv Z c)&&cH f F (lv X n*lv a d) (lv Y m*lv Z c) != 0)=f/\cH f F (lv X n*lv a d) (lv Y m*lv Z c)/Nat.gcd (cH f F (lv X n*lv a d) (lv Y m*lv Z c)) (lv Z c*lv a d)=lv X n/\(lv Z c*lv a d)/Nat.gcd (cH f F (lv X n*lv a d) (lv Y m*lv Z c)) (lv Z c*lv a d)=lv Z c:=by
 subst j;unfold fF at b g;simp only[fT,nG,jJ,tH,Bool.and_eq_false_imp] at b g;have o:F=false:=by cases F;rfl;have:=g.1.2;simp at this
 have i:lv a d=1:=by have:=g.2;simpa [lv] using this
 have p:=b.2;have q:f=true->lv X n≠0:=fun e h=>by have k:=(jr (nm.1 b.1.1.1.1)).2 h;have:=b.1.2 e;simp[k] at this
 subst o;have l:cH f false (lv X n*lv a d) (lv Y 0*lv Z c)=lv X n:=by
  simp only[lv,iT,i,iF,cH];cases f
  . simp
  . simp
 rw[l,i,iF,iF,p,pI,pI];refine⟨?_,rfl,rfl⟩;simp only[lv,iT,gj];cases f
 . simp
 . have:=q rfl;simp;omega
theorem aia(a V x y:Addr){q:Nat}{e:Nat->Nat}{w:World}(hn:c+p+j+s<=16777216)
 (R:se w (some a) (some V) n m c d k i j l X Y)(v:se w (some x) (some y) o b p q t r s g Z e)(an:fF f X c Y j=true)(ao:fF F Z p e s=true)(h0:c=0∨p=0):
 Cl 87 #[.agg #[.bool f,.slice (some a) c d,.slice (some V) j l],.agg #[.bool F,.slice (some x) p q,.slice (some y) s g]] w fun aj w'=>∃ar,aj=.returned ar/\
  pe w' ar (gj f F (lv X c*lv e s) (lv Z p*lv Y j)&&cH f F (lv X c*lv e s) (lv Z p*lv Y j) != 0) (cH f F (lv X c*lv e s) (lv Z p*lv Y j)/Nat.gcd (cH f F (lv X c*lv e s) (lv Z p*lv Y j)) (lv Y j*lv e s)) ((lv Y j*lv e s)/Nat.gcd (cH f F (lv X c*lv e s) (lv Z p*lv Y j)) (lv Y j*lv e s)) w.heap.size 67108864/\w.S w':=by
 have ah:w.heap.size+1+1≠w.heap.size:=om;obtain⟨S,zA,oA,pA,aq⟩:=bx w (.bool f) (.l (some a) c d) (.l (some V) j l) (.bool F) (.l (some x) p q) (.l (some y) s g) (.bool false) (.n) (.n);by_cases al:c=0
 . have K:=adW an ao al;rw[K.1,K.2.1,K.2.2];subst al;obtain⟨k0,k1,k2⟩:=pA.g;go_enter func87,ntmps87;go_wp2_with fail;generalize (((w.alloc _).alloc _).alloc _)=w1 at*;refine (dm x y om om v.nc v.mc (v.bH S).LX (v.bH S).LY).mono ?_;rintro aj h ⟨z,G,T,U,H,I,rfl,N,O,P,ai,D,ak,C,B,y1,y2,y3,u⟩;have Q:=aq.bH u;have W:=S.tr u;obtain⟨u0,u1,u2⟩:=Q.g;obtain⟨ae,af,ag⟩:=Q.k;go_wp2;have L:=((Q.gH (.bool F)).gM (.l z p H)).gZ (.l G s I);refine bO (re rfl _ _ _ _ _ _ rfl L) rfl ?_;have M:aV h _ (w.heap.size+1+1):=(((aV.refl h _).setCell 0 (.bool F)).setCell 1 (.l z p H)).setCell 2 (.l G s I);have E:fp h (.l z p H) T (lv Z p) 67108864:=⟨_,_,_,Z,rfl,N,om,P,D,C,v.lX,v.pX,rfl⟩;have A:fp h (.l G s I) U (lv e s) 67108864:=⟨_,_,_,e,rfl,O,om,ai,ak,B,v.lY,v.pY,rfl⟩;exact⟨_,rfl,⟨_,_,T,U,rfl,E.marked M om,A.marked M om,om,om,om⟩,W.trans (M.since om)⟩
 . have am:p=0:=om;have K:=adV an ao am;rw[K.1,K.2.1,K.2.2];subst am;have q1:((c:Int)==0)=false:=(by simp;omega);obtain⟨k0,k1,k2⟩:=oA.g;go_enter func87,ntmps87;go_wp2_with fail;generalize (((w.alloc _).alloc _).alloc _)=w1 at*;refine (dm a V om om R.nc R.mc (R.bH S).LX (R.bH S).LY).mono ?_;rintro aj h ⟨z,G,T,U,H,I,rfl,N,O,P,ai,D,ak,C,B,y1,y2,y3,u⟩;have Q:=aq.bH u;have W:=S.tr u;obtain⟨u0,u1,u2⟩:=Q.g;obtain⟨ae,af,ag⟩:=Q.k;go_wp2;have L:=((Q.gH (.bool f)).gM (.l z c H)).gZ (.l G j I);refine bO (re rfl _ _ _ _ _ _ rfl L) rfl ?_;have M:aV h _ (w.heap.size+1+1):=(((aV.refl h _).setCell 0 (.bool f)).setCell 1 (.l z c H)).setCell 2 (.l G j I);have E:fp h (.l z c H) T (lv X c) 67108864:=⟨_,_,_,X,rfl,N,om,P,D,C,R.lX,R.pX,rfl⟩;have A:fp h (.l G j I) U (lv Y j) 67108864:=⟨_,_,_,Y,rfl,O,om,ai,ak,B,R.lY,R.pY,rfl⟩;exact⟨_,rfl,⟨_,_,T,U,rfl,E.marked M om,A.marked M om,om,om,om⟩,W.trans (M.since om)⟩
theorem agA{f f':Bool}(a b a' b':Addr){ba oa n ca bb ob m cb ba' oa' n' ca' bb' ob' m' cb':Nat}{X Y X' Y':Nat->Nat}{w:World}(_hn:n+n'+m+m'<=16777216)
 (R:se w (some a) (some b) ba oa n ca bb ob m cb X Y)(R':se w (some a') (some b') ba' oa' n' ca' bb' ob' m' cb' X' Y')(h1:0<n)(h2:0<n')(hs:jh X n Y m=true)(hs':jh X' n' Y' m'=true):
 Cl 87 #[.agg #[.bool f,.slice (some a) n ca,.slice (some b) m cb],.agg #[.bool f',.slice (some a') n' ca',.slice (some b') m' cb']] w fun e w'=>∃v,e=.returned v/\
  pe w' v (gj f f' (lv X n*lv Y' m') (lv X' n'*lv Y m)&&cH f f' (lv X n*lv Y' m') (lv X' n'*lv Y m) != 0) (cH f f' (lv X n*lv Y' m') (lv X' n'*lv Y m)/Nat.gcd (cH f f' (lv X n*lv Y' m') (lv X' n'*lv Y m)) (lv Y m*lv Y' m')) ((lv Y m*lv Y' m')/Nat.gcd (cH f f' (lv X n*lv Y' m') (lv X' n'*lv Y m)) (lv Y m*lv Y' m')) w.heap.size 67108864/\w.S w':=by
 have hne2:w.heap.size+1+1≠w.heap.size:=om;obtain⟨sA,zA,oA,pA,rA⟩:=bx w (.bool f) (.l (some a) n ca) (.l (some b) m cb) (.bool f') (.l (some a') n' ca') (.l (some b') m' cb') (.bool false) (.n) (.n);obtain⟨s1,s2',s3',s4'⟩:=oH.1 hs;obtain⟨t1,t2',t3',t4'⟩:=oH.1 hs';obtain⟨x,hx⟩:∃x,x=lv X n:=⟨_,rfl⟩;obtain⟨y,hy⟩:∃y,y=lv Y m:=⟨_,rfl⟩;obtain⟨x',hx'⟩:∃x',x'=lv X' n':=⟨_,rfl⟩;obtain⟨y',hy'⟩:∃y',y'=lv Y' m':=⟨_,rfl⟩;have hyp:0<y*y':=by rw[hy,hy'];exact fE R.den R'.den
 rw[<-hx] at s3';rw[<-hy] at s4';rw[<-hx'] at t3';rw[<-hy'] at t4';obtain⟨p,hp⟩:∃p,p=x*y':=⟨_,rfl⟩;obtain⟨r,hr⟩:∃r,r=x'*y:=⟨_,rfl⟩;obtain⟨q,hq⟩:∃q,q=y*y':=⟨_,rfl⟩;have hpl:p<9223372036854775808:=by rw[hp];exact dD (dF (cZ s3') (cZ t4')) om
 have hrl:r<9223372036854775808:=by rw[hr];exact dD (dF (cZ t3') (cZ s4')) om
 have hql:q<9223372036854775808:=by rw[hq];exact dD (dF (cZ s4') (cZ t4')) om
 have hpw:IntKind.u64.wrap ((x:Int)*(y':Int))=(p:Int):=by rw[<-dR,<-hp];exact fB p om
 have hrw:IntKind.u64.wrap ((x':Int)*(y:Int))=(r:Int):=by rw[<-dR,<-hr];exact fB r om
 have hqw:IntKind.u64.wrap ((y:Int)*(y':Int))=(q:Int):=by rw[<-dR,<-hq];exact fB q om
 rw[<-hq] at hyp;rw[<-hx,<-hx',<-hy,<-hy',<-hp,<-hq,<-hr];obtain⟨sn,hSN⟩:∃s,s=gj f f' p r:=⟨_,rfl⟩;obtain⟨st,hST⟩:∃s,s=cH f f' p r:=⟨_,rfl⟩;rw[<-hSN,<-hST];have HSN:=aR hSN;have HST:=aR hST;clear hSN hST;have HX:=aR hx;have HY:=aR hy;have HX':=aR hx';have HY':=aR hy';clear s3' s4' t3' t4' hx hy hx' hy' hp hr hq;have q1:((n:Int)==0)=false:=by simp;omega
 have q2:((n':Int)==0)=false:=by simp;omega
 obtain⟨j0,j1,j2⟩:=oA.g;go_enter func87,ntmps87;go_wp2_with fail;generalize (((w.alloc _).alloc _).alloc _)=w1 at*;have I1:=@iq f (some a) (some b) ba oa n ca bb ob m cb X Y w1 om om (R.bH sA).LX (R.bH sA).LY R.lX R.lY;rw[hs] at I1;refine I1.mono ?_;rintro e w2 ⟨rfl,s2⟩;have S2:=sA.tr s2;have o2:=oA.bH s2;have p2:=pA.bH s2;have r2:=rA.bH s2;have z2:=s2.size;clear I1 j0 j1 j2 oA pA rA;obtain⟨k0,k1,k2⟩:=p2.g;have I2:=@iq f' (some a') (some b') ba' oa' n' ca' bb' ob' m' cb' X' Y' w2 om om (R'.bH S2).LX (R'.bH S2).LY R'.lX R'.lY;rw[hs'] at I2;go_wp2_with fail;refine I2.mono ?_;rintro e w3 ⟨rfl,s3⟩;have S3:=S2.tr s3;have o3:=o2.bH s3;have p3:=p2.bH s3;have r3:=r2.bH s3;have z3:=s3.size;clear I2 k0 k1 k2 o2 p2 r2;have k:=And.intro o3.cells p3.cells;have J1:=@gu (some a) ba oa n ca X w3.drew s1 (R.bH S3).LX R.lX;have J2:=@gu (some b) bb ob m cb Y w3.drew s2' (R.bH S3).LY R.lY;have J3:=@gu (some a') ba' oa' n' ca' X' w3.drew t1 (R'.bH S3).LX R'.lX;have J4:=@gu (some b') bb' ob' m' cb' Y' w3.drew t2' (R'.bH S3).LY R'.lY;rw[<-HX.out] at J1;rw[<-HY.out] at J2;rw[<-HX'.out] at J3;rw[<-HY'.out] at J4;go_wp2
 go_region_held3 (fun w'=>w'.cell? (jj w.heap.size 0)=some (.bool f)/\w'.cell? (jj w.heap.size 1)=some (.l (some a) n ca)/\w'.cell? (jj w.heap.size 2)=some (.l (some b) m cb)/\w'.cell? (jj (w.heap.size+1) 0)=some (.bool f')/\w'.cell? (jj (w.heap.size+1) 1)=some (.l (some a') n' ca')/\w'.cell? (jj (w.heap.size+1) 2)=some (.l (some b') m' cb')) (go_keep)
  (first
    | (go_at_call 124
       first
        | (with_reducible refine J1.mono ?_;rintro e v4 ⟨rfl,rfl⟩)
        | (with_reducible refine J4.mono ?_;rintro e v4 ⟨rfl,rfl⟩)))
 have S4:=fq S3;have o4:=o3.drew;have p4:=p3.drew;have r4:=r3.drew;clear k J1 J2 J3 J4 o3 p3 r3;generalize w3.drew=w4 at*;have k:=And.intro o4.cells p4.cells;have J1:=@gu (some a) ba oa n ca X w4.drew s1 (R.bH S4).LX R.lX;have J2:=@gu (some b) bb ob m cb Y w4.drew s2' (R.bH S4).LY R.lY;have J3:=@gu (some a') ba' oa' n' ca' X' w4.drew t1 (R'.bH S4).LX R'.lX;have J4:=@gu (some b') bb' ob' m' cb' Y' w4.drew t2' (R'.bH S4).LY R'.lY;rw[<-HX.out] at J1;rw[<-HY.out] at J2;rw[<-HX'.out] at J3;rw[<-HY'.out] at J4;go_wp2
 go_region_held3 (fun w'=>w'.cell? (jj w.heap.size 0)=some (.bool f)/\w'.cell? (jj w.heap.size 1)=some (.l (some a) n ca)/\w'.cell? (jj w.heap.size 2)=some (.l (some b) m cb)/\w'.cell? (jj (w.heap.size+1) 0)=some (.bool f')/\w'.cell? (jj (w.heap.size+1) 1)=some (.l (some a') n' ca')/\w'.cell? (jj (w.heap.size+1) 2)=some (.l (some b') m' cb')) (go_keep)
  (first
    | (go_at_call 124
       first
        | (with_reducible refine J3.mono ?_;rintro e v4 ⟨rfl,rfl⟩)
        | (with_reducible refine J2.mono ?_;rintro e v4 ⟨rfl,rfl⟩)))
 have S5:=fq S4;have o5:=o4.drew;have p5:=p4.drew;have r5:=r4.drew;clear k J1 J2 J3 J4 o4 p4 r4;generalize w4.drew=w5 at*;have k:=And.intro o5.cells p5.cells;have J1:=@gu (some a) ba oa n ca X w5.drew s1 (R.bH S5).LX R.lX;have J2:=@gu (some b) bb ob m cb Y w5.drew s2' (R.bH S5).LY R.lY;have J3:=@gu (some a') ba' oa' n' ca' X' w5.drew t1 (R'.bH S5).LX R'.lX;have J4:=@gu (some b') bb' ob' m' cb' Y' w5.drew t2' (R'.bH S5).LY R'.lY;rw[<-HX.out] at J1;rw[<-HY.out] at J2;rw[<-HX'.out] at J3;rw[<-HY'.out] at J4;go_wp2
 go_region_held3 (fun w'=>w'.cell? (jj w.heap.size 0)=some (.bool f)/\w'.cell? (jj w.heap.size 1)=some (.l (some a) n ca)/\w'.cell? (jj w.heap.size 2)=some (.l (some b) m cb)/\w'.cell? (jj (w.heap.size+1) 0)=some (.bool f')/\w'.cell? (jj (w.heap.size+1) 1)=some (.l (some a') n' ca')/\w'.cell? (jj (w.heap.size+1) 2)=some (.l (some b') m' cb')) (go_keep)
  (first
    | (go_at_call 124
       first
        | (with_reducible refine J2.mono ?_;rintro e v4 ⟨rfl,rfl⟩)
        | (with_reducible refine J4.mono ?_;rintro e v4 ⟨rfl,rfl⟩)))
 have S6:=fq S5;have o6:=o5.drew;have p6:=p5.drew;have r6:=r5.drew;clear k J1 J2 J3 J4 o5 p5 r5;generalize w5.drew=w6 at*;by_cases hff:f=f'
 . subst hff;have e1:sn=f:=(by rw[HSN.out];simp[gj]);have e2:st=p+r:=(by rw[HST.out];simp[cH]);clear HSN HST;have HE1:=aR e1;clear e1;subst e2;have HS:=aR S6;have k:=And.intro o6.cells p6.cells;have hsw:IntKind.u64.wrap ((p:Int)+(r:Int))=((p+r:Nat):Int):=(by rw[<-rM];exact fB (p+r) om);have J5:=@oF f (p+r) q w6 om om hyp;go_wp2_with fail;refine J5.mono ?_;rintro e w7 ⟨v,rfl,⟨x1,x2,g6,h6,rfl,N6,D6,y1,y2,y3⟩,s6⟩;have N6':=N6;have D6':=D6;obtain⟨a1,q1,c1,Y1,rfl,-⟩:=N6;obtain⟨a2,q2,c2,Y2,rfl,-⟩:=D6;have rB:=r6.bH s6;obtain⟨u0,u1,u2⟩:=rB.g;obtain⟨uf0,uf1,uf2⟩:=rB.k;go_wp2;have S7:w.S w7:=HS.out.trans (sM s6 HS.out.size);have rl:=r6.lt;have rC:=((rB.gH (.bool (f&&(p+r) != 0))).gM (.l a1 q1 c1)).gZ (.l a2 q2 c2);refine bO (re rfl _ _ _ _ _ _ rfl rC) rfl ?_;have M:aV w7 _ (w.heap.size+1+1):=(((aV.refl w7 _).setCell 0 (.bool (f&&(p+r) != 0))).setCell 1 (.l a1 q1 c1)).setCell 2 (.l a2 q2 c2);exact⟨_,rfl,⟨_,_,g6,h6,by rw[HE1.out],N6'.marked M om,D6'.marked M om,om,om,y3⟩,S7.trans (M.since om)⟩
 . have hfb:(f==f')=false:=(by simp[hff]);by_cases hlt:p<r
   . have hge:¬((r:Int)<=p):=om;have e1:sn=f':=(by rw[HSN.out];simp[gj,hff,hlt]);have e2:st=r-p:=(by rw[HST.out];simp[cH,hff,hlt]);clear HSN HST;have HE1:=aR e1;clear e1;subst e2;have HS:=aR S6;have k:=And.intro o6.cells p6.cells;have hsw:IntKind.u64.wrap ((r:Int)-(p:Int))=((r-p:Nat):Int):=(by rw[<-Int.ofNat_sub om];exact fB (r-p) om);clear hff;have J5:=@oF f' (r-p) q w6 om om hyp;go_wp2_with fail;refine J5.mono ?_;rintro e w7 ⟨v,rfl,⟨x1,x2,g6,h6,rfl,N6,D6,y1,y2,y3⟩,s6⟩;have N6':=N6;have D6':=D6;obtain⟨a1,q1,c1,Y1,rfl,-⟩:=N6;obtain⟨a2,q2,c2,Y2,rfl,-⟩:=D6;have rB:=r6.bH s6;obtain⟨u0,u1,u2⟩:=rB.g;obtain⟨uf0,uf1,uf2⟩:=rB.k;go_wp2;have S7:w.S w7:=HS.out.trans (sM s6 HS.out.size);have rl:=r6.lt;have rC:=((rB.gH (.bool (f'&&(r-p) != 0))).gM (.l a1 q1 c1)).gZ (.l a2 q2 c2);refine bO (re rfl _ _ _ _ _ _ rfl rC) rfl ?_;have M:aV w7 _ (w.heap.size+1+1):=(((aV.refl w7 _).setCell 0 (.bool (f'&&(r-p) != 0))).setCell 1 (.l a1 q1 c1)).setCell 2 (.l a2 q2 c2);exact⟨_,rfl,⟨_,_,g6,h6,by rw[HE1.out],N6'.marked M om,D6'.marked M om,om,om,y3⟩,S7.trans (M.since om)⟩
   . have hge:(r:Int)<=p:=om;have e1:sn=f:=(by rw[HSN.out];simp[gj,hff,hlt]);have e2:st=p-r:=(by rw[HST.out];simp[cH,hff,hlt]);clear HSN HST;have HE1:=aR e1;clear e1;subst e2;have HS:=aR S6;have k:=And.intro o6.cells p6.cells;have hsw:IntKind.u64.wrap ((p:Int)-(r:Int))=((p-r:Nat):Int):=(by rw[<-Int.ofNat_sub om];exact fB (p-r) om);clear hff;have J5:=@oF f (p-r) q w6 om om hyp;go_wp2_with fail;refine J5.mono ?_;rintro e w7 ⟨v,rfl,⟨x1,x2,g6,h6,rfl,N6,D6,y1,y2,y3⟩,s6⟩;have N6':=N6;have D6':=D6;obtain⟨a1,q1,c1,Y1,rfl,-⟩:=N6;obtain⟨a2,q2,c2,Y2,rfl,-⟩:=D6;have rB:=r6.bH s6;obtain⟨u0,u1,u2⟩:=rB.g;obtain⟨uf0,uf1,uf2⟩:=rB.k;go_wp2;have S7:w.S w7:=HS.out.trans (sM s6 HS.out.size);have rl:=r6.lt;have rC:=((rB.gH (.bool (f&&(p-r) != 0))).gM (.l a1 q1 c1)).gZ (.l a2 q2 c2);refine bO (re rfl _ _ _ _ _ _ rfl rC) rfl ?_;have M:aV w7 _ (w.heap.size+1+1):=(((aV.refl w7 _).setCell 0 (.bool (f&&(p-r) != 0))).setCell 1 (.l a1 q1 c1)).setCell 2 (.l a2 q2 c2);exact⟨_,rfl,⟨_,_,g6,h6,by rw[HE1.out],N6'.marked M om,D6'.marked M om,om,om,y3⟩,S7.trans (M.since om)⟩
theorem Tr.bits{w:World}{A:Nat->Bool}(h:Tr w (.l a n m) n A):∃b d,n<=m/\kp w a b d n A/\(0<n->A (n-1)=true):=by
 obtain⟨k,b,d,c,e,g,i,j⟩:=h;cases e;exact⟨b,d,g,i,j⟩
theorem aer(b7 W E u:Addr){q:Nat}{A:Nat->Nat}{w:World}(hn:c+p+j+s<=16777216)
 (R:se w (some b7) (some W) n m c d k i j l X Y)(C:se w (some E) (some u) o b p q t r s g Z A)(h1:0<c)(h2:0<p)(hs:jh X c Y j=false∨(jh X c Y j=true/\jh Z p A s=false)):
 Cl 87 #[.agg #[.bool f,.slice (some b7) c d,.slice (some W) j l],.agg #[.bool F,.slice (some E) p q,.slice (some u) s g]] w fun e a=>∃a4,e=.returned a4/\
  pe a a4 (gj f F (lv X c*lv A s) (lv Z p*lv Y j)&&cH f F (lv X c*lv A s) (lv Z p*lv Y j) != 0) (cH f F (lv X c*lv A s) (lv Z p*lv Y j)/Nat.gcd (cH f F (lv X c*lv A s) (lv Z p*lv Y j)) (lv Y j*lv A s)) ((lv Y j*lv A s)/Nat.gcd (cH f F (lv X c*lv A s) (lv Z p*lv Y j)) (lv Y j*lv A s)) w.heap.size 67108864/\w.S a:=by
 have b6:w.heap.size+1+1≠w.heap.size:=om;obtain⟨sA,zA,oA,pA,rA⟩:=bx w (.bool f) (.l (some b7) c d) (.l (some W) j l) (.bool F) (.l (some E) p q) (.l (some u) s g) (.bool false) (.n) (.n);have a6:=fE R.den C.den;obtain⟨B,hp⟩:∃B,B=lv X c*lv A s:=⟨_,rfl⟩;obtain⟨G,hr⟩:∃G,G=lv Z p*lv Y j:=⟨_,rfl⟩;obtain⟨bu,hq⟩:∃bu,bu=lv Y j*lv A s:=⟨_,rfl⟩;rw[<-hp,<-hr,<-hq];rw[<-hq] at a6;obtain⟨sn,bf⟩:∃bi,bi=gj f F B G:=⟨_,rfl⟩;obtain⟨st,bg⟩:∃bi,bi=cH f F B G:=⟨_,rfl⟩;rw[<-bf,<-bg];have al:=aR bf;have am:=aR bg;have ch:=aR hp;have ci:=aR hr;have HQ:=aR hq;clear bf bg hp hr hq;have q1:((c:Int)==0)=false:=by simp;omega
 have q2:((p:Int)==0)=false:=by simp;omega
 obtain⟨j0,j1,j2⟩:=oA.g;go_enter func87,ntmps87;go_wp2_with fail;generalize (((w.alloc _).alloc _).alloc _)=w1 at*;have I1:=@iq f (some b7) (some W) n m c d k i j l X Y w1 om om (R.bH sA).LX (R.bH sA).LY R.lX R.lY;rcases hs with hs | ⟨hs,b3⟩
 focus
  rw[hs] at I1;refine I1.mono ?_;rintro e w3 ⟨rfl,ca⟩;have S3:=sA.tr ca;have o3:=oA.bH ca;have p3:=pA.bH ca;have r3:=rA.bH ca;clear I1 j0 j1 j2 oA pA rA
 rotate_left
 focus
  rw[hs] at I1;refine I1.mono ?_;rintro e w2 ⟨rfl,s2⟩;have S2:=sA.tr s2;have o2:=oA.bH s2;have cc:=pA.bH s2;have r2:=rA.bH s2;have z2:=s2.size;clear I1 j0 j1 j2 oA pA rA;obtain⟨k0,k1,k2⟩:=cc.g;have I2:=@iq F (some E) (some u) o b p q t r s g Z A w2 om om (C.bH S2).LX (C.bH S2).LY C.lX C.lY;rw[b3] at I2;go_wp2_with fail;refine I2.mono ?_;rintro e w3 ⟨rfl,ca⟩;have S3:=S2.tr ca;have o3:=o2.bH ca;have p3:=cc.bH ca;have r3:=r2.bH ca;have z3:=ca.size;clear I2 k0 k1 k2 o2 cc r2
 rotate_left
 all_goals
  have cb:=And.intro o3.cells p3.cells;have cj:=@im (some b7) n m c d X w3.drew om (R.bH S3).LX R.lX;go_wp2
  go_region_held3 (fun a=>a.cell? (jj w.heap.size 0)=some (.bool f)/\a.cell? (jj w.heap.size 1)=some (.l (some b7) c d)/\a.cell? (jj w.heap.size 2)=some (.l (some W) j l)/\a.cell? (jj (w.heap.size+1) 0)=some (.bool F)/\a.cell? (jj (w.heap.size+1) 1)=some (.l (some E) p q)/\a.cell? (jj (w.heap.size+1) 2)=some (.l (some u) s g)) (go_keep)
   (first
     | (go_at_call 127
        first
         | (with_reducible refine cj.mono ?_
            rintro e v4 ⟨a1,g1,m1,t1,B1,rfl,k1,k2,L1,-,p1,e1,h⟩;have D:w.S v4:=(fq S3).trans (sM h S3.size);have H:=o3.drew.bH h;have K:=p3.drew.bH h;have ah:=r3.drew.bH h;have y:=And.intro H.cells K.cells;have J2:=@im (some u) t r s g A v4 om (C.bH D).LY C.lY)
         | (with_reducible refine J2.mono ?_
            rintro e v5 ⟨a2,g2,m2,t2,B2,rfl,l1,l2,L2,-,cc,e2,v⟩;have ad:=D.tr v;have I:=H.bH v;have L:=K.bH v;have ai:=ah.bH v;have y:=And.intro I.cells L.cells;have b9:=@kz a1 a2 g1 0 m1 t1 g2 0 m2 t2 B1 B2 v5 om om (L1.bH v) L2;rw[e1,e2] at b9))
     | (go_at_call 137;(with_reducible refine b9.mono ?_);rintro e w4 ⟨gx,U,cx,Ox,rfl,P,f2,L6,f3,Q,e6,x⟩;have S4:=ad.tr x;have o4:=I.bH x;have p4:=L.bH x;have r4:=ai.bH x;have y:=And.intro o4.cells p4.cells;have bo:Tr w4 (.s gx U cx) U Ox:=⟨_,gx,0,cx,rfl,P,L6,Q⟩))
  have hx:U<=536870912:=om;have cf:=aR e6;clear cb y cj J2 b9 e6 e1 e2 P f2 f3 Q L6 x D ad H K ah I L ai h v L1 L2 k1 k2 l1 l2 p1 cc o3 p3 r3;have cb:=And.intro o4.cells p4.cells;have cj:=@im (some E) o b p q Z w4.drew om (C.bH S4).LX C.lX;go_wp2
  go_region_held3 (fun a=>a.cell? (jj w.heap.size 0)=some (.bool f)/\a.cell? (jj w.heap.size 1)=some (.l (some b7) c d)/\a.cell? (jj w.heap.size 2)=some (.l (some W) j l)/\a.cell? (jj (w.heap.size+1) 0)=some (.bool F)/\a.cell? (jj (w.heap.size+1) 1)=some (.l (some E) p q)/\a.cell? (jj (w.heap.size+1) 2)=some (.l (some u) s g)) (go_keep)
   (first
     | (go_at_call 127
        first
         | (with_reducible refine cj.mono ?_
            rintro e v4 ⟨a1,g1,m1,t1,B1,rfl,k1,k2,L1,-,p1,e1,h⟩;have D:w.S v4:=(fq S4).trans (sM h S4.size);have H:=o4.drew.bH h;have K:=p4.drew.bH h;have ah:=r4.drew.bH h;have aw:Tr v4 _ _ _:=Tr.bH (w:=w4.drew) bo h;have y:=And.intro H.cells K.cells;have J2:=@im (some W) k i j l Y v4 om (R.bH D).LY R.lY)
         | (with_reducible refine J2.mono ?_
            rintro e v5 ⟨a2,g2,m2,t2,B2,rfl,l1,l2,L2,-,cc,e2,v⟩;have ad:=D.tr v;have I:=H.bH v;have L:=K.bH v;have ai:=ah.bH v;have ax:=aw.bH v;have y:=And.intro I.cells L.cells;have b9:=@kz a1 a2 g1 0 m1 t1 g2 0 m2 t2 B1 B2 v5 om om (L1.bH v) L2;rw[e1,e2] at b9))
     | (go_at_call 137;(with_reducible refine b9.mono ?_);rintro e w5 ⟨gy,V,cy,Oy,rfl,P,f2,L6,f3,Q,e6,x⟩;have S5:=ad.tr x;have o5:=I.bH x;have p5:=L.bH x;have r5:=ai.bH x;have bp:=ax.bH x;have y:=And.intro o5.cells p5.cells;have br:Tr w5 (.s gy V cy) V Oy:=⟨_,gy,0,cy,rfl,P,L6,Q⟩))
  have hy:V<=536870912:=om;have cg:=aR e6;clear cb y cj J2 b9 e6 e1 e2 P f2 f3 Q L6 x D ad H K ah I L ai h v L1 L2 k1 k2 l1 l2 p1 cc o4 p4 r4;clear aw ax bo;have cb:=And.intro o5.cells p5.cells;have cj:=@im (some W) k i j l Y w5.drew om (R.bH S5).LY R.lY;go_wp2
  go_region_held3 (fun a=>a.cell? (jj w.heap.size 0)=some (.bool f)/\a.cell? (jj w.heap.size 1)=some (.l (some b7) c d)/\a.cell? (jj w.heap.size 2)=some (.l (some W) j l)/\a.cell? (jj (w.heap.size+1) 0)=some (.bool F)/\a.cell? (jj (w.heap.size+1) 1)=some (.l (some E) p q)/\a.cell? (jj (w.heap.size+1) 2)=some (.l (some u) s g)) (go_keep)
   (first
     | (go_at_call 127
        first
         | (with_reducible refine cj.mono ?_
            rintro e v4 ⟨a1,g1,m1,t1,B1,rfl,k1,k2,L1,-,p1,e1,h⟩;have D:w.S v4:=(fq S5).trans (sM h S5.size);have H:=o5.drew.bH h;have K:=p5.drew.bH h;have ah:=r5.drew.bH h;have aw:Tr v4 _ _ _:=Tr.bH (w:=w5.drew) bp h;have bq:Tr v4 _ _ _:=Tr.bH (w:=w5.drew) br h;have y:=And.intro H.cells K.cells;have J2:=@im (some u) t r s g A v4 om (C.bH D).LY C.lY)
         | (with_reducible refine J2.mono ?_
            rintro e v5 ⟨a2,g2,m2,t2,B2,rfl,l1,l2,L2,-,cc,e2,v⟩;have ad:=D.tr v;have I:=H.bH v;have L:=K.bH v;have ai:=ah.bH v;have ax:=aw.bH v;have bs:=bq.bH v;have y:=And.intro I.cells L.cells;have b9:=@kz a1 a2 g1 0 m1 t1 g2 0 m2 t2 B1 B2 v5 om om (L1.bH v) L2;rw[e1,e2] at b9))
     | (go_at_call 137;(with_reducible refine b9.mono ?_);rintro e w6 ⟨gd,td,cd,Od,rfl,P,f2,L6,f3,Q,e6,x⟩;have S6:=ad.tr x;have o6:=I.bH x;have p6:=L.bH x;have r6:=ai.bH x;have a9:=ax.bH x;have bc:=bs.bH x;have y:=And.intro o6.cells p6.cells;have a8:Tr w6 (.s gd td cd) td Od:=⟨_,gd,0,cd,rfl,P,L6,Q⟩))
  have hd:td<=536870912:=om;have Ed:=aR e6;clear cb y cj J2 b9 e6 e1 e2 P f2 f3 Q L6 x D ad H K ah I L ai h v L1 L2 k1 k2 l1 l2 p1 cc o5 p5 r5;clear aw ax bp bq bs br;by_cases ag:f=F
  . subst ag;obtain⟨bx,ox,lx,Lx,bj⟩:=a9.bits;obtain⟨bY,oy,ly,Ly,bm⟩:=bc.bits;have aq:Hid (sn=f):=aR (by rw[al.out];simp[gj]);have b8:Hid (st=(B+G)):=aR (by rw[am.out];simp[cH]);clear al am;have cb:=And.intro o6.cells p6.cells;have J6:=@adP _ _ bx ox U cx bY oy V cy Ox Oy w6.drew om om Lx Ly;rw[cf.out,cg.out,<-ch.out,<-ci.out] at J6;go_wp2_with fail
    go_region_held3 (fun a=>a.cell? (jj w.heap.size 0)=some (.bool f)/\a.cell? (jj w.heap.size 1)=some (.l (some b7) c d)/\a.cell? (jj w.heap.size 2)=some (.l (some W) j l)/\a.cell? (jj (w.heap.size+1) 0)=some (.bool f)/\a.cell? (jj (w.heap.size+1) 1)=some (.l (some E) p q)/\a.cell? (jj (w.heap.size+1) 2)=some (.l (some u) s g)) (go_keep)
     (first
       | (go_at_call 138;(with_reducible refine J6.mono ?_);rintro e T ⟨gs,O,cs,Ds,rfl,P,f2,Ls,f3,Q,es,z⟩;have S8:w.S T:=(fq S6).trans (sM z S6.size);have o8:=o6.drew.bH z;have p8:=p6.drew.bH z;have r8:=r6.drew.bH z;have y:=And.intro o8.cells p8.cells;have av:Tr T _ _ _:=Tr.bH (w:=w6.drew) a8 z;have Ts:Tr T (.s gs O cs) O Ds:=⟨_,gs,0,cs,rfl,P,Ls,Q⟩;have J7:=@tx f _ _ O td Ds Od T om om Ts av (by rw[Ed.out,<-HQ.out];exact a6);rw[es,Ed.out,<-HQ.out] at J7)
       | (go_at_call 136;(with_reducible refine J7.mono ?_);rintro e aj ⟨a4,rfl,⟨x1,x2,ay,az,rfl,ac,ce,y1,y2,y3⟩,S⟩;have ar:=ac;have ao:=ce;obtain⟨aa,qa,ae,Ya,rfl,-⟩:=ac;obtain⟨ab,qb,af,Yb,rfl,-⟩:=ce;have y:=And.intro (o8.bH S).cells (p8.bH S).cells;have N:=r8.bH S;obtain⟨u0,u1,u2⟩:=N.g;obtain⟨bw,bz,b0⟩:=N.k))
    all_goals go_wp2
    all_goals
     have au:=S8.tr S;have z9:=S8.size;have b1:=r8.lt;have rC:=((N.gH (.bool (f&&(B+G) != 0))).gM (.l aa qa ae)).gZ (.l ab qb af);refine bO (re rfl _ _ _ _ _ _ rfl rC) rfl ?_;have M:aV aj _ (w.heap.size+1+1):=(((aV.refl aj _).setCell 0 (.bool (f&&(B+G) != 0))).setCell 1 (.l aa qa ae)).setCell 2 (.l ab qb af);exact⟨_,rfl,⟨_,_,ay,az,by rw[aq.out,b8.out],by rw[b8.out];exact ar.marked M om,by rw[b8.out];exact ao.marked M om,om,om,y3⟩,au.trans (M.since om)⟩
  . have b4:(f==F)=false:=(by simp[ag]);obtain⟨bx,ox,lx,Lx,bj⟩:=a9.bits;obtain⟨bY,oy,ly,Ly,bm⟩:=bc.bits;have cb:=And.intro o6.cells p6.cells;have J5:=@rj _ _ bx ox U cx bY oy V cy Ox Oy w6 om om Lx Ly bj bm;rw[cf.out,cg.out,<-ch.out,<-ci.out] at J5;go_wp2_with fail;refine J5.mono ?_;rintro e w7 ⟨rfl,m7⟩;have s7:=m7.since w6.heap.size;have S7:=S6.tr s7;have o7:=o6.bH s7;have p7:=p6.bH s7;have r7:=r6.bH s7;have bn:=a8.bH s7;have Lx:=Lx.bH s7;have Ly:=Ly.bH s7;clear J5 cb o6 p6 r6 a8 a9 bc s7 m7;by_cases an:B<G
    . have b2:=ct an;have b5:¬((0:Int)<=li B G):=om;have a3:U<=V:=by
       rcases jI V U with ak | ak
       . have:=xY (A:=Oy) (B:=Ox) ak bj;rw[cf.out,cg.out,<-ch.out,<-ci.out] at this;omega
       . exact ak
      have a0:bv Ox U<=bv Oy V:=(by rw[cf.out,cg.out,<-ch.out,<-ci.out];omega);have aq:Hid (sn=F):=aR (by rw[al.out];simp[gj,ag,an]);have b8:Hid (st=(G-B)):=aR (by rw[am.out];simp[cH,ag,an]);clear al am;have cb:=And.intro o7.cells p7.cells;have J6:=@ou _ _ bY oy V cy bx ox U cx Oy Ox w7.drew om a3 Ly Lx a0;rw[cf.out,cg.out,<-ch.out,<-ci.out] at J6;clear ag a0 a3;go_wp2_with fail
      go_region_held3 (fun a=>a.cell? (jj w.heap.size 0)=some (.bool f)/\a.cell? (jj w.heap.size 1)=some (.l (some b7) c d)/\a.cell? (jj w.heap.size 2)=some (.l (some W) j l)/\a.cell? (jj (w.heap.size+1) 0)=some (.bool F)/\a.cell? (jj (w.heap.size+1) 1)=some (.l (some E) p q)/\a.cell? (jj (w.heap.size+1) 2)=some (.l (some u) s g)) (go_keep)
       (first
         | (go_at_call 139;(with_reducible refine J6.mono ?_);rintro e T ⟨gs,O,cs,Ds,rfl,P,f2,Ls,f3,Q,es,z⟩;have S8:w.S T:=(fq S7).trans (sM z S7.size);have o8:=o7.drew.bH z;have p8:=p7.drew.bH z;have r8:=r7.drew.bH z;have y:=And.intro o8.cells p8.cells;have av:Tr T _ _ _:=Tr.bH (w:=w7.drew) bn z;have Ts:Tr T (.s gs O cs) O Ds:=⟨_,gs,0,cs,rfl,P,Ls,Q⟩;have J7:=@tx F _ _ O td Ds Od T om om Ts av (by rw[Ed.out,<-HQ.out];exact a6);rw[es,Ed.out,<-HQ.out] at J7)
         | (go_at_call 136;(with_reducible refine J7.mono ?_);rintro e aj ⟨a4,rfl,⟨x1,x2,ay,az,rfl,ac,ce,y1,y2,y3⟩,S⟩;have ar:=ac;have ao:=ce;obtain⟨aa,qa,ae,Ya,rfl,-⟩:=ac;obtain⟨ab,qb,af,Yb,rfl,-⟩:=ce;have y:=And.intro (o8.bH S).cells (p8.bH S).cells;have N:=r8.bH S;obtain⟨u0,u1,u2⟩:=N.g;obtain⟨bw,bz,b0⟩:=N.k))
      all_goals go_wp2
      all_goals
       have au:=S8.tr S;have z9:=S8.size;have b1:=r8.lt;have rC:=((N.gH (.bool (F&&(G-B) != 0))).gM (.l aa qa ae)).gZ (.l ab qb af);refine bO (re rfl _ _ _ _ _ _ rfl rC) rfl ?_;have M:aV aj _ (w.heap.size+1+1):=(((aV.refl aj _).setCell 0 (.bool (F&&(G-B) != 0))).setCell 1 (.l aa qa ae)).setCell 2 (.l ab qb af);exact⟨_,rfl,⟨_,_,ay,az,by rw[aq.out,b8.out],by rw[b8.out];exact ar.marked M om,by rw[b8.out];exact ao.marked M om,om,om,y3⟩,au.trans (M.since om)⟩
    . have b2:=xT (jV an);have a3:V<=U:=by
       rcases jI U V with ak | ak
       . have:=xY (A:=Ox) (B:=Oy) ak bm;rw[cf.out,cg.out,<-ch.out,<-ci.out] at this;omega
       . exact ak
      have a0:bv Oy V<=bv Ox U:=(by rw[cf.out,cg.out,<-ch.out,<-ci.out];omega);have aq:Hid (sn=f):=aR (by rw[al.out];simp[gj,ag,an]);have b8:Hid (st=(B-G)):=aR (by rw[am.out];simp[cH,ag,an]);clear al am;have cb:=And.intro o7.cells p7.cells;have J6:=@ou _ _ bx ox U cx bY oy V cy Ox Oy w7.drew om a3 Lx Ly a0;rw[cf.out,cg.out,<-ch.out,<-ci.out] at J6;clear ag a0 a3;go_wp2_with fail
      go_region_held3 (fun a=>a.cell? (jj w.heap.size 0)=some (.bool f)/\a.cell? (jj w.heap.size 1)=some (.l (some b7) c d)/\a.cell? (jj w.heap.size 2)=some (.l (some W) j l)/\a.cell? (jj (w.heap.size+1) 0)=some (.bool F)/\a.cell? (jj (w.heap.size+1) 1)=some (.l (some E) p q)/\a.cell? (jj (w.heap.size+1) 2)=some (.l (some u) s g)) (go_keep)
       (first
         | (go_at_call 139;(with_reducible refine J6.mono ?_);rintro e T ⟨gs,O,cs,Ds,rfl,P,f2,Ls,f3,Q,es,z⟩;have S8:w.S T:=(fq S7).trans (sM z S7.size);have o8:=o7.drew.bH z;have p8:=p7.drew.bH z;have r8:=r7.drew.bH z;have y:=And.intro o8.cells p8.cells;have av:Tr T _ _ _:=Tr.bH (w:=w7.drew) bn z;have Ts:Tr T (.s gs O cs) O Ds:=⟨_,gs,0,cs,rfl,P,Ls,Q⟩;have J7:=@tx f _ _ O td Ds Od T om om Ts av (by rw[Ed.out,<-HQ.out];exact a6);rw[es,Ed.out,<-HQ.out] at J7)
         | (go_at_call 136;(with_reducible refine J7.mono ?_);rintro e aj ⟨a4,rfl,⟨x1,x2,ay,az,rfl,ac,ce,y1,y2,y3⟩,S⟩;have ar:=ac;have ao:=ce;obtain⟨aa,qa,ae,Ya,rfl,-⟩:=ac;obtain⟨ab,qb,af,Yb,rfl,-⟩:=ce;have y:=And.intro (o8.bH S).cells (p8.bH S).cells;have N:=r8.bH S;obtain⟨u0,u1,u2⟩:=N.g;obtain⟨bw,bz,b0⟩:=N.k))
      all_goals go_wp2
      all_goals
       have au:=S8.tr S;have z9:=S8.size;have b1:=r8.lt;have rC:=((N.gH (.bool (f&&(B-G) != 0))).gM (.l aa qa ae)).gZ (.l ab qb af);refine bO (re rfl _ _ _ _ _ _ rfl rC) rfl ?_;have M:aV aj _ (w.heap.size+1+1):=(((aV.refl aj _).setCell 0 (.bool (f&&(B-G) != 0))).setCell 1 (.l aa qa ae)).setCell 2 (.l ab qb af);exact⟨_,rfl,⟨_,_,ay,az,by rw[aq.out,b8.out],by rw[b8.out];exact ar.marked M om,by rw[b8.out];exact ao.marked M om,om,om,y3⟩,au.trans (M.since om)⟩
theorem akf(a x u y:Addr){q:Nat}{h:Nat->Nat}{w:World}(A:c+p+j+s<=16777216)
 (R:se w (some a) (some x) n m c d k i j l X Y)(z:se w (some u) (some y) o b p q t r s g Z h)(I:fF f X c Y j=true)(K:fF F Z p h s=true):
 Cl 87 #[.agg #[.bool f,.slice (some a) c d,.slice (some x) j l],.agg #[.bool F,.slice (some u) p q,.slice (some y) s g]] w fun e G=>∃v,e=.returned v/\
  pe G v (gj f F (lv X c*lv h s) (lv Z p*lv Y j)&&cH f F (lv X c*lv h s) (lv Z p*lv Y j) != 0) (cH f F (lv X c*lv h s) (lv Z p*lv Y j)/Nat.gcd (cH f F (lv X c*lv h s) (lv Z p*lv Y j)) (lv Y j*lv h s)) ((lv Y j*lv h s)/Nat.gcd (cH f F (lv X c*lv h s) (lv Z p*lv Y j)) (lv Y j*lv h s)) w.heap.size 67108864/\w.S G:=by
 by_cases H:c=0∨p=0
 . exact aia a x u y A R z I K H
 have B:0<c:=om;have C:0<p:=om;by_cases D:jh X c Y j=true
 . by_cases E:jh Z p h s=true
   . exact agA a x u y A R z B C D E
   . exact aer a x u y A R z B C (Or.inr ⟨D,by simpa using E⟩)
 . exact aer a x u y A R z B C (Or.inl (by simpa using D))
theorem vO{w:World}(H:c<=16777216)(v:j<=16777216)(B:c<=d)(z:j<=l)(C:a=none->d=0)(D:A=none->l=0)(r:bE w a n m c X)(t:bE w A k i j Y):
 Cl 88 #[.agg #[.bool f,.slice a c d,.slice A j l]] w fun e p=>∃g h q b,e=.returned (.agg #[.bool f,.s g c q,.s h j b])/\c<=q/\j<=b/\
  bE p (jp g 0) g 0 c X/\bE p (jp h 0) h 0 j Y/\(0<c->∀o,p.frozen? (jj g o)=false)/\(0<j->∀o,p.frozen? (jj h o)=false)/\w.heap.size<=g/\g<h/\h<p.heap.size/\w.S p:=
 (adk H v B z C D r t).mono fun _ _ ⟨g,h,q,b,u,x,y,G,E,F,s⟩=>⟨g,h,q,b,u,(oD x).1,(oD y).1,(oD x).2.1,(oD y).2.1,fun _=>(oD x).2.2,fun _=>(oD y).2.2,om,E,F,s⟩
theorem aep{f:Bool}{a A:Option Addr}{n m c d k i j l:Nat}{X Y:Nat->Nat}{w:World}(hn:c<=16777216)(hm:j<=16777216)(ac:c<=d)(ab:j<=l)(ad:a=none->d=0)(ae:A=none->l=0)(W:bE w a n m c X)(ah:bE w A k i j Y):
 Calls Tryz.prog 89 #[.agg #[.bool f,.slice a c d,.slice A j l]] w fun e N=>∃g h o b,e=.returned (.agg #[.bool (!f&&decide (0<c)),.slice (some ⟨g,0,none⟩) c o,.slice (some ⟨h,0,none⟩) j b])/\c<=o/\j<=b/\
  bE N (some ⟨g,0,none⟩) g 0 c X/\bE N (some ⟨h,0,none⟩) h 0 j Y/\w.heap.size<=g/\g<h/\h<N.heap.size/\w.Since w.heap.size N:=by
 have u:w.Since w.heap.size ((w.alloc (.cells #[.bool f,.slice a c d,.slice A j l] 83)).alloc (.cells #[.bool false,.slice none 0 0,.slice none 0 0] 83)):=(yD.alloc zR _).alloc qz _;have oA:cR ((w.alloc (.cells #[.bool f,.slice a c d,.slice A j l] 83)).alloc (.cells #[.bool false,.slice none 0 0,.slice none 0 0] 83)) w.heap.size (.bool f) (.slice a c d) (.slice A j l):=(cR.new w _ _ _ _).bH (yD.alloc zR _);have D:cR ((w.alloc (.cells #[.bool f,.slice a c d,.slice A j l] 83)).alloc (.cells #[.bool false,.slice none 0 0,.slice none 0 0] 83)) (w.heap.size+1) (.bool false) (.slice none 0 0) (.slice none 0 0):=by have:=cR.new (w.alloc (.cells #[.bool f,.slice a c d,.slice A j l] 83)) (.bool false) (.slice none 0 0) (.slice none 0 0) 83;simpa using this
 go_enter func89,ntmps89;go_wp2_with fail;generalize ((w.alloc (.cells #[.bool f,.slice a c d,.slice A j l] 83)).alloc (.cells #[.bool false,.slice none 0 0,.slice none 0 0] 83))=w1 at*;refine (vO hn hm ac ab ad ae (W.bH u) (ah.bH u)).mono ?_;rintro e y ⟨g,h,o,b,rfl,Z,B,v,z,-,-,b1,b2,b3,t⟩;have p:=u.trans (sM t u.size);have z1:=D.lt;have O:=cV y (.cells #[.bool f,.slice (some ⟨g,0,none⟩) c o,.slice (some ⟨h,0,none⟩) j b] 83);have s:=cR.new y (.bool f) (.slice (some ⟨g,0,none⟩) c o) (.slice (some ⟨h,0,none⟩) j b) 83;have L:=(oA.bH t).bH O;have r3:=(D.bH t).bH O;have k0:=L.c0;have k1:=L.c1;have j0:=s.c0;have j1:=s.c1;have j2:=s.c2;have jf:=s.f 0;have af:w.heap.size≠y.heap.size:=om;have ag:w.heap.size+1≠y.heap.size:=om;have C:=D.bH t;cases f
 . by_cases G:0<c
   . have aa:(0:Int)<(c:Int):=om;have E:=cV y (.cells #[.bool true,.slice (some ⟨g,0,none⟩) c o,.slice (some ⟨h,0,none⟩) j b] 83);have M:=cR.new y (.bool true) (.slice (some ⟨g,0,none⟩) c o) (.slice (some ⟨h,0,none⟩) j b) 83;have x:=C.bH E;have q:=p.trans (sM E p.size);have H:=M.c0;have I:=M.c1;have K:=M.c2;have P:=x.c0;have Q:=x.c1;have R:=x.c2;have S:=x.f 0;have T:=x.f 1;have U:=x.f 2;go_wp2;have r:=((x.gH (.bool true)).gM (.slice (some ⟨g,0,none⟩) c o)).gZ (.slice (some ⟨h,0,none⟩) j b);refine bO (re rfl _ _ _ _ _ _ rfl r) rfl ?_;have F:aV (y.alloc (.cells #[.bool true,.slice (some ⟨g,0,none⟩) c o,.slice (some ⟨h,0,none⟩) j b] 83)) _ (w.heap.size+1):=(((aV.refl (y.alloc (.cells #[.bool true,.slice (some ⟨g,0,none⟩) c o,.slice (some ⟨h,0,none⟩) j b] 83)) _).setCell 0 (.bool true)).setCell 1 (.slice (some ⟨g,0,none⟩) c o)).setCell 2 (.slice (some ⟨h,0,none⟩) j b);have zM:=F.size;have V:y.heap.size<=(y.alloc (.cells #[.bool true,.slice (some ⟨g,0,none⟩) c o,.slice (some ⟨h,0,none⟩) j b] 83)).heap.size:=E.size;exact⟨g,h,o,b,by simp[G],Z,B,(v.bH E).marked F (fun _=>by omega),(z.bH E).marked F (fun _=>by omega),om,om,om,q.trans (F.since om)⟩
   . have aa:¬(0:Int)<(c:Int):=om;have E:=cV y (.cells #[.bool false,.slice (some ⟨g,0,none⟩) c o,.slice (some ⟨h,0,none⟩) j b] 83);have M:=cR.new y (.bool false) (.slice (some ⟨g,0,none⟩) c o) (.slice (some ⟨h,0,none⟩) j b) 83;have x:=C.bH E;have q:=p.trans (sM E p.size);have H:=M.c0;have I:=M.c1;have K:=M.c2;have P:=x.c0;have Q:=x.c1;have R:=x.c2;have S:=x.f 0;have T:=x.f 1;have U:=x.f 2;go_wp2;have r:=((x.gH (.bool false)).gM (.slice (some ⟨g,0,none⟩) c o)).gZ (.slice (some ⟨h,0,none⟩) j b);refine bO (re rfl _ _ _ _ _ _ rfl r) rfl ?_;have F:aV (y.alloc (.cells #[.bool false,.slice (some ⟨g,0,none⟩) c o,.slice (some ⟨h,0,none⟩) j b] 83)) _ (w.heap.size+1):=(((aV.refl (y.alloc (.cells #[.bool false,.slice (some ⟨g,0,none⟩) c o,.slice (some ⟨h,0,none⟩) j b] 83)) _).setCell 0 (.bool false)).setCell 1 (.slice (some ⟨g,0,none⟩) c o)).setCell 2 (.slice (some ⟨h,0,none⟩) j b);have zM:=F.size;have V:y.heap.size<=(y.alloc (.cells #[.bool false,.slice (some ⟨g,0,none⟩) c o,.slice (some ⟨h,0,none⟩) j b] 83)).heap.size:=E.size;exact⟨g,h,o,b,by simp[G],Z,B,(v.bH E).marked F (fun _=>by omega),(z.bH E).marked F (fun _=>by omega),om,om,om,q.trans (F.since om)⟩
 . have E:=cV y (.cells #[.bool false,.slice (some ⟨g,0,none⟩) c o,.slice (some ⟨h,0,none⟩) j b] 83);have M:=cR.new y (.bool false) (.slice (some ⟨g,0,none⟩) c o) (.slice (some ⟨h,0,none⟩) j b) 83;have x:=C.bH E;have q:=p.trans (sM E p.size);have H:=M.c0;have I:=M.c1;have K:=M.c2;have P:=x.c0;have Q:=x.c1;have R:=x.c2;have S:=x.f 0;have T:=x.f 1;have U:=x.f 2;go_wp2;have r:=((x.gH (.bool false)).gM (.slice (some ⟨g,0,none⟩) c o)).gZ (.slice (some ⟨h,0,none⟩) j b);refine bO (re rfl _ _ _ _ _ _ rfl r) rfl ?_;have F:aV (y.alloc (.cells #[.bool false,.slice (some ⟨g,0,none⟩) c o,.slice (some ⟨h,0,none⟩) j b] 83)) _ (w.heap.size+1):=(((aV.refl (y.alloc (.cells #[.bool false,.slice (some ⟨g,0,none⟩) c o,.slice (some ⟨h,0,none⟩) j b] 83)) _).setCell 0 (.bool false)).setCell 1 (.slice (some ⟨g,0,none⟩) c o)).setCell 2 (.slice (some ⟨h,0,none⟩) j b);have zM:=F.size;have V:y.heap.size<=(y.alloc (.cells #[.bool false,.slice (some ⟨g,0,none⟩) c o,.slice (some ⟨h,0,none⟩) j b] 83)).heap.size:=E.size;exact⟨g,h,o,b,rfl,Z,B,(v.bH E).marked F (fun _=>by omega),(z.bH E).marked F (fun _=>by omega),om,om,om,q.trans (F.since om)⟩
theorem adO{v:Option Addr}{q:Nat}{u:Nat->Nat}{w:World}(hn:c+p+j+s<=16777216)
 (R:se w a A n m c d k i j l X Y)(z:se w B v o b p q t r s g Z u)(ok:fF f X c Y j=true)(ac:fF F Z p u s=true)(h0:c=0∨p=0):
 Calls Tryz.prog 87 #[.agg #[.bool f,.slice a c d,.slice A j l],.agg #[.bool F,.slice B p q,.slice v s g]] w fun ak w'=>∃ad,ak=.returned ad/\
  pe w' ad (gj f F (lv X c*lv u s) (lv Z p*lv Y j)&&cH f F (lv X c*lv u s) (lv Z p*lv Y j) != 0) (cH f F (lv X c*lv u s) (lv Z p*lv Y j)/Nat.gcd (cH f F (lv X c*lv u s) (lv Z p*lv Y j)) (lv Y j*lv u s)) ((lv Y j*lv u s)/Nat.gcd (cH f F (lv X c*lv u s) (lv Z p*lv Y j)) (lv Y j*lv u s)) w.heap.size 67108864/\w.Since w.heap.size w':=by
 have ah:w.heap.size+1+1≠w.heap.size:=om;obtain⟨T,zA,I,K,rA⟩:=bx w (.bool f) (.l a c d) (.l A j l) (.bool F) (.l B p q) (.l v s g) (.bool false) (.slice none 0 0) (.slice none 0 0);by_cases al:c=0
 . have S:=adW ok ac al;rw[S.1,S.2.1,S.2.2];subst al;have k0:=K.c0;have k1:=K.c1;have k2:=K.c2;go_enter func87,ntmps87;go_wp2_with fail;generalize (((w.alloc _).alloc _).alloc _)=aj at*;refine (vO om om z.nc z.mc z.ac z.bc (z.bH T).LX (z.bH T).LY).mono ?_;rintro ak O ⟨x,y,P,Q,rfl,N,ai,W,V,E,D,y1,y2,y3,U⟩;have e:=rA.bH U;have H:=T.tr U;have u0:=e.c0;have u1:=e.c1;have u2:=e.c2;have ae:=e.f 0;have af:=e.f 1;have ag:=e.f 2;go_wp2;have L:=((e.gH (.bool F)).gM (.l (some ⟨x,0,none⟩) p P)).gZ (.l (some ⟨y,0,none⟩) s Q);refine bO (re rfl _ _ _ _ _ _ rfl L) rfl ?_;have M:aV O _ (w.heap.size+1+1):=(((aV.refl O _).setCell 0 (.bool F)).setCell 1 (.l (some ⟨x,0,none⟩) p P)).setCell 2 (.l (some ⟨y,0,none⟩) s Q);have G:fp O (.l (some ⟨x,0,none⟩) p P) x (lv Z p) 67108864:=⟨_,_,_,Z,rfl,N,om,fun h=>(by cases h),W,E,z.lX,z.pX,rfl⟩;have C:fp O (.l (some ⟨y,0,none⟩) s Q) y (lv u s) 67108864:=⟨_,_,_,u,rfl,ai,om,fun h=>(by cases h),V,D,z.lY,z.pY,rfl⟩;exact⟨_,rfl,⟨_,_,x,y,rfl,G.marked M om,C.marked M om,om,om,om⟩,H.trans (M.since om)⟩
 . have am:p=0:=om;have S:=adV ok ac am;rw[S.1,S.2.1,S.2.2];subst am;have q1:((c:Int)==0)=false:=(by simp;omega);have k0:=I.c0;have k1:=I.c1;have k2:=I.c2;go_enter func87,ntmps87;go_wp2_with fail;generalize (((w.alloc _).alloc _).alloc _)=aj at*;refine (vO om om R.nc R.mc R.ac R.bc (R.bH T).LX (R.bH T).LY).mono ?_;rintro ak O ⟨x,y,P,Q,rfl,N,ai,W,V,E,D,y1,y2,y3,U⟩;have e:=rA.bH U;have H:=T.tr U;have u0:=e.c0;have u1:=e.c1;have u2:=e.c2;have ae:=e.f 0;have af:=e.f 1;have ag:=e.f 2;go_wp2;have L:=((e.gH (.bool f)).gM (.l (some ⟨x,0,none⟩) c P)).gZ (.l (some ⟨y,0,none⟩) j Q);refine bO (re rfl _ _ _ _ _ _ rfl L) rfl ?_;have M:aV O _ (w.heap.size+1+1):=(((aV.refl O _).setCell 0 (.bool f)).setCell 1 (.l (some ⟨x,0,none⟩) c P)).setCell 2 (.l (some ⟨y,0,none⟩) j Q);have G:fp O (.l (some ⟨x,0,none⟩) c P) x (lv X c) 67108864:=⟨_,_,_,X,rfl,N,om,fun h=>(by cases h),W,E,R.lX,R.pX,rfl⟩;have C:fp O (.l (some ⟨y,0,none⟩) j Q) y (lv Y j) 67108864:=⟨_,_,_,Y,rfl,ai,om,fun h=>(by cases h),V,D,R.lY,R.pY,rfl⟩;exact⟨_,rfl,⟨_,_,x,y,rfl,G.marked M om,C.marked M om,om,om,om⟩,H.trans (M.since om)⟩
theorem aeq{x:Option Addr}{q:Nat}{u:Nat->Nat}{w:World}(y:c+p+j+s<=16777216)
 (R:se w a A n m c d k i j l X Y)(h:se w B x o b p q t r s g Z u)(z:fF f X c Y j=true)(C:fF F Z p u s=true):
 Calls Tryz.prog 87 #[.agg #[.bool f,.slice a c d,.slice A j l],.agg #[.bool F,.slice B p q,.slice x s g]] w fun e E=>∃v,e=.returned v/\
  pe E v (gj f F (lv X c*lv u s) (lv Z p*lv Y j)&&cH f F (lv X c*lv u s) (lv Z p*lv Y j) != 0) (cH f F (lv X c*lv u s) (lv Z p*lv Y j)/Nat.gcd (cH f F (lv X c*lv u s) (lv Z p*lv Y j)) (lv Y j*lv u s)) ((lv Y j*lv u s)/Nat.gcd (cH f F (lv X c*lv u s) (lv Z p*lv Y j)) (lv Y j*lv u s)) w.heap.size 67108864/\w.Since w.heap.size E:=by
 by_cases D:c=0∨p=0
 . exact adO y R h z C D
 . obtain rfl:a=some ⟨n,m,none⟩:=(by have:=(R.LX 0 om).1;simpa using this);obtain rfl:A=some ⟨k,i,none⟩:=(by have:=(R.LY 0 R.m0).1;simpa using this);obtain rfl:B=some ⟨o,b,none⟩:=(by have:=(h.LX 0 om).1;simpa using this);obtain rfl:x=some ⟨t,r,none⟩:=(by have:=(h.LY 0 h.m0).1;simpa using this);exact akf _ _ _ _ y R h z C
theorem akL(f F:Bool)(n m c d:Nat)(o:f=true->0<n)(k:F=true->0<m)(q:0<c↔0<m)(l:d=0↔cH f (!F&&decide (0<c)) n m=0):
 (if (d:Int)=0 then (0:Int) else if (gj f (!F&&decide (0<c)) n m&&cH f (!F&&decide (0<c)) n m != 0)=true then-1 else 1)=af f F n m:=by
 have j:decide (0<c)=decide (0<m):=by simp[q]
 rw[j] at l⊢;have p:((d:Int)=0)↔cH f (!F&&decide (0<m)) n m=0:=om;simp only[p];rcases kD n m with a | a | a
 . cases f<;>cases F<;>rcases cQ m with b | b<;>simp_all[gj,cH,af,li]<;>(try omega)
 . cases f<;>cases F<;>rcases cQ m with b | b<;>simp_all[gj,cH,af,li]<;>(try omega)
 . have e:¬n<m:=om;have g:¬n-m=0:=om;have h:0<n:=om;have i:¬n=0:=om;cases f<;>cases F<;>rcases cQ m with b | b<;>simp[gj,cH,af,li,b,a,e,g,h,i]<;>(try (have:=k rfl;omega))<;>(try omega)
theorem adj{f:Bool}{a A:Option Addr}{n m c d:Nat}{w:World}:
 Cl 78 #[.agg #[.bool f,.slice a n m,.slice A c d]] w fun e g=>e=.returned (.i (if (n:Int)=0 then (0:Int) else if f=true then-1 else 1))/\w.S g:=by
 have b:=cV w (.o #[.bool f,.l a n m,.l A c d] 83);by_cases h:n=0
 . subst h;go_enter func78,ntmps78;go_wp2;go_ret;exact⟨rfl,b⟩
 . have j:((n:Int)==0)=false:=(by simp;omega);have i:¬((n:Int)=0):=om;rw[aM i];cases f
   . go_enter func78,ntmps78;go_wp2;go_ret;exact⟨rfl,b⟩
   . go_enter func78,ntmps78;go_wp2;go_ret;exact⟨rfl,b⟩
theorem aj6(d:fF f X n Y m=true):fF (!f&&decide (0<n)) X n Y m=true:=by
 unfold fF at*;cases f<;>rcases cQ n with h | h<;>simp_all<;>(try omega)
theorem aiF(a:fF f X n Y m=true)(e:f=true)(b:0<n->X (n-1)≠0):0<lv X n:=by
 subst e;unfold fF at a;rcases cQ (lv X n) with h | h
 . have:=(jr b).2 h;subst this;simp at a
 . exact h
theorem aeo{G:Option Addr}{q:Nat}{x:Nat->Nat}{w:World}(hn:c+p+j+s<=16777216)
 (R:se w a A n m c d k i j l X Y)(y:se w B G o b p q t r s g Z x)(ok:fF f X c Y j=true)(ac:fF F Z p x s=true):
 Cl 52 #[.agg #[.bool f,.slice a c d,.slice A j l],.agg #[.bool F,.slice B p q,.slice G s g]] w fun e z=>∃v,e=.returned v/\
  pe z v (gj f (!F&&decide (0<p)) (lv X c*lv x s) (lv Z p*lv Y j)&&cH f (!F&&decide (0<p)) (lv X c*lv x s) (lv Z p*lv Y j) != 0) (cH f (!F&&decide (0<p)) (lv X c*lv x s) (lv Z p*lv Y j)/Nat.gcd (cH f (!F&&decide (0<p)) (lv X c*lv x s) (lv Z p*lv Y j)) (lv Y j*lv x s)) ((lv Y j*lv x s)/Nat.gcd (cH f (!F&&decide (0<p)) (lv X c*lv x s) (lv Z p*lv Y j)) (lv Y j*lv x s)) w.heap.size 67108864/\w.S z:=by
 have ae:w.heap.size+1+1≠w.heap.size:=om;obtain⟨U,zA,S,pA,rA⟩:=bx w (.bool f) (.l a c d) (.l A j l) (.bool F) (.l B p q) (.l G s g) (.bool false) (.n) (.n);have m1:=R.m0;have ag:=y.m0;obtain⟨W,P⟩:∃ad,ad=(gj f (!F&&decide (0<p)) (lv X c*lv x s) (lv Z p*lv Y j)&&cH f (!F&&decide (0<p)) (lv X c*lv x s) (lv Z p*lv Y j) != 0):=⟨_,rfl⟩;have am:=aR P;clear P;have J1:=@aep F B G o b p q t r s g Z x (((w.alloc (.o #[.bool f,.l a c d,.l A j l] 83)).alloc (.o #[.bool F,.l B p q,.l G s g] 83)).alloc yJ).drew om om y.nc y.mc y.ac y.bc (y.bH (fq U)).LX (y.bH (fq U)).LY;go_enter func52,ntmps52;have af:=And.intro S.cells pA.cells;go_wp2_with fail;generalize (((w.alloc _).alloc _).alloc _)=w1 at*
 go_region_held3 (fun z=>z.cell? (jj w.heap.size 0)=some (.bool f)/\z.cell? (jj w.heap.size 1)=some (.l a c d)/\z.cell? (jj w.heap.size 2)=some (.l A j l)/\z.cell? (jj (w.heap.size+1) 0)=some (.bool F)/\z.cell? (jj (w.heap.size+1) 1)=some (.l B p q)/\z.cell? (jj (w.heap.size+1) 2)=some (.l G s g)) (go_keep)
  (first
    | (go_at_call 89;(with_reducible refine J1.mono ?_);rintro e w2 ⟨H,h,K,L,rfl,v1,v2,L1,L2,b1,b2,b3,I⟩;have C:=(fq U).trans (sM I U.size);have Q:=S.drew.bH I;have ak:=pA.drew.bH I;have r2:=rA.drew.bH I;have kk:=And.intro Q.cells ak.cells;have R2:se w2 (jp H 0) (jp h 0) H 0 p K h 0 s L Z x:=⟨v1,v2,fun h=>(by cases h),fun h=>(by cases h),L1,L2,y.lX,y.lY,y.pX,y.pY,y.m0⟩;have an:=aeq hn (R.bH C) R2 ok (aj6 ac);rw[<-am.out] at an)
    | (go_at_call 87;(with_reducible refine an.mono ?_);rintro e w6 ⟨v,rfl,⟨x1,x2,g6,h6,rfl,V,al,y1,y2,y3⟩,T⟩;have ab:=V;have aa:=al;obtain⟨D,q1,N,Y1,rfl,-⟩:=V;obtain⟨E,q2,O,Y2,rfl,-⟩:=al;have kk:=And.intro (Q.bH T).cells (ak.bH T).cells;have u:=r2.bH T;obtain⟨u0,u1,u2⟩:=u.g;obtain⟨ah,ai,aj⟩:=u.k))
 all_goals go_wp2
 all_goals
  have S6:=C.tr T;have zr:=r2.lt;have rC:=((u.gH (.bool W)).gM (.l D q1 N)).gZ (.l E q2 O);refine bO (re rfl _ _ _ _ _ _ rfl rC) rfl ?_;have M:aV w6 _ (w.heap.size+1+1):=(((aV.refl w6 _).setCell 0 (.bool W)).setCell 1 (.l D q1 N)).setCell 2 (.l E q2 O);exact⟨_,rfl,⟨_,_,g6,h6,by rw[am.out],ab.marked M om,aa.marked M om,om,om,y3⟩,S6.trans (M.since om)⟩
theorem ake{y:Option Addr}{q:Nat}{C:Nat->Nat}{w:World}(hn:c+p+j+s<=16777216)
 (R:se w a A n m c d k i j l X Y)(K:se w B y o b p q t r s g Z C)(O:fF f X c Y j=true)(P:fF F Z p C s=true):
 Cl 42 #[.agg #[.bool f,.slice a c d,.slice A j l],.agg #[.bool F,.slice B p q,.slice y s g]] w fun e w'=>e=.returned (.i (af f F (lv X c*lv C s) (lv Z p*lv Y j)))/\w.S w':=by
 have M:w.S ((w.alloc (.o #[.bool f,.l a c d,.l A j l] 83)).alloc (.o #[.bool F,.l B p q,.l y s g] 83)):=(cV _ _).alloc qz _;have zA:((w.alloc (.o #[.bool f,.l a c d,.l A j l] 83)).alloc (.o #[.bool F,.l B p q,.l y s g] 83)).heap.size=w.heap.size+1+1:=by simp
 have oA:cR ((w.alloc (.o #[.bool f,.l a c d,.l A j l] 83)).alloc (.o #[.bool F,.l B p q,.l y s g] 83)) w.heap.size (.bool f) (.l a c d) (.l A j l):=(cR.new w _ _ _ _).bH (cV _ _);have pA:cR ((w.alloc (.o #[.bool f,.l a c d,.l A j l] 83)).alloc (.o #[.bool F,.l B p q,.l y s g] 83)) (w.heap.size+1) (.bool F) (.l B p q) (.l y s g):=by have:=cR.new (w.alloc (.o #[.bool f,.l a c d,.l A j l] 83)) (.bool F) (.l B p q) (.l y s g) 83;simpa using this
 have E:f=true->0<lv X c*lv C s:=fun e=>fE (aiF O e R.pX) K.den;have N:F=true->0<lv Z p*lv Y j:=fun e=>fE (aiF P e K.pX) R.den;have G:0<p↔0<lv Z p*lv Y j:=by
  have h1:=jr K.pX;constructor
  . intro h;exact fE om R.den
  . intro h;rcases cQ p with e | e
    . rw[h1.1 e,iT] at h;omega
    . exact e
 have aa:=fE R.den K.den;obtain⟨z,I⟩:∃z,z=af f F (lv X c*lv C s) (lv Z p*lv Y j):=⟨_,rfl⟩;have u:=aR I;clear I;have ab:=And.intro oA.cells pA.cells;have v:=aeo hn (R.bH M) (K.bH M) O P;go_enter func42,ntmps42;go_wp2_with fail;generalize ((w.alloc _).alloc _)=w1 at*;refine v.mono ?_;rintro e w2 ⟨ac,rfl,⟨x1,x2,g6,h6,rfl,T,S,y1,y2,y3⟩,s2⟩;have U:=M.tr s2;obtain⟨V,L,ae,Y1,rfl,-,-,-,-,-,-,Q,D⟩:=T;obtain⟨ad,q2,d2,Y2,rfl,-⟩:=S;have H:L=0↔cH f (!F&&decide (0<p)) (lv X c*lv C s) (lv Z p*lv Y j)=0:=(jr Q).trans (by rw[D];exact aaY aa);have W:=aR (akL f F _ _ p L E N G H);have x:=@adj (gj f (!F&&decide (0<p)) (lv X c*lv C s) (lv Z p*lv Y j)&&cH f (!F&&decide (0<p)) (lv X c*lv C s) (lv Z p*lv Y j) != 0) V ad L ae q2 d2 w2;rw[W.out,<-u.out] at x;clear v W H E N G Q D ab;go_wp2_with fail;refine x.mono ?_;rintro e w3 ⟨rfl,s3⟩;go_wp2;go_ret;exact⟨gL u.out,U.tr s3⟩
def qn(q:Rat):Bool:=decide (q.num<0)
theorem eZ(z:Int)(n:Nat)(a:n≠0):qn (Rat.normalize z n a)=decide (z<0)/\(Rat.normalize z n a).num.natAbs=z.natAbs/Nat.gcd z.natAbs n/\(Rat.normalize z n a).den=n/Nat.gcd z.natAbs n:=by
 have j:0<Nat.gcd z.natAbs n:=lQ _ om;rw[Rat.normalize_eq];obtain⟨k,m⟩:=jQ z.natAbs n;have l:∃t:Int,z=(Nat.gcd z.natAbs n:Int)*t:=by have:((Nat.gcd z.natAbs n:Nat):Int)∣z:=Int.ofNat_dvd_left.2 (jQ _ _);exact this
 obtain⟨t,b⟩:=l;have f:(0:Int)<(Nat.gcd z.natAbs n:Int):=om;have g:z/(Nat.gcd z.natAbs n:Int)=t:=by have c:=Int.mul_ediv_cancel_left t (show (Nat.gcd z.natAbs n:Int)≠0 by omega);rw[<-b] at c;exact c
 refine⟨?_, ?_,rfl⟩
 . unfold qn;show decide (z/(Nat.gcd z.natAbs n:Int)<0)=_;rw[g,tL];constructor
   . intro h;rw[b];exact Int.mul_neg_of_pos_of_neg f h
   . intro h;rcases Int.lt_or_le t 0 with e | e
     . exact e
     . have:=tF (Int.le_of_lt f) e;omega
 . show (z/(Nat.gcd z.natAbs n:Int)).natAbs=_;rw[g];have i:z.natAbs=Nat.gcd z.natAbs n*t.natAbs:=by
    have:=congrArg Int.natAbs b;rw[oZ,rT] at this;exact this
   rw[Nat.div_eq_of_eq_mul_right j i]
theorem bb(Q:Rat):Q.num=if qn Q then-(Q.num.natAbs:Int) else (Q.num.natAbs:Int):=by
 unfold qn;by_cases h:Q.num<0
 . simp[h];omega
 . simp[h];omega
theorem bU(h:qn Q=true):0<Q.num.natAbs:=by
 unfold qn at h;have:=iD h;omega
theorem anK(f F:Bool)(n m:Nat):decide ((if f then-(n:Int) else n)*(if F then-(m:Int) else m)<0)=((f != F)&&n*m != 0)/\((if f then-(n:Int) else n)*(if F then-(m:Int) else m)).natAbs=n*m:=by
 constructor
 . rw[gG,jU];have b:(n:Int)*(m:Int)=((n*m:Nat):Int):=(by simp);cases f<;>cases F<;>simp only[jG,iO,gX,Int.neg_mul,Int.mul_neg,Int.neg_neg,b]<;>generalize n*m=z<;>simp<;>omega
 . rw[oZ];cases f<;>cases F<;>simp
theorem an2(f F:Bool)(n m:Nat)(b:f=true->0<n)(c:F=true->0<m):decide ((if f then-(n:Int) else n)+(if F then-(m:Int) else m)<0)=(gj f F n m&&cH f F n m != 0)/\((if f then-(n:Int) else n)+(if F then-(m:Int) else m)).natAbs=cH f F n m:=by
 unfold gj cH;constructor
 . rw[gG,jU];cases f<;>cases F<;>simp
   . omega
   . by_cases h:n<m<;>simp[h]<;>omega
   . by_cases h:n<m<;>simp[h]<;>omega
   . have:=b rfl;omega
 . cases f<;>cases F<;>simp
   . omega
   . by_cases h:n<m<;>simp[h]<;>omega
   . by_cases h:n<m<;>simp[h]<;>omega
   . omega
theorem c2(Q q:Rat):qn (Q*q)=((qn Q != qn q)&&Q.num.natAbs*q.num.natAbs != 0)/\(Q*q).num.natAbs=Q.num.natAbs*q.num.natAbs/Nat.gcd (Q.num.natAbs*q.num.natAbs) (Q.den*q.den)/\(Q*q).den=Q.den*q.den/Nat.gcd (Q.num.natAbs*q.num.natAbs) (Q.den*q.den):=by
 rw[Rat.mul_def];have h:=eZ (Q.num*q.num) (Q.den*q.den) (Nat.mul_ne_zero Q.den_nz q.den_nz);have a:=anK (qn Q) (qn q) Q.num.natAbs q.num.natAbs;rw[<-bb,<-bb] at a;rw[a.1,a.2] at h;exact h
theorem bZ(Q q:Rat):qn (Q+q)=(gj (qn Q) (qn q) (Q.num.natAbs*q.den) (q.num.natAbs*Q.den)&&cH (qn Q) (qn q) (Q.num.natAbs*q.den) (q.num.natAbs*Q.den) != 0)/\
 (Q+q).num.natAbs=cH (qn Q) (qn q) (Q.num.natAbs*q.den) (q.num.natAbs*Q.den)/Nat.gcd (cH (qn Q) (qn q) (Q.num.natAbs*q.den) (q.num.natAbs*Q.den)) (Q.den*q.den)/\
 (Q+q).den=Q.den*q.den/Nat.gcd (cH (qn Q) (qn q) (Q.num.natAbs*q.den) (q.num.natAbs*Q.den)) (Q.den*q.den):=by
 rw[Rat.add_def];have h:=eZ (Q.num*q.den+q.num*Q.den) (Q.den*q.den) (Nat.mul_ne_zero Q.den_nz q.den_nz);have a:=an2 (qn Q) (qn q) (Q.num.natAbs*q.den) (q.num.natAbs*Q.den) (fun e=>fE (bU e) (nJ q.den_nz)) (fun e=>fE (bU e) (nJ Q.den_nz));have b:Q.num*(q.den:Int)=if qn Q then-((Q.num.natAbs*q.den:Nat):Int) else ((Q.num.natAbs*q.den:Nat):Int):=by
  conv=>lhs;rw[bb Q]
  cases qn Q<;>simp[Int.neg_mul]
 have c:q.num*(Q.den:Int)=if qn q then-((q.num.natAbs*Q.den:Nat):Int) else ((q.num.natAbs*Q.den:Nat):Int):=by
  conv=>lhs;rw[bb q]
  cases qn q<;>simp[Int.neg_mul]
 rw[<-b,<-c] at a;rw[a.1,a.2] at h;exact h
theorem e8(Q:Rat)(h:Q.num.natAbs≠0):qn Q⁻¹ =qn Q/\Q⁻¹.num.natAbs=Q.den/\Q⁻¹.den=Q.num.natAbs:=by
 have a:Q.num≠0:=om;refine⟨?_, ?_, ?_⟩
 . unfold qn;rw[Rat.num_inv,tL];have b:(0:Int)<Q.den:=(by have:=Q.den_nz;omega);rcases Int.lt_or_lt_of_ne a with e | e
   . rw[Int.sign_eq_neg_one_of_neg e];omega
   . rw[Int.sign_eq_one_of_pos e];omega
 . rw[Rat.num_inv,oZ,rT];rcases Int.lt_or_lt_of_ne a with e | e
   . rw[Int.sign_eq_neg_one_of_neg e];simp
   . rw[Int.sign_eq_one_of_pos e];simp
 . rw[Rat.den_inv,aM a]
theorem aoi(Q q:Rat)(h:q.num.natAbs≠0):qn (Q/q)=((qn Q != qn q)&&Q.num.natAbs*q.den != 0)/\(Q/q).num.natAbs=Q.num.natAbs*q.den/Nat.gcd (Q.num.natAbs*q.den) (Q.den*q.num.natAbs)/\(Q/q).den=Q.den*q.num.natAbs/Nat.gcd (Q.num.natAbs*q.den) (Q.den*q.num.natAbs):=by
 rw[Rat.div_def];have a:=c2 Q q⁻¹;obtain⟨b,c,d⟩:=e8 q h;rw[b,c,d] at a;exact a
def aD(p q:Rat):Int:=if p<q then-1 else if q<p then 1 else 0
theorem ans(Q q:Rat):af (qn Q) (qn q) (Q.num.natAbs*q.den) (q.num.natAbs*Q.den)=aD Q q:=by
 have a:Q.num*(q.den:Int)=if qn Q then-((Q.num.natAbs*q.den:Nat):Int) else ((Q.num.natAbs*q.den:Nat):Int):=by
  conv=>lhs;rw[bb Q]
  cases qn Q<;>simp[Int.neg_mul]
 have b:q.num*(Q.den:Int)=if qn q then-((q.num.natAbs*Q.den:Nat):Int) else ((q.num.natAbs*Q.den:Nat):Int):=by
  conv=>lhs;rw[bb q]
  cases qn q<;>simp[Int.neg_mul]
 have c:qn Q=true->0<Q.num.natAbs*q.den:=fun e=>fE (bU e) (nJ q.den_nz);have d:qn q=true->0<q.num.natAbs*Q.den:=fun e=>fE (bU e) (nJ Q.den_nz);unfold aD af;simp only[Rat.lt_iff,a,b];generalize Q.num.natAbs*q.den=x at*;generalize q.num.natAbs*Q.den=y at*;unfold li;cases hp:qn Q<;>cases hq:qn q<;>simp[hp,hq] at c d⊢ <;>(repeat' split)<;>omega
def mH(w:World)(v:Value)(q:Rat):Prop:=
 ∃a n ca b m cb ba oa bb ob X Y,v=.agg #[.bool (qn q),.slice a n ca,.slice b m cb]/\se w a b ba oa n ca bb ob m cb X Y/\lv X n=q.num.natAbs/\lv Y m=q.den
theorem mH.bH{w w':World}{q:Rat}(h:mH w u q)(s:w.S w'):mH w' u q:=by
 obtain⟨a,n,e,b,m,f,c,k,d,l,X,Y,g,i,j⟩:=h;exact⟨a,n,e,b,m,f,c,k,d,l,X,Y,g,i.bH s,j⟩
def Qb(q:Rat)(k:Nat):Prop:=q.num.natAbs<4294967296^k/\q.den<4294967296^k
theorem Qb.more(h:Qb Q n)(a:n<=m):Qb Q m:=
 ⟨aS h.1 (dP qd a),aS h.2 (dP qd a)⟩
theorem gc(b:0<n->X (n-1)≠0)(h:lv X n<4294967296^m):n<=m:=by
 rcases jI m n with e | e
 . exfalso;have a:0<n:=om;have c:=zy X n a (b a);rw[Nat.pow_mul,show (2:Nat)^32=4294967296 by decide] at c;have d:(4294967296:Nat)^m<=4294967296^(n-1):=dP qd om;omega
 . exact e
theorem Qb.mul{q:Rat}(h:Qb Q n)(a:Qb q m):Qb (Q*q) (n+m):=by
 obtain⟨-,b,c⟩:=c2 Q q;unfold Qb;rw[b,c,iB];exact⟨dD (iV _ _) (qZ h.1 a.1),dD (iV _ _) (qZ h.2 a.2)⟩
theorem ajt(f F:Bool)(n m:Nat):cH f F n m<=n+m:=by
 unfold cH;split
 . omega
 . split<;>omega
theorem Qb.add{q:Rat}(h:Qb Q n)(a:Qb q m):Qb (Q+q) (n+m+1):=by
 obtain⟨-,b,c⟩:=bZ Q q;unfold Qb;rw[b,c,iH,iB];have e:=qZ h.1 a.2;have d:=qZ a.1 h.2;have f:=qZ h.2 a.2;rw[cJ (4294967296^m)] at d;generalize 4294967296^n*4294967296^m=B at*;have g:=ajt (qn Q) (qn q) (Q.num.natAbs*q.den) (q.num.natAbs*Q.den);refine⟨dD (iV _ _) om,dD (iV _ _) om⟩
theorem se.ok{w:World}{f:Nat}(R:se w a A d n m k f p i j X Y)(c:lv X m=Q.num.natAbs)(b:lv Y i=Q.den):fF (qn Q) X m Y i=true:=by
 have r:=nm.2 R.pX;have s:=nm.2 R.pY;have t:=R.m0;have g:Nat.gcd (lv X m) (lv Y i)=1:=by rw[c,b];exact Q.reduced
 have l:(qn Q&&m==0)=false:=by
  cases hq:qn Q
  . rfl
  . have:=bU hq;rw[<-c] at this;have h:=jr R.pX;have:m≠0:=(by intro e;have:=h.1 e;omega);simp[this]
 unfold fF;rw[r,s,g,l];simp;omega
theorem amI{q:Rat}{w:World}(i:Qb Q n)(j:Qb q m)(K:2*n+2*m<=16777216)(R:mH w u Q)(c:mH w U q):
 Cl 87 #[u,U] w fun e l=>∃k,e=.returned k/\pe l k (qn (Q+q)) (Q+q).num.natAbs (Q+q).den w.heap.size 67108864/\w.S l:=by
 obtain⟨a,W,F,b,v,H,B,S,D,p,X,Y,rfl,R,d,f⟩:=R;obtain⟨z,M,G,A,L,I,C,T,E,V,x,y,rfl,c,g,h⟩:=c;have N:=gc R.pX (by rw[d];exact i.1);have O:=gc R.pY (by rw[f];exact i.2);have P:=gc c.pX (by rw[g];exact j.1);have o:=gc c.pY (by rw[h];exact j.2);have J:=aeq om R c (R.ok d f) (c.ok g h);obtain⟨r,s,t⟩:=bZ Q q;rw[d,f,g,h,<-r,<-s,<-t] at J;exact J
end Go.Proofs.YtaeieekkddndhaaGreat
namespace Go.Proofs.YtaeieekkddndhaaGreat
open Tryz
variable{v W V:World}{n m c d k i j l o b p t r s g h e:Nat}{a A B:Option Addr}{X Y Z:Nat->Nat}{u U:Value}{f F:Bool}{z y:Int}{G:be}{P:Nat->Prop}{Q:Rat}{D:dA}{R:jd}
theorem agM(Q:Rat):(Q.den:Rat)≠0:=fun h=>Q.den_nz (by
 have a:((Q.den:Int):Rat)=((0:Int):Rat):=h;exact Int.ofNat_inj.1 (Rat.intCast_inj.1 a))
theorem xC(Q:Rat):Q*(Q.den:Rat)=(Q.num:Rat):=by
 have h:Q=(Q.num:Rat)/(Q.den:Rat):=by rw[<-Rat.mkRat_eq_div,Rat.mkRat_self]
 have a:(Q.num:Rat)/(Q.den:Rat)*(Q.den:Rat)=(Q.num:Rat):=Rat.div_mul_cancel (agM Q);rwa[<-h] at a
def i7(q:Rat)(T D:Nat):Prop:=∃t:Int,q*(D:Rat)=(t:Rat)/\t.natAbs<=T
theorem i7.base(Q:Rat):i7 Q Q.num.natAbs Q.den:=by
 refine⟨Q.num, ?_,aC _⟩;exact xC Q
theorem i7.more(h:i7 Q n c)(d:n<=m):i7 Q m c:=by
 obtain⟨t,a,b⟩:=h;exact⟨t,a,aU b d⟩
theorem i7.add{q:Rat}(h:i7 Q n c)(a:i7 q m c):i7 (Q+q) (n+m) c:=by
 obtain⟨t,b,f⟩:=h;obtain⟨u,d,e⟩:=a;refine⟨t+u,by rw[Rat.add_mul,b,d,Rat.intCast_add], ?_⟩;exact aU (Int.natAbs_add_le t u) (Nat.add_le_add f e)
theorem i7.mul{q:Rat}(h:i7 Q n c)(b:i7 q m d):i7 (Q*q) (n*m) (c*d):=by
 obtain⟨t,a,g⟩:=h;obtain⟨u,e,f⟩:=b;refine⟨t*u, ?_,by rw[oZ];exact dF g f⟩;rw[Rat.natCast_mul,tT,<-a,<-e];rw[jY,jY,<-jY q,<-jY (c:Rat),Rat.mul_comm q (c:Rat)]
theorem i7.up(h:i7 Q n m)(c:Nat):i7 Q (n*c) (m*c):=by
 obtain⟨t,a,b⟩:=h;refine⟨t*c, ?_,by rw[oZ];exact dF b qz⟩;rw[Rat.natCast_mul,tT,<-jY,a];rfl
theorem i7.bound(h:i7 Q n m)(d:0<m):Q.num.natAbs<=n/\Q.den<=m:=by
 obtain⟨t,g,p⟩:=h;have e:Q.num*(m:Int)=t*(Q.den:Int):=by
  have b:Q*(m:Rat)*(Q.den:Rat)=(t:Rat)*(Q.den:Rat):=by rw[g]
  rw[jY,Rat.mul_comm (m:Rat),<-jY,xC] at b;have i:((Q.num*(m:Int):Int):Rat)=((t*(Q.den:Int):Int):Rat):=by rw[tT,tT];exact b
  exact Rat.intCast_inj.1 i
 have a:Q.num.natAbs*m=t.natAbs*Q.den:=by have:=congrArg Int.natAbs e;rwa[oZ,oZ,rT,rT] at this
 have f:Q.den∣m:=by have j:Q.den∣Q.num.natAbs*m:=⟨t.natAbs,by rw[a,cJ]⟩;exact Nat.Coprime.dvd_of_dvd_mul_left (Nat.Coprime.symm Q.reduced) j
 refine⟨?_,Nat.le_of_dvd d f⟩;obtain⟨c,rfl⟩:=f;have k:0<c:=by
  rcases cQ c with h | h
  . subst h;simp at d
  . exact h
 have l:0<Q.den:=Q.den_pos;have o:t.natAbs=Q.num.natAbs*c:=by
  have:Q.den*(Q.num.natAbs*c)=Q.den*t.natAbs:=by rw[cJ Q.den t.natAbs,<-a,oO]
  exact (Nat.eq_of_mul_eq_mul_left l this).symm
 have:Q.num.natAbs<=Q.num.natAbs*c:=jC _ k;omega
theorem i7.qb(h:i7 Q n m)(a:0<m)(b:n<4294967296^c)(d:m<4294967296^c):Qb Q c:=
 ⟨dD (h.bound a).1 b,dD (h.bound a).2 d⟩
def ze(q:Nat->Rat):Nat->Nat
 | 0=>1
 | n+1=>ze q n*(q n).den
def lH(q:Nat->Rat):Nat->Nat
 | 0=>1
 | n+1=>lH q n*((q n).num.natAbs+1)
theorem agL(q:Nat->Rat)(n:Nat):0<ze q n:=by
 induction n with
 | zero=>exact Nat.one_pos
 | succ n ih=>exact fE ih (q n).den_pos
theorem ek(q:Nat->Rat)(n:Nat):0<lH q n:=by
 induction n with
 | zero=>exact Nat.one_pos
 | succ n ih=>exact fE ih (oK _)
theorem tD(q:Nat->Rat)(h:n<m):(q n).den∣ze q m:=by
 induction m with
 | zero=>omega
 | succ m ih=>
   rcases Nat.lt_succ_iff_lt_or_eq.1 h with h | h
   . exact oR (ih h) ⟨_,rfl⟩
   . subst h;exact⟨ze q n,cJ _ _⟩
def pQ(q:Nat->Rat)(a:Nat):Nat->Nat
 | 0=>0
 | j+1=>pQ q a j+(q (a+j)).num.natAbs
theorem di(q:Nat->Rat)(n m c:Nat):pQ q n (m+c)=pQ q n m+pQ q (n+m) c:=by
 induction c with
 | zero=>simp[pQ]
 | succ c ih=>rw[<-fH,pQ,pQ,ih,fH n m c,fH]
theorem ajv(q:Nat->Rat)(h:n+m<=c):pQ q n m<=pQ q 0 c:=by
 have b:=di q 0 n m;have a:=di q 0 (n+m) (c-(n+m));rw[show n+m+(c-(n+m))=c by omega] at a;rw[aZ] at b;omega
theorem ajw(q:Nat->Rat)(n:Nat):pQ q 0 n+1<=lH q n:=by
 induction n with
 | zero=>exact aC _
 | succ n ih=>
   unfold pQ lH;rw[aZ,fY,iF];have:=fU (q n).num.natAbs (ek q n);omega
def il(b:Rat)(w v:Nat->Rat):Nat->Rat
 | 0=>b
 | j+1=>il b w v j+w j*v j
theorem i7.term{p q:Rat}{T D E:Nat}(h:i7 q T D)(b:p.den∣E):i7 (p*q) (p.num.natAbs*T*E) (D*E):=by
 obtain⟨Y,rfl⟩:=b;have a:=((i7.base p).mul h).up Y;rw[show p.den*D*Y=D*(p.den*Y) by rw[cJ p.den D,cS]] at a;exact a.more (dE _ (fU _ p.den_pos))
theorem i7.row{w v:Nat->Rat}(j:m<=n)(hb:Q.den∣c)(k:Nat)(g:∀b,b<k->(w b).den∣c)(f:∀b,b<k->i7 (v b) n m)
 (e:Q.num.natAbs+pQ w 0 k<=d):i7 (il Q w v k) (d*n*c) (m*c):=by
 have h:∀i,i<=k->i7 (il Q w v i) ((Q.num.natAbs+pQ w 0 i)*n*c) (m*c):=by
  intro i
  induction i with
  | zero=>
    intro _;obtain⟨Y,rfl⟩:=hb;have a:=(i7.base Q).up (m*Y);rw[show Q.den*(m*Y)=m*(Q.den*Y) by rw[oO]] at a;refine a.more ?_;simp only[pQ,fV];rw[cS];refine dE _ ?_;exact dF j (fU _ Q.den_pos)
  | succ i ih=>
    intro l;have a:=(ih om).add ((f i om).term (g i om));refine a.more ?_;rw[pQ,aZ,<-bI,<-bI,fH];exact aC _
 exact (h k zR).more (aP _ (aP _ e))
end Go.Proofs.YtaeieekkddndhaaGreat
namespace Go.Proofs.YtaeieekkddndhaaGreat
open Tryz Go.RowKit
variable{v W V:World}{n m c d k i j l o b p t r s g h e:Nat}{a A B:Option Addr}{X Y Z:Nat->Nat}{u U:Value}{f F:Bool}{z y:Int}{G:be}{P:Nat->Prop}{Q:Rat}{D:dA}{R:jd}
def jd.q(r:jd):Rat:=mkRat (if r.neg then-(lv r.X r.n:Int) else lv r.X r.n) (lv r.Y r.m)
theorem anI(f:Bool)(n m:Nat)(c:m≠0):qn (mkRat (if f then-(n:Int) else n) m)=(f&&n != 0)/\(mkRat (if f then-(n:Int) else n) m).num.natAbs=n/Nat.gcd n m/\(mkRat (if f then-(n:Int) else n) m).den=m/Nat.gcd n m:=by
 rw[<-Rat.normalize_eq_mkRat c];obtain⟨d,a,b⟩:=eZ (if f then-(n:Int) else n) m c;have e:(if f then-(n:Int) else (n:Int)).natAbs=n:=by split<;>simp
 rw[e] at a b;refine⟨?_,a,b⟩;rw[d];cases f
 . simp
 . show decide (-(n:Int)<0)=(true&&n != 0);rw[gG];simp only[mG,Bool.true_and,nG];omega
theorem jd.q_ok(h:R.ok=true):qn R.q=R.neg/\R.q.num.natAbs=lv R.X R.n/\R.q.den=lv R.Y R.m/\(0<R.n->R.X (R.n-1)≠0)/\(0<R.m->R.Y (R.m-1)≠0)/\0<R.m:=by
 unfold jd.ok fF at h;simp only[fT,nG,jJ,tH,kS] at h;obtain⟨⟨⟨⟨g,i⟩,o⟩,j⟩,k⟩:=h;have c:=nm.1 g;have d:=nm.1 i;have m:0<R.m:=om;have l:lv R.Y R.m≠0:=fun e=>by have:=(jr d).2 e;omega
 obtain⟨f,a,b⟩:=anI R.neg (lv R.X R.n) (lv R.Y R.m) l;rw[k,pI] at a b;refine⟨?_,a,b,c,d,m⟩;unfold jd.q;rw[f];cases hn:R.neg
 . rfl
 . have n:R.n≠0:=by
    rcases j with h | h
    . rw[hn] at h;cases h
    . simpa using h
   have:lv R.X R.n≠0:=fun e=>n ((jr c).2 e);simp[this]
def fJ(w:World)(p:Nat->Prop)(v:Value)(q:Rat):Prop:=
 ∃a n ca b m cb ba oa bb ob X Y,v=.agg #[.bool (qn q),.slice a n ca,.slice b m cb]/\se w a b ba oa n ca bb ob m cb X Y/\lv X n=q.num.natAbs/\lv Y m=q.den/\(0<n->p ba)/\(0<m->p bb)
section
variable{w w':World}{p p':Nat->Prop}{v:Value}{q:Rat}{a:Option Addr}{b off n c:Nat}{Q:Nat->Rat}
theorem fJ.bH(h:fJ w p v q)(s:w.S w'):fJ w' p v q:=by
 obtain⟨a,n,e,b,m,f,c,k,d,l,X,Y,g,i,j⟩:=h;exact⟨a,n,e,b,m,f,c,k,d,l,X,Y,g,i.bH s,j⟩
theorem fJ.read(h:fJ w p v q):mH w v q:=by
 obtain⟨a,n,e,b,m,f,c,l,d,o,X,Y,g,i,j,k,-⟩:=h;exact⟨a,n,e,b,m,f,c,l,d,o,X,Y,g,i,j,k⟩
theorem fJ.imp(h:fJ w p v q)(d:∀g,g<w.heap.size->p g->p' g):fJ w p' v q:=by
 obtain⟨a,n,i,b,m,j,e,t,f,u,X,Y,k,c,l,o,r,s⟩:=h;exact⟨a,n,i,b,m,j,e,t,f,u,X,Y,k,c,l,o,fun h=>d _ (c.LX.lt h) (r h),fun h=>d _ (c.LY.lt h) (s h)⟩
theorem fJ.marked(h:fJ w p v q)(s:aV w w' c)(g:¬p c):fJ w' p v q:=by
 obtain⟨a,n,k,b,m,l,i,u,j,x,X,Y,o,R,r,t,d,f⟩:=h;exact⟨a,n,k,b,m,l,i,u,j,x,X,Y,o,⟨R.nc,R.mc,R.ac,R.bc,R.LX.marked s (fun h e=>g (e▸d h)),R.LY.marked s (fun h e=>g (e▸f h)),R.lX,R.lY,R.pX,R.pY,R.m0⟩,r,t,d,f⟩
theorem pe.rp{B M:Nat}(h:pe w v (qn q) q.num.natAbs q.den B M):fJ w (fun g=>B<=g) v q:=by
 obtain⟨C,D,g,k,rfl,⟨a,n,d,X,rfl,r,-,s,t,-,u,x,y⟩,⟨b,m,f,Y,rfl,i,-,j,l,-,o,p,c⟩,z,A,-⟩:=h;refine⟨a,n,d,b,m,f,g,0,k,0,X,Y,rfl,⟨r,i,s,j,t,l,u,o,x,p, ?_⟩,y,c,fun _=>z,fun _=>A⟩;rcases cQ m with e | e
 . subst e;have:=q.den_nz;rw[<-c] at this;exact absurd rfl this
 . exact e
structure bC(w:World)(p:Nat->Prop)(b off:Nat)(q:Rat)(x y:Value):Prop where
 c0:w.cell? ⟨b,off,none⟩=some (.bool (qn q))
 c1:w.cell? ⟨b,off+1,none⟩=some x
 c2:w.cell? ⟨b,off+2,none⟩=some y
 R:fJ w p (.agg #[.bool (qn q),x,y]) q
theorem bC.lt(h:bC w p b off q u U):b<w.heap.size:=aG _ _ h.c0
theorem bC.bH(h:bC w p b off q u U)(s:w.S w'):bC w' p b off q u U:=
 ⟨(s.cell (a:=jj b off) h.lt).trans h.c0,(s.cell (a:=jj b (off+1)) h.lt).trans h.c1,(s.cell (a:=jj b (off+2)) h.lt).trans h.c2,h.R.bH s⟩
def dQ(w:World)(p:Nat->Prop)(a:Option Addr)(b off n:Nat)(Q:Nat->Rat):Prop:=
 ∀i,i<n->a=some ⟨b,off,none⟩/\∃x y,bC w p b (off+i*3) (Q i) x y
theorem dQ.bH(h:dQ w p a b off n Q)(s:w.S w'):dQ w' p a b off n Q:=fun i e=>by
 obtain⟨c,x,y,d⟩:=h i e;exact⟨c,x,y,d.bH s⟩
theorem dQ.imp(h:dQ w p a b off n Q)(f:∀g,g<w.heap.size->p g->p' g):dQ w p' a b off n Q:=fun i e=>by
 obtain⟨d,x,y,c⟩:=h i e;exact⟨d,x,y,c.c0,c.c1,c.c2,c.R.imp f⟩
end
theorem pG.qs{w:World}{R:Nat->jd}(h:pG w n a m c d R)(A:pz R d):dQ w (fun g=>n<=g) a m c d (fun i=>(R i).q):=fun i e=>by
 obtain⟨t,D,E,f,j,b⟩:=h i e;obtain⟨q,r,s,B,C,u⟩:=jd.q_ok (A i e);obtain⟨o,y,v,k⟩:=b.L.LX;obtain⟨p,z,x,l⟩:=b.L.LY;exact⟨t,.l D (R i).n f,.l E (R i).m j,by rw[q];exact b.c0,b.c1,b.c2,D,(R i).n,f,E,(R i).m,j,o,y,p,z,(R i).X,(R i).Y,rfl,⟨b.L.nc,b.L.mc,b.L.ac,b.L.bc,k,l,b.L.lX,b.L.lY,B,C,u⟩,r.symm,s.symm,v,x⟩
theorem aiX{q:Rat}{w:World}(i:Qb Q n)(j:Qb q m)(F:2*n+2*m<=16777216)(R:mH w u Q)(c:mH w U q):
 Cl 42 #[u,U] w fun e k=>e=.returned (.i (aD Q q))/\w.S k:=by
 obtain⟨a,p,B,b,o,D,x,N,z,P,X,Y,rfl,R,d,f⟩:=R;obtain⟨t,H,C,v,G,E,y,O,A,l,r,s,rfl,c,g,h⟩:=c;have I:=gc R.pX (by rw[d];exact i.1);have K:=gc R.pY (by rw[f];exact i.2);have L:=gc c.pX (by rw[g];exact j.1);have M:=gc c.pY (by rw[h];exact j.2);have J:=ake om R c (R.ok d f) (c.ok g h);rw[d,f,g,h,ans] at J;exact J
def av(op:Int):Bool:=op==1 ||op==5 ||op==6
def ar(op:Int):Bool:=op==6
def xu(op:Int):Bool:=op==1 ||op==3 ||op==6 ||op==7
def u9(op:Int):Bool:=op==4
def wg(z:Int)(u:Bool):Prop:=if u then 1<=z/\z<=1000 else z=0
def ajh(d:dA)(ub uk us:Bool)(lH:Int):Prop:=
 (ub=false->d.b=0)/\wg d.k uk/\wg d.s us/\(lH≠-1->(d.nv:Int)=lH)/\pz d.V d.nv
structure dA.Form(d:dA):Prop where
 o1:1<=d.op
 o7:d.op<=7
 k:wg d.k (av d.op)
 s:wg d.s (ar d.op)
 b:u9 d.op=false->d.b=0
 v:xu d.op=false->d.nv=0
 v3:d.op=3->d.nv=1
 v7:d.op=7->d.nv=4
 ok:pz d.V d.nv
theorem tz{i:Bool}{lH:Int}(h:D.op=z)(l:1<=z)(m:z<=7)(eb:u9 z=f)(j:av z=F)(k:ar z=i)
 (b:(lH=-1/\xu z=true/\z≠3/\z≠7)∨(lH=0/\xu z=false)∨(lH=1/\z=3)∨(lH=4/\z=7)):D.Form↔ajh D f F i lH:=by
 subst h eb j k;constructor
 . intro c;refine⟨c.b,c.k,c.s,fun n=> ?_,c.ok⟩;rcases b with ⟨rfl,-⟩ | ⟨rfl,e⟩ | ⟨rfl,e⟩ | ⟨rfl,e⟩
   . exact absurd rfl n
   . have:=c.v e;omega
   . have:=c.v3 e;omega
   . have:=c.v7 e;omega
 . rintro⟨a1,a2,a3,a4,a5⟩;refine⟨l,m,a2,a3,a1,fun e=> ?_,fun e=> ?_,fun e=> ?_,a5⟩
   . rcases b with ⟨rfl,a,-⟩ | ⟨rfl,-⟩ | ⟨rfl,a⟩ | ⟨rfl,a⟩
     . rw[e] at a;cases a
     . have:=a4 qd;omega
     . rw[a] at e;cases e
     . rw[a] at e;cases e
   . rcases b with ⟨-,-,a,-⟩ | ⟨-,a⟩ | ⟨rfl,-⟩ | ⟨-,a⟩
     . exact absurd e a
     . rw[e] at a;cases a
     . have:=a4 qd;omega
     . omega
   . rcases b with ⟨-,-,-,a⟩ | ⟨-,a⟩ | ⟨-,a⟩ | ⟨rfl,-⟩
     . exact absurd e a
     . rw[e] at a;cases a
     . omega
     . have:=a4 qd;omega
def wH(d:dA)(i:Nat):Prop:=0<=d.a/\d.a<i/\(u9 d.op=true->0<=d.b/\d.b<i)
def gR(D:Nat->Int)(d:dA):Int:=
 if d.op=1/\(d.nv:Int)≠d.k*(D d.a.toNat+1) then 14
 else if d.op=4/\D d.b.toNat≠D d.a.toNat then 14
 else if d.op=5/\D d.a.toNat % d.k≠0 then 14
 else if d.op=6/\(d.k>D d.a.toNat∨(d.nv:Int)≠d.k+1) then 14
 else if d.op=7/\(d.V 2).n=0 then 15
 else 0
def aom(d:dA):Decidable d.Form:= @decidable_of_iff _ (1<=d.op/\d.op<=7/\(if av d.op then 1<=d.k/\d.k<=1000 else d.k=0)/\(if ar d.op then 1<=d.s/\d.s<=1000 else d.s=0)/\(u9 d.op=false->d.b=0)/\(xu d.op=false->d.nv=0)/\(d.op=3->d.nv=1)/\(d.op=7->d.nv=4)/\∀i,i<d.nv->(d.V i).ok=true) ⟨fun⟨a,b,c,e,f,g,h,i,j⟩=>⟨a,b,c,e,f,g,h,i,j⟩,fun f=>⟨f.o1,f.o7,f.k,f.s,f.b,f.v,f.v3,f.v7,f.ok⟩⟩ inferInstance
def srcD(d:dA)(i:Nat):Decidable (wH d i):=inferInstanceAs (Decidable (0<=d.a/\d.a<i/\(u9 d.op=true->0<=d.b/\d.b<i)))
def ix(D:Nat->Int)(i:Nat)(d:dA):Int:=
 haveI:=aom d;haveI:=srcD d i;if ¬d.Form then 12 else if ¬wH d i then 13 else gR D d
def jy(D:Nat->Int)(d:dA):Int:=
 if d.op=1 then d.k else if d.op=5 then D d.a.toNat/d.k else if d.op=6 then (D d.a.toNat-d.k)/d.s+1 else D d.a.toNat
def ld(g:be):Nat->Nat->Int
 | 0=>fun _=>g.inn
 | i+1=>fun j=>if j<=i then ld g i j else jy (ld g i) (g.N i)
theorem ve(G:be)(h:m<=n):ld G (n+1) m=ld G n m:=by
 show (if m<=n then _ else _)=_;rw[aY h]
theorem vf(G:be)(n:Nat):ld G (n+1) (n+1)=jy (ld G n) (G.N n):=by
 show (if n+1<=n then _ else _)=_;rw[aM om]
def nc(g:be)(k:Nat):Int:=ix (ld g k) (k+1) (g.N k)
def Dok(D:Nat->Int)(n:Nat):Prop:=∀j,j<n->1<=D j/\D j<=1000
theorem vh{c:Nat->Int}(h:ix c n D=0):D.Form/\wH D n/\gR c D=0:=by
 unfold ix at h;by_cases a:D.Form
 . by_cases b:wH D n
   . simp only[a,b,not_true_eq_false,iO] at h;exact⟨a,b,h⟩
   . simp[a,b] at h
 . simp[a] at h
theorem abE{D:Nat->Int}{d:dA}(h:¬d.Form):ix D i d=12:=by unfold ix;simp[h]
theorem adt{D:Nat->Int}{d:dA}(h:d.Form)(a:¬wH d i):ix D i d=13:=by unfold ix;simp[h,a]
theorem adu{D:Nat->Int}{d:dA}(h:d.Form)(a:wH d n):ix D n d=gR D d:=by unfold ix;simp[h,a]
theorem e6{d:Nat->Int}(i:Dok d n)(h:ix d n D=0):1<=jy d D/\jy d D<=1000:=by
 obtain⟨f,⟨t,u,-⟩,c⟩:=vh h;have m:=i D.a.toNat om;generalize o:d D.a.toNat=x at m;unfold gR at c;unfold jy;rw[o] at c⊢;by_cases b:D.op=1
 . have:=f.k;rw[b] at this;rw[aY b];exact this
 by_cases g:D.op=5
 . have a:=f.k;rw[g] at a;have a:1<=D.k/\D.k<=1000:=a;rw[aM b,aY g];by_cases j:x % D.k=0
   . have e:=Int.mul_ediv_add_emod x D.k;rw[j] at e;generalize s:x/D.k=y at*;constructor
     . by_cases p:y<=0
       . have:D.k*y<=0:=Int.mul_nonpos_of_nonneg_of_nonpos om p;omega
       . omega
     . have:x/D.k<=x:=rI _ om;omega
   . exfalso;simp[g,j] at c
 by_cases k:D.op=6
 . have a:=f.k;have l:=f.s;rw[k] at a l;have a:1<=D.k/\D.k<=1000:=a;have l:1<=D.s/\D.s<=1000:=l;rw[aM b,aM g,aY k];by_cases j:D.k>x
   . exfalso;simp[k,j] at c
   . have q:0<=(x-D.k)/D.s:=qH om om;have r:(x-D.k)/D.s<=x-D.k:=rI _ om;omega
 rw[aM b,aM g,aM k];exact m
structure vw(g:be):Prop where
 i1:1<=g.inn
 i2:g.inn<=1000
 r0:0<=g.rounds
 r1:g.rounds<=1000
 l:(g.nl:Int)=g.inn
 h:(g.nh:Int)=g.inn
 n:g.nn<=1000
 okL:pz g.Lo g.nl
 okH:pz g.Hi g.nh
def mZ(g:be)(j:Nat):Prop:=0<aD (g.Lo j).q (g.Hi j).q
def al(g:be)(n:Nat)(X:Nat->Int)(c a:Int):Prop:=
 (¬vw g/\n=0/\c=10/\a=0)∨
 (vw g/\∃j:Nat,(j:Int)<g.inn/\(∀i,i<j->¬mZ g i)/\mZ g j/\n=0/\c=11/\a=j)∨
 (vw g/\(∀j:Nat,(j:Int)<g.inn->¬mZ g j)/\∃i,i<g.nn/\(∀k,k<i->nc g k=0)/\nc g i≠0/\n=0/\c=nc g i/\a=((i+1:Nat):Int))∨
 (vw g/\(∀j:Nat,(j:Int)<g.inn->¬mZ g j)/\(∀k,k<g.nn->nc g k=0)/\¬(0<=g.out/\g.out<=g.nn)/\n=0/\c=16/\a=0)∨
 (vw g/\(∀j:Nat,(j:Int)<g.inn->¬mZ g j)/\(∀k,k<g.nn->nc g k=0)/\(0<=g.out/\g.out<=g.nn)/\n=g.nn+1/\(∀j,j<n->X j=ld g g.nn j)/\c=0/\a=0)
theorem al.only{X p:Nat->Int}{c a:Int}(h:al G n X c a)(A:al G m p z y):m=n/\z=c/\y=a/\∀j,j<n->p j=X j:=by
 rcases h with ⟨d,rfl,rfl,rfl⟩ | ⟨d,j,F,H,u,rfl,rfl,rfl⟩ | ⟨d,k,i,B,D,r,rfl,rfl,rfl⟩ | ⟨d,k,x,l,rfl,rfl,rfl⟩ | ⟨d,k,x,l,rfl,e,rfl,rfl⟩<;>
 rcases A with ⟨f,rfl,rfl,rfl⟩ | ⟨f,t,K,I,v,rfl,rfl,rfl⟩ | ⟨f,g,q,C,E,s,rfl,rfl,rfl⟩ | ⟨f,g,w,o,rfl,rfl,rfl⟩ | ⟨f,g,w,o,rfl,L,rfl,rfl⟩
 all_goals first
  | exact absurd f d
  | exact absurd d f
  | exact absurd u (g _ F)
  | exact absurd v (k _ K)
  | exact absurd (w _ B) r
  | exact absurd (x _ C) s
  | exact absurd o l
  | exact absurd l o
  | exact⟨rfl,rfl,rfl,fun j b=>absurd b om⟩
  | exact⟨rfl,rfl,rfl,fun j b=>by rw[e j b,L j b]⟩
  | (have:t=j:=by
      rcases kD t j with h | h | h
      . exact absurd v (H _ h)
      . exact h
      . exact absurd u (I _ h)
     subst this;exact⟨rfl,rfl,rfl,fun j b=>absurd b om⟩)
  | (have:q=i:=by
      rcases kD q i with h | h | h
      . exact absurd (D _ h) s
      . exact h
      . exact absurd (E _ h) r
     subst this;exact⟨rfl,rfl,rfl,fun j b=>absurd b om⟩)
theorem amk{q:Rat}{w:World}(O:0<=w.heap.size)(N:xe w)(j:Qb Q n)(o:Qb q m)(W:2*n+2*m<=16777216)(R:mH w u Q)(c:mH w U q):
 Cl 186 #[u,U] w fun e l=>∃k,e=.returned k/\fJ l (fun g=>w.heap.size<=g) k (Q+q)/\w.S l:=by
 obtain⟨a,Z,F,b,v,H,B,S,D,r,X,Y,rfl,R,d,f⟩:=R;obtain⟨z,p,G,A,P,I,C,T,E,V,x,y,rfl,c,h,i⟩:=c;have aa:=gc R.pX (by rw[d];exact j.1);have n2:=gc R.pY (by rw[f];exact j.2);have n3:=gc c.pX (by rw[h];exact o.1);have n4:=gc c.pY (by rw[i];exact o.2);have J:=@aju (qn Q) (qn q) a b z A B S Z F D r v H C T p G E V P I X Y x y w O N om R c (by rw[d,f];exact Q.reduced) (by rw[h,i];exact q.reduced);obtain⟨K,L,M⟩:=bZ Q q;rw[d,f,h,i,<-K,<-L,<-M] at J;refine J.mono ?_;rintro e l ⟨k,rfl,t,s⟩;exact⟨k,rfl,t.rp,s⟩
theorem xD{q:Rat}{w:World}(O:0<=w.heap.size)(N:xe w)(j:Qb Q n)(o:Qb q m)(W:2*n+2*m<=16777216)(R:mH w u Q)(c:mH w U q):
 Cl 155 #[u,U] w fun e l=>∃k,e=.returned k/\fJ l (fun g=>w.heap.size<=g) k (Q*q)/\w.S l:=by
 obtain⟨a,Z,F,b,v,H,B,S,D,r,X,Y,rfl,R,d,f⟩:=R;obtain⟨z,p,G,A,P,I,C,T,E,V,x,y,rfl,c,h,i⟩:=c;have aa:=gc R.pX (by rw[d];exact j.1);have n2:=gc R.pY (by rw[f];exact j.2);have n3:=gc c.pX (by rw[h];exact o.1);have n4:=gc c.pY (by rw[i];exact o.2);have J:=@adF (qn Q) (qn q) a b z A B S Z F D r v H C T p G E V P I X Y x y w O N om om R c (by rw[d,f];exact Q.reduced) (by rw[h,i];exact q.reduced);obtain⟨K,L,M⟩:=c2 Q q;rw[d,f,h,i,<-K,<-L,<-M] at J;refine J.mono ?_;rintro e l ⟨k,rfl,t,s⟩;exact⟨k,rfl,t.rp,s⟩
theorem aaK{q:Rat}{w:World}(M:0<=w.heap.size)(L:xe w)(p:Qb Q n)(r:Qb q m)(hk:2*n+2*m<=16777216)(o:q.num.natAbs≠0)(R:mH w u Q)(c:mH w U q):
 Cl 153 #[u,U] w fun e i=>∃d,e=.returned d/\fJ i (fun g=>w.heap.size<=g) d (Q/q)/\w.S i:=by
 obtain⟨a,P,D,b,N,F,z,T,B,W,X,Y,rfl,R,j,k⟩:=R;obtain⟨x,h,E,y,O,G,A,V,C,Z,t,v,rfl,c,f,l⟩:=c;have n1:=gc R.pX (by rw[j];exact p.1);have n2:=gc R.pY (by rw[k];exact p.2);have n3:=gc c.pX (by rw[f];exact r.1);have n4:=gc c.pY (by rw[l];exact r.2);have S:0<h:=by
  rcases Nat.eq_zero_or_pos h with e | e
  . exact absurd ((jr c.pX).1 e) (by rw[f];exact o)
  . exact e
 have J:=@acE (qn Q) (qn q) a b x y z T P D B W N F A V h E C Z O G X Y t v w M L om om S R c (by rw[j,k];exact Q.reduced) (by rw[f,l];exact q.reduced);obtain⟨H,I,K⟩:=aoi Q q o;rw[j,k,f,l,<-H,<-I,<-K] at J;refine J.mono ?_;rintro e i ⟨d,rfl,s,aa⟩;exact⟨d,rfl,s.rp,aa⟩
theorem anC(h:Q.num.natAbs=0):Q=0:=by
 have a:Q.num=0:=Int.natAbs_eq_zero.1 h;exact Rat.num_eq_zero.1 a
theorem acl{K:Nat}(s p r:Rat)(vs vp vr:Value)(w:World)(_hw:0<=w.heap.size)(_hT:xe w)(S:mH w vs s)(HP:mH w vp p)(HR:mH w vr r)
 (qs:Qb s K)(qp:Qb p K)(qr:Qb r K)(hK:K<=2097152:=by omega):
 Cl 171 #[vs,vp,vr] w fun e w'=>∃v,e=.returned v/\fJ w' (fun g=>w.heap.size<=g) v (s+p*r)/\w.S w':=by
 have S0:=S;have P0:=HP;have R0:=HR;obtain⟨a1,n1,c1,a2,n2,c2,baS,oaS,bbS,obS,XS,YS,rfl,RS,vS1,vS2⟩:=S;obtain⟨aW,nW,cW,bW,mW,dW,-,-,-,-,-,-,rfl,-⟩:=HP;obtain⟨aX,nX,cX,bX,mX,dX,-,-,-,-,-,-,rfl,-⟩:=HR;have hnz:((n1:Int)==0)=(s.num.natAbs==0):=by
  have h:=jr RS.pX;rw[vS1] at h;rw[Bool.eq_iff_iff,beq_iff_eq,beq_iff_eq];constructor
  . intro e;exact h.1 om
  . intro e;have:=h.2 e;omega
 obtain⟨wA,eA⟩:∃wA:World,wA=(((w.alloc (.o #[.bool (qn s),.l a1 n1 c1,.l a2 n2 c2] 83)).alloc (.o #[.bool (qn p),.l aW nW cW,.l bW mW dW] 83)).alloc (.o #[.bool (qn r),.l aX nX cX,.l bX mX dX] 83)).alloc (.o #[.bool false,.n,.n] 83):=⟨_,rfl⟩;have sA:w.S wA:=by rw[eA];exact (((cV _ _).alloc qz _).alloc (by simp;omega) _).alloc (by simp;omega) _
 have zA:wA.heap.size=w.heap.size+1+1+1+1:=by rw[eA];simp
 have xA:cR wA w.heap.size (.bool (qn s)) (.l a1 n1 c1) (.l a2 n2 c2):=by rw[eA];exact (((cR.new w _ _ _ _).bH (cV _ _)).bH (cV _ _)).bH (cV _ _)
 have rA:cR wA (w.heap.size+1+1+1) (.bool false) (.n) (.n):=by rw[eA];have:=cR.new (((w.alloc (.o #[.bool (qn s),.l a1 n1 c1,.l a2 n2 c2] 83)).alloc (.o #[.bool (qn p),.l aW nW cW,.l bW mW dW] 83)).alloc (.o #[.bool (qn r),.l aX nX cX,.l bX mX dX] 83)) (.bool false) (.n) (.n) 83;simpa using this
 have J1:=xD (Nat.zero_le _) trivial qp qr om (P0.bH sA) (R0.bH sA);rw[eA] at J1;go_enter func171,ntmps171;go_wp2_with fail;rw[<-eA] at J1⊢;clear eA;refine J1.mono ?_;rintro e w2 ⟨u2,rfl,R2,s2⟩;have R2q:=R2;obtain⟨a3,n3,c3,b3,m3,d3,-,-,-,-,-,-,e3,-⟩:=R2q;subst e3;have S2:=sA.tr s2;have z2:=s2.size;have x2:=xA.bH s2;have r2:=rA.bH s2;have t3:=cV w2 (.o #[.bool (qn (p*r)),.l a3 n3 c3,.l b3 m3 d3] 83);have p3:=cR.new w2 (.bool (qn (p*r))) (.l a3 n3 c3) (.l b3 m3 d3) 83;have x3:=x2.bH t3;have r3:=r2.bH t3;have S3:w.S (w2.alloc (.o #[.bool (qn (p*r)),.l a3 n3 c3,.l b3 m3 d3] 83)):=S2.tr t3;have R3:=R2.bH t3;obtain⟨k0,k1,k2⟩:=x3.g;clear J1 xA rA x2 r2;go_wp2_with fail;generalize w2.alloc _=w3 at*;have I1:=@ov (qn s) a1 a2 n1 c1 n2 c2 w3;rw[hnz] at I1;refine I1.mono ?_;rintro e w4 ⟨rfl,s4⟩;have S4:=S3.tr s4;have x4:=x3.bH s4;have rB:=r3.bH s4;have p4:=p3.bH s4;have R4:=R3.bH s4;have z4:=s4.size;have zz3:=t3.size;have hb:=p3.lt;obtain⟨j0,j1,j2⟩:=p4.g;clear I1 k0 k1 k2;by_cases hs:s.num.natAbs=0
 . have hsb:(s.num.natAbs==0)=true:=(by simp[hs]);rw[hsb];have hs0:s=0:=anC hs;have hsum:s+p*r=p*r:=(by rw[hs0,Rat.zero_add]);have HSU:=aR hsum;clear hsum hs0;obtain⟨i0,i1,i2⟩:=rB.g;obtain⟨if0,if1,if2⟩:=rB.k;go_wp2;have r12:=((rB.gH (.bool (qn (p*r)))).gM (.l a3 n3 c3)).gZ (.l b3 m3 d3);refine bodyPost_ret (re rfl _ _ _ _ _ _ rfl r12) rfl ?_;have M:aV w4 _ (w.heap.size+1+1+1):=(((aV.refl w4 _).setCell 0 (.bool (qn (p*r)))).setCell 1 (.l a3 n3 c3)).setCell 2 (.l b3 m3 d3);refine⟨_,rfl, ?_,S4.trans (M.since om)⟩;rw[HSU.out];exact (R4.marked M (fun h=>by omega)).imp (p':=fun g=>w.heap.size<=g) (fun g _ h=>by have h':wA.heap.size<=g:=h;omega)
 . have hsb:(s.num.natAbs==0)=false:=(by simp[hs]);rw[hsb];obtain⟨l0,l1,l2⟩:=x4.g;have J2:=amk (Nat.zero_le _) trivial qs (qp.mul qr) om (S0.bH S4) R4.read;go_wp2_with fail;refine J2.mono ?_;rintro e w5 ⟨u5,rfl,R5,s5⟩;have R5q:=R5;obtain⟨a5,n5,c5,b5,m5,d5,-,-,-,-,-,-,e5,-⟩:=R5q;subst e5;have S5:=S4.tr s5;have rC:=rB.bH s5;have z5:=s5.size;obtain⟨q,hq⟩:∃q,s+p*r=q:=⟨_,rfl⟩;rw[hq] at R5⊢;have HQ:=aR hq;clear hq J2;obtain⟨i0,i1,i2⟩:=rC.g;obtain⟨if0,if1,if2⟩:=rC.k;go_wp2;have r12:=((rC.gH (.bool (qn q))).gM (.l a5 n5 c5)).gZ (.l b5 m5 d5);refine bodyPost_ret (re rfl _ _ _ _ _ _ rfl r12) rfl ?_;have M:aV w5 _ (w.heap.size+1+1+1):=(((aV.refl w5 _).setCell 0 (.bool (qn q))).setCell 1 (.l a5 n5 c5)).setCell 2 (.l b5 m5 d5);refine⟨_,rfl, ?_,S5.trans (M.since om)⟩
   first
    | rw[HQ.out]
    | skip
   exact (R5.marked M (fun h=>by omega)).imp (p':=fun g=>w.heap.size<=g) (fun g _ h=>by have h':w4.heap.size<=g:=h;omega)
def ww(q:Rat):Rat:=if qn q=true then 0 else q
theorem aj8(h:qn Q=true):ww Q=0:=by simp[ww,h]
theorem aj7(h:qn Q=false):ww Q=Q:=by simp[ww,h]
theorem dQ.putP{w:World}{Q:Nat->Rat}(h:dQ w (fun g=>g≠n/\P g) (jp n 0) n 0 m Q)(M:aV w v n)(a:∀o,o<m*3->v.cell? (jj n o)=w.cell? (jj n o))
 (L:fJ w (fun g=>g≠n/\P g) (.agg #[.bool (qn (Q m)),u,U]) (Q m))(b:v.cell? (jj n (m*3))=some (.bool (qn (Q m))))(d:v.cell? (jj n (m*3+1))=some u)(f:v.cell? (jj n (m*3+2))=some U):
 dQ v (fun g=>g≠n/\P g) (jp n 0) n 0 (m+1) Q:=fun i k=>by
 refine⟨rfl, ?_⟩
 by_cases e:i=m
 . subst e
   exact⟨u,U,by rw[aZ];exact b,by rw[aZ];exact d,by rw[aZ];exact f,L.marked M (fun h=>h.1 rfl)⟩
 . obtain⟨-,j,l,c⟩:=h i om
   exact⟨j,l,(a _ om).trans c.c0,(a _ om).trans c.c1,(a _ om).trans c.c2,c.R.marked M (fun h=>h.1 rfl)⟩
def jd.lim(r:jd):Prop:=(∀j,j<r.n->r.X j<4294967296)/\∀j,j<r.m->r.Y j<4294967296
theorem pG.lim{w:World}{R:Nat->jd}(h:pG w n a m c d R):∀i,i<d->(R i).lim:=fun i j=>by
 obtain⟨-,k,e,f,g,b⟩:=h i j;exact⟨b.L.lX,b.L.lY⟩
theorem aiH(e:R.ok=true)(l:R.lim):R.q.num.natAbs+1<=4294967296^R.n/\R.q.den<=4294967296^R.m:=by
 obtain⟨-,a,b,-⟩:=jd.q_ok e;have c:=oe R.X R.n l.1;have d:=oe R.Y R.m l.2;rw[Nat.pow_mul,show (2:Nat)^32=4294967296 by decide] at c d;rw[a,b];omega
theorem acY{R:Nat->jd}(a:pz R n)(l:∀i,i<n->(R i).lim):lH (fun i=>(R i).q) n*ze (fun i=>(R i).q) n<=4294967296^pi R n:=by
 induction n with
 | zero=>exact aC _
 | succ n ih=>
   have h:=ih (fun i d=>a i om) (fun i d=>l i om);obtain⟨b,c⟩:=aiH (a n om) (l n om);rw[b9,iB,iB];show lH _ n*((R n).q.num.natAbs+1)*(ze _ n*(R n).q.den)<=_;rw[Nat.mul_mul_mul_comm];exact dF h (dF b c)
end Go.Proofs.YtaeieekkddndhaaGreat
namespace Go.Proofs.YtaeieekkddndhaaGreat
open Tryz
variable{v W V:World}{n m c d k i j l o b p t r s g h e:Nat}{a A B:Option Addr}{X Y Z:Nat->Nat}{u U:Value}{f F:Bool}{z y:Int}{G:be}{P:Nat->Prop}{Q:Rat}{D:dA}{R:jd}
def layE(d:b7):Nat:=ze (fun i=>(d.W i).q) d.nw*ze (fun i=>(d.B i).q) d.nb
def layN(d:b7):Nat:=lH (fun i=>(d.W i).q) d.nw*lH (fun i=>(d.B i).q) d.nb
def TK(A:Nat->b7)(x:Nat->Rat)(nx:Nat):Nat->Nat
 | 0=>lH x nx*1*ze x nx
 | k+1=>layN (A k)*TK A x nx k*layE (A k)
theorem ahp(q:Nat->Rat)(n m:Nat):pQ (fun c=>q (n+c)) 0 m=pQ q n m:=by
 induction m with
 | zero=>rfl
 | succ m ih=>rw[pQ,pQ,ih,aZ]
theorem i7.zero(n m:Nat):i7 0 n m:=⟨0,by rw[uC];rfl,aJ _⟩
theorem i7.relu(h:i7 Q n m):i7 (ww Q) n m:=by
 unfold ww;split
 . exact i7.zero n m
 . exact h
end Go.Proofs.YtaeieekkddndhaaGreat
namespace Go.Proofs.YtaeieekkddndhaaGreat
open Tryz Go.RowKit
variable{v W V:World}{n m c d k i j l o b p t r s g h e:Nat}{a A B:Option Addr}{X Y Z:Nat->Nat}{u U:Value}{f F:Bool}{z y:Int}{G:be}{P:Nat->Prop}{Q:Rat}{D:dA}{R:jd}
def ni(x:Nat->Rat)(a:Nat):Nat->Rat
 | 0=>x a
 | t+1=>if ni x a t<x (a+(t+1)) then x (a+(t+1)) else ni x a t
theorem aec(x:Nat->Rat)(n m:Nat):∃s,s<=m/\ni x n m=x (n+s):=by
 induction m with
 | zero=>exact⟨0,aC _,rfl⟩
 | succ m ih=>
   obtain⟨s,c,b⟩:=ih;show ∃s,s<=m+1/\(if ni x n m<x (n+(m+1)) then x (n+(m+1)) else ni x n m)=x (n+s);by_cases h:ni x n m<x (n+(m+1))
   . exact⟨m+1,aC _,by rw[aY h]⟩
   . exact⟨s,om,by rw[aM h];exact b⟩
def dA.w(d:dA)(i:Nat):Rat:=(d.V i).q
def lu(d:dA)(x z:Nat->Rat)(n:Nat)(e:Nat):Rat:=
 if d.op=1 then il (d.w (e*(n+1)+n)) (fun t=>d.w (e*(n+1)+t)) x n
 else if d.op=2 then ww (x e)
 else if d.op=3 then (if qn (x e)=true then d.w 0*x e else x e)
 else if d.op=4 then x e+z e
 else if d.op=5 then ni x (e*d.k.toNat) (d.k.toNat-1)
 else if d.op=6 then il (d.w d.k.toNat) d.w (fun t=>x (e*d.s.toNat+t)) d.k.toNat
 else d.w 0*(d.w 2)⁻¹ *(x e-d.w 1)+d.w 3
def a7(g:be)(X:Nat->Rat):Nat->Nat->Nat->Rat
 | 0=>fun _=>X
 | i+1=>fun j=>if j<=i then a7 g X i j else lu (g.N i) (a7 g X i (g.N i).a.toNat) (a7 g X i (g.N i).b.toNat) (ld g i (g.N i).a.toNat).toNat
theorem ak6(G:be)(X:Nat->Rat)(h:m<=n):a7 G X (n+1) m=a7 G X n m:=by
 show (if m<=n then _ else _)=_;rw[aY h]
def ui(d:dA):Nat:=ze d.w d.nv
def yA(d:dA):Nat:=lH d.w d.nv
def ndF(d:dA):Nat:=if d.op=7 then (d.w 0).den*(d.w 1).den*(d.w 3).den*(d.w 2).num.natAbs else ui d
theorem am5(D:dA):0<ui D:=agL _ _
theorem aiR(D:dA):0<yA D:=ek _ _
theorem four(q:Nat->Rat):ze q 4=(q 0).den*(q 1).den*(q 2).den*(q 3).den/\lH q 4=((q 0).num.natAbs+1)*((q 1).num.natAbs+1)*((q 2).num.natAbs+1)*((q 3).num.natAbs+1):=by
 constructor
 . show 1*(q 0).den*(q 1).den*(q 2).den*(q 3).den=_;rw[dS]
 . show 1*_*_*_*_=_;rw[dS]
structure oM(d:dA)(n m:Nat):Prop where
 f:d.Form
 c1:d.op=1->d.nv=d.k.toNat*(n+1)/\m=d.k.toNat
 c2:d.op=2->m=n
 c3:d.op=3->m=n
 c4:d.op=4->m=n
 c5:d.op=5->1<=d.k.toNat/\n=m*d.k.toNat
 c6:d.op=6->d.nv=d.k.toNat+1/\∀e,e<m->e*d.s.toNat+d.k.toNat<=n
 c7:d.op=7->m=n/\(d.w 2).num.natAbs≠0
theorem am4(h:oM D n m):0<ndF D:=by
 unfold ndF;by_cases a:D.op=7
 . rw[aY a];have:=(h.c7 a).2;exact fE (fE (fE (Rat.den_pos _) (Rat.den_pos _)) (Rat.den_pos _)) om
 . rw[aM a];exact am5 D
theorem e2(h:oM D n m):ndF D<=yA D*ui D:=by
 unfold ndF;by_cases f:D.op=7
 . rw[aY f];have k:D.nv=4:=h.f.v7 f;unfold ui yA;rw[k,(four D.w).1,(four D.w).2];generalize (D.w 0).den=a at*;generalize (D.w 1).den=b at*;generalize (D.w 3).den=c at*;have j:0<(D.w 2).den:=Rat.den_pos _;generalize (D.w 2).den=e at*;generalize (D.w 2).num.natAbs=s at*;generalize (D.w 0).num.natAbs=p at*;generalize (D.w 1).num.natAbs=q at*;generalize (D.w 3).num.natAbs=r at*;have g:s<=(p+1)*(q+1)*(s+1)*(r+1):=by
    have l:s+1<=(p+1)*(q+1)*(s+1):=fU _ (fE (oK _) (oK _));have o:(p+1)*(q+1)*(s+1)<=(p+1)*(q+1)*(s+1)*(r+1):=jC _ (oK _);omega
   have i:a*b*c<=a*b*e*c:=(by rw[rN (a*b) e c];exact jC _ j);rw[cJ (a*b*c) s];exact dF g i
 . rw[aM f];exact fU _ (aiR D)
theorem i7.neg(h:i7 Q n m):i7 (-Q) n m:=by
 obtain⟨t,a,b⟩:=h;exact⟨-t,by rw[Rat.neg_mul,a,Rat.intCast_neg],by rw[qP];exact b⟩
theorem i7.sub{q:Rat}(h:i7 Q n c)(a:i7 q m c):i7 (Q-q) (n+m) c:=by
 rw[gQ];exact h.add a.neg
theorem i7.inv(h:Q.num.natAbs≠0):i7 Q⁻¹ Q.den Q.num.natAbs:=by
 have c:Q≠0:=fun e=>h (by rw[e];rfl);have e:Q⁻¹ *(Q.num:Rat)=(Q.den:Rat):=by rw[<-xC Q,<-jY,Rat.inv_mul_cancel Q c,kG]
 rcases Int.natAbs_eq Q.num with a | a
 . refine⟨Q.den, ?_,qz⟩;have:((Q.num.natAbs:Nat):Rat)=(Q.num:Rat):=by
    show (((Q.num.natAbs:Nat):Int):Rat)=(Q.num:Rat);rw[<-a]
   rw[this,e];rfl
 . refine⟨-(Q.den:Int), ?_,qz⟩;have b:((Q.num.natAbs:Nat):Int)=-Q.num:=om;have:((Q.num.natAbs:Nat):Rat)=-(Q.num:Rat):=by
    show (((Q.num.natAbs:Nat):Int):Rat)=-(Q.num:Rat);rw[b,Rat.intCast_neg]
   rw[this,Rat.mul_neg,e,Rat.intCast_neg];rfl
theorem adX(q:Nat->Rat)(n:Nat)(h:m<=c):pQ q n m<=pQ q n c:=by
 obtain⟨k,rfl⟩:=Nat.exists_eq_add_of_le h;rw[di];omega
theorem yO(D:dA){a:Nat}(h:a+j<=D.nv):pQ D.w a j+1<=yA D:=by
 have b:=ajv D.w h;have c:=ajw D.w D.nv;unfold yA;omega
section
variable{d:dA}{n m:Nat}{x z:Nat->Rat}{T D e:Nat}
theorem ec(h:oM d n m)(o:d.op=1)(f:D<=T)(g:∀j,j<n->i7 (x j) T D)(r:e<m)(l:c<=n):
 i7 (il (d.w (e*(n+1)+n)) (fun t=>d.w (e*(n+1)+t)) x c) (yA d*T*ui d) (D*ui d)/\i7 (il 0 (fun t=>d.w (e*(n+1)+t)) x c) (yA d*T*ui d) (D*ui d):=by
 obtain⟨i,p⟩:=h.c1 o;have hl:e*(n+1)+(n+1)<=d.nv:=by rw[i,<-Nat.succ_mul];exact aP _ om
 have b:=ahp d.w (e*(n+1)) c;have q:=adX d.w (e*(n+1)) l;have k:=yO d hl;rw[pQ] at k
 refine⟨i7.row f (tD d.w om) c (fun j a=>tD d.w (show e*(n+1)+j<d.nv by omega)) (fun j a=>g j om) (by rw[b];omega),
  i7.row f ⟨_,(dS _).symm⟩ c (fun j a=>tD d.w (show e*(n+1)+j<d.nv by omega)) (fun j a=>g j om) (by rw[b];show 0+_<=_;omega)⟩
theorem ey(h:oM d n m)(p:d.op=6)(f:D<=T)(g:∀a,a<n->i7 (x a) T D)(l:e<m)(o:c<=d.k.toNat):
 i7 (il (d.w d.k.toNat) d.w (fun t=>x (e*d.s.toNat+t)) c) (yA d*T*ui d) (D*ui d)/\i7 (il 0 d.w (fun t=>x (e*d.s.toNat+t)) c) (yA d*T*ui d) (D*ui d):=by
 obtain⟨q,i⟩:=h.c6 p;have r:=i e l;have s:=adX d.w 0 o;have k:=yO d (a:=0) (j:=d.k.toNat+1) om;rw[pQ,aZ] at k
 refine⟨i7.row f (tD d.w om) c (fun a b=>tD d.w (show a<d.nv by omega)) (fun a b=>g _ om) om,
  i7.row f ⟨_,(dS _).symm⟩ c (fun a b=>tD d.w (show a<d.nv by omega)) (fun a b=>g _ om) (by show 0+_<=_;omega)⟩
theorem bp(h:oM d n m)(a:i7 Q T D):i7 Q (2*(yA d*T*ui d)) (D*ndF d):=by
 refine (a.up (ndF d)).more ?_;have b:=dE T (e2 h);have c:T*(yA d*ui d)=yA d*T*ui d:=by rw[<-cS,cJ T]
 omega
theorem aw(a:d.op≠7):ndF d=ui d:=by unfold ndF;rw[aM a]
theorem alc(h:oM d n m)(l:d.op=7)(o:D<=T)(B:i7 (x e) T D):
 i7 (d.w 0*(d.w 2)⁻¹ *(x e-d.w 1)+d.w 3) (2*(yA d*T*ui d)) (D*ndF d):=by
 have z:=(h.c7 l).2;have t:=(i7.base (d.w 0)).mul (i7.inv z);have u:i7 (x e-d.w 1) (T*(d.w 1).den+(d.w 1).num.natAbs*D) (D*(d.w 1).den):=by refine (B.up _).sub ?_;have:=(i7.base (d.w 1)).up D;rwa[cJ (d.w 1).den D] at this
 have v:=(t.mul u).up (d.w 3).den;have w:i7 (d.w 3) ((d.w 3).num.natAbs*((d.w 0).den*(d.w 2).num.natAbs*(D*(d.w 1).den))) ((d.w 0).den*(d.w 2).num.natAbs*(D*(d.w 1).den)*(d.w 3).den):=by have:=(i7.base (d.w 3)).up ((d.w 0).den*(d.w 2).num.natAbs*(D*(d.w 1).den));rwa[cJ (d.w 3).den] at this
 have y:=v.add w;have A:d.nv=4:=h.f.v7 l;have s:D*ndF d=(d.w 0).den*(d.w 2).num.natAbs*(D*(d.w 1).den)*(d.w 3).den:=by
  unfold ndF;rw[aY l]
  ac_rfl
 rw[s];refine y.more ?_;unfold yA ui;rw[A,(four d.w).1,(four d.w).2];have C:=(d.w 0).den_pos;have E:=(d.w 1).den_pos;have F:=(d.w 2).den_pos;have G:=(d.w 3).den_pos;generalize (d.w 0).den=f at*;generalize (d.w 1).den=a at*;generalize (d.w 2).den=i at*;generalize (d.w 3).den=k at*;generalize (d.w 0).num.natAbs=c at*;generalize (d.w 1).num.natAbs=b at*;generalize (d.w 2).num.natAbs=g at*;generalize (d.w 3).num.natAbs=j at*;have K:T*a+b*D<=T*((b+1)*a):=by
  have p:b*D<=b*T:=dE _ o;have q:b*T<=b*T*a:=jC _ E;have r:T*((b+1)*a)=b*T*a+T*a:=by
   rw[bI,fY,dS];congr 1
   ac_rfl
  omega
 have L:c*i*(T*a+b*D)*k<=(c+1)*(b+1)*(g+1)*(j+1)*T*(f*a*i*k):=by
  have p:c*i*(T*a+b*D)*k<=c*i*(T*((b+1)*a))*k:=aP _ (dE _ K);have q:c*i*(T*((b+1)*a))*k=c*(b+1)*(T*(a*i*k)):=by ac_rfl
  have r:(c+1)*(b+1)*(g+1)*(j+1)*T*(f*a*i*k)=(c+1)*(b+1)*(T*(a*i*k))*((g+1)*(j+1)*f):=by ac_rfl
  have H:c*(b+1)*(T*(a*i*k))<=(c+1)*(b+1)*(T*(a*i*k)):=aP _ (aP _ (oI _));have I:(c+1)*(b+1)*(T*(a*i*k))<=(c+1)*(b+1)*(T*(a*i*k))*((g+1)*(j+1)*f):=jC _ (fE (fE (oK _) (oK _)) C);omega
 have M:j*(f*g*(D*a))<=(c+1)*(b+1)*(g+1)*(j+1)*T*(f*a*i*k):=by
  have p:j*(f*g*(D*a))=j*g*(f*a)*D:=by ac_rfl
  have q:j*g*(f*a)*D<=j*g*(f*a)*T:=dE _ o;have r:(c+1)*(b+1)*(g+1)*(j+1)*T*(f*a*i*k)=(j+1)*(g+1)*(f*a)*T*((c+1)*(b+1)*(i*k)):=by ac_rfl
  have H:j*g*(f*a)*T<=(j+1)*(g+1)*(f*a)*T:=aP _ (aP _ (dF (oI _) (oI _)));have I:(j+1)*(g+1)*(f*a)*T<=(j+1)*(g+1)*(f*a)*T*((c+1)*(b+1)*(i*k)):=jC _ (fE (fE (oK _) (oK _)) (fE F G));omega
 omega
theorem ald(h:oM d n m)(i:D<=T)(b:∀c,c<n->i7 (x c) T D)(C:d.op=4->∀c,c<m->i7 (z c) T D)(k:e<m):
 i7 (lu d x z n e) (2*(yA d*T*ui d)) (D*ndF d):=by
 unfold lu;by_cases l:d.op=1
 . rw[aY l,aw om];exact (ec h l i b k zR).1.more om
 rw[aM l];by_cases o:d.op=2
 . rw[aY o];exact bp h (b e (by have:=h.c2 o;omega)).relu
 rw[aM o];by_cases f:d.op=3
 . rw[aY f];have v:=b e (by have:=h.c3 f;omega);by_cases u:qn (x e)=true
   . rw[aY u,aw om];have I:=h.f.v3 f;have t:=v.term (p:=d.w 0) (E:=ui d) (tD d.w om);refine t.more ?_;have A:=yO d (a:=0) (j:=1) om;rw[pQ,pQ,aZ,aZ] at A;have y:(d.w 0).num.natAbs*T*ui d<=yA d*T*ui d:=aP _ (aP _ om);omega
   . rw[aM u];exact bp h v
 rw[aM f];by_cases g:d.op=4
 . rw[aY g,aw om];have F:=h.c4 g;have t:=((b e om).add (C g e k)).up (ui d);refine t.more ?_;have y:(T+T)*ui d<=2*(yA d*T*ui d):=by
    have L:T*ui d<=yA d*T*ui d:=aP _ (fU _ (aiR d));rw[bI];omega
   exact y
 rw[aM g];by_cases q:d.op=5
 . rw[aY q];obtain⟨K,G⟩:=h.c5 q;obtain⟨s,H,B⟩:=aec x (e*d.k.toNat) (d.k.toNat-1);rw[B];refine bp h (b _ ?_);have:(e+1)*d.k.toNat<=m*d.k.toNat:=aP _ om;rw[bI,dS] at this;omega
 rw[aM q];by_cases r:d.op=6
 . rw[aY r,aw om];exact (ey h r i b k zR).1.more om
 rw[aM r];have w:d.op=7:=by have:=h.f.o1;have:=h.f.o7;omega
 exact alc h w i (b e (by have:=(h.c7 w).1;omega))
end
theorem ajJ{d:Nat->Int}(w:Dok d n)(h:ix d n D=0):oM D (d D.a.toNat).toNat (jy d D).toNat:=by
 obtain⟨f,⟨F,G,H⟩,c⟩:=vh h;have z:=w D.a.toNat om;generalize g:d D.a.toNat=x at z;unfold gR at c;rw[g] at c;refine⟨f,fun o=> ?_,fun o=> ?_,fun o=> ?_,fun o=> ?_,fun o=> ?_,fun o=> ?_,fun o=> ?_⟩
 . have b:=f.k;rw[o] at b;have b:1<=D.k/\D.k<=1000:=b;by_cases a:(D.nv:Int)=D.k*(x+1)
   . refine⟨?_, ?_⟩
     . have u:D.k=(D.k.toNat:Int):=om;have m:x+1=((x.toNat+1:Nat):Int):=om;rw[u,m,<-dR] at a;exact Int.ofNat_inj.1 a
     . unfold jy;rw[aY o]
   . exfalso;simp[o,a] at c
 . unfold jy;rw[aM om,aM om,aM om,g]
 . unfold jy;rw[aM om,aM om,aM om,g]
 . unfold jy;rw[aM om,aM om,aM om,g]
 . have b:=f.k;rw[o] at b;have b:1<=D.k/\D.k<=1000:=b;by_cases a:x % D.k=0
   . refine⟨om, ?_⟩;unfold jy;rw[aM om,aY o,g];have e:=Int.mul_ediv_add_emod x D.k;rw[a,Int.add_zero] at e;have p:0<=x/D.k:=qH om om;obtain⟨y,l⟩:∃y:Nat,x/D.k=y:=⟨(x/D.k).toNat,om⟩;obtain⟨k,t⟩:∃k:Nat,D.k=k:=⟨D.k.toNat,om⟩;rw[l,t] at e;rw[l,t];rw[<-dR] at e;rw[iL,iL,<-e,iL,cJ]
   . exfalso;simp[o,a] at c
 . have b:=f.k;have i:=f.s;rw[o] at b i;have b:1<=D.k/\D.k<=1000:=b;have i:1<=D.s/\D.s<=1000:=i;by_cases a:D.k>x∨(D.nv:Int)≠D.k+1
   . exfalso;simp[o,a] at c
   . refine⟨om,fun e j=> ?_⟩;unfold jy at j;rw[aM om,aM om,aY o,g] at j;have p:0<=(x-D.k)/D.s:=qH om om;have q:(x-D.k)/D.s*D.s<=x-D.k:=Int.ediv_mul_le _ om;obtain⟨s,B⟩:∃s:Nat,D.s=s:=⟨D.s.toNat,om⟩;rw[B] at p q j⊢;obtain⟨y,l⟩:∃y:Nat,(x-D.k)/(s:Int)=y:=⟨((x-D.k)/(s:Int)).toNat,om⟩;rw[l] at j q;have A:e<=y:=om;have r:e*s<=y*s:=aP _ A;rw[<-dR] at q;rw[iL];omega
 . refine⟨by unfold jy;rw[aM om,aM om,aM om,g], ?_⟩;by_cases a:(D.V 2).n=0
   . exfalso;simp[o,a] at c
   . have E:=f.v7 o;obtain⟨-,m,-,C,-,-⟩:=jd.q_ok (f.ok 2 om);show (D.V 2).q.num.natAbs≠0;rw[m];exact fun v=>a ((jr C).2 v)
def gD(g:be)(x:Nat->Rat)(nx:Nat):Nat->Nat
 | 0=>ze x nx
 | i+1=>gD g x nx i*ndF (g.N i)
def gT(g:be)(x:Nat->Rat)(nx:Nat):Nat->Nat
 | 0=>lH x nx*1*ze x nx
 | i+1=>2*(yA (g.N i)*gT g x nx i*ui (g.N i))
section
variable{g:be}{x:Nat->Rat}{nx:Nat}
structure vn(g:be)(i:Nat):Prop where
 i1:1<=g.inn
 i2:g.inn<=1000
 z:∀k,k<i->nc g k=0
theorem vn.dok(h:vn g i):Dok (ld g i) (i+1):=by
 induction i with
 | zero=>exact fun j b=>⟨h.i1,h.i2⟩
 | succ i a=>
   have a:=a ⟨h.i1,h.i2,fun k c=>h.z k om⟩;intro j b;by_cases e:j=i+1
   . subst e;rw[vf];exact e6 a (h.z i om)
   . rw[ve g om];exact a j om
theorem vn.shape(h:vn g n)(a:m<n):oM (g.N m) (ld g m (g.N m).a.toNat).toNat (ld g (m+1) (m+1)).toNat:=by
 rw[vf];exact ajJ (vn.dok (i:=m) ⟨h.i1,h.i2,fun j b=>h.z j om⟩) (h.z m a)
theorem anU(h:vn g n):0<gD g x nx n:=by
 induction n with
 | zero=>exact agL _ _
 | succ n ih=>exact fE (ih ⟨h.i1,h.i2,fun k a=>h.z k om⟩) (am4 (h.shape (iZ n)))
theorem b3(h:vn g n):gD g x nx n<=gT g x nx n:=by
 induction n with
 | zero=>
   show ze x nx<=lH x nx*1*ze x nx;rw[iF];exact fU _ (ek _ _)
 | succ n a=>
   have a:=a ⟨h.i1,h.i2,fun k d=>h.z k om⟩;have f:=e2 (h.shape (iZ n));show gD g x nx n*ndF (g.N n)<=2*(yA (g.N n)*gT g x nx n*ui (g.N n));have b:=dF a f;have c:gT g x nx n*(yA (g.N n)*ui (g.N n))=yA (g.N n)*gT g x nx n*ui (g.N n):=(by ac_rfl);omega
end
section
variable{g:be}{X:Nat->jd}{nx:Nat}
theorem ah5(a:pz D.V D.nv)(l:∀i,i<D.nv->(D.V i).lim):yA D*ui D<=4294967296^pi D.V D.nv:=acY a l
theorem al8(h:vn g n)(p:pz X nx)(i:∀c,c<nx->(X c).lim)(d:∀k,k<n->∀c,c<(g.N k).nv->((g.N k).V c).lim):
 gT g (fun c=>(X c).q) nx n<=2^n*4294967296^(pi X nx+xd g.N n):=by
 induction n with
 | zero=>
   show lH (fun c=>(X c).q) nx*1*ze (fun c=>(X c).q) nx<=1*4294967296^(pi X nx+0);rw[iF,dS,fV];exact acY p i
 | succ n a=>
   have a:=a ⟨h.i1,h.i2,fun k m=>h.z k om⟩ (fun k m=>d k om);have f:=(vh (h.z n (iZ n))).1;have o:=ah5 f.ok (d n (iZ n));show 2*(yA (g.N n)*gT g (fun c=>(X c).q) nx n*ui (g.N n))<=2^(n+1)*4294967296^(pi X nx+xd g.N (n+1));have e:yA (g.N n)*gT g (fun c=>(X c).q) nx n*ui (g.N n)=gT g (fun c=>(X c).q) nx n*(yA (g.N n)*ui (g.N n)):=(by ac_rfl);rw[e,uG];have j:=dF a o;have l:4294967296^(pi X nx+xd g.N n)*4294967296^pi (g.N n).V (g.N n).nv<=4294967296^(pi X nx+(xd g.N n+(g.N n).size)):=(by rw[<-iB];refine dP qd ?_;unfold dA.size;omega);have b:=dE (2^n) l;rw[iH,cJ (2^n) 2,cS 2];rw[<-cS] at b;exact dE 2 (aU j b)
theorem ak8(h:n<=32*m):2^n<=4294967296^m:=by
 rw[show (4294967296:Nat)=2^32 by decide,<-Nat.pow_mul];exact dP qd h
theorem amj(h:n<=1001):2^n<=4294967296^32:=ak8 om
theorem anT{K:Nat}(h:vn g n)(e:n<=1001)(l:pz X nx)(j:∀c,c<nx->(X c).lim)(f:∀k,k<n->∀c,c<(g.N k).nv->((g.N k).V c).lim)(m:pi X nx+xd g.N n+32<K):
 gT g (fun c=>(X c).q) nx n<4294967296^K:=by
 have b:=al8 h l j f;have a:=aP (4294967296^(pi X nx+xd g.N n)) (amj e);rw[<-iB] at a;have d:(4294967296:Nat)^(32+(pi X nx+xd g.N n))<4294967296^K:=Nat.pow_lt_pow_right qd om;exact dD (aU b a) d
theorem i7.lim(h:i7 Q n m)(f:0<m)(b:n<=c)(e:m<=c)(a:c<4294967296^d):Qb Q d:=
 h.qb f (dD b a) (dD e a)
end
def al2:Array MapEntry:= #[⟨.string ⟨#[100,101,110,115,101]⟩,.func (.func 94) #[] #[],0⟩,⟨.string ⟨#[114,101,108,117]⟩,.func (.func 95) #[] #[],1⟩,
 ⟨.string ⟨#[108,101,97,107,121]⟩,.func (.func 96) #[] #[],2⟩,⟨.string ⟨#[97,100,100]⟩,.func (.func 97) #[] #[],3⟩,⟨.string ⟨#[109,97,120,112,111,111,108]⟩,.func (.func 98) #[] #[],4⟩,
 ⟨.string ⟨#[99,111,110,118]⟩,.func (.func 99) #[] #[],5⟩,⟨.string ⟨#[110,111,114,109]⟩,.func (.func 100) #[] #[],6⟩]
def nP(w:World)(m:Nat):Prop:=w.heap[m]?=some (.map al2 7)
theorem nP.lt{w:World}(h:nP w n):n<w.heap.size:=(dM.1 h).1
theorem nP.bH{w w':World}(h:nP w n)(s:w.S w'):nP w' n:=by
 unfold nP;rw[s.block n h.lt];exact h
theorem ke{P:Program}{w:World}{h b i:TypeId}{c:Array MapEntry}{s:ByteArray}{val:Value}(g:P.underlying h=some (.map b i))(d:P.underlying b=some .string)(hb:w.heap[n]?=some (.map c m))(f:Instr.findNow .string (.string s) c.toList 0=some none):
 ∃a,(Instr.mapUpdate h (.map (some n)) (.string s) val).run P w=.ok () a/\a.heap[n]?=some (.map (c.push { key:=.string s,val:=val,born:=m }) (m+1))/\a.heap.size=w.heap.size/\a.os=w.os/\a.tape=w.tape/\a.output=w.output/\∀k,k≠n->a.heap[k]?=w.heap[k]?:=by
 refine⟨{ w with heap:=w.heap.setIfInBounds n (.map (c.push { key:=.string s,val:=val,born:=m }) (m+1)) }, ?_,(lE hb).1,qz,rfl,rfl,rfl,fun k d=>(lE hb).2 k d⟩;have e:(Instr.checkKey false 10000 b (.string s)).run P w=.ok () w:=mC (k:=.string s) d (by simp[MapKept.IsKey]) false 9999;simp[Instr.mapUpdate,lS g,iM hb,e,jL d f,mV _ hb,Result.andThen]
theorem ae9{P:Program}{w:World}{g c h:TypeId}{a:Array MapEntry}{s:ByteArray}{val:Value}(f:P.underlying g=some (.map c h))(b:P.underlying c=some .string)(hb:w.heap[n]?=some (.map a m))(e:Instr.findNow .string (.string s) a.toList 0=some (some (i,val))):
 (Instr.lookup g (.map (some n)) (.string s) true).run P w=.ok (.tuple #[val,.bool true]) w:=by
 have d:(Instr.checkKey a.isEmpty 10000 c (.string s)).run P w=.ok () w:=mC (k:=.string s) b (by simp[MapKept.IsKey]) _ 9999;simp[Instr.lookup,lS f,iM hb,d,jL b e,Result.andThen]
theorem afH{P:Program}{w:World}{i c h:TypeId}{a:Array MapEntry}{s:ByteArray}(f:P.underlying i=some (.map c h))(b:P.underlying c=some .string)(hb:w.heap[n]?=some (.map a m))(e:Instr.findNow .string (.string s) a.toList 0=some none)(g:(zeroValue h).run P w=.ok u w):
 (Instr.lookup i (.map (some n)) (.string s) true).run P w=.ok (.tuple #[u,.bool false]) w:=by
 have d:(Instr.checkKey a.isEmpty 10000 c (.string s)).run P w=.ok () w:=mC (k:=.string s) b (by simp[MapKept.IsKey]) _ 9999;simp[Instr.lookup,lS f,iM hb,d,jL b e,g,Result.andThen]
theorem afv{w:World}:Cl 57 #[] w fun e s=>e=.returned (.map (some w.heap.size))/\nP s w.heap.size/\w.S s:=by
 have aa:= @run_makeMap Tryz.prog;have b:Tryz.prog.underlying 103=some (.map 9 147):=by kernel_rfl
 have a:Tryz.prog.underlying 9=some .string:=by kernel_rfl
 have d:(w.alloc (.map #[] 0)).heap[w.heap.size]?=some (.map #[] 0):=(MapKept.heap_alloc w _).1;have c:=cV w (.map #[] 0);obtain⟨U,e1,f,z1,v,M,D,n⟩:=ke (w:=(w.alloc (.map #[] 0))) (s:=⟨#[100,101,110,115,101]⟩) (val:=.func (.func 94) #[] #[]) b a d kr;obtain⟨V,e2,g,z2,x,N,E,o⟩:=ke (w:=U) (s:=⟨#[114,101,108,117]⟩) (val:=.func (.func 95) #[] #[]) b a f kr;obtain⟨W,e3,h,z3,y,O,F,p⟩:=ke (w:=V) (s:=⟨#[108,101,97,107,121]⟩) (val:=.func (.func 96) #[] #[]) b a g kr;obtain⟨X,e4,i,z4,ab,P,G,q⟩:=ke (w:=W) (s:=⟨#[97,100,100]⟩) (val:=.func (.func 97) #[] #[]) b a h kr;obtain⟨Y,e5,j,z5,A,Q,H,r⟩:=ke (w:=X) (s:=⟨#[109,97,120,112,111,111,108]⟩) (val:=.func (.func 98) #[] #[]) b a i kr;obtain⟨Z,e6,l,z6,B,R,I,t⟩:=ke (w:=Y) (s:=⟨#[99,111,110,118]⟩) (val:=.func (.func 99) #[] #[]) b a j kr;obtain⟨z,e7,m,z7,C,T,L,u⟩:=ke (w:=Z) (s:=⟨#[110,111,114,109]⟩) (val:=.func (.func 100) #[] #[]) b a l kr;have S:w.S z:=⟨by rw[C,B,A,ab,y,x,v];exact c.os,by rw[T,R,Q,P,O,N,M];exact c.tape,by rw[L,I,H,G,F,E,D];exact c.output,by rw[z7,z6,z5,z4,z3,z2,z1];exact c.size,fun k a=>by
  rw[u k om,t k om,r k om,q k om,p k om,o k om,n k om];exact c.block k a⟩
 have K:=m;go_enter func57,ntmps57;go_wp2;go_ret;exact⟨rfl,K,S⟩
theorem anc{z y b g h:Int}{a:Option Addr}{n m:Nat}{w:World}:Cl 94 #[.agg #[.i z,.i y,.i b,.i g,.i h,.slice a n m]] w fun e c=>e=.returned (.iface 146 (.agg #[.i z,.i y,.i b,.i g,.i h,.slice a n m]))/\w.S c:=by
 have i:=cV w (.o #[.i z,.i y,.i b,.i g,.i h,.l a n m] 87);go_enter func94,ntmps94;go_wp2;go_ret;exact⟨rfl,i⟩
theorem anb{z y b g h:Int}{a:Option Addr}{n m:Nat}{w:World}:Cl 95 #[.agg #[.i z,.i y,.i b,.i g,.i h,.slice a n m]] w fun e c=>e=.returned (.iface 148 (.agg #[.i z,.i y,.i b,.i g,.i h,.slice a n m]))/\w.S c:=by
 have i:=cV w (.o #[.i z,.i y,.i b,.i g,.i h,.l a n m] 87);go_enter func95,ntmps95;go_wp2;go_ret;exact⟨rfl,i⟩
theorem ana{z y b g h:Int}{a:Option Addr}{n m:Nat}{w:World}:Cl 96 #[.agg #[.i z,.i y,.i b,.i g,.i h,.slice a n m]] w fun e c=>e=.returned (.iface 149 (.agg #[.i z,.i y,.i b,.i g,.i h,.slice a n m]))/\w.S c:=by
 have i:=cV w (.o #[.i z,.i y,.i b,.i g,.i h,.l a n m] 87);go_enter func96,ntmps96;go_wp2;go_ret;exact⟨rfl,i⟩
theorem amZ{z y b g h:Int}{a:Option Addr}{n m:Nat}{w:World}:Cl 97 #[.agg #[.i z,.i y,.i b,.i g,.i h,.slice a n m]] w fun e c=>e=.returned (.iface 150 (.agg #[.i z,.i y,.i b,.i g,.i h,.slice a n m]))/\w.S c:=by
 have i:=cV w (.o #[.i z,.i y,.i b,.i g,.i h,.l a n m] 87);go_enter func97,ntmps97;go_wp2;go_ret;exact⟨rfl,i⟩
theorem amY{z y b g h:Int}{a:Option Addr}{n m:Nat}{w:World}:Cl 98 #[.agg #[.i z,.i y,.i b,.i g,.i h,.slice a n m]] w fun e c=>e=.returned (.iface 151 (.agg #[.i z,.i y,.i b,.i g,.i h,.slice a n m]))/\w.S c:=by
 have i:=cV w (.o #[.i z,.i y,.i b,.i g,.i h,.l a n m] 87);go_enter func98,ntmps98;go_wp2;go_ret;exact⟨rfl,i⟩
theorem amX{z y b g h:Int}{a:Option Addr}{n m:Nat}{w:World}:Cl 99 #[.agg #[.i z,.i y,.i b,.i g,.i h,.slice a n m]] w fun e c=>e=.returned (.iface 152 (.agg #[.i z,.i y,.i b,.i g,.i h,.slice a n m]))/\w.S c:=by
 have i:=cV w (.o #[.i z,.i y,.i b,.i g,.i h,.l a n m] 87);go_enter func99,ntmps99;go_wp2;go_ret;exact⟨rfl,i⟩
theorem amW{z y b g h:Int}{a:Option Addr}{n m:Nat}{w:World}:Cl 100 #[.agg #[.i z,.i y,.i b,.i g,.i h,.slice a n m]] w fun e c=>e=.returned (.iface 153 (.agg #[.i z,.i y,.i b,.i g,.i h,.slice a n m]))/\w.S c:=by
 have i:=cV w (.o #[.i z,.i y,.i b,.i g,.i h,.l a n m] 87);go_enter func100,ntmps100;go_wp2;go_ret;exact⟨rfl,i⟩
theorem ajj{w:World}(h:z<1∨7<z)(_hi:I64 z):Cl 144 #[.i z] w fun e w'=>e=.returned (.string ⟨#[]⟩)/\w.S w':=by
 have h1:¬z=1:=om;have h2:¬z=2:=om;have h3:¬z=3:=om;have h4:¬z=4:=om;have h5:¬z=5:=om;have h6:¬z=6:=om;have h7:¬z=7:=om;go_enter func144,ntmps144;go_wp2;go_ret;exact⟨rfl,aF _ _⟩
theorem amh{w:World}:Cl 144 #[.i 1] w fun e a=>e=.returned (.string ⟨#[100,101,110,115,101]⟩)/\w.S a:=by
 go_enter func144,ntmps144;go_wp2;go_ret;exact⟨rfl,aF _ _⟩
theorem amg{w:World}:Cl 144 #[.i 2] w fun e a=>e=.returned (.string ⟨#[114,101,108,117]⟩)/\w.S a:=by
 go_enter func144,ntmps144;go_wp2;go_ret;exact⟨rfl,aF _ _⟩
theorem amf{w:World}:Cl 144 #[.i 3] w fun e a=>e=.returned (.string ⟨#[108,101,97,107,121]⟩)/\w.S a:=by
 go_enter func144,ntmps144;go_wp2;go_ret;exact⟨rfl,aF _ _⟩
theorem ame{w:World}:Cl 144 #[.i 4] w fun e a=>e=.returned (.string ⟨#[97,100,100]⟩)/\w.S a:=by
 go_enter func144,ntmps144;go_wp2;go_ret;exact⟨rfl,aF _ _⟩
theorem amd{w:World}:Cl 144 #[.i 5] w fun e a=>e=.returned (.string ⟨#[109,97,120,112,111,111,108]⟩)/\w.S a:=by
 go_enter func144,ntmps144;go_wp2;go_ret;exact⟨rfl,aF _ _⟩
theorem amc{w:World}:Cl 144 #[.i 6] w fun e a=>e=.returned (.string ⟨#[99,111,110,118]⟩)/\w.S a:=by
 go_enter func144,ntmps144;go_wp2;go_ret;exact⟨rfl,aF _ _⟩
theorem amb{w:World}:Cl 144 #[.i 7] w fun e a=>e=.returned (.string ⟨#[110,111,114,109]⟩)/\w.S a:=by
 go_enter func144,ntmps144;go_wp2;go_ret;exact⟨rfl,aF _ _⟩
theorem aca:Tryz.prog.underlying 103=some (.map 9 147):=by kernel_rfl
theorem aaE:Tryz.prog.underlying 9=some .string:=by kernel_rfl
theorem ms{z:Int}{n m c:Nat}{s:ByteArray}{d:Nat}{y b f g:Int}{a:Option Addr}{k i:Nat}{w:World}(K:nP w d)(q:∀w,Cl 144 #[.i z] w fun e F=>e=.returned (.string s)/\w.S F)(p:Instr.findNow .string (.string s) al2.toList 0=some (some (c,.func (.func m) #[] #[])))
 (x:∀(j:Array Value) (w:World),(callFunc m j).run Tryz.prog w=.ok (.enter m j) w)(o:∀w,Cl m #[.agg #[.i z,.i y,.i b,.i f,.i g,.l a k i]] w fun e F=>e=.returned (.iface n (.agg #[.i z,.i y,.i b,.i f,.i g,.l a k i]))/\w.S F):
 Cl 101 #[.map (some d),.agg #[.i z,.i y,.i b,.i f,.i g,.slice a k i]] w fun e F=>e=.returned (.tuple #[.iface n (.agg #[.i z,.i y,.i b,.i f,.i g,.slice a k i]),.bool true])/\w.S F:=by
 have t:=cV w (.o #[.i z,.i y,.i b,.i f,.i g,.l a k i] 87);have I:=dL.new w (.i z) (.i y) (.i b) (.i f) (.i g) (.l a k i) 87;go_enter func101,ntmps101;go_wp2_with fail;generalize w.alloc _=v at*;refine (q v).mono ?_;rintro e u ⟨rfl,H⟩;have h:=t.tr H;have l:=I.bH H;have hl:=ae9 (s:=s) aca aaE (K.bH h) (i:=c) (val:=.func (.func m) #[] #[]) p;obtain⟨L,A,B,C,D,E⟩:=l.g;go_wp2_with fail;refine (o u).mono ?_;rintro e G ⟨rfl,r⟩;go_wp2;go_ret2;exact⟨rfl,h.tr r⟩
theorem agd{n:Nat}{z y f g:Int}{a:Option Addr}{m c:Nat}{w:World}(K:nP w n):Cl 101 #[.map (some n),.agg #[.i 1,.i z,.i y,.i f,.i g,.slice a m c]] w fun e b=>e=.returned (.tuple #[.iface 146 (.agg #[.i 1,.i z,.i y,.i f,.i g,.slice a m c]),.bool true])/\w.S b:=
 @ms 1 146 94 0 ⟨#[100,101,110,115,101]⟩ n z y f g a m c w K @amh kr (fun _ _=>by kernel_rfl) (@anc 1 z y f g a m c)
theorem agc{n:Nat}{z y f g:Int}{a:Option Addr}{m c:Nat}{w:World}(K:nP w n):Cl 101 #[.map (some n),.agg #[.i 2,.i z,.i y,.i f,.i g,.slice a m c]] w fun e b=>e=.returned (.tuple #[.iface 148 (.agg #[.i 2,.i z,.i y,.i f,.i g,.slice a m c]),.bool true])/\w.S b:=
 @ms 2 148 95 1 ⟨#[114,101,108,117]⟩ n z y f g a m c w K @amg kr (fun _ _=>by kernel_rfl) (@anb 2 z y f g a m c)
theorem agb{n:Nat}{z y f g:Int}{a:Option Addr}{m c:Nat}{w:World}(K:nP w n):Cl 101 #[.map (some n),.agg #[.i 3,.i z,.i y,.i f,.i g,.slice a m c]] w fun e b=>e=.returned (.tuple #[.iface 149 (.agg #[.i 3,.i z,.i y,.i f,.i g,.slice a m c]),.bool true])/\w.S b:=
 @ms 3 149 96 2 ⟨#[108,101,97,107,121]⟩ n z y f g a m c w K @amf kr (fun _ _=>by kernel_rfl) (@ana 3 z y f g a m c)
theorem aga{n:Nat}{z y f g:Int}{a:Option Addr}{m c:Nat}{w:World}(K:nP w n):Cl 101 #[.map (some n),.agg #[.i 4,.i z,.i y,.i f,.i g,.slice a m c]] w fun e b=>e=.returned (.tuple #[.iface 150 (.agg #[.i 4,.i z,.i y,.i f,.i g,.slice a m c]),.bool true])/\w.S b:=
 @ms 4 150 97 3 ⟨#[97,100,100]⟩ n z y f g a m c w K @ame kr (fun _ _=>by kernel_rfl) (@amZ 4 z y f g a m c)
theorem afZ{n:Nat}{z y f g:Int}{a:Option Addr}{m c:Nat}{w:World}(K:nP w n):Cl 101 #[.map (some n),.agg #[.i 5,.i z,.i y,.i f,.i g,.slice a m c]] w fun e b=>e=.returned (.tuple #[.iface 151 (.agg #[.i 5,.i z,.i y,.i f,.i g,.slice a m c]),.bool true])/\w.S b:=
 @ms 5 151 98 4 ⟨#[109,97,120,112,111,111,108]⟩ n z y f g a m c w K @amd kr (fun _ _=>by kernel_rfl) (@amY 5 z y f g a m c)
theorem afY{n:Nat}{z y f g:Int}{a:Option Addr}{m c:Nat}{w:World}(K:nP w n):Cl 101 #[.map (some n),.agg #[.i 6,.i z,.i y,.i f,.i g,.slice a m c]] w fun e b=>e=.returned (.tuple #[.iface 152 (.agg #[.i 6,.i z,.i y,.i f,.i g,.slice a m c]),.bool true])/\w.S b:=
 @ms 6 152 99 5 ⟨#[99,111,110,118]⟩ n z y f g a m c w K @amc kr (fun _ _=>by kernel_rfl) (@amX 6 z y f g a m c)
theorem afX{n:Nat}{z y f g:Int}{a:Option Addr}{m c:Nat}{w:World}(K:nP w n):Cl 101 #[.map (some n),.agg #[.i 7,.i z,.i y,.i f,.i g,.slice a m c]] w fun e b=>e=.returned (.tuple #[.iface 153 (.agg #[.i 7,.i z,.i y,.i f,.i g,.slice a m c]),.bool true])/\w.S b:=
 @ms 7 153 100 6 ⟨#[110,111,114,109]⟩ n z y f g a m c w K @amb kr (fun _ _=>by kernel_rfl) (@amW 7 z y f g a m c)
theorem adG{d i j:Int}{w:World}(K:nP w n)(h:z<1∨7<z)(k:I64 z):Cl 101 #[.map (some n),.agg #[.i z,.i y,.i d,.i i,.i j,.slice a m c]] w fun e q=>e=.returned (.tuple #[.nilIface,.bool false])/\w.S q:=by
 have o:=cV w (.o #[.i z,.i y,.i d,.i i,.i j,.l a m c] 87);go_enter func101,ntmps101;go_wp2_with fail;generalize w.alloc _=p at*;refine (ajj h k).mono ?_;rintro e f ⟨rfl,g⟩;have b:=o.tr g;have l:(zeroValue 147).run Tryz.prog f=.ok .nilFunc f:=by kernel_rfl
 have hl:=afH (s:=⟨#[]⟩) aca aaE (K.bH b) kr l;go_wp2;go_ret2;exact⟨rfl,b⟩
theorem aj0:(Tryz.prog.info? 157).map (·.size)=some 5:=by kernel_rfl
theorem jo.two(w:World)(X:Obj)(x y u U v:Value)(n:Nat):jo ((w.alloc X).alloc (.cells #[x,y,u,U,v] n)) (w.heap.size+1) x y u U v:=by simpa using jo.new (w.alloc X) x y u U v n
theorem fmT{p:Prop}(h:p:=by
 go_wp2;exact bO (uz rfl underlying157 rfl aj0 _ _ _ _ _ _ _ _ rfl (jo.two _ _ _ _ _ _ _ _)) rfl ⟨rfl,(yD.alloc zR _).alloc qz _⟩):p:=h
section
variable(v0 v1 v2 v3 v4:Int)(a1:Option Addr)(nv k1:Nat)(w:World)
theorem aot:Cl 247 #[.agg #[.i v0,.i v1,.i v2,.i v3,.i v4,.slice a1 nv k1]] w fun e a=>e=.returned (.agg #[.i 1,.bool false,.bool true,.bool false,.i (-1)])/\w.S a:=by
 go_enter func247,ntmps247;exact fmT
theorem aos:Cl 250 #[.agg #[.i v0,.i v1,.i v2,.i v3,.i v4,.slice a1 nv k1]] w fun e a=>e=.returned (.agg #[.i 2,.bool false,.bool false,.bool false,.i (0)])/\w.S a:=by
 go_enter func250,ntmps250;exact fmT
theorem aor:Cl 253 #[.agg #[.i v0,.i v1,.i v2,.i v3,.i v4,.slice a1 nv k1]] w fun e a=>e=.returned (.agg #[.i 3,.bool false,.bool false,.bool false,.i (1)])/\w.S a:=by
 go_enter func253,ntmps253;exact fmT
theorem aoq:Cl 256 #[.agg #[.i v0,.i v1,.i v2,.i v3,.i v4,.slice a1 nv k1]] w fun e a=>e=.returned (.agg #[.i 4,.bool true,.bool false,.bool false,.i (0)])/\w.S a:=by
 go_enter func256,ntmps256;exact fmT
theorem aop:Cl 259 #[.agg #[.i v0,.i v1,.i v2,.i v3,.i v4,.slice a1 nv k1]] w fun e a=>e=.returned (.agg #[.i 5,.bool false,.bool true,.bool false,.i (0)])/\w.S a:=by
 go_enter func259,ntmps259;exact fmT
theorem aoo:Cl 262 #[.agg #[.i v0,.i v1,.i v2,.i v3,.i v4,.slice a1 nv k1]] w fun e a=>e=.returned (.agg #[.i 6,.bool false,.bool true,.bool true,.i (-1)])/\w.S a:=by
 go_enter func262,ntmps262;exact fmT
theorem aon:Cl 265 #[.agg #[.i v0,.i v1,.i v2,.i v3,.i v4,.slice a1 nv k1]] w fun e a=>e=.returned (.agg #[.i 7,.bool false,.bool false,.bool false,.i (4)])/\w.S a:=by
 go_enter func265,ntmps265;exact fmT
end
theorem uZ{w:World}(c:Qb Q n)(B:n<=4194304)(R:mH w u Q):
 Cl 88 #[u] w fun e k=>∃q,e=.returned q/\fJ k (fun g=>w.heap.size<=g) q Q/\w.S k:=by
 obtain⟨a,v,z,b,m,A,x,E,y,F,X,Y,rfl,R,d,f⟩:=R;have C:=gc R.pX (by rw[d];exact c.1);have D:=gc R.pY (by rw[f];exact c.2);refine (vO om om R.nc R.mc R.ac R.bc R.LX R.LY).mono ?_;rintro e k ⟨g,h,i,j,rfl,l,o,p,r,-,-,t,G,H,s⟩;exact⟨_,rfl,⟨_,v,i,_,m,j,g,0,h,0,X,Y,rfl,⟨l,o,(fun h=>by cases h),(fun h=>by cases h),p,r,R.lX,R.lY,R.pX,R.pY,R.m0⟩,d,f,fun _=>t,fun _=>by omega⟩,s⟩
theorem vN{q:Rat}{w:World}(d:Qb Q n)(f:Qb q m)(Z:2*n+2*m<=16777216)(R:mH w u Q)(c:mH w U q):
 Cl 86 #[u,U] w fun e k=>∃h,e=.returned h/\fJ k (fun g=>w.heap.size<=g) h (Q*q)/\w.S k:=by
 obtain⟨a,v,E,b,p,G,A,P,C,S,X,Y,rfl,R,i,j⟩:=R;obtain⟨y,O,F,z,N,H,B,l,D,T,t,x,rfl,c,o,r⟩:=c;have W:=gc R.pX (by rw[i];exact d.1);have aa:=gc R.pY (by rw[j];exact d.2);have n3:=gc c.pX (by rw[o];exact f.1);have n4:=gc c.pY (by rw[r];exact f.2);have J:=@akc (qn Q) (qn q) a b y z A P v E C S p G B l O F D T N H X Y t x w om R c;obtain⟨I,K,L⟩:=c2 Q q;rw[i,j,o,r,<-I,<-K,<-L] at J;exact J.mono fun _ _ ⟨h,M,V,s⟩=>⟨h,M,V.rp,s⟩
theorem vc{q:Rat}{w:World}(f:Qb Q n)(h:Qb q m)(d:2*n+2*m<=16777216)(R:mH w u Q)(b:mH w U q):
 Cl 87 #[u,U] w fun e i=>∃a,e=.returned a/\fJ i (fun g=>w.heap.size<=g) a (Q+q)/\w.S i:=
 (amI f h d R b).mono fun _ _ ⟨a,c,V,s⟩=>⟨a,c,V.rp,s⟩
theorem anj(a:1<=k):Qb 0 k:=by
 have h:4294967296^1<=4294967296^k:=dP qd a;exact⟨aS qd h,aS qd h⟩
structure bn(w:World)(lo hi b off:Nat)(q:Rat)(g h:Nat)(a1:Option Addr)(n1 k1:Nat)(a2:Option Addr)(n2 k2:Nat)(X Y:Nat->Nat):Prop where
 c0:w.cell? ⟨b,off,none⟩=some (.bool (qn q))
 c1:w.cell? ⟨b,off+1,none⟩=some (.slice a1 n1 k1)
 c2:w.cell? ⟨b,off+2,none⟩=some (.slice a2 n2 k2)
 R:se w a1 a2 g 0 n1 k1 h 0 n2 k2 X Y
 v1:lv X n1=q.num.natAbs
 v2:lv Y n2=q.den
 lg:0<n1->lo<=g/\g<hi/\∀o,w.frozen? ⟨g,o,none⟩=false
 lh:0<n2->lo<=h/\h<hi/\∀o,w.frozen? ⟨h,o,none⟩=false
 ne:0<n1->0<n2->g≠h
section
variable{w w':World}{lo hi b off:Nat}{q:Rat}{g h:Nat}{a1:Option Addr}{n1 k1:Nat}{a2:Option Addr}{n2 k2:Nat}{X Y:Nat->Nat}
theorem bn.lt(r:bn w lo hi b off q g h a1 n1 k1 a2 n2 k2 X Y):b<w.heap.size:=aG _ _ r.c0
theorem bn.bH(r:bn w lo hi b off q g h a1 n1 k1 a2 n2 k2 X Y)(s:w.S w'):bn w' lo hi b off q g h a1 n1 k1 a2 n2 k2 X Y:=
 ⟨(s.cell (a:=jj b off) r.lt).trans r.c0,(s.cell (a:=jj b (off+1)) r.lt).trans r.c1,(s.cell (a:=jj b (off+2)) r.lt).trans r.c2,r.R.bH s,r.v1,r.v2,
   fun c=>⟨(r.lg c).1,(r.lg c).2.1,fun o=>by rw[s.frozen (a:=jj g o) (r.R.LX.lt c)];exact (r.lg c).2.2 o⟩,
   fun c=>⟨(r.lh c).1,(r.lh c).2.1,fun o=>by rw[s.frozen (a:=jj h o) (r.R.LY.lt c)];exact (r.lh c).2.2 o⟩,r.ne⟩
end
structure vt(w:World)(b n:Nat)(Q:Nat->Rat)(E:Nat->Nat):Prop where
 at_:∀i,i<n->∃g h a1 n1 k1 a2 n2 k2 X Y,bn w (E i) (E (i+1)) b (i*3) (Q i) g h a1 n1 k1 a2 n2 k2 X Y
 lo:b<E 0
 mono:∀i,i<n->E i<=E (i+1)
theorem vt.bH{w w':World}{Q:Nat->Rat}(T:vt w b n Q X)(s:w.S w'):vt w' b n Q X:=by
 refine⟨fun i d=> ?_,T.lo,T.mono⟩;obtain⟨g,h,a,j,e,c,k,f,l,Y,r⟩:=T.at_ i d;exact⟨g,h,a,j,e,c,k,f,l,Y,r.bH s⟩
theorem vt.base{w:World}{Q:Nat->Rat}(T:vt w n m Q X)(a:c<=m):n<X c:=by
 induction c with
 | zero=>exact T.lo
 | succ c ih=>exact aS (ih om) (T.mono c om)
theorem se.marked{w:World}(R:se w a A n m c d k i j l X Y)(M:aV w v o)(b:0<c->n≠o)(e:0<j->k≠o):se v a A n m c d k i j l X Y:=
 ⟨R.nc,R.mc,R.ac,R.bc,R.LX.marked M b,R.LY.marked M e,R.lX,R.lY,R.pX,R.pY,R.m0⟩
theorem vt.put{w:World}{m c lo H:Nat}{u:Nat->Rat}{n:Option Addr}(T:vt w m c u X)(Q:X c<=lo)(S:lo<=H)(M:aV w v m)
 (s:∀h,h<c*3->v.cell? (jj m h)=w.cell? (jj m h))(R:se w a n d 0 i l k 0 o b Y Z)(P:lv Y i=(u c).num.natAbs)(E:lv Z o=(u c).den)
 (j:0<i->lo<=d/\d<H/\∀h,w.frozen? (jj d h)=false)(t:0<o->lo<=k/\k<H/\∀h,w.frozen? (jj k h)=false)(O:0<i->0<o->d≠k)
 (B:v.cell? (jj m (c*3))=some (.bool (qn (u c))))(C:v.cell? (jj m (c*3+1))=some (.l a i l))(D:v.cell? (jj m (c*3+2))=some (.l n o b)):
 vt v m (c+1) u (fun g=>if g<=c then X g else H):=by
 refine⟨fun g F=> ?_,by simpa using T.lo,fun g F=> ?_⟩
 . by_cases e:g=c
   . subst e;have hb:=T.base (aC g);refine⟨d,k,a,i,l,n,o,b,Y,Z,B,C,D,R.marked M (fun f=>by have:=(j f).1;omega) (fun f=>by have:=(t f).1;omega),P,E,fun f=> ?_,fun f=> ?_,O⟩
     . simp only[aC,jG,show ¬g+1<=g by omega,iO];exact⟨by have:=(j f).1;omega,(j f).2.1,fun h=>by rw[M.hU (a:=jj d h) (by show d≠m;have:=(j f).1;omega)];exact (j f).2.2 h⟩
     . simp only[aC,jG,show ¬g+1<=g by omega,iO];exact⟨by have:=(t f).1;omega,(t f).2.1,fun h=>by rw[M.hU (a:=jj k h) (by show k≠m;have:=(t f).1;omega)];exact (t f).2.2 h⟩
   . have G:g<c:=om;obtain⟨p,q,z,L,I,A,N,K,x,y,r⟩:=T.at_ g G;have hb:=T.base (show g<=c by omega);refine⟨p,q,z,L,I,A,N,K,x,y,(s _ om).trans r.c0,(s _ om).trans r.c1,(s _ om).trans r.c2,r.R.marked M (fun f=>by have:=(r.lg f).1;omega) (fun f=>by have:=(r.lh f).1;omega),r.v1,r.v2,fun f=> ?_,fun f=> ?_,r.ne⟩
     . simp only[show g<=c by omega,jG,show g+1<=c by omega];exact⟨(r.lg f).1,(r.lg f).2.1,fun h=>by rw[M.hU (a:=jj p h) (by show p≠m;have:=(r.lg f).1;omega)];exact (r.lg f).2.2 h⟩
     . simp only[show g<=c by omega,jG,show g+1<=c by omega];exact⟨(r.lh f).1,(r.lh f).2.1,fun h=>by rw[M.hU (a:=jj q h) (by show q≠m;have:=(r.lh f).1;omega)];exact (r.lh f).2.2 h⟩
 . by_cases e:g=c
   . subst e;simp only[aC,jG,show ¬g+1<=g by omega,iO];omega
   . simp only[show g<=c by omega,jG,show g+1<=c by omega];exact T.mono g om
theorem amN{w:World}(d:Qb Q n)(E:n<=8388608)(R:mH w u Q)(c:mH w U Q):
 Cl 72 #[u,U] w fun e f=>e=.returned (.bool true)/\w.S f:=by
 obtain⟨a,k,A,b,m,C,q,K,y,M,X,Y,rfl,R,g,h⟩:=R;obtain⟨s,G,B,t,F,D,x,L,z,N,p,r,rfl,c,l,o⟩:=c;have H:=gc R.pX (by rw[g];exact d.1);have I:=gc R.pY (by rw[h];exact d.2);obtain⟨rfl,i⟩:=alu c.lX R.lX c.pX R.pX (l.trans g.symm);obtain⟨rfl,j⟩:=alu c.lY R.lY c.pY R.pY (o.trans h.symm);exact adq om om R.LX (c.LX.congr i) R.LY (c.LY.congr j)
theorem yH{a:Option Addr}{n m c:Nat}{X:Nat->Nat}{d:Nat}{w:World}(E:m<=8388608)(D:d<=1152921504606846976)(v:bE w a n 0 m X)(x:0<m->∀o,w.frozen? (jj n o)=false):
 Cl 74 #[.slice a m c,.i d] w fun e l=>e=.returned (.i ((d+m:Nat):Int))/\aV w l n/\(m=0->l=w)/\bE l a n 0 m (fun j=>(d+j) % 4294967296):=by
 go_enter func74,ntmps74;go_wp2;go_loopw [1,5] (fun q i wr=>∃k:Nat,k<=m/\i=.i k/\q=.i ((d+k:Nat):Int)/\aV w wr n/\(k=0->wr=w)/\bE wr a n 0 m (fun j=>if j<k then (d+j) % 4294967296 else X j)) (fun _ i _=>m-(intOf i).toNat)
 case atStart=>exact⟨0,aJ _,rfl,rfl,aV.refl _ _,fun _=>rfl,fun j b=>by simpa using v j b⟩
 case round=>
  obtain⟨k,C,rfl,rfl,g,z,f⟩:=hrel;by_cases y:k<m
  . obtain⟨rfl,r⟩:=f k y;have t:wr.cell? (jj n k)=some (.int .u32 ((X k:Nat):Int)):=(by simpa using r);have B:wr.frozen? (jj n k)=false:=(by rw[g.frozen];exact x om k);have A:((d+k:Nat):Int) % 4294967296=(((d+k) % 4294967296:Nat):Int):=om;clear r;go_wp2;go_roundw
    case rel=>
     refine⟨k+1,om,by go_num,by go_num,g.setCell _ _,fun u=>absurd u om,fun j b=>⟨rfl, ?_⟩⟩;go_light;by_cases e:j=k
     . subst e;rw[aZ,aQ _ _ _ t];simp
     . rw[aI _ _ _ _ (fun h=>by have:=congrArg Addr.off h;simp at this;omega)];have:=(f j b).2;simp only[this];by_cases p:j<k
       . rw[aY p,aY om]
       . rw[aM p,aM om]
    case measure=>exact yI
  . have e:k=m:=om;subst e;go_wp2;go_ret;exact⟨rfl,g,z,fun j b=>by have:=f j b;simpa [b] using this⟩
theorem aes{w:World}(s:c<=8388608)(r:k<=1152921504606846976)(f:bE w a n m c (fun j=>(k+j) % 4294967296)):
 Cl 120 #[.slice a c d,.i k] w fun e l=>e=.returned (.i ((k+c:Nat):Int))/\l=w:=by
 go_enter func120,ntmps120;go_wp2;go_loop [1,5] (fun q i=>∃b:Nat,b<=c/\i=.i b/\q=.i ((k+b:Nat):Int)) (fun _ i=>c-(intOf i).toNat)
 case atStart=>exact⟨0,aJ _,rfl,rfl⟩
 case round=>
  obtain⟨b,o,rfl,rfl⟩:=hrel;by_cases g:b<c
  . obtain⟨rfl,h⟩:=f b g;go_wp2;go_round
    case rel=>exact⟨b+1,om,by go_num,by go_num⟩
    case measure=>exact yI
  . have e:b=c:=om;subst e;go_wp2;go_ret;exact⟨rfl,rfl⟩
end Go.Proofs.YtaeieekkddndhaaGreat
