import Derived.Test.YtinihjgnnlemmaaGreatDoorOwnP8
import Derived.Test.YtinihjgnnlemmaaGreatDoorOwnP5
set_option maxHeartbeats 6400000
set_option maxRecDepth 100000
namespace Go.Proofs.YtinihjgnnlemmaaGreatDoor
open Tryz Go.RowKit
variable{w v W V:World}{n m c d k i j l o b p q t r s g h e:Nat}{a A B:Option Addr}{X Y Z:Nat->Nat}
theorem dz{n m:Nat}{a:Option Addr}{c d k i j:Nat}{X:Nat->Nat}{w:World}(r:w.cell? (jj n m)=some (.l a k i))(f:eO w a c d k X):
 Cl 245 #[.p n m,.i (j:Int)] w fun e l=>e=.returned (.int .u32 ((jg X k j:Nat):Int))/\l=w:=by
 by_cases h:j<k
 . obtain⟨rfl,o⟩:=f j h;have b:jg X k j=X j:=(by simp[jg,h]);rw[b];obtain⟨x,g⟩:∃x,x=X j:=⟨_,rfl⟩;rw[<-g] at o⊢;have q:¬((k:Int)<=j):=om;go_enter func245,ntmps245;go_wp2;go_ret;trivial
 . have b:jg X k j=0:=(by simp[jg,h]);rw[b];have p:(k:Int)<=j:=om;go_enter func245,ntmps245;go_wp2;go_ret;trivial
theorem ang(n m c:Nat)(b:c<=32)(a:n*2^c<18446744073709551616)(hl:m<2^c):bits .or .u64 ((n*2^c:Nat):Int) (m:Int)=((n*2^c+m:Nat):Int):=by
 have d:=uT c b;rw[u64_or_nat _ _ a om];congr 1;have:=qL hl n;rw[cJ];exact this.symm
theorem aa5(K:3<=j)(O:j<=1099511627776)(I:l<32)(r:w.cell? (jj n m)=some (.l a k i))(p:eO w a c d k X)
 (f:∀Q,Q<j->jg X k Q<4294967296)(z:jg X k (j-1)*2^l<4294967296):
 Cl 232 #[.p n m,.i (j:Int),.i (l:Int)] w fun e L=>
  e=.returned (.int .u64 (((jg X k (j-1)*4294967296+jg X k (j-2))*2^l+jg X k (j-3)*2^l/4294967296:Nat):Int))/\L=w:=by
 have t:=@dz n m a c d k i (j-1) X w r p;have u:=@dz n m a c d k i (j-2) X w r p;have v:=@dz n m a c d k i (j-3) X w r p;obtain⟨A,-,-,q,x,-⟩:=dY (jg X k) j l K f I z;have F:=f (j-1) om;have G:=f (j-2) om;have M:=f (j-3) om;rw[show ((j-1:Nat):Int)=j-1 by omega] at t;rw[show ((j-2:Nat):Int)=j-2 by omega] at u;rw[show ((j-3:Nat):Int)=j-3 by omega] at v;generalize jg X k (j-1)=g at*;generalize jg X k (j-2)=h at*;generalize jg X k (j-3)=b at*;have N:=c7 g h F G;have H:=uT l om;have y:b*2^l<18446744073709551616:=by have:b*2^l<=4294967295*2^l:=aP _ om;omega
 have o:=yg b l y;have s:=yg (g*4294967296+h) l q;have P:=ang (g*4294967296+h) (b*2^l/4294967296) l om q x;have C:=eI o;have D:=eI s;have E:=eI P;clear o s P q x H y z f p;go_enter func232,ntmps232;go_wp2_with fail;refine t.mono ?_;rintro e B ⟨rfl,rfl⟩;go_wp2_with fail;refine u.mono ?_;rintro e B ⟨rfl,rfl⟩;go_wp2_with fail;refine mp v ?_;go_wp2;go_ret;go_light;have o:=C.out;have s:=D.out;have P:=E.out;rw[o,show ((g:Int)*4294967296+(h:Int))=((g*4294967296+h:Nat):Int) by omega,s,show ((b*2^l:Nat):Int)/4294967296=((b*2^l/4294967296:Nat):Int) by omega,P];exact⟨rfl,rfl⟩
theorem sf{n m c d k i:Nat}{w:World}(B:eS w n (.int .u64 (d:Int)) (.int .u64 (k:Int)) (.int .u64 (i:Int)))(D:m+d<18446744073709551616)(E:c+k<18446744073709551616)(A:i<=1):
 Cl 230 #[.p n 0,.int .u64 (m:Int),.int .u64 (c:Int)] w fun e h=>∃b a:Nat,e=.returned (.int .u32 (b:Int))/\eM w h n/\
  eS h n (.int .u64 (((m+d)/4294967296:Nat):Int)) (.int .u64 (((c+k)/4294967296:Nat):Int)) (.int .u64 (a:Int))/\b<4294967296/\a<=1/\(m+d) % 4294967296+a*4294967296=(c+k) % 4294967296+i+b:=by
 obtain⟨b,a,y,C,z,F,G⟩:=owe (r:=(m+d) % 4294967296) (t:=(c+k) % 4294967296) (o:=i) (iS _ om) (iS _ om) A;have r:=eI z;have q:=eI F;have l:=eI G;have t:=eu (m+d) D;have s:=eu (c+k) E;have p:=eI t;have j:=eI s;obtain⟨H,I,K⟩:=B.g;have f:=B.f;have L:=f 0;have M:=f 1;have N:=f 2;go_enter func230,ntmps230;go_wp2;go_ret;go_light;have u:IntKind.u64.wrap (IntKind.u64.wrap (bits .and .u64 ((m:Int)+d) 4294967295-bits .and .u64 ((c:Int)+k) 4294967295)-i)=(((((m+d) % 4294967296:Nat):Int)-(((c+k) % 4294967296:Nat):Int)-i) % 18446744073709551616):=by have v:=p.out;have x:=j.out;rw[show ((m:Int)+d)=((m+d:Nat):Int) by omega,show ((c:Int)+k)=((c+k:Nat):Int) by omega,v,x,pD,pD];omega
 have o:=q.out;have g:=l.out;rw[<-u] at o g;rw[o,g,show ((m:Int)+d)/4294967296=(((m+d)/4294967296:Nat):Int) by omega,show ((c:Int)+k)/4294967296=(((c+k)/4294967296:Nat):Int) by omega];exact⟨b,a,rfl,(((eM.refl _ _).setCell _ _).setCell _ _).setCell _ _,((B.bE _).bH _).bF _,y,C,r.out⟩
theorem afG:(Tryz.prog.info? 238).map (·.size)=some 5:=by kernel_rfl
theorem we(h:∀m,m<n->X m<4294967296)(m:Nat):jg X n m<4294967296:=by
 unfold jg;split
 . exact h m yE
 . omega
theorem aiW(a:3<=n)(f:m<=n)(c:∀j,j<n->X j<4294967296)(d:lv Y m<=lv X n)(i:X (n-1)*2^s<4294967296):jg Y m (n-1)*2^s<4294967296:=by
 have b:lv (jg Y m) n<=lv X n:=by rw[yu Y m n f];exact d
 obtain⟨k,rfl⟩:∃k,n=k+1:=⟨n-1,om⟩;have g:=kI X k (fun j h=>c j om);simp only[lv] at b;rw[show k+1-1=k by omega] at*;have a:jg Y m k<=X k:=by apply jV;intro e;have:(X k+1)*2^(32*k)<=jg Y m k*2^(32*k):=aP _ e;rw[bI] at this;omega
 have:=aP (2^s) a;omega
theorem wrap_mul(n m c:Nat)(h:n*m=c)(hF:c<18446744073709551616):IntKind.u64.wrap ((n:Int)*(m:Int))=(c:Int):=by
 have e:(n:Int)*(m:Int)=((n*m:Nat):Int):=by rw[dR]
 rw[e,h];exact gv _ hF
def anZ(N M:Nat)(w:World)(e:Ending)(w':World):Prop:=
 ∃(u v x y:Nat) (odd:Bool),e=.returned (.agg #[.int .u64 (u:Int),.int .u64 (v:Int),.int .u64 (x:Int),.int .u64 (y:Int),.bool odd])/\c3 N M u v x y odd/\w.Since w.heap.size w'
theorem ahr{a A:Option Addr}{n m c d k i:Nat}{X Y:Nat->Nat}{w:World}(hn:c<=268435456)(hm:3<=d)(ai:d<=c)(C:eO w a n 0 c X)(hY:eO w A m 0 d Y)(ah:∀j,j<c->X j<4294967296)(av:∀j,j<d->Y j<4294967296)
 (tX:X (c-1)≠0)(ay:lv Y d<=lv X c):
 Cl 214 #[.slice a c k,.slice A d i] w (anZ (lv X c) (lv Y d) w):=by
 have kd:w.cell? (jj n (c-1))=some (.int .u32 (X (c-1))):=by simpa using (C (c-1) om).2
 have a5:=C.lt om;have aw:n<w.heap.size+1:=om;have ax:n<w.heap.size+1+1:=om;obtain⟨rfl,-⟩:=C 0 om;have aj:0<X (c-1):=om;have ak:=ah (c-1) om;have a6:(1:Int)<=c:=om;have K:=eI ay;have z:=eI ah;have O:=eI av;go_enter func214,ntmps214;go_wp2_with fail;refine (af3 aj ak).mono ?_;rintro e w1 ⟨s,rfl,rfl,E,-,aa⟩;have sA:w.S (((w.alloc (.o #[.s n c k] 102)).alloc (.o #[.l A d i] 102)).alloc (.o #[.int .u64 0,.int .u64 0,.int .u64 0,.int .u64 0,.bool false] 238)):=
  ((fA _ _).alloc qz _).alloc (by simp;omega) _
 have aq:(((w.alloc (.o #[.s n c k] 102)).alloc (.o #[.l A d i] 102)).alloc (.o #[.int .u64 0,.int .u64 0,.int .u64 0,.int .u64 0,.bool false] 238)).cell? (jj w.heap.size 0)=some (.s n c k):=by simp[go_sem]
 have ar:(((w.alloc (.o #[.s n c k] 102)).alloc (.o #[.l A d i] 102)).alloc (.o #[.int .u64 0,.int .u64 0,.int .u64 0,.int .u64 0,.bool false] 238)).cell? (jj (w.heap.size+1) 0)=some (.l A d i):=by simp[go_sem]
 have au:kh (((w.alloc (.o #[.s n c k] 102)).alloc (.o #[.l A d i] 102)).alloc (.o #[.int .u64 0,.int .u64 0,.int .u64 0,.int .u64 0,.bool false] 238)) (w.heap.size+1+1) (.int .u64 0) (.int .u64 0) (.int .u64 0) (.int .u64 0) (.bool false):=by have:=kh.new ((w.alloc (.o #[.s n c k] 102)).alloc (.o #[.l A d i] 102)) (.int .u64 0) (.int .u64 0) (.int .u64 0) (.int .u64 0) (.bool false) 238;simpa using this
 have az:(((w.alloc (.o #[.s n c k] 102)).alloc (.o #[.l A d i] 102)).alloc (.o #[.int .u64 0,.int .u64 0,.int .u64 0,.int .u64 0,.bool false] 238)).heap.size=w.heap.size+3:=by simp
 generalize (((w.alloc _).alloc _).alloc _)=wA at*;have M:=aiW (s:=s) om ai z.out K.out aa;have N:jg X c (c-1)*2^s<4294967296:=by rw[show jg X c (c-1)=X (c-1) by simp[jg];omega];exact aa
 have J1:=aa5 om om E aq (C.aA sA) (fun j _=>we z.out j) N;have J2:=aa5 om om E ar (hY.aA sA) (fun j _=>we O.out j) M;obtain⟨h,eA,lA,-,-,P,Q,R⟩:=dY (jg X c) c s om (fun j _=>we z.out j) E N;obtain⟨B,eB,lB,-,-,T,U,V⟩:=dY (jg Y d) c s om (fun j _=>we O.out j) E M;rw[<-eA] at J1;rw[<-eB] at J2;rw[yu X c c zR] at P Q R;rw[yu Y d c ai] at T U V;have af:B<=h:=by rw[R,V];exact Nat.div_le_div_right K.out
 have ag:0<lv X c:=by have:=rj X c om om;have:=fX (n:=32*(c-1)) (show 0<2 by omega);omega
 have ae:=eI (fun (r s u v x y:Nat) (e:Bool) (p:Lp h B r s u v x y e)=>p.out (N:=lv X c) (M:=lv Y d) lA P Q T U ag);have ad:=eI (Lp.start af);clear eA eB P Q R T U V ag M N aa kd aw ax K z O aj ak;go_wp2_with fail;refine J1.mono ?_;rintro e w1 ⟨rfl,rfl⟩;go_wp2_with fail;refine J2.mono ?_;rintro e w1 ⟨rfl,rfl⟩;go_wp2
 go_loopw [7,8,10,11] (fun t7 t8 a0 a4 wr=>∃(r s u0 u v x0 x y:Nat) (e:Bool),t7=.int .u64 r/\t8=.int .u64 s/\a0=.int .u64 v/\a4=.int .u64 y/\w.S wr/\
  kh wr (w.heap.size+1+1) (.int .u64 0) (.int .u64 0) (.int .u64 0) (.int .u64 0) (.bool false)/\kh wr (w.heap.size+3) (.int .u64 u0) (.int .u64 u) (.int .u64 x0) (.int .u64 x) (.bool e)/\
  Hid (Lp h B r s u v x y e)/\Hid (c3 (lv X c) (lv Y d) u0 u x0 x e)/\r<18446744073709551616/\s<=r/\x<18446744073709551616/\y<18446744073709551616/\u<18446744073709551616/\v<18446744073709551616) (fun _ t8 _ _ _=>(intOf t8).toNat)
 case atStart=>refine⟨h,B,0,1,0,0,0,1,true,rfl,rfl,rfl,rfl,sA.alloc om _,au.aA (fA _ _),(by rw[<-az];exact kh.new w1 _ _ _ _ _ _),ad, ?_,lA,af,om,om,om,om⟩;intro p;exact absurd rfl p
 case round=>
  obtain⟨r,s,u0,u,v,x0,x,y,e,rfl,rfl,rfl,rfl,S,g,H,l,L,hr,a9,hx,hy,hu,hv⟩:=hrel;have bf:=l.out.y1;obtain⟨g0,g1,g2,g3,g4⟩:=H.g;obtain⟨f0,f1,f2,f3,f4⟩:=H.k;by_cases c1:y<=s
  . have ba:x+y<18446744073709551616:=by
     have h1:=l.out.hA;have h2:y*1<=y*r:=dE _ om;have h3:x*1<=x*s:=dE _ om;omega
    by_cases c2:x+y<=r-s
    . have b:=l.out.step c1;have HO:=ae.out r s u v x y e l.out c1 c2;obtain⟨q,D⟩:∃q,q=r/s:=⟨_,rfl⟩;obtain⟨t,G⟩:∃t,t=r % s:=⟨_,rfl⟩;have bb:t<s:=(by rw[G];exact iS _ om);have q1:(r:Int)/(s:Int)=q:=(by rw[D];simp);have q2:(r:Int) % (s:Int)=t:=(by rw[G];simp);have q3:q<18446744073709551616:=(by rw[D];exact dD (iV _ _) hr);rw[<-D,<-G] at b;obtain⟨I,W⟩:∃F,F=q*v:=⟨_,rfl⟩;obtain⟨f,Z⟩:∃F,F=q*y:=⟨_,rfl⟩;rw[<-W,<-Z] at b;have bd:x+f<18446744073709551616:=by
       have h1:=b.hA;have h2:(x+f)*1<=(x+f)*s:=dE _ om;omega
      have bc:u+I<18446744073709551616:=(by have:=b.vy;omega);have k1:=wrap_mul q v I W.symm om;have k2:=wrap_mul q y f Z.symm om;have al:=eI b;have ao:=eI HO;have a7:((s:Int)==0)=false:=(by simp;omega);have a8:(s:Int)≠0:=om;have i1:(y:Int)<=s:=om;have i2:(x:Int)+(y:Int)<=r-(s:Int):=om;clear b HO D G W Z l L ae ad;go_wp2;go_region;go_wp2;go_roundw
      case rel=>go_light;have o:=((((S.setCell (a:=jj (w.heap.size+3) 0) (by show w.heap.size<=w.heap.size+3;omega) (.int .u64 u)).setCell (a:=jj (w.heap.size+3) 1) (by show w.heap.size<=w.heap.size+3;omega) (.int .u64 v)).setCell (a:=jj (w.heap.size+3) 2) (by show w.heap.size<=w.heap.size+3;omega) (.int .u64 x)).setCell (a:=jj (w.heap.size+3) 3) (by show w.heap.size<=w.heap.size+3;omega) (.int .u64 y)).setCell (a:=jj (w.heap.size+3) 4) (by show w.heap.size<=w.heap.size+3;omega) (.bool !e);have M1:=(((((eM.refl wr (w.heap.size+3)).setCell 0 (.int .u64 u)).setCell 1 (.int .u64 v)).setCell 2 (.int .u64 x)).setCell 3 (.int .u64 y)).setCell 4 (.bool !e);exact⟨s,t,u,v,u+I,x,y,x+f, !e,rfl,by rw[q2],rfl,rfl,⟨o.os,o.tape,o.output,o.size,o.block⟩,(g.marked M1 om).drew,(((((H.bE _).bH _).bF _).bX _).dX _).drew,al,ao,om,om,om,om,om,om⟩
      case measure=>exact yI
    . have i1:(y:Int)<=s:=om;have i2:¬((x:Int)+(y:Int)<=r-(s:Int)):=om;obtain⟨r0,r1,r2,r3,r4⟩:=g.g;obtain⟨p0,p1,p2,p3,p4⟩:=g.k;go_wp2;exact bO (wP rfl underlying238 rfl afG _ _ _ _ _ _ _ _ rfl (((((g.bE _).bH _).bF _).bX _).dX _)) rfl ⟨_,_,_,_,_,rfl,L.out,((((S.setCell (by show w.heap.size<=w.heap.size+1+1;omega) _).setCell (by show w.heap.size<=w.heap.size+1+1;omega) _).setCell (by show w.heap.size<=w.heap.size+1+1;omega) _).setCell (by show w.heap.size<=w.heap.size+1+1;omega) _).setCell (by show w.heap.size<=w.heap.size+1+1;omega) _⟩
  . have i1:¬((y:Int)<=s):=om;obtain⟨r0,r1,r2,r3,r4⟩:=g.g;obtain⟨p0,p1,p2,p3,p4⟩:=g.k;go_wp2;exact bO (wP rfl underlying238 rfl afG _ _ _ _ _ _ _ _ rfl (((((g.bE _).bH _).bF _).bX _).dX _)) rfl ⟨_,_,_,_,_,rfl,L.out,((((S.setCell (by show w.heap.size<=w.heap.size+1+1;omega) _).setCell (by show w.heap.size<=w.heap.size+1+1;omega) _).setCell (by show w.heap.size<=w.heap.size+1+1;omega) _).setCell (by show w.heap.size<=w.heap.size+1+1;omega) _).setCell (by show w.heap.size<=w.heap.size+1+1;omega) _⟩
end Go.Proofs.YtinihjgnnlemmaaGreatDoor
