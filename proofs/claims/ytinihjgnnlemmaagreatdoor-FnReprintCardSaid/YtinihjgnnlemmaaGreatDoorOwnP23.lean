import Derived.Test.YtinihjgnnlemmaaGreatDoorOwnP18
import Derived.Test.YtinihjgnnlemmaaGreatDoorOwnP19
import Derived.Deep.DeepCutAuto
set_option maxHeartbeats 6400000
set_option maxRecDepth 100000
set_option linter.unusedVariables false
namespace Go.Proofs.YtinihjgnnlemmaaGreatDoor
open Tryz Go.RowKit
variable{w v W V:World}{n m c d i j l o b p q t r s h e:Nat}{a A B:Option Addr}{X Y Z:Nat->Nat}{u U:Value}{f F:Bool}{z y:Int}
def aiQ(base:Nat)(w0:World)(c d G B:Nat)(wr:World):Prop:=
 ∃(gn gm:Nat) (an am:Option Addr) (n m cn cm:Nat) (X Y:Nat->Nat),Gd base w0 wr c d gn gm an am n m cn cm X Y/\n<=B/\m<=n/\lv Y m<=lv X n/\G=Nat.gcd (lv X n) (lv Y m)
theorem Gd.mn{w wr:World}{k:Nat}(h:Gd n w wr m c d k a A i j l o X Y)(b:lv Y j<=lv X i):j<=i:=ot h.lX h.pY b
theorem ahq{n m c d k:Nat}{a A:Option Addr}{i j l o:Nat}{X Y:Nat->Nat}{b p q t:Nat}{f:Bool}{w v:World}(z:i<=33554432)(x:lv Y j<=lv X i)(g:0<j)(u:Gd n w v m c d k a A i j l o X Y)(L:c3 (lv X i) (lv Y j) b p q t f):
 Cl 213 #[.p m 0,.p c 0,.agg #[.int .u64 (b:Int),.int .u64 (p:Int),.int .u64 (q:Int),.int .u64 (t:Int),.bool f]] v fun e y=>e=.returned (.tuple #[])/\
  ∃N M,b8 n w m c N M y/\M<=N/\N<=lv X i/\Nat.gcd N M=Nat.gcd (lv X i) (lv Y j)/\N+M<lv X i+lv Y j:=by
 have H:0<lv Y j:=by have:=rj Y j g (u.pY g);have:=fX (n:=32*(j-1)) (show 0<2 by omega);omega
 have I:=u.mn x;by_cases r:q=0
 . subst r;have h:=@ach n m c d k a A i j l o X Y b p t f w v z om g u;refine Calls.mono h ?_;rintro e y ⟨rfl,h⟩;have R:=iS (lv X i) H;refine⟨rfl,_,_,h,cZ R,x, ?_, ?_⟩
   . rw[jN,<-Nat.gcd_rec,jN]
   . have P:=iW (lv X i) (lv Y j);have K:=(Nat.one_le_div_iff H).2 x;have Q:lv Y j*1<=lv Y j*(lv X i/lv Y j):=dE _ K;omega
 . obtain⟨S,B,C,D,N,M,E,s,G,O,R⟩:=L r;have F:=dD (aU G x) (kI X i u.lX);have J:Cl 213 #[.p m 0,.p c 0,.agg #[.int .u64 b,.int .u64 p,.int .u64 q,.int .u64 t,.bool f]] v fun e y=>e=.returned (.tuple #[])/\b8 n w m c N M y:=by
    cases f
    . exact afF z I g u r S B C D (by simpa using E) s F
    . exact ahp z I g u r S B C D (by simpa using E) s F
   refine mo J fun y h=> ?_;exact⟨rfl,N,M,h,s,aU G x,O,R⟩
theorem adh{k:Nat}(bc:0<=n)(U:i<=16777216)(hm:j<=16777216)(b:Gd n w v m c d k a A i j l o X Y)(bb:Tab w):
 Cl 178 #[.p m 0,.p c 0] v fun e w'=>e=.returned (.tuple #[])/\∃af g D cp ab,w'.cell? (jj m 0)=some (.slice af D cp)/\D<=cp/\D<=67108864/\(af=none->cp=0)/\eO w' af g 0 D ab/\(0<D->∀x,w'.frozen? (jj g x)=false)/\
  (∀O,O<D->ab O<4294967296)/\(0<D->ab (D-1)≠0)/\lv ab D=Nat.gcd (lv X i) (lv Y j)/\n<=g/\w.Since n w':=by
 obtain⟨G,ai⟩:∃G,G=Nat.gcd (lv X i) (lv Y j):=⟨_,rfl⟩;have y:=eI ai;rw[<-ai];clear ai;have r:=b.bC;have s:=b.bD;go_enter func178,ntmps178;go_wp2_with fail;refine mo (ru om om r b.LX b.LY b.lX b.lY b.pX b.pY) fun q s2=> ?_;have b:=b.same s2;clear s2 r s;have r:=b.bC;have s:=b.bD;by_cases L:lv X i<lv Y j
 focus
  have a0:=yT L;have K0:aiQ n w m c G 16777216 ((q.setCell (jj m 0) (.l A j o)).setCell (jj c 0) (.l a i l)).drew:=⟨k,d,A,a,j,i,o,l,Y,X,b.swap.same (Same.refl _).drew,hm,ot b.lY b.pX (cZ L),cZ L,by rw[jN];exact y.out⟩;have f1:=b.fC;have f2:=b.fD;have d1:=b.d1;clear L y;generalize lq (lv X i) (lv Y j)=a8 at*;go_wp2;go_region;clear r s f1 f2 d1 b a0;generalize ((q.setCell (jj m 0) (.l A j o)).setCell (jj c 0) (.l a i l)).drew=w4 at*
 rotate_left
 focus
  have a0:0<=lq (lv X i) (lv Y j):=by unfold lq;split<;>(try split)<;>omega
  have K0:aiQ n w m c G 16777216 q:=⟨d,k,a,A,i,j,l,o,X,Y,b,U,b.mn om,om,y.out⟩;clear L y b;generalize lq (lv X i) (lv Y j)=a8 at*
 all_goals
  obtain⟨d,k,a,A,i,j,l,o,X,Y,f,U,al,a2,hg⟩:=K0;have N:=eI a2;have y:=eI hg;clear a2 hg;go_wp2;go_loopg [] (lv X i+lv Y j) (fun g wr=>∃(d k:Nat) (a A:Option Addr) (i j l o:Nat) (X Y:Nat->Nat),Hid (g=lv X i+lv Y j)/\Gd n w wr m c d k a A i j l o X Y/\i<=16777216/\Hid (lv Y j<=lv X i)/\Hid (G=Nat.gcd (lv X i) (lv Y j)))
  case atStart=>exact⟨d,k,a,A,i,j,l,o,X,Y,rfl,f,U,N,y⟩
  case round=>
   clear f U al N y;obtain⟨d,k,a,A,i,j,l,o,X,Y,Hg,f,U,N,y⟩:=hrel;have r:=f.bC;have s:=f.bD;by_cases V:j<=2
   . go_wp2_with fail;refine mo (mj V s) fun q p=> ?_;rw[p];clear p q;by_cases ad:i<=2
     . go_wp2_with fail;refine mo (mj ad r) fun q p=> ?_;rw[p];clear p q r s;have n1:=sj ad f.lX;have W:=sj V f.lY;have r:=f.bC;have s:=f.bD;go_wp2_with fail;refine mo (mj ad r) fun q p=> ?_;rw[p];clear p q;go_wp2_with fail;refine mo (qg ad r f.LX f.lX) fun q p=> ?_;rw[p];clear p q;go_wp2_with fail;refine mo (qg V s f.LY f.lY) fun q p=> ?_;rw[p];clear p q;go_wp2_with fail;refine mo (tE n1 W) fun I s6=> ?_;have b:=f.same s6;have T:Nat.gcd (lv X i) (lv Y j)<18446744073709551616:=by
        by_cases h0:lv X i=0
        . rw[h0,oQ];exact W
        . have:=rK (lv Y j) (show 0<lv X i by omega);omega
       clear s6 r s;rw[<-y.out] at T⊢;go_wp2_with fail;refine (qA T).mono ?_;rintro e M ⟨S,rfl,Z,aj,v7,F⟩;have ae:=eI v7;have q1:M.cell? (jj m 0)=some (.l a i l):=(by rw[F.cell (a:=jj m 0) (aG _ _ b.bC)];exact b.bC);have q2:M.frozen? (jj m 0)=false:=(by rw[F.frozen (a:=jj m 0) (aG _ _ b.bC)];exact b.fC);have zc:m<I.heap.size:=aG _ _ b.bC;have R:n<=I.heap.size:=b.dA;have S7:w.Since n M:=b.S.trans (sM F R);have ak:=b.hc;clear v7 b F y;go_wp2;go_end0;have t1:=jc (nz S) 2;refine⟨rfl,_,I.heap.size,_,_,S,aQ _ _ _ q1,t1,om,fun h=>(by cases h),((lI Z).take t1).setOther om _,fun _ x=>by simp[Z.frozen x],fun O _=>aj O,fun h=> ?_,(mC _ _).trans ae.out,R,S7.setCell ak _⟩;have:=jh _ _ h;simpa [nz] using this
     . go_wp2_with fail;refine mo (qC om r) fun q p=> ?_;rw[p];clear p q;go_wp2_with fail;refine mo (nN s) fun q p=> ?_;rw[p];clear p q;by_cases hz:j=0
       . subst hz;have a4:Hid (lv X i=G):=(by have h:=y.out;rw[show lv Y 0=0 from rfl,rR] at h;exact h.symm);go_wp2_with fail;refine mo (qC om r) fun q p=> ?_;rw[p];clear p q;go_wp2;go_end0;exact⟨rfl,a,d,i,l,X,f.bC,f.nX,om,f.oX,f.LX,f.FX,f.lX,f.pX,a4.out,f.hn,f.S⟩
       . have bf:((j:Int)==0)=false:=(by simp;omega);have J:=@ach n m c d k a A i j l o X Y 0 0 0 false w wr om om om f;go_wp2_with fail;refine mo J fun w5⟨au,ar,ag,ao,z,E,ah,aq,B,H,t,Q,P⟩=> ?_;have az:0<lv Y j:=by
          have:=rj Y j om (f.pY om);have:=fX (n:=32*(j-1)) (show 0<2 by omega);omega
         have ac:z<=2:=aU (ot f.lY t.pX (by rw[Q];exact aC _)) V;have a3:E<=2:=aU (ot f.lY t.pY (by rw[P];exact cZ (iS _ az))) V;have aa:Hid (G=Nat.gcd (lv B z) (lv H E)):=(by rw[Q,P,jN,<-Nat.gcd_rec,jN];exact y);clear Q P az J f r s;have n1:=sj ac t.lX;have W:=sj a3 t.lY;have r:=t.bC;have s:=t.bD;go_wp2_with fail;refine mo (mj ac r) fun q p=> ?_;rw[p];clear p q;go_wp2_with fail;refine mo (qg ac r t.LX t.lX) fun q p=> ?_;rw[p];clear p q;go_wp2_with fail;refine mo (qg a3 s t.LY t.lY) fun q p=> ?_;rw[p];clear p q;go_wp2_with fail;refine mo (tE n1 W) fun I s6=> ?_;have b:=t.same s6;have T:Nat.gcd (lv B z) (lv H E)<18446744073709551616:=by
          by_cases h0:lv B z=0
          . rw[h0,oQ];exact W
          . have:=rK (lv H E) (show 0<lv B z by omega);omega
         clear s6 r s;rw[<-aa.out] at T⊢;go_wp2_with fail;refine (qA T).mono ?_;rintro e M ⟨S,rfl,Z,aj,v7,F⟩;have ae:=eI v7;have q1:M.cell? (jj m 0)=some (.l ag z ah):=(by rw[F.cell (a:=jj m 0) (aG _ _ b.bC)];exact b.bC);have q2:M.frozen? (jj m 0)=false:=(by rw[F.frozen (a:=jj m 0) (aG _ _ b.bC)];exact b.fC);have zc:m<I.heap.size:=aG _ _ b.bC;have R:n<=I.heap.size:=b.dA;have S7:w.Since n M:=b.S.trans (sM F R);have ak:=b.hc;clear v7 b F aa;go_wp2;go_end0;have t1:=jc (nz S) 2;refine⟨rfl,_,I.heap.size,_,_,S,aQ _ _ _ q1,t1,om,fun h=>(by cases h),((lI Z).take t1).setOther om _,fun _ x=>by simp[Z.frozen x],fun O _=>aj O,fun h=> ?_,(mC _ _).trans ae.out,R,S7.setCell ak _⟩;have:=jh _ _ h;simpa [nz] using this
   . go_wp2_with fail;refine mo (qC om s) fun q p=> ?_;rw[p];clear p q;have al:=f.mn N.out;go_wp2;have f:=f.same (Same.refl _).drew;clear r s;have J1:=@ahr a A d k i j l o X Y wr.drew om om al f.LX f.LY f.lX f.lY (f.pX om) N.out;refine wp_region_held_drew (S:=fun _=>True) kr trivial (fun av=> ?_);generalize wr.drew=wd at*;have r:=f.bC;have s:=f.bD;refine kl 0 23 ?_;refine kl 1 24 ?_;refine kl 2 25 ?_;refine kl 3 26 ?_;refine kl 5 28 ?_;refine kl 6 29 ?_;refine wpAnyH_ready (rs:=[4,7]) kr qz ?_;refine AllReadyH.cons rfl (fun K u=> ?_) (AllReadyH.cons rfl (fun K u=> ?_) AllReadyH.nil)
     focus
      go_simp;refine u.out _ _ trivial (fun C=> ?_);clear u K C av;refine wpAnyH_ready (rs:=[7]) kr qz ?_
     rotate_left
     focus
      go_simp;refine u.out _ _ trivial (fun C=> ?_);clear u K C av;refine wpAnyH_ready (rs:=[4]) kr qz ?_
     all_goals
      refine AllReadyH.cons rfl (fun K u=> ?_) AllReadyH.nil;go_simp;refine u.out _ _ trivial (fun C=> ?_);clear u K C;refine tu 8 fun K u=> ?_;go_simp;go_wp2_with (go_at_call 214;(with_reducible refine J1.mono ?_);intro e w5 a7;obtain⟨bi,bj,x,bm,bh,rfl,ay,s5⟩:=a7);have G5:=f.grow s5;have J2:=ahq om N.out om G5 ay;clear ay;refine u.out _ _ trivial (fun C=> ?_);clear u K C;refine tu 9 fun K u=> ?_;go_simp;go_wp2_with (go_at_call 213;(with_reducible refine J2.mono ?_);rintro e I ⟨rfl,ba,a9,⟨au,ar,ag,ao,z,E,ah,aq,B,H,t,Q,P⟩,aw,ax,a1,L⟩);subst Q P;have ac:z<=i:=ot f.lX t.pX ax;have aa:Hid (G=Nat.gcd (lv B z) (lv H E)):=(by rw[a1];exact y);have a6:Hid (lv B z+lv H E<gk):=(by have:=Hg.out;show _<_;omega);have a5:=eI aw;clear aw ax a1 L G5 J1 J2;refine u.out _ _ trivial (fun C=> ?_);clear u K C;refine wpAnyH_done kr ?_ _;go_wp2;go_roundg (lv B z+lv H E)
      case measure=>exact a6.out
      case rel=>exact⟨au,ar,ag,ao,z,E,ah,aq,B,H,rfl,t,om,a5,aa⟩
theorem zL{P:Program}{e:Region.Mode}{c:Array Oper}{Q:Exit->Act->World->Prop}(I:Nat->Array Bool->Act->World->Prop)
 (j:∀b l a w,I (b+1) l a w->∀i∈Region.ready e c l,∃o,c[i]?=some o/\∀d:Act->World->Prop,(∀a w,I b (l.setIfInBounds i true) a w->d a w)->if Region.wanted o (yielded c a.tmps)=true then Oper.wp P o a w d Q else d (a.put o.dst undef) w)
 (f:∀l a w,I 0 l a w->Region.ready e c l=[])
 (g:∀b l a w,I b l a w->Region.ready e c l=[]->Q .normal a w):
 ∀b l a w,I b l a w->wpAny P e c Q b l a w
 | 0,l,a,w,h=>⟨f l a w h,g 0 l a w h (f l a w h)⟩
 | b+1,l,a,w,h=>⟨g _ l a w h,fun i n=>by
    obtain⟨o,q,p⟩:=j b l a w h i n;exact wpOp_step q fun d m=>p d fun a w k=>m a w (zL I j f g b _ a w k)⟩
theorem agM(s:w.Since n v)(h:m<=n):w.Since m v:=⟨s.os,s.tape,s.output,s.size,fun k b=>s.block k om⟩
def bk:Value->Option Nat
 | .pointer (some a)=>some a.block
 | .slice (some a) _ _=>some a.block
 | _=>none
def Bd(lo:Nat)(w:World)(v:Value):Prop:=∀g,bk v=some g->lo<=g/\g<w.heap.size
def Ap(u v:Value):Prop:=∀g,bk u=some g->bk v=some g->False
theorem Bd.undef(n:Nat)(w:World):Bd n w undef:=fun g h=>by cases h
theorem Bd.grow(h:Bd n w u)(a:w.heap.size<=v.heap.size):Bd n v u:=fun g e=>⟨(h g e).1,aS (h g e).2 a⟩
theorem Ap.symm(h:Ap u U):Ap U u:=fun g a b=>h g b a
theorem Ap.undef(u:Value):Ap undef u:=fun g h=>by cases h
theorem Ap.fresh(h:Bd n w u)(c:Bd w.heap.size v U):Ap u U:=fun g a b=>by have:=(h g a).2;have:=(c g b).1;omega
def Ow(w:World)(v:Value)(m:Nat)(X:Nat->Nat):Prop:=
 (v=.slice none 0 0/\m=0)∨∃g cp,v=.slice (some ⟨g,0,none⟩) m cp/\g<w.heap.size/\m<=cp/\eO w (some ⟨g,0,none⟩) g 0 m X/\(∀x,w.frozen? ⟨g,x,none⟩=false)/\Shape w g 133 cp/\cp<=maxLen
theorem Ow.since(h:Ow w u n X)(s:w.S v):Ow v u n X:=by
 rcases h with h | ⟨g,f,e,b,i,L,F,c,d⟩
 . exact Or.inl h
 . exact Or.inr ⟨g,f,e,aS b s.size,i,L.aA s,fun x=>by rw[s.frozen (a:=jj g x) b];exact F x,c.since s b,d⟩
theorem Ow.set(h:Ow w u n X)(k:U=.p m 0)(f:Ap U u)(c:Value):Ow (w.setCell ⟨m,0,none⟩ c) u n X:=by
 subst k;rcases h with h | ⟨g,d,rfl,j,i,L,F,a,b⟩
 . exact Or.inl h
 . have:m≠g:=fun e=>f g (by rw[e];rfl) rfl;exact Or.inr ⟨g,d,rfl,by simpa using j,i,L.setOther this _,fun x=>by simp[F x],a.setCell _ _ _,b⟩
theorem uU(h:w.ownsRow n 133 1 u m (ll X m)):Ow w u m X/\Bd n w u:=by
 have f:= @World.ownsRow.cells _ _ _ _ _ _ _ h;rcases h.2 with ⟨rfl,rfl⟩ | ⟨g,c,d,rfl,hb,a,k,l,q,_⟩
 . exact⟨Or.inl ⟨rfl,rfl⟩,fun g e=>by cases e⟩
 . have b:=(dM.1 a).1;refine⟨Or.inr ⟨g,c,rfl,b,k,fun j i=>⟨rfl, ?_⟩,fun o=>by simp[World.frozen?,a],⟨d,a,by simpa using q⟩,l⟩,fun p e=> ?_⟩
   . have:=f (g:=g) rfl j _ (xK X m j i);rw[mT] at this;exact this
   . cases e;exact⟨hb,b⟩
def Bx(w:World)(t:Value)(u:Value):Prop:=∃c,t=.pointer (some ⟨c,0,none⟩)/\w.cell? ⟨c,0,none⟩=some u/\w.frozen? ⟨c,0,none⟩=false/\c<w.heap.size
theorem Bx.since(h:Bx w u U)(s:w.S v):Bx v u U:=by
 obtain⟨c,e,d,f,b⟩:=h;exact⟨c,e,by rw[s.cell (a:=jj c 0) b];exact d,by rw[s.frozen (a:=jj c 0) b];exact f,aS b s.size⟩
theorem Bx.other{a:Value}(h:Bx w u U)(e:a=.p n 0)(i:Ap a u)(x:Value):Bx (w.setCell ⟨n,0,none⟩ x) u U:=by
 obtain⟨d,rfl,b,f,g⟩:=h;subst e;have:n≠d:=fun e=>i d (by rw[e];rfl) rfl;exact⟨d,rfl,by rw[pQ (by exact this)];exact b,by simp[f],by simpa using g⟩
theorem Bx.fill(h:Bx w u U)(e:u=.p n 0)(x:Value):Bx (w.setCell ⟨n,0,none⟩ x) u x:=by
 obtain⟨d,rfl,a,b,f⟩:=h;cases e;exact⟨_,rfl,aQ _ _ _ a,by simp[b],by simpa using f⟩
theorem Bx.new(w:World)(u:Value)(a:TypeId):Bx (w.alloc (.cells #[u] a)) (.p w.heap.size 0) u:=⟨_,rfl,by simp[go_sem],by simp[go_sem],qz⟩
structure J(wA:World)(sa sb:Value)(n m:Nat)(X Y:Nat->Nat)(l0 l1 l2 l3 l4 l5 l6 l7:Bool)(t5 t6 t20 t21 t22 t23:Value)(w:World):Prop where
 S:wA.Since wA.heap.size w
 B5:Bd wA.heap.size w t5
 B6:Bd wA.heap.size w t6
 B21:Bd wA.heap.size w t21
 B23:Bd wA.heap.size w t23
 A56:Ap t5 t6
 A51:Ap t5 t21
 A53:Ap t5 t23
 A61:Ap t6 t21
 A63:Ap t6 t23
 A13:Ap t21 t23
 h0:l0=true->t20=sa
 h2:l2=true->t22=sb
 h1:l1=true->Ow w t21 n X
 h3:l3=true->Ow w t23 m Y
 h4:l4=true->Bx w t5 (if l6=true then t21 else .slice none 0 0)
 h5:l5=true->Bx w t6 (if l7=true then t23 else .slice none 0 0)
section
variable{wA:World}{sa sb:Value}{n m:Nat}{X Y:Nat->Nat}{l0 l1 l2 l3 l4 l5 l6 l7:Bool}{t5 t6 t20 t21 t22 t23:Value}{w w':World}
theorem J.grow(h:J wA sa sb n m X Y l0 l1 l2 l3 l4 l5 l6 l7 t5 t6 t20 t21 t22 t23 w)(s:w.S w'):J wA sa sb n m X Y l0 l1 l2 l3 l4 l5 l6 l7 t5 t6 t20 t21 t22 t23 w':=
 ⟨h.S.trans (agM s h.S.size),h.B5.grow s.size,h.B6.grow s.size,h.B21.grow s.size,h.B23.grow s.size,h.A56,h.A51,h.A53,h.A61,h.A63,h.A13,h.h0,h.h2,fun e=>(h.h1 e).since s,fun e=>(h.h3 e).since s,fun e=>(h.h4 e).since s,fun e=>(h.h5 e).since s⟩
theorem J.start(w:World)(u U:Value)(n m:Nat)(X Y:Nat->Nat)(c d:Value):J w u U n m X Y false false false false false false false false undef undef c undef d undef w:=
 ⟨.refl _ _,.undef _ _,.undef _ _,.undef _ _,.undef _ _,.undef _,.undef _,.undef _,.undef _,.undef _,.undef _,fun h=>(by cases h),fun h=>(by cases h),fun h=>(by cases h),fun h=>(by cases h),fun h=>(by cases h),fun h=>(by cases h)⟩
theorem J.op0(h:J wA sa sb n m X Y l0 l1 l2 l3 l4 l5 l6 l7 t5 t6 t20 t21 t22 t23 w):J wA sa sb n m X Y true l1 l2 l3 l4 l5 l6 l7 t5 t6 sa t21 t22 t23 w:={ h with h0:=fun _=>rfl }
theorem J.op2(h:J wA sa sb n m X Y l0 l1 l2 l3 l4 l5 l6 l7 t5 t6 t20 t21 t22 t23 w):J wA sa sb n m X Y l0 l1 true l3 l4 l5 l6 l7 t5 t6 t20 t21 sb t23 w:={ h with h2:=fun _=>rfl }
theorem J.op1(h:J wA sa sb n m X Y l0 l1 l2 l3 l4 l5 false l7 t5 t6 t20 t21 t22 t23 w)(s:w.S w')(o:Ow w' u n X)(b:Bd w.heap.size w' u):J wA sa sb n m X Y l0 true l2 l3 l4 l5 false l7 t5 t6 t20 u t22 t23 w':=
 have g:=h.grow s;have a:Bd wA.heap.size w' u:=fun x e=>⟨aU h.S.size (b x e).1,(b x e).2⟩
 { g with B21:=a,A51:=.fresh h.B5 b,A61:=.fresh h.B6 b,A13:=(Ap.fresh h.B23 b).symm,h1:=fun _=>o }
theorem J.op3(h:J wA sa sb n m X Y l0 l1 l2 l3 l4 l5 l6 false t5 t6 t20 t21 t22 t23 w)(s:w.S w')(o:Ow w' u m Y)(b:Bd w.heap.size w' u):J wA sa sb n m X Y l0 l1 l2 true l4 l5 l6 false t5 t6 t20 t21 t22 u w':=
 have g:=h.grow s;have a:Bd wA.heap.size w' u:=fun x e=>⟨aU h.S.size (b x e).1,(b x e).2⟩
 { g with B23:=a,A53:=.fresh h.B5 b,A63:=.fresh h.B6 b,A13:=.fresh h.B21 b,h3:=fun _=>o }
theorem am7(w:World)(u:Value)(a:TypeId):Bd w.heap.size (w.alloc (.cells #[u] a)) (.p w.heap.size 0):=fun g e=>by cases e;simp
theorem J.op4(h:J wA sa sb n m X Y l0 l1 l2 l3 l4 l5 false l7 t5 t6 t20 t21 t22 t23 w)(a:TypeId):J wA sa sb n m X Y l0 l1 l2 l3 true l5 false l7 (.p w.heap.size 0) t6 t20 t21 t22 t23 (w.alloc (.cells #[.n] a)):=
 have g:=h.grow (yD.alloc zR (.cells #[.n] a));have b:=am7 w (.n) a
 { g with B5:=fun x e=>⟨aU h.S.size (b x e).1,(b x e).2⟩,A56:=(Ap.fresh h.B6 b).symm,A51:=(Ap.fresh h.B21 b).symm,A53:=(Ap.fresh h.B23 b).symm,h4:=fun _=>Bx.new _ _ _ }
theorem J.op5(h:J wA sa sb n m X Y l0 l1 l2 l3 l4 l5 l6 false t5 t6 t20 t21 t22 t23 w)(a:TypeId):J wA sa sb n m X Y l0 l1 l2 l3 l4 true l6 false t5 (.p w.heap.size 0) t20 t21 t22 t23 (w.alloc (.cells #[.n] a)):=
 have g:=h.grow (yD.alloc zR (.cells #[.n] a));have b:=am7 w (.n) a
 { g with B6:=fun x e=>⟨aU h.S.size (b x e).1,(b x e).2⟩,A56:=Ap.fresh h.B5 b,A61:=(Ap.fresh h.B21 b).symm,A63:=(Ap.fresh h.B23 b).symm,h5:=fun _=>Bx.new _ _ _ }
theorem v8(h:Bd n w u):Bd n (w.setCell ⟨m,0,none⟩ U) u:=h.grow qz
theorem J.op6(h:J wA sa sb n m X Y l0 l1 l2 l3 true l5 l6 l7 t5 t6 t20 t21 t22 t23 w)(e:t5=.p c 0):J wA sa sb n m X Y l0 l1 l2 l3 true l5 true l7 t5 t6 t20 t21 t22 t23 (w.setCell ⟨c,0,none⟩ t21):=
 ⟨h.S.setCell (h.B5 c (by rw[e];rfl)).1 _,v8 h.B5,v8 h.B6,v8 h.B21,v8 h.B23,h.A56,h.A51,h.A53,h.A61,h.A63,h.A13,h.h0,h.h2,fun k=>(h.h1 k).set e h.A51 _,fun k=>(h.h3 k).set e h.A53 _,fun _=>(h.h4 rfl).fill e _,fun k=>(h.h5 k).other e h.A56 _⟩
theorem J.op7(h:J wA sa sb n m X Y l0 l1 l2 l3 l4 true l6 l7 t5 t6 t20 t21 t22 t23 w)(e:t6=.p c 0):J wA sa sb n m X Y l0 l1 l2 l3 l4 true l6 true t5 t6 t20 t21 t22 t23 (w.setCell ⟨c,0,none⟩ t23):=
 ⟨h.S.setCell (h.B6 c (by rw[e];rfl)).1 _,v8 h.B5,v8 h.B6,v8 h.B21,v8 h.B23,h.A56,h.A51,h.A53,h.A61,h.A63,h.A13,h.h0,h.h2,fun k=>(h.h1 k).set e h.A61 _,fun k=>(h.h3 k).set e h.A63 _,fun k=>(h.h4 k).other e h.A56.symm _,fun _=>(h.h5 rfl).fill e _⟩
theorem sF(h:Ow w u m X)(b:Bd n w u)(c:Nat)(i:n<=c)(l:w.heap.size<=c):∃a g d,u=.slice a m d/\m<=d/\(a=none->d=0)/\eO w a g 0 m X/\(0<m->∀x,w.frozen? (jj g x)=false)/\n<=g/\(g=c∨bk u=some g)/\kO w u g:=by
 rcases h with ⟨rfl,rfl⟩ | ⟨g,d,rfl,o,f,L,F,H⟩
 . exact⟨none,c,0,rfl,aC _,fun _=>rfl,fun j k=>absurd k om,fun h=>absurd h om,i,Or.inl rfl,fun a _ _ h e=>by cases h;exact absurd rfl e⟩
 . exact⟨_,g,d,rfl,f,fun h=>(by cases h),L,fun _=>F,(b g rfl).1,Or.inr rfl,fun _ _ _ h _=>by cases h;exact H⟩
theorem J.gd(h:J wA sa sb n m X Y true true true true true true true true t5 t6 t20 t21 t22 t23 w)(D:∀j,j<n->X j<4294967296)(E:∀j,j<m->Y j<4294967296)(F:0<n->X (n-1)≠0)(G:0<m->Y (m-1)≠0):
 ∃c d a r o l q p,t5=.p c 0/\t6=.p d 0/\Gd wA.heap.size wA w c d a r o l n m q p X Y:=by
 obtain⟨c,v,y,z,W⟩:=h.h4 rfl;obtain⟨d,x,A,B,Z⟩:=h.h5 rfl;have C:=h.S.size;obtain⟨o,a,q,t,H,I,K,L,M,g,N⟩:=sF (h.h1 rfl) h.B21 w.heap.size C zR;obtain⟨l,r,p,u,O,P,Q,R,S,i,T⟩:=sF (h.h3 rfl) h.B23 (w.heap.size+1) om om;have b:bk t5=some c:=by rw[v];rfl
 have f:bk t6=some d:=by rw[x];rfl
 have V:=g.elim Or.inr fun e=>Or.inl (h.B21 _ e).2;have U:=i.elim Or.inr fun e=>Or.inl (h.B23 _ e).2;refine⟨c,d,a,r,o,l,q,p,v,x,h.S,by rw[y,aY rfl,t],by rw[A,aY rfl,u],z,B,K,Q,L,R,H,O,I,P,D,E,F,G,(h.B5 c b).1,(h.B6 d f).1,M,S, ?_, ?_, ?_, ?_, ?_, ?_,by rw[<-t];exact N,by rw[<-u];exact T⟩
 . exact fun e=>h.A56 c b (by rw[f,e])
 . rcases g with e | e
   . omega
   . rcases i with s | s
     . have:=(h.B21 _ e).2;omega
     . exact fun k=>h.A13 a e (by rw[s,k])
 . rcases g with e | e
   . omega
   . exact fun k=>h.A51 c b (by rw[e,k])
 . rcases g with e | e
   . omega
   . exact fun k=>h.A61 d f (by rw[e,k])
 . rcases i with e | e
   . omega
   . exact fun k=>h.A53 c b (by rw[e,k])
 . rcases i with e | e
   . omega
   . exact fun k=>h.A63 d f (by rw[e,k])
end
def rdy(l0 l1 l2 l3 l4 l5 l6 l7:Bool):Nat->Bool
 | 0=> !l0
 | 1=>l0&& !l1&& !l6&& !l3
 | 2=> !l2
 | 3=>l1&&l2&& !l3&& !l7
 | 4=> !l4&& !l6
 | 5=> !l5&& !l7
 | 6=>l4&&l1&&l3&&l5&& !l6
 | 7=>l6&&l5&&l3&& !l7
 | _=>false
def y8(l0 l1 l2 l3 l4 l5 l6 l7:Bool):Nat:=(!l0).toNat+(!l1).toNat+(!l2).toNat+(!l3).toNat+(!l4).toNat+(!l5).toNat+(!l6).toNat+(!l7).toNat
def okl(l1 l3 l4 l5 l6 l7:Bool):Bool:=(!l6 ||(l1&&l3&&l4&&l5))&&(!l7 ||l6)&&(!l3 ||l1)
theorem akd{k:Nat}(a1:0<=w.heap.size)(hn:c<=16777216)(hm:j<=16777216)(ax:c<=d)(aw:j<=l)(au:a=none->d=0)(av:A=none->l=0)
 (hX:eO w a n m c X)(hY:eO w A k i j Y)(ae:∀b,b<c->X b<4294967296)(af:∀b,b<j->Y b<4294967296)(pX:0<c->X (c-1)≠0)(pY:0<j->Y (j-1)≠0)(a0:Tab w)
 (h1:lv X c≠1)(h2:lv Y j≠1)(h3:2<c∨2<j):
 Cl 129 #[.slice a c d,.slice A j l] w fun e U=>∃v ak,e=.returned v/\gE U v ak (Nat.gcd (lv X c) (lv Y j)) 67108864/\w.heap.size<=ak/\w.S U:=by
 have d1:decide (lv X c=1)=false:=by simp[h1]
 have d2:decide (lv Y j=1)=false:=by simp[h2]
 have L:w.S ((w.alloc (.cells #[.slice a c d] 102)).alloc (.cells #[.slice A j l] 102)):=(fA _ _).alloc qz _;have M:((w.alloc (.cells #[.slice a c d] 102)).alloc (.cells #[.slice A j l] 102)).cell? (jj w.heap.size 0)=some (.slice a c d):=by rw[iE _ _ _ qz];simp[go_sem]
 have O:((w.alloc (.cells #[.slice a c d] 102)).alloc (.cells #[.slice A j l] 102)).cell? (jj (w.heap.size+1) 0)=some (.slice A j l):=by simp[go_sem]
 have zA:w.heap.size+2<=((w.alloc (.cells #[.slice a c d] 102)).alloc (.cells #[.slice A j l] 102)).heap.size:=by simp
 have P:=hX.aA L;have Q:=hY.aA L;go_enter func129,ntmps129;go_wp2_with fail;generalize (w.alloc _).alloc _=wA at*;have W:=jz M P ae pX;have N:=jz O Q af pY;rw[d1] at W;rw[d2] at N;refine W.mono ?_;clear W;rintro e V ⟨rfl,B⟩;rw[B];clear B;have N:=eI N;go_wp2_with fail;refine N.out.mono ?_;clear N;rintro e V ⟨rfl,B⟩;rw[B];clear B;clear d1 d2 h1 h2 hX hY;go_upto_region 3 with fail;go_cut [15] from 12 to 14 (fun ay I=>ay=.bool false/\I=wA)
 case first=>
  by_cases h4:2<c
  . go_wp2_with fail;refine mo (qC h4 M) fun V B=> ?_;rw[B];go_wp2;go_meet
    case rel=>exact⟨rfl,rfl⟩
  . go_wp2_with fail;refine mo (mj om M) fun V B=> ?_;rw[B];go_wp2_with fail;refine mo (qC om O) fun V B=> ?_;rw[B];go_wp2;go_meet
    case rel=>exact⟨rfl,rfl⟩
 case rest=>
  obtain⟨rfl,rfl⟩:=hcut;go_wp2;refine wp_region_any kr ?_;change wpAny _ _ _ _ _ _ _ (World.drew _);have M:wc.drew.cell? (jj w.heap.size 0)=some (.slice a c d):=M;have O:wc.drew.cell? (jj (w.heap.size+1) 0)=some (.slice A j l):=O;have P:eO wc.drew a n m c X:=P;have Q:eO wc.drew A k i j Y:=Q;have zA:w.heap.size+2<=wc.drew.heap.size:=zA;have L:w.S wc.drew:=⟨L.os,L.tape,L.output,L.size,L.block⟩;generalize wc.drew=wD at*
  refine zL (fun ab T R I=>∃r g s t f h p u G H C D E F,T= #[r,g,s,t,f,h,p,u]/\ab=y8 r g s t f h p u/\okl g t f h p u=true/\
   R={ tmps:= #[Value.slice a c d,Value.slice A j l,Value.pointer (some { block:=w.heap.size,off:=0 }),Value.pointer (some { block:=w.heap.size+1,off:=0 }),Value.n,G,H,
    Value.bool false,Value.bool false,Value.bool false,Value.bool false,undef,u12,u13,u14,Value.bool false,undef,undef,undef,undef,C,D,E,F,undef,undef],defers:=[] }/\
   J wD (.slice a c d) (.slice A j l) (iy (nz X) c) (iy (nz Y) j) X Y r g s t f h p u G H C D E F I) ?_ ?_ ?_ _ _ _ _ ⟨_,_,_,_,_,_,_,_,_,_,_,_,_,_,rfl,rfl,rfl,rfl,J.start _ _ _ _ _ _ _ _ _⟩
  . rintro ab T R I ⟨r,g,s,t,f,h,p,u,G,H,C,D,E,F,rfl,y,z,rfl,b⟩ S hi;have q:rdy r g s t f h p u S=true:=by
     revert S;refine tO.1 ?_;revert z;clear y b;revert r g s t f h p u;exact iD kr
    have k1:I.cell? (jj w.heap.size 0)=some (.slice a c d):=(by rw[b.S.cell (a:=jj w.heap.size 0) (by show w.heap.size<_;omega)];exact M);have k2:I.cell? (jj (w.heap.size+1) 0)=some (.slice A j l):=(by rw[b.S.cell (a:=jj (w.heap.size+1) 0) (by show w.heap.size+1<_;omega)];exact O);have kX:=P.aA b.S;have kY:=Q.aA b.S;clear hi;rcases S with _ | _ | _ | _ | _ | _ | _ | _ | S
    . simp[rdy] at q;subst q;refine⟨_,rfl,fun K x=> ?_⟩;go_simp;refine x _ _ ⟨true,g,s,t,f,h,p,u,G,H,_,D,E,F,rfl, ?_,z,rfl,b.op0⟩;simp[y8] at y⊢;omega
    . simp[rdy] at q;obtain⟨⟨⟨rfl,rfl⟩,rfl⟩,rfl⟩:=q;have e:=b.h0 rfl;subst e;refine⟨_,rfl,fun K x=> ?_⟩;go_simp;refine (ri om ax au kX).mono ?_;rintro e U ⟨v,rfl,o,ah⟩;refine x _ _ ⟨true,true,s,false,f,h,false,u,G,H,_,v,E,F,rfl, ?_, ?_,rfl,b.op1 ah (uU o).1 (uU o).2⟩
      . simp[y8] at y⊢;omega
      . simpa [okl] using z
    . simp[rdy] at q;subst q;refine⟨_,rfl,fun K x=> ?_⟩;go_simp;refine x _ _ ⟨r,g,true,t,f,h,p,u,G,H,C,D,_,F,rfl, ?_,z,rfl,b.op2⟩;simp[y8] at y⊢;omega
    . simp[rdy] at q;obtain⟨⟨⟨rfl,rfl⟩,rfl⟩,rfl⟩:=q;have e:=b.h2 rfl;subst e;refine⟨_,rfl,fun K x=> ?_⟩;go_simp;refine (ri om aw av kY).mono ?_;rintro e U ⟨v,rfl,o,ah⟩;refine x _ _ ⟨r,true,true,true,f,h,p,false,G,H,C,D,_,v,rfl, ?_, ?_,rfl,b.op3 ah (uU o).1 (uU o).2⟩
      . simp[y8] at y⊢;omega
      . revert z;cases p<;>cases f<;>cases h<;>decide
    . simp[rdy] at q;obtain⟨rfl,rfl⟩:=q;refine⟨_,rfl,fun K x=> ?_⟩;go_simp;refine x _ _ ⟨r,g,s,t,true,h,false,u,_,H,C,D,E,F,rfl, ?_, ?_,rfl,b.op4 102⟩
      . simp[y8] at y⊢;omega
      . simpa [okl] using z
    . simp[rdy] at q;obtain⟨rfl,rfl⟩:=q;refine⟨_,rfl,fun K x=> ?_⟩;go_simp;refine x _ _ ⟨r,g,s,t,f,true,p,false,G,_,C,D,E,F,rfl, ?_, ?_,rfl,b.op5 102⟩
      . simp[y8] at y⊢;omega
      . revert z;cases p<;>cases f<;>cases g<;>cases t<;>decide
    . simp[rdy] at q;obtain⟨⟨⟨⟨rfl,rfl⟩,rfl⟩,rfl⟩,rfl⟩:=q;obtain⟨aj,e5,c1,c2,c3⟩:=b.h4 rfl;obtain⟨xa,xg,xc,aa,-⟩:=sF (b.h1 rfl) b.B21 I.heap.size b.S.size zR;subst e5 aa;rw[aM qz] at c1;refine⟨_,rfl,fun K x=> ?_⟩;go_simp;refine x _ _ ⟨r,true,s,true,true,true,true,u,_,H,C,_,E,F,rfl, ?_, ?_,rfl,b.op6 rfl⟩
      . simp[y8] at y⊢;omega
      . simp[okl]
    . simp[rdy] at q;obtain⟨⟨⟨rfl,rfl⟩,rfl⟩,rfl⟩:=q;obtain⟨aj,e5,c1,c2,c3⟩:=b.h5 rfl;obtain⟨xa,xg,xc,aa,-⟩:=sF (b.h3 rfl) b.B23 I.heap.size b.S.size zR;subst e5 aa;rw[aM qz] at c1;refine⟨_,rfl,fun K x=> ?_⟩;go_simp;refine x _ _ ⟨r,g,s,true,f,true,true,true,G,_,C,D,E,_,rfl, ?_, ?_,rfl,b.op7 rfl⟩
      . simp[y8] at y⊢;omega
      . simpa [okl] using z
    . cases q
  . rintro T R I ⟨r,g,s,t,f,h,p,u,G,H,C,D,E,F,rfl,y,z,rfl,b⟩;revert y;clear z b;revert r g s t f h p u;exact iD kr
  . rintro ab T R I ⟨r,g,s,t,f,h,p,u,G,H,C,D,E,F,rfl,y,z,rfl,b⟩ he;have al:(r&&(g&&(s&&(t&&(f&&(h&&(p&&u)))))))=true:=by
     revert he;clear y b;revert z;revert r g s t f h p u;exact iD kr
    simp only[fT] at al;obtain⟨rfl,rfl,rfl,rfl,rfl,rfl,rfl,rfl⟩:=al;have a3:=jc (nz X) c;have a4:=jc (nz Y) j;obtain⟨aj,a2,gn,gm,an,am,cn,cm,rfl,rfl,ao⟩:=b.gd (fun ag hq=>ae ag om) (fun ag hq=>af ag om) (fun ad=>by have:=jh (nz X) c ad;simpa [nz] using this) (fun ad=>by have:=jh (nz Y) j ad;simpa [nz] using this);have HL:=eI (And.intro (mC X c) (mC Y j));have ar:Tab wD:=trivial;clear b he z y ae af pX pY;go_wp2_with fail;refine mo (adh om om om ao ar) fun w3⟨ra,rg,rk,rc,aq,z1,z2,z3,z4,z5,z6,z7,z8,z9,a5,az⟩=> ?_;have Z:=eI (And.intro z7 (And.intro z8 z9));clear z7 z8 z9;go_wp2_with fail;go_ret;refine⟨_,rg,rfl,⟨ra,rk,rc,aq,rfl,z2,z3,z4,z5,z6,Z.out.1,Z.out.2.1, ?_⟩,om,L.trans (sM az om)⟩;rw[Z.out.2.2,HL.out.1,HL.out.2]
theorem oo(w:World):gE (w.alloc (.cells #[.int .u32 1] 133)) (.s w.heap.size 1 1) w.heap.size 1 67108864:=by
 refine⟨_,1,1,fun _=>1,rfl,om,om,fun h=>(by cases h),fun j a=> ?_,fun _ o=>by simp[go_sem],fun _ _=>(by show 1<4294967296;omega),fun _=>by decide,by simp[lv]⟩;have e:j=0:=om;subst e;exact⟨rfl,by simp[go_sem]⟩
theorem dn{a A:Option Addr}{n m c d k i j l:Nat}{X Y:Nat->Nat}{w:World}(hw:0<=w.heap.size)(hn:c<=16777216)(hm:j<=16777216)(ad:c<=d)(ac:j<=l)(aa:a=none->d=0)(ab:A=none->l=0)
 (N:eO w a n m c X)(O:eO w A k i j Y)(t:∀r,r<c->X r<4294967296)(z:∀r,r<j->Y r<4294967296)(F:0<c->X (c-1)≠0)(M:0<j->Y (j-1)≠0)(Z:Tab w):
 Cl 129 #[.slice a c d,.slice A j l] w fun e U=>∃v g,e=.returned v/\gE U v g (Nat.gcd (lv X c) (lv Y j)) 67108864/\w.heap.size<=g/\w.S U:=by
 by_cases B:lv X c≠1/\lv Y j≠1/\(2<c∨2<j)
 . exact akd hw hn hm ad ac aa ab N O t z F M Z B.1 B.2.1 B.2.2
 have C:w.S ((w.alloc (.o #[.l a c d] 102)).alloc (.o #[.l A j l] 102)):=(fA _ _).alloc qz _;have u:((w.alloc (.o #[.l a c d] 102)).alloc (.o #[.l A j l] 102)).cell? (jj w.heap.size 0)=some (.l a c d):=by rw[iE _ _ _ qz];simp[go_sem]
 have E:((w.alloc (.o #[.l a c d] 102)).alloc (.o #[.l A j l] 102)).cell? (jj (w.heap.size+1) 0)=some (.l A j l):=by simp[go_sem]
 have zA:w.heap.size+2<=((w.alloc (.o #[.l a c d] 102)).alloc (.o #[.l A j l] 102)).heap.size:=by simp
 have D:=N.aA C;have G:=O.aA C;by_cases s:lv X c=1
 . have I:Nat.gcd (lv X c) (lv Y j)=1:=(by rw[s];exact Nat.gcd_one_left _);rw[I];have x:decide (lv X c=1)=true:=(by simp[s]);go_enter func129,ntmps129;go_wp2_with fail;generalize (w.alloc _).alloc _=q at*;have p:=jz u D t F;rw[x] at p;refine mo p fun f b=> ?_;rw[b];go_wp2;go_ret;exact⟨_,q.heap.size,rfl,oo q,om,C.alloc om _⟩
 by_cases y:lv Y j=1
 . have I:Nat.gcd (lv X c) (lv Y j)=1:=(by rw[y];exact Nat.gcd_one_right _);rw[I];have x:decide (lv X c=1)=false:=(by simp[s]);have H:decide (lv Y j=1)=true:=(by simp[y]);go_enter func129,ntmps129;go_wp2_with fail;generalize (w.alloc _).alloc _=q at*;have p:=jz u D t F;have o:=jz E G z M;rw[x] at p;rw[H] at o;refine mo p fun f b=> ?_;rw[b];have o:=eI o;go_wp2_with fail;refine mo o.out fun f b=> ?_;rw[b];go_wp2;go_ret;exact⟨_,q.heap.size,rfl,oo q,om,C.alloc om _⟩
 . have K:c<=2:=(jI 2 c).elim (fun h=>absurd ⟨s,y,Or.inl h⟩ B) id
   have L:j<=2:=(jI 2 j).elim (fun h=>absurd ⟨s,y,Or.inr h⟩ B) id
   have x:decide (lv X c=1)=false:=(by simp[s]);have H:decide (lv Y j=1)=false:=(by simp[y]);have vX:=sj K t;have T:=sj L z;have vG:Nat.gcd (lv X c) (lv Y j)<18446744073709551616:=by
    rcases cQ (lv X c) with e | e
    . rw[e,oQ];exact T
    . exact dD (rK _ e) vX
   go_enter func129,ntmps129;go_wp2_with fail;generalize (w.alloc _).alloc _=q at*;have p:=jz u D t F;have o:=jz E G z M;rw[x] at p;rw[H] at o;refine mo p fun f b=> ?_;rw[b];have o:=eI o;go_wp2_with fail;refine mo o.out fun f b=> ?_;rw[b];go_wp2_with fail;refine mo (mj K u) fun f b=> ?_;rw[b];go_wp2_with fail;refine mo (mj L E) fun f b=> ?_;rw[b];go_wp2_with fail;refine mo (qg K u D t) fun f b=> ?_;rw[b];go_wp2_with fail;refine mo (qg L E G z) fun f b=> ?_;rw[b];go_wp2_with fail;refine mo (tE vX T) fun f Q=> ?_;go_wp2_with fail;refine (qA vG).mono ?_;rintro e w2 ⟨S,rfl,P,l2,W,s2⟩;go_wp2_with fail;go_ret;have R:=jc (nz S) 2;have z1:=(Q.since q.heap.size).size;have V:=lI P;refine⟨_,f.heap.size,rfl,⟨_,_,_,S,rfl,R,om,fun h=>(by cases h),V.take R,fun _ ae=>P.frozen ae,fun r _=>l2 r,fun h=>by have:=jh (nz S) 2 h;simpa [nz] using this,by rw[mC];exact W⟩,om, ?_⟩;exact (C.trans (sM (Q.since q.heap.size) om)).trans (sM s2 om)
def jH(X:Nat->Nat)(n:Nat):Bool:=n==0 ||X (n-1) != 0
theorem ks:jH X n=true↔(0<n->X (n-1)≠0):=by
 unfold jH;rcases cQ n with h | h
 . simp[h]
 . have:n≠0:=om;simp[this,h]
theorem ou{a:Option Addr}{n m c d:Nat}{X:Nat->Nat}{w:World}(l:c<=16777216)(g:eO w a n m c X):
 Cl 147 #[.slice a c d] w fun e i=>e=.returned (.bool (jH X c))/\i=w:=by
 by_cases f:c=0
 . subst f;go_enter func147,ntmps147;go_wp2;go_ret;exact⟨rfl,rfl⟩
 . obtain⟨k,rfl⟩:∃k,c=k+1:=⟨c-1,om⟩;obtain⟨rfl,j⟩:=g k om;have b:Ending.returned (.bool ((k:Int)+1==0 ||(X k:Int) != 0))=.returned (.bool (jH X (k+1))):=by
    have h:((k:Int)+1==0 ||(X k:Int) != 0)=jH X (k+1):=(by rw[gG];simp[jH];omega);rw[h]
   have b:=eI b;go_enter func147,ntmps147;go_wp2;go_ret;exact⟨b.out,rfl⟩
theorem aaC{a:Option Addr}{n m c d:Nat}{X:Nat->Nat}{w:World}(l:c<=16777216)(g:eO w a n m c X):
 Cl 128 #[.slice a c d] w fun e i=>e=.returned (.bool (jH X c))/\i=w:=by
 by_cases f:c=0
 . subst f;go_enter func128,ntmps128;go_wp2;go_ret;exact⟨rfl,rfl⟩
 . obtain⟨k,rfl⟩:∃k,c=k+1:=⟨c-1,om⟩;obtain⟨rfl,j⟩:=g k om;have b:Ending.returned (.bool ((k:Int)+1==0 ||(X k:Int) != 0))=.returned (.bool (jH X (k+1))):=by
    have h:((k:Int)+1==0 ||(X k:Int) != 0)=jH X (k+1):=(by rw[gG];simp[jH];omega);rw[h]
   have b:=eI b;go_enter func128,ntmps128;go_wp2;go_ret;exact⟨b.out,rfl⟩
theorem im{a:Option Addr}{n m c d:Nat}{X:Nat->Nat}{w:World}(l:c<=1)(f:eO w a n m c X)(g:∀j,j<c->X j<4294967296):
 Cl 150 #[.slice a c d] w fun e k=>e=.returned (.int .u64 (lv X c:Nat))/\k=w:=by
 by_cases b:c=0
 . subst b;go_enter func150,ntmps150;go_wp2;go_ret;exact⟨rfl,rfl⟩
 . have e:c=1:=om;subst e;obtain⟨rfl,h⟩:=f 0 om;have hl:=g 0 om;rw[fV] at h;have i:lv X 1=X 0:=(by simp[lv]);rw[i];go_enter func150,ntmps150;go_wp2;go_ret;exact⟨rfl,rfl⟩
theorem vk{n m:Nat}{w:World}(g:n<18446744073709551616)(i:m<18446744073709551616):
 Cl 149 #[.int .u64 n,.int .u64 m] w fun e j=>e=.returned (.int .u64 (Nat.gcd n m))/\j=w:=by
 go_enter func149,ntmps149;go_wp2;go_loopw [0,1] (fun p q wr=>∃s t:Nat,p=.int .u64 s/\q=.int .u64 t/\s<18446744073709551616/\t<18446744073709551616/\Hid (Nat.gcd s t=Nat.gcd n m)/\wr=w) (fun _ q _=>(intOf q).toNat)
 case atStart=>exact⟨n,m,rfl,rfl,g,i,rfl,rfl⟩
 case round=>
  obtain⟨s,t,rfl,rfl,v,f,b,rfl⟩:=hrel;by_cases d:t=0
  . subst d;go_wp2;go_ret;exact⟨jq (congrArg (fun n:Nat=>(n:Int)) (by have:=b.out;rwa[rR] at this)),rfl⟩
  . have k:((t:Int)==0)=false:=(by simp;omega);have l:¬(t:Int)=0:=om;obtain⟨r,a⟩:∃r,r=s % t:=⟨_,rfl⟩;have u:r<t:=(by rw[a];exact iS _ om);have o:IntKind.u64.wrap ((s:Int) % (t:Int))=(r:Int):=(by rw[<-lK,<-a];exact gv r om);have c:=eI a;go_wp2;go_roundw
    case rel=>
     refine⟨t,r,rfl, ?_,f,om, ?_,by trivial⟩
     . first | rfl | exact congrArg (Value.int .u64) (by rw[c.out,lK])
     . have h:=b.out;rw[jN,Nat.gcd_rec,<-c.out,jN] at h;exact h
    case measure=>simp[intOf];have:=Int.emod_lt_of_pos (s:Int) (show (0:Int)<t by omega);omega
def gu(neg:Bool)(X:Nat->Nat)(n:Nat)(Y:Nat->Nat)(m:Nat):Bool:=
 jH X n&&jH Y m&&m != 0&& !(neg&&n==0)&&Nat.gcd (lv X n) (lv Y m)==1
theorem acX{f:Bool}{a A:Option Addr}{n m c d k i j l:Nat}{X Y:Nat->Nat}{w:World}(ad:0<=w.heap.size)(O:c<=16777216)(N:j<=16777216)(aa:c<=d)(W:j<=l)(T:a=none->d=0)(U:A=none->l=0)
 (K:eO w a n m c X)(M:eO w A k i j Y)(R:∀v,v<c->X v<4294967296)(S:∀v,v<j->Y v<4294967296)(ac:Tab w):
 Cl 90 #[.agg #[.bool f,.slice a c d,.slice A j l]] w fun e w'=>e=.returned (.bool (gu f X c Y j))/\w.S w':=by
 have h:=fA w (.o #[.bool f,.l a c d,.l A j l] 70);have o:=@aaC a n m c d X _ O (K.aA h);have q:=@aaC A k i j l Y _ N (M.aA h);by_cases s:jH X c=false
 . have b:=eI (show false=gu f X c Y j by simp[gu,s]);rw[s] at o;go_enter func90,ntmps90;go_wp2_with fail;refine o.mono ?_;rintro e u ⟨rfl,rfl⟩;go_wp2;go_ret;exact⟨jr b.out,h⟩
 have s:jH X c=true:=by simpa using s
 rw[s] at o;by_cases t:jH Y j=false
 . have b:=eI (show false=gu f X c Y j by simp[gu,t]);rw[t] at q;go_enter func90,ntmps90;go_wp2_with fail;refine o.mono ?_;rintro e u ⟨rfl,rfl⟩;go_wp2_with fail;refine q.mono ?_;rintro e u ⟨rfl,rfl⟩;go_wp2;go_ret;exact⟨jr b.out,h⟩
 have t:jH Y j=true:=by simpa using t
 rw[t] at q;have pX:=eI (ks.1 s);have pY:=eI (ks.1 t);by_cases D:j=0
 . have b:=eI (show false=gu f X c Y j by simp[gu,D]);subst D;go_enter func90,ntmps90;go_wp2_with fail;refine o.mono ?_;rintro e u ⟨rfl,rfl⟩;go_wp2_with fail;refine q.mono ?_;rintro e u ⟨rfl,rfl⟩;go_wp2;go_ret;exact⟨jr b.out,h⟩
 have q3:((j:Int)==0)=false:=by simp;omega
 by_cases z:f=true/\c=0
 . obtain⟨rfl,rfl⟩:=z;have b:=eI (show false=gu true X 0 Y j by simp[gu]);go_enter func90,ntmps90;go_wp2_with fail;refine o.mono ?_;rintro e u ⟨rfl,rfl⟩;go_wp2_with fail;refine q.mono ?_;rintro e u ⟨rfl,rfl⟩;go_wp2;go_ret;exact⟨jr b.out,h⟩
 have b:=eI (show (decide (Nat.gcd (lv X c) (lv Y j)=1))=gu f X c Y j by
  have r:(j != 0)=true:=by simp[D]
  have Q:(f&&c==0)=false:=by cases f<;>simp at z⊢;exact z
  rw[gG];simp[gu,s,t,r,Q])
 have P:(f&&(c:Int)==0)=false:=by
  cases f
  . rfl
  . simp at z⊢;omega
 have tA:=trivial;have y:=dn (aJ _) O N aa W T U (K.aA h) (M.aA h) R S pX.out pY.out tA;go_enter func90,ntmps90;go_wp2_with fail;refine o.mono ?_;rintro e u ⟨rfl,rfl⟩;go_wp2_with fail;refine mp q ?_;cases f
 . clear P;go_wp2_with fail;refine y.mono ?_;rintro e I ⟨ab,g,rfl,⟨B,G,C,Z,rfl,k1,k2,k3,L,F,H,p,r⟩,V,x⟩;have E:=eI r;clear r o q y;go_wp2_with fail;refine (@jz I.heap.size 0 B g 0 G C Z _ (by simp[go_sem]) (L.aA (fA _ _)) H p).mono ?_;rintro e w4 ⟨rfl,rfl⟩;go_wp2;go_ret;exact⟨jr (by rw[E.out];exact b.out),(h.trans (sM x qz)).alloc (aU qz x.size) _⟩
 . have q5:((c:Int)==0)=false:=(by simpa using P);go_wp2_with fail;refine y.mono ?_;rintro e I ⟨ab,g,rfl,⟨B,G,C,Z,rfl,k1,k2,k3,L,F,H,p,r⟩,V,x⟩;have E:=eI r;clear r o q y;go_wp2_with fail;refine mp (@jz I.heap.size 0 B g 0 G C Z _ (by simp[go_sem]) (L.aA (fA _ _)) H p) ?_;go_wp2;go_ret;exact⟨jr (by rw[E.out];exact b.out),(h.trans (sM x qz)).alloc (aU qz x.size) _⟩
def nb(v j:Nat):Bool:=v/2^j % 2==1
theorem aqi(n m:Nat):bv (nb n) m=n % 2^m:=by
 induction m with
 | zero=>simp[bv,rX]
 | succ m ih=>
   have h:bv (nb n) (m+1)=bv (nb n) m+(nb n m).toNat*2^m:=rfl;rw[h,ih];unfold nb;rw[zQ,iH,Nat.mod_mul,cJ (2^m)]
theorem li{n:Nat}{w:World}(r:n<18446744073709551616):
 Cl 66 #[.int .u64 n] w fun e S=>∃x t B,e=.returned x/\t<=64/\Tr S x t B/\bv B t=n/\w.S S:=by
 obtain⟨M,E,I,K,L⟩:=kT wY;go_enter func66,ntmps66;go_wp2;go_loopw [0,3] (fun p o wr=>∃k q:Nat,k<=64/\p=.int .u64 q/\q<18446744073709551616/\Hid (q=n/2^k)/\Hid (0<k->0<n/2^(k-1))/\wr.ownsRow w.heap.size 4 1 o k (bl (nb n) k)/\w.S wr) (fun p _ _=>(intOf p).toNat)
 case atStart=>exact⟨0,n,om,rfl,r,eI qz,eI (fun h=>absurd h om),iP w #[] 0 zR qd rfl,fA _ _⟩
 case round=>
  obtain⟨k,q,c,rfl,P,a,u,d,b⟩:=hrel;by_cases f:q=0
  . subst f;obtain⟨y,g,z,rfl,F,N,C⟩:=aft d;go_wp2;go_ret;have m:n<2^k:=by
     have:=a.out;have i:0<2^k:=fX om;rcases jI n (2^k) with h | h
     . exact h
     . have:=tS h i;omega
    refine⟨_,k,nb n,rfl,c,⟨y,g,0,z,rfl,F,C,fun h=> ?_⟩,(aqi n k).trans (iC m),b⟩;have A:=u.out h;obtain⟨j,rfl⟩:∃j,k=j+1:=⟨k-1,om⟩;have i:n/2^j<2:=(by rw[gJ (fX om)];rw[iH] at m;omega);simp only[cF] at A⊢;unfold nb;rw[show n/2^j=1 by omega];rfl
  . have O:k<64:=by
     rcases jI k 64 with h | h
     . exact h
     . have e:k=64:=om;subst e;have:=a.out;rw[iI r] at this;omega
    have G:0<q:=om;have l:((q:Int) % 2==1)=nb n k:=(by rw[gG];simp only[nb,jJ,<-a.out];omega);have s:=eI l;clear l f;go_wp2_with (at_builtin;refine gK _ rfl _ _ 108 rfl w.heap.size 4 M (.bool false) 1 1 underlying108 E I K L rfl qd _ _ _ rfl (d.alloc _) (jj wr.heap.size 0) 1 1 [.bool ((q:Int) % 2==1)] rfl rfl (iq _ _ _) (one_one _ rfl) (by unfold maxLen;omega) om (by have:=b.size;simp;omega) ?_);intro Q R v D _;have H:=(b.alloc b.size _).grown D (by have:=b.size;simp;omega) (fun k c=>(d.lt k c).1);rw[s.out,<-er] at v;go_wp2;go_roundw
    case rel=>exact⟨k+1,q/2,om,by go_num,om,eI (by rw[a.out,mU,iH]),eI (fun _=>by rw[cF,<-a.out];exact G),v,H⟩
    case measure=>exact yI
def jo(X:Nat->Nat)(n:Nat)(Y:Nat->Nat)(m:Nat):Bool:=decide (n<=1/\m<=1/\lv X n<2147483648/\lv Y m<2147483648)
theorem nL:jo X n Y m=true↔n<=1/\m<=1/\lv X n<2147483648/\lv Y m<2147483648:=by unfold jo;exact jU
theorem abH(h:¬(n<=1/\m<=1/\lv X n<2147483648/\lv Y m<2147483648)):false=jo X n Y m:=by
 cases e:jo X n Y m
 . rfl
 . exact absurd (nL.1 e) h
theorem jk{f:Bool}{a A:Option Addr}{n m c d k i j l:Nat}{X Y:Nat->Nat}{w:World}(F:c<=16777216)(E:j<=16777216)
 (p:eO w a n m c X)(r:eO w A k i j Y)(q:∀h,h<c->X h<4294967296)(s:∀h,h<j->Y h<4294967296):
 Cl 148 #[.agg #[.bool f,.slice a c d,.slice A j l]] w fun e G=>e=.returned (.bool (jo X c Y j))/\w.S G:=by
 have g:=fA w (.o #[.bool f,.l a c d,.l A j l] 70);by_cases C:1<c
 . have b:=eI (abH (X:=X) (Y:=Y) (n:=c) (m:=j) om);go_enter func148,ntmps148;go_wp2;go_ret;exact⟨jr b.out,g⟩
 by_cases D:1<j
 . have b:=eI (abH (X:=X) (Y:=Y) (n:=c) (m:=j) om);go_enter func148,ntmps148;go_wp2;go_ret;exact⟨jr b.out,g⟩
 have v:=@im a n m c d X _ om (p.aA g) q;have z:=@im A k i j l Y _ om (r.aA g) s;have C:c<=1:=om;have D:j<=1:=om;obtain⟨x,t⟩:∃x:Int,x=((lv X c:Nat):Int):=⟨_,rfl⟩;obtain⟨y,u⟩:∃y:Int,y=((lv Y j:Nat):Int):=⟨_,rfl⟩;rw[<-t] at v;rw[<-u] at z;have b:Hid ((decide (x<2147483648)&&decide (y<2147483648))=jo X c Y j):=by show _=_;rw[gG,fT,jU,jU,nL];omega
 clear p r q s t u;by_cases o:x<2147483648
 . have b:Hid (decide (y<2147483648)=jo X c Y j):=(by rw[<-b.out];simp[Hid,o]);go_enter func148,ntmps148;go_wp2_with fail;refine v.mono ?_;rintro e B ⟨rfl,rfl⟩;go_wp2_with fail;refine z.mono ?_;rintro e B ⟨rfl,rfl⟩;go_wp2;go_ret;exact⟨jr b.out,g⟩
 . have b:Hid (false=jo X c Y j):=(by rw[<-b.out];simp[Hid,o]);go_enter func148,ntmps148;go_wp2_with fail;refine mp v ?_;go_wp2;go_ret;exact⟨jr b.out,g⟩
theorem cB(w:World)(u U z:Value)(t:TypeId):(w.alloc (.cells #[u,U,z] t)).cell? (jj w.heap.size 0)=some u/\(w.alloc (.cells #[u,U,z] t)).cell? (jj w.heap.size 1)=some U/\(w.alloc (.cells #[u,U,z] t)).cell? (jj w.heap.size 2)=some z:=by
 simp[go_sem]
theorem amu(n:Nat):(lq n 1==0)=decide (n=1):=by
 rw[gG];simp only[jJ,mG];constructor
 . intro h;rcases kD n 1 with a | a | a
   . rw[uh a] at h;cases h
   . exact a
   . rw[yU a] at h;cases h
 . intro h;exact ep h
theorem afn{p:Prop}(h:p:=by
 go_wp2_with fail;refine mo I3 fun w1 s1=> ?_;clear I3;have zA:w.heap.size<wA.heap.size:=aG _ _ c0;have d1:w1.cell? (jj w.heap.size 1)=some (.l a n ca):=(s1.cell (a:=jj w.heap.size 1) zA).trans c1;have d2:w1.cell? (jj w.heap.size 2)=some (.l b m cb):=(s1.cell (a:=jj w.heap.size 2) zA).trans c2;have S1:w.S w1.drew:=by have h:=sA.trans (sM s1 sA.size);exact⟨h.os,h.tape,h.output,h.size,h.block⟩
 have z1:w.heap.size<w1.drew.heap.size:=aS zA s1.size;have X0:=XA.aA s1;have Y0:=YA.aA s1;have X1:eO w1.drew a ba oa n X:=X0;have Y1:eO w1.drew b bb ob m Y:=Y0;have XL:=eI hXl;have YL:=eI hYl;clear hXl hYl XA YA s1 c0 c1 c2 X0 Y0;go_wp2;have J1:=@im a ba oa n ca X w1.drew y1 X1 XL.out;have J2:=@im b bb ob m cb Y w1.drew y2 Y1 YL.out;have J3:=@vk (lv X n) (lv Y m) w1.drew V.out.1 V.out.2;clear V XL YL X1 Y1;obtain⟨gg,hgg⟩:∃gg,gg=Nat.gcd (lv X n) (lv Y m):=⟨_,rfl⟩;obtain⟨xx,hxx⟩:∃xx,xx=lv X n:=⟨_,rfl⟩;obtain⟨yy,hyy⟩:∃yy,yy=lv Y m:=⟨_,rfl⟩;have HR:=eI ((show decide (gg=1)=decide (Nat.gcd (lv X n) (lv Y m)=1) by rw[hgg]).trans HR.out);rw[<-hgg,<-hxx,<-hyy] at J3;rw[<-hxx] at J1;rw[<-hyy] at J2;clear hgg hxx hyy
 go_region_held3 (fun w'=>w'.cell? (jj w.heap.size 1)=some (.l a n ca)/\w'.cell? (jj w.heap.size 2)=some (.l b m cb)) (go_keep)
  (first | (go_at_call 149;with_reducible refine J3.mono ?_;rintro e w' ⟨rfl,rfl⟩) | (go_at_call 150;first | (with_reducible refine J1.mono ?_;rintro e w' ⟨rfl,rfl⟩) | (with_reducible refine mp J2 ?_)))
 all_goals go_wp2
 all_goals go_ret
 all_goals exact⟨jr (by rw[<-HR.out,gG];simp only[jJ,mG];omega),S1⟩):p:=h
theorem aaM{b:Option Addr}{ba oa n ca bb ob m cb:Nat}(s:n<=16777216)(r:m<=16777216)
 (l:eO w a ba oa n X)(o:eO w b bb ob m Y)(hXl:∀j,j<n->X j<4294967296)(hYl:∀j,j<m->Y j<4294967296)(i:jH X n=true)(k:jH Y m=true)(A:¬m=0)(d:¬(n=0/\f=true))(q:jo X n Y m=true):
 Cl 105 #[.agg #[.bool f,.slice a n ca,.slice b m cb]] w fun e w'=>e=.returned (.bool (gu f X n Y m))/\w.S w':=by
 have sA:=fA w (.o #[.bool f,.l a n ca,.l b m cb] 70);have c:=@ou a ba oa n ca X _ s (l.aA sA);have g:=@ou b bb ob m cb Y _ r (o.aA sA);rw[i] at c;rw[k] at g;have E:((m:Int)==0)=false:=by simp;omega
 have HR:=eI (show (decide (Nat.gcd (lv X n) (lv Y m)=1))=gu f X n Y m by
  have y:(m != 0)=true:=by simp[A]
  have z:(f&&n==0)=false:=by cases f<;>simp at d⊢;exact d
  rw[gG];simp[gu,i,k,y,z])
 obtain⟨c0,c1,c2⟩:=cB w (.bool f) (.l a n ca) (.l b m cb) 70;have I3:=@jk f a b ba oa n ca bb ob m cb X Y _ s r (l.aA sA) (o.aA sA) hXl hYl;have v:Hid (n=0->f=false):=fun h=>by cases f;rfl;exact absurd ⟨h,rfl⟩ d
 clear i k d;have XA:=l.aA sA;have YA:=o.aA sA;obtain⟨y1,y2,C,D⟩:=nL.1 q;have t:lv X n<18446744073709551616:=om;have u:lv Y m<18446744073709551616:=om;have V:=eI (And.intro t u);rw[q] at I3;clear q C D t u;go_enter func105,ntmps105;go_wp2_with fail;refine c.mono ?_;rintro e w1 ⟨rfl,rfl⟩;go_wp2_with fail;refine mp g ?_;clear c g;generalize w.alloc _=wA at*;obtain⟨x,B⟩:∃b,((n:Int)==0)=b:=⟨_,rfl⟩;cases x
 . exact afn
 . obtain rfl:f=false:=v.out (by simpa using B);exact afn
theorem akJ{p:Prop}(h:p:=by
 go_wp2_with fail;refine mo I3 fun w1 s1=> ?_;clear I3;have zA:w.heap.size<wA.heap.size:=aG _ _ c0;have d1:w1.cell? (jj w.heap.size 1)=some (.l a n ca):=(s1.cell (a:=jj w.heap.size 1) zA).trans c1;have d2:w1.cell? (jj w.heap.size 2)=some (.l b m cb):=(s1.cell (a:=jj w.heap.size 2) zA).trans c2;have S1:w.S w1.drew:=by have h:=sA.trans (sM s1 sA.size);exact⟨h.os,h.tape,h.output,h.size,h.block⟩
 have z1:w.heap.size<w1.drew.heap.size:=aS zA s1.size;have X0:=XA.aA s1;have Y0:=YA.aA s1;have X1:eO w1.drew a ba oa n X:=X0;have Y1:eO w1.drew b bb ob m Y:=Y0;have XL:=eI hXl;have YL:=eI hYl;clear hXl hYl XA YA s1 c0 c1 c2 X0 Y0;go_wp2;have J1:=@i8 a ba oa n ca X w1.drew om X1 XL.out
 go_region_held3 (fun w'=>w'.cell? (jj w.heap.size 1)=some (.l a n ca)/\w'.cell? (jj w.heap.size 2)=some (.l b m cb)) (go_keep)
  (first
    | (go_at_call 101
       first
        | (with_reducible refine J1.mono ?_
           rintro e w2 ⟨a1,g1,m1,t1,B1,rfl,k1,k2,L1,-,p1,e1,s2⟩;have T1:Tr w2 (.l a1 m1 t1) m1 B1:=⟨a1,g1,0,t1,rfl,k1,L1,p1⟩;have E1:=eI e1;clear L1 p1 e1;have z2:=s2.size;have J2:=@i8 b bb ob m cb Y w2 om (Y1.aA s2) YL.out;have f1:w2.cell? (jj w.heap.size 1)=some (.l a n ca):=(s2.cell (a:=jj w.heap.size 1) z1).trans d1;have f2:w2.cell? (jj w.heap.size 2)=some (.l b m cb):=(s2.cell (a:=jj w.heap.size 2) z1).trans d2)
        | (with_reducible refine J2.mono ?_
           rintro e w3 ⟨a2,g2,m2,t2,B2,rfl,q1,q2,L2,-,p2,e2,s3⟩;have T2:Tr w3 (.l a2 m2 t2) m2 B2:=⟨a2,g2,0,t2,rfl,q1,L2,p2⟩;have E2:=eI e2;clear L2 p2 e2;have T1':=T1.aA s3;have J3:=@wU _ _ m1 m2 B1 B2 w3 om om T1' T2;have S3:=(S1.trans (sM s2 S1.size)).trans (sM s3 (aU S1.size s2.size));have f3:w3.cell? (jj w.heap.size 1)=some (.l a n ca):=(s3.cell (a:=jj w.heap.size 1) (aS z1 z2)).trans f1;have f4:w3.cell? (jj w.heap.size 2)=some (.l b m cb):=(s3.cell (a:=jj w.heap.size 2) (aS z1 z2)).trans f2;have z3:=s3.size))
    | (go_at_call 144;(with_reducible refine J3.mono ?_);rintro e w4 ⟨v,t,O,rfl,ht,T3,e3,s4⟩;have E3:=eI e3;have J4:Cl 66 #[.int .u64 1] w4 _:=@li 1 w4 om;clear e3;have f5:w4.cell? (jj w.heap.size 1)=some (.l a n ca):=(s4.cell (a:=jj w.heap.size 1) (aS z1 (aU z2 z3))).trans f3;have f6:w4.cell? (jj w.heap.size 2)=some (.l b m cb):=(s4.cell (a:=jj w.heap.size 2) (aS z1 (aU z2 z3))).trans f4;have z4:=s4.size)
    | (go_at_call 66;(with_reducible refine J4.mono ?_);rintro e w5 ⟨x,t5,B5,rfl,ht5,T5,e5,s5⟩;have E5:=eI e5;clear e5;obtain⟨a3,b3,o3,c3,rfl,-,L3,p3⟩:=T3.aA s5;obtain⟨a5,b5,o5,c5,rfl,-,L5,p5⟩:=T5;have S5:=(S3.trans (sM s4 S3.size)).trans (sM s5 (aU S3.size s4.size));have f7:w5.cell? (jj w.heap.size 1)=some (.l a n ca):=(s5.cell (a:=jj w.heap.size 1) (aS z1 (aU (aU z2 z3) z4))).trans f5;have f8:w5.cell? (jj w.heap.size 2)=some (.l b m cb):=(s5.cell (a:=jj w.heap.size 2) (aS z1 (aU (aU z2 z3) z4))).trans f6;have J:=@pp a3 a5 b3 o3 t c3 b5 o5 t5 c5 O B5 w5 om om L3 L5 p3 p5;rw[E5.out,E3.out,E1.out,E2.out] at J;clear T3 L3 L5 p3 p5)
    | (go_at_call 151;with_reducible refine mo J fun w6 s6=> ?_;have f9:w6.cell? (jj w.heap.size 1)=some (.l a n ca):=(by rw[s6.cell];exact f7);have f10:w6.cell? (jj w.heap.size 2)=some (.l b m cb):=by rw[s6.cell];exact f8))
 all_goals go_wp2
 all_goals go_ret
 all_goals exact⟨jr ((amu (Nat.gcd (lv X n) (lv Y m))).trans HR.out),S5.trans (s6.since _)⟩):p:=h
theorem acH{b:Option Addr}{ba oa n ca bb ob m cb:Nat}(r:n<=16777216)(q:m<=16777216)
 (l:eO w a ba oa n X)(o:eO w b bb ob m Y)(hXl:∀j,j<n->X j<4294967296)(hYl:∀j,j<m->Y j<4294967296)(i:jH X n=true)(k:jH Y m=true)(A:¬m=0)(d:¬(n=0/\f=true))(s:¬jo X n Y m=true):
 Cl 105 #[.agg #[.bool f,.slice a n ca,.slice b m cb]] w fun e w'=>e=.returned (.bool (gu f X n Y m))/\w.S w':=by
 have sA:=fA w (.o #[.bool f,.l a n ca,.l b m cb] 70);have c:=@ou a ba oa n ca X _ r (l.aA sA);have g:=@ou b bb ob m cb Y _ q (o.aA sA);rw[i] at c;rw[k] at g;have C:((m:Int)==0)=false:=by simp;omega
 have HR:=eI (show (decide (Nat.gcd (lv X n) (lv Y m)=1))=gu f X n Y m by
  have e3:(m != 0)=true:=by simp[A]
  have z:(f&&n==0)=false:=by cases f<;>simp at d⊢;exact d
  rw[gG];simp[gu,i,k,e3,z])
 obtain⟨c0,c1,c2⟩:=cB w (.bool f) (.l a n ca) (.l b m cb) 70;have I3:=@jk f a b ba oa n ca bb ob m cb X Y _ r q (l.aA sA) (o.aA sA) hXl hYl;have u:Hid (n=0->f=false):=fun h=>by cases f;rfl;exact absurd ⟨h,rfl⟩ d
 clear i k d;have XA:=l.aA sA;have YA:=o.aA sA;rw[show jo X n Y m=false by simpa using s] at I3;clear s;go_enter func105,ntmps105;go_wp2_with fail;refine c.mono ?_;rintro e w1 ⟨rfl,rfl⟩;go_wp2_with fail;refine mp g ?_;clear c g;generalize w.alloc _=wA at*;obtain⟨y,B⟩:∃b,((n:Int)==0)=b:=⟨_,rfl⟩;cases y
 . exact akJ
 . obtain rfl:f=false:=u.out (by simpa using B);exact akJ
theorem acI{f:Bool}{a A:Option Addr}{n m c d k i j l:Nat}{X Y:Nat->Nat}{w:World}(u:c<=16777216)(z:j<=16777216)
 (x:eO w a n m c X)(y:eO w A k i j Y)(B:∀r,r<c->X r<4294967296)(C:∀r,r<j->Y r<4294967296):
 Cl 105 #[.agg #[.bool f,.slice a c d,.slice A j l]] w fun e F=>e=.returned (.bool (gu f X c Y j))/\w.S F:=by
 have p:=fA w (.o #[.bool f,.l a c d,.l A j l] 70);have h:=@ou a n m c d X _ u (x.aA p);have t:=@ou A k i j l Y _ z (y.aA p);by_cases b:jH X c=false
 . have g:=eI (show false=gu f X c Y j by simp[gu,b]);rw[b] at h;clear b;go_enter func105,ntmps105;go_wp2_with fail;refine h.mono ?_;rintro e q ⟨rfl,rfl⟩;go_wp2;go_ret;exact⟨jr g.out,p⟩
 have b:jH X c=true:=by simpa using b
 rw[b] at h;by_cases o:jH Y j=false
 . have g:=eI (show false=gu f X c Y j by simp[gu,o]);rw[o] at t;clear b o;go_enter func105,ntmps105;go_wp2_with fail;refine h.mono ?_;rintro e q ⟨rfl,rfl⟩;go_wp2_with fail;refine t.mono ?_;rintro e q ⟨rfl,rfl⟩;go_wp2;go_ret;exact⟨jr g.out,p⟩
 have o:jH Y j=true:=by simpa using o
 rw[o] at t;by_cases s:j=0
 . have g:=eI (show false=gu f X c Y j by simp[gu,s]);clear b o;subst s;go_enter func105,ntmps105;go_wp2_with fail;refine h.mono ?_;rintro e q ⟨rfl,rfl⟩;go_wp2_with fail;refine t.mono ?_;rintro e q ⟨rfl,rfl⟩;go_wp2;go_ret;exact⟨jr g.out,p⟩
 have E:((j:Int)==0)=false:=by simp;omega
 by_cases v:c=0/\f=true
 . obtain⟨rfl,rfl⟩:=v;have g:=eI (show false=gu true X 0 Y j by simp[gu]);clear b o;go_enter func105,ntmps105;go_wp2_with fail;refine h.mono ?_;rintro e q ⟨rfl,rfl⟩;go_wp2_with fail;refine mp t ?_;go_wp2;go_ret;exact⟨jr g.out,p⟩
 by_cases D:jo X c Y j=true
 . exact aaM u z x y B C b o s v D
 . exact acH u z x y B C b o s v D
def jM(w:World)(v:Value)(neg:Bool)(N D B M:Nat):Prop:=
 ∃v1 v2 g h,v=.agg #[.bool neg,v1,v2]/\gE w v1 g N M/\gE w v2 h D M/\B<=g/\B<=h/\g≠h
theorem ad7(w:World)(n m:Nat):gE w (.n) n 0 m:=
 ⟨none,0,0,fun _=>0,rfl,aC _,aJ _,fun _=>rfl,fun j a=>absurd a om,fun h=>absurd h om,fun j a=>absurd a om,fun h=>absurd h om,rfl⟩
theorem afz(w:World)(a:Addr)(n m c:Nat):gE w (.slice (some a) 0 n) m 0 c:=
 ⟨some a,0,n,fun _=>0,rfl,aJ _,aJ _,fun h=>(by cases h),fun j b=>absurd b om,fun h=>absurd h om,fun j b=>absurd b om,fun h=>absurd h om,rfl⟩
theorem gE.aA{w w':World}(h:gE w u n m c)(s:w.S w'):gE w' u n m c:=by
 obtain⟨a,q,d,Y,e,f,i,j,g,k,l,r,p⟩:=h;exact⟨a,q,d,Y,e,f,i,j,g.aA s,fun b o=>by rw[s.frozen (a:=jj n o) (g.lt b)];exact k b o,l,r,p⟩
theorem gE.marked(h:gE w u n m c)(s:eM w v d)(b:n≠d):gE v u n m c:=by
 obtain⟨a,t,g,Y,f,i,j,k,l,x,p,q,r⟩:=h;exact⟨a,t,g,Y,f,i,j,k,l.marked s (fun _=>b),fun e o=>by rw[s.bU (a:=jj n o) b];exact x e o,p,q,r⟩
theorem gE.more(h:gE w u n m c)(i:c<=d):gE w u n m d:=by
 obtain⟨a,k,b,Y,g,j,e,f⟩:=h;exact⟨a,k,b,Y,g,j,aU e i,f⟩
theorem pv{w:World}:Cl 171 #[] w fun e d=>∃v,e=.returned v/\jM d v false 0 1 w.heap.size 67108864/\w.S d:=by
 have c:w.S ((w.alloc (.o #[.bool false,.n,.s (w.heap.size+1) 1 1] 70)).alloc (.o #[.int .u32 1] 133)):=(fA _ _).alloc qz _;have b:eS ((w.alloc (.o #[.bool false,.n,.s (w.heap.size+1) 1 1] 70)).alloc (.o #[.int .u32 1] 133)) w.heap.size (.bool false) (.n) (.s (w.heap.size+1) 1 1):=
  (eS.new w _ _ _ _).aA (fA _ _)
 have a:=oo (w.alloc (.o #[.bool false,.n,.s (w.heap.size+1) 1 1] 70));rw[show (w.alloc (.o #[.bool false,.n,.s (w.heap.size+1) 1 1] 70)).heap.size=w.heap.size+1 by simp] at a;go_enter func171,ntmps171;go_wp2;refine bO (qi rfl _ _ _ _ _ _ rfl b) rfl ?_;exact⟨_,rfl,⟨_,_,w.heap.size+2,w.heap.size+1,rfl,ad7 _ _ _,a,om,om,om⟩,c⟩
theorem kv{w:World}:Cl 102 #[] w fun e d=>∃v,e=.returned v/\jM d v false 0 1 w.heap.size 67108864/\w.S d:=by
 have c:w.S (((w.alloc (.o #[.bool false,.s (w.heap.size+1) 0 0,.s (w.heap.size+1+1) 1 1] 70)).alloc (.o #[] 133)).alloc (.o #[.int .u32 1] 133)):=
  ((fA _ _).alloc qz _).alloc (by simp;omega) _
 have b:eS (((w.alloc (.o #[.bool false,.s (w.heap.size+1) 0 0,.s (w.heap.size+1+1) 1 1] 70)).alloc (.o #[] 133)).alloc (.o #[.int .u32 1] 133)) w.heap.size (.bool false) (.s (w.heap.size+1) 0 0) (.s (w.heap.size+1+1) 1 1):=
  ((eS.new w _ _ _ _).aA (fA _ _)).aA (fA _ _)
 have a:=oo ((w.alloc (.o #[.bool false,.s (w.heap.size+1) 0 0,.s (w.heap.size+1+1) 1 1] 70)).alloc (.o #[] 133));rw[show ((w.alloc (.o #[.bool false,.s (w.heap.size+1) 0 0,.s (w.heap.size+1+1) 1 1] 70)).alloc (.o #[] 133)).heap.size=w.heap.size+1+1 by simp] at a;go_enter func102,ntmps102;go_wp2;refine bO (qi rfl _ _ _ _ _ _ rfl b) rfl ?_;exact⟨_,rfl,⟨_,_,w.heap.size+1,w.heap.size+1+1,rfl,afz _ _ _ _ _,a,om,om,om⟩,c⟩
theorem ab9(p:0<n->X (n-1)≠0):iy (nz X) n=n:=by
 cases n with
 | zero=>rfl
 | succ n=>simp[iy,nz];exact fun h=>absurd h (p om)
structure il(c:Nat)(w w':World):Prop where
 os:w'.os=w.os
 tape:w'.tape=w.tape
 output:w'.output=w.output
 size:w.heap.size<=w'.heap.size
 block:∀k,k<w.heap.size->k≠c->w'.heap[k]?=w.heap[k]?
section
variable{c d n g N M off:Nat}{w w' w1 w2:World}{a:Option Addr}{X:Nat->Nat}{v x y z:Value}
theorem il.refl(n:Nat)(w:World):il n w w:=⟨rfl,rfl,rfl,aC _,fun _ _ _=>rfl⟩
theorem il.trans(h:il c w w1)(k:il c w1 w2):il c w w2:=⟨k.os.trans h.os,k.tape.trans h.tape,k.output.trans h.output,aU h.size k.size,fun i a b=>(k.block i (aS a h.size) b).trans (h.block i a b)⟩
theorem il.aD(n:Nat)(h:w.S w'):il n w w':=⟨h.os,h.tape,h.output,h.size,fun k a _=>h.block k a⟩
theorem il.bL(h:eM w w' c):il c w w':=⟨h.os,h.tape,h.output,by rw[h.size];exact aC _,fun k _ a=>h.other k a⟩
theorem il.since(h:il c w w')(a:c<=w.heap.size):w.Since c w':=⟨h.os,h.tape,h.output,h.size,fun k b=>h.block k om om⟩
theorem il.cell(h:il c w w'){a:Addr}(hl:a.block<w.heap.size)(b:a.block≠c):w'.cell? a=w.cell? a:=aO (w:=w) (h.block _ hl b)
theorem il.frozen(h:il c w w'){a:Addr}(hl:a.block<w.heap.size)(b:a.block≠c):w'.frozen? a=w.frozen? a:=dK (w:=w) (h.block _ hl b)
theorem eO.bR(h:eO w a g off n X)(s:il c w w')(d:0<n->g≠c):eO w' a g off n X:=fun j b=>⟨(h j b).1,by rw[s.cell (a:=jj g (off+j)) (h.lt om) (d om)];exact (h j b).2⟩
theorem eS.bR(h:eS w d x y z)(s:il c w w')(b:d≠c):eS w' d x y z:=
 ⟨(s.cell (a:=jj d 0) h.lt b).trans h.c0,(s.cell (a:=jj d 1) h.lt b).trans h.c1,(s.cell (a:=jj d 2) h.lt b).trans h.c2,fun k=>(s.frozen (a:=jj d k) h.lt b).trans (h.f k)⟩
end
theorem eS.drew{z:Value}(h:eS w n u U z):eS w.drew n u U z:=⟨h.c0,h.c1,h.c2,h.f⟩
theorem il.drew(h:il n w v):il n w v.drew:=⟨h.os,h.tape,h.output,h.size,h.block⟩
theorem eO.drew(h:eO w a n m c X):eO w.drew a n m c X:=h
theorem gE.drew(h:gE w u n m c):gE w.drew u n m c:=h
theorem gz(h:w.Since n v):w.Since n v.drew:=⟨h.os,h.tape,h.output,h.size,h.block⟩
theorem ie.bR{z a:Value}(h:ie w n u U z a)(s:il c w v)(b:n≠c):ie v n u U z a:=
 ⟨(s.cell (a:=jj n 0) h.lt b).trans h.c0,(s.cell (a:=jj n 1) h.lt b).trans h.c1,(s.cell (a:=jj n 2) h.lt b).trans h.c2,(s.cell (a:=jj n 3) h.lt b).trans h.c3,fun k=>(dK (w:=w) (a:=jj n k) (s.block n h.lt b)).trans (h.f k)⟩
theorem ie.drew{z a:Value}(h:ie w n u U z a):ie w.drew n u U z a:=⟨h.c0,h.c1,h.c2,h.c3,h.f⟩
def Code(w:World)(a:Option Addr)(b off n:Nat)(X:Nat->Nat):Prop:=∀j,j<n->X j<256/\a=some ⟨b,off,none⟩/\w.cell? ⟨b,off+j,none⟩=some (.int .u8 (X j))
structure Rd(w:World)(c:Nat)(a:Option Addr)(b off n cap:Nat)(X:Nat->Nat):Prop where
 c0:w.cell? ⟨c,0,none⟩=some (.slice a n cap)
 c1:∃p:Nat,p<=n/\w.cell? ⟨c,1,none⟩=some (.int .i64 p)
 f:∀k,w.frozen? ⟨c,k,none⟩=false
 code:Code w a b off n X
 ne:0<n->b≠c
theorem Code.lt(h:Code w a n m c X)(b:0<c):n<w.heap.size:=aG _ _ (h 0 b).2.2
theorem Code.bR(h:Code w a n m d X)(s:il c w v)(f:0<d->n≠c):Code v a n m d X:=
 fun j b=>⟨(h j b).1,(h j b).2.1,(s.cell (a:=jj n (m+j)) (h.lt om) (f om)).trans (h j b).2.2⟩
theorem Code.aA{w w':World}(h:Code w a n d m X)(s:w.S w'):Code w' a n d m X:=
 fun j c=>⟨(h j c).1,(h j c).2.1,(s.cell (a:=jj n (d+j)) (h.lt om)).trans (h j c).2.2⟩
theorem Rd.lt{k:Nat}(h:Rd w n a m c d k X):n<w.heap.size:=aG _ _ h.c0
theorem Rd.aA{w w':World}{k:Nat}(h:Rd w n a m c k d X)(s:w.S w'):Rd w' n a m c k d X:=by
 obtain⟨p,g,f⟩:=h.c1;exact⟨(s.cell (a:=jj n 0) h.lt).trans h.c0,⟨p,g,(s.cell (a:=jj n 1) h.lt).trans f⟩,fun b=>(s.frozen (a:=jj n b) h.lt).trans (h.f b),h.code.aA s,h.ne⟩
theorem il.cI(n:Nat)(s:Same w v):il n w v:=il.aD n (s.since _)
theorem Rd.step{w v:World}{n:Nat}{a:Option Addr}{m c d k i:Nat}{X:Nat->Nat}(h:Rd w n a m c d k X)(g:i<d)(e:w.cell? (jj n 1)=some (.i i))(s:Same w v):
 Rd (v.setCell ⟨n,1,none⟩ (.i ((i:Int)+1))) n a m c d k X/\il n w (v.setCell ⟨n,1,none⟩ (.i ((i:Int)+1))):=by
 have M:=(eM.refl v n).setCell 1 (.i ((i:Int)+1));have O:=(il.cI n s).trans (il.bL M);refine⟨⟨?_,⟨i+1,g, ?_⟩,fun b=> ?_,h.code.bR O h.ne,h.ne⟩,O⟩
 . rw[lM,s.cell];exact h.c0
 . exact aQ _ _ _ (by rw[s.cell];exact e)
 . rw[M.frozen,s.frozen];exact h.f b
structure At1(c o:Nat)(r:Option Nat)(w w':World):Prop where
 os:w'.os=w.os
 tape:w'.tape=w.tape
 output:w'.output=w.output
 size:w.heap.size<=w'.heap.size
 block:∀k,k<w.heap.size->k≠c->some k≠r->w'.heap[k]?=w.heap[k]?
 cell:∀x,x≠o->w'.cell? ⟨c,x,none⟩=w.cell? ⟨c,x,none⟩
 frozen:∀x,w'.frozen? ⟨c,x,none⟩=w.frozen? ⟨c,x,none⟩
section
variable{c o:Nat}{r:Option Nat}{w w' w'':World}
theorem At1.refl(n m:Nat)(r:Option Nat)(w:World):At1 n m r w w:=⟨rfl,rfl,rfl,aC _,fun _ _ _ _=>rfl,fun _ _=>rfl,fun _=>rfl⟩
theorem At1.alloc(h:At1 c o r w w')(g:c<w.heap.size)(b:Obj):At1 c o r w (w'.alloc b):=by
 have s:w'.S (w'.alloc b):=fA _ _;have hl:=h.size;exact⟨h.os,h.tape,h.output,aU h.size s.size,fun k a d e=>(s.block k om).trans (h.block k a d e),fun x f=>(s.cell (a:=jj c x) (by show c<_;omega)).trans (h.cell x f),fun x=>(s.frozen (a:=jj c x) (by show c<_;omega)).trans (h.frozen x)⟩
theorem At1.grown{a:Option Nat}(h:At1 c o r w w')(g:w'.grownBy w'' a)(m:c<w.heap.size)(b:a=r∨∀k,a=some k->w.heap.size<=k)(f:some c≠a):At1 c o r w w'':=by
 have hl:=h.size;refine⟨g.os.trans h.os,g.tape.trans h.tape,g.output.trans h.output,aU h.size g.size,fun k i j d=>(g.block k om ?_).trans (h.block k i j d),fun x l=>(aO (w:=w') (a:=jj c x) (g.block c om f)).trans (h.cell x l),fun x=>(dK (w:=w') (a:=jj c x) (g.block c om f)).trans (h.frozen x)⟩;rcases b with rfl | b
 . exact d
 . intro e;have:=b k e.symm;omega
theorem At1.setRow(h:At1 c o r w w')(n m:Nat)(u:Value)(f:some n=r∨w.heap.size<=n)(d:n≠c):At1 c o r w (w'.setCell ⟨n,m,none⟩ u):=by
 have M:=(eM.refl w' n).setCell m u;refine⟨M.os.trans h.os,M.tape.trans h.tape,M.output.trans h.output,by rw[M.size];exact h.size,fun k j l b=>(M.other k ?_).trans (h.block k j l b),fun x a=>(M.cell (a:=jj c x) (fL d)).trans (h.cell x a),fun x=>(M.bU (a:=jj c x) (fL d)).trans (h.frozen x)⟩;rcases f with rfl | f
 . intro e;exact b (by rw[e])
 . omega
theorem At1.setC(h:At1 c o r w w')(u:Value):At1 c o r w (w'.setCell ⟨c,o,none⟩ u):=by
 have M:=(eM.refl w' c).setCell o u;refine⟨M.os.trans h.os,M.tape.trans h.tape,M.output.trans h.output,by rw[M.size];exact h.size,fun k b a d=>(M.other k a).trans (h.block k b a d),fun x e=> ?_,fun x=>(M.frozen x).trans (h.frozen x)⟩;rw[<-h.cell x e];exact aI _ _ _ _ (by simp)
end
structure fZ where
 neg:Bool
 n:Nat
 X:Nat->Nat
 m:Nat
 Y:Nat->Nat
variable{R:fZ}
def fZ.nul:fZ:=⟨false,0,fun _=>0,0,fun _=>0⟩
def fZ.ok(r:fZ):Bool:=gu r.neg r.X r.n r.Y r.m
structure ai(w:World)(lo:Nat)(r:fZ)(a b:Option Addr)(ca cb:Nat):Prop where
 nc:r.n<=ca
 mc:r.m<=cb
 ac:a=none->ca=0
 bc:b=none->cb=0
 LX:∃ba oa,(0<r.n->lo<=ba)/\eO w a ba oa r.n r.X
 LY:∃bb ob,(0<r.m->lo<=bb)/\eO w b bb ob r.m r.Y
 lX:∀j,j<r.n->r.X j<4294967296
 lY:∀j,j<r.m->r.Y j<4294967296
 n63:r.n<=9223372036854775807
 m63:r.m<=9223372036854775807
section
variable{w w':World}{lo lo' b off n c:Nat}{r:fZ}{a a1 a2:Option Addr}{k1 k2:Nat}{R:Nat->fZ}
theorem ai.aA(h:ai w lo r a1 a2 k1 k2)(s:w.S w'):ai w' lo r a1 a2 k1 k2:=by
 obtain⟨c,g,e,a⟩:=h.LX;obtain⟨d,i,f,b⟩:=h.LY;exact⟨h.nc,h.mc,h.ac,h.bc,⟨c,g,e,a.aA s⟩,⟨d,i,f,b.aA s⟩,h.lX,h.lY,h.n63,h.m63⟩
structure aw(w:World)(lo b off:Nat)(r:fZ)(a1 a2:Option Addr)(k1 k2:Nat):Prop where
 c0:w.cell? ⟨b,off,none⟩=some (.bool r.neg)
 c1:w.cell? ⟨b,off+1,none⟩=some (.slice a1 r.n k1)
 c2:w.cell? ⟨b,off+2,none⟩=some (.slice a2 r.m k2)
 L:ai w lo r a1 a2 k1 k2
theorem aw.g{R:fZ}{c:Option Addr}{k:Nat}(h:aw w n b m R a c d k):w.cell? (jj b m)=some (.bool R.neg)/\w.cell? (jj b (m+1))=some (.slice a R.n d)/\w.cell? (jj b (m+2))=some (.slice c R.m k):=⟨h.c0,h.c1,h.c2⟩
theorem aw.lt(h:aw w lo b off r a1 a2 k1 k2):b<w.heap.size:=aG _ _ h.c0
theorem aw.aA(h:aw w lo b off r a1 a2 k1 k2)(s:w.S w'):aw w' lo b off r a1 a2 k1 k2:=
 ⟨(s.cell (a:=jj b off) h.lt).trans h.c0,(s.cell (a:=jj b (off+1)) h.lt).trans h.c1,(s.cell (a:=jj b (off+2)) h.lt).trans h.c2,h.L.aA s⟩
def ph(w:World)(lo:Nat)(a:Option Addr)(b off n:Nat)(R:Nat->fZ):Prop:=
 ∀i,i<n->a=some ⟨b,off,none⟩/\∃a1 a2 k1 k2,aw w lo b (off+i*3) (R i) a1 a2 k1 k2
theorem ph.aA(h:ph w lo a b off n R)(s:w.S w'):ph w' lo a b off n R:=fun i g=>by
 obtain⟨e,c,d,j,k,f⟩:=h i g;exact⟨e,c,d,j,k,f.aA s⟩
end
def nU(R:Nat->fZ):Nat->Nat
 | 0=>0
 | n+1=>nU R n+((R n).n+(R n).m)
theorem py(R:Nat->fZ)(n:Nat):nU R (n+1)=nU R n+((R n).n+(R n).m):=rfl
theorem qm{R:Nat->fZ}(h:n<=m):nU R n<=nU R m:=by
 induction m with
 | zero=>simp at h;subst h;exact aC _
 | succ m ih=>
   rcases jI m n with a | a
   . have:n=m+1:=om;subst this;exact aC _
   . have:=ih a;rw[py];omega
theorem qo{R:Nat->fZ}{k:Nat}(h:k<n):(R k).n+(R k).m<=nU R n:=by
 have:=qm (R:=R) (show k+1<=n from h);rw[py] at this;omega
def ke(R:Nat->fZ)(n:Nat):Prop:=∀i,i<n->(R i).ok=true
structure ic where
 rows:Int
 cols:Int
 nw:Nat
 W:Nat->fZ
 nb:Nat
 B:Nat->fZ
def ic.nul:ic:=⟨0,0,0,fun _=>fZ.nul,0,fun _=>fZ.nul⟩
def ic.size(d:ic):Nat:=d.nw+nU d.W d.nw+(d.nb+nU d.B d.nb)
structure b9(w:World)(lo:Nat)(d:ic)(a b:Option Addr)(ca cb:Nat):Prop where
 nc:d.nw<=ca
 mc:d.nb<=cb
 LW:∃ba oa,(0<d.nw->lo<=ba)/\ph w lo a ba oa d.nw d.W
 LB:∃bb ob,(0<d.nb->lo<=bb)/\ph w lo b bb ob d.nb d.B
 r0:-9223372036854775808<=d.rows
 r1:d.rows<=9223372036854775807
 q0:-9223372036854775808<=d.cols
 q1:d.cols<=9223372036854775807
 n63:d.nw<=9223372036854775807
 m63:d.nb<=9223372036854775807
section
variable{w w':World}{lo lo' b off n c:Nat}{d:ic}{a a1 a2:Option Addr}{k1 k2:Nat}{A:Nat->ic}
theorem b9.aA(h:b9 w lo d a1 a2 k1 k2)(s:w.S w'):b9 w' lo d a1 a2 k1 k2:=by
 obtain⟨c,i,f,b⟩:=h.LW;obtain⟨e,j,g,a⟩:=h.LB;exact⟨h.nc,h.mc,⟨c,i,f,b.aA s⟩,⟨e,j,g,a.aA s⟩,h.r0,h.r1,h.q0,h.q1,h.n63,h.m63⟩
structure bp(w:World)(lo b off:Nat)(d:ic)(a1 a2:Option Addr)(k1 k2:Nat):Prop where
 c0:w.cell? ⟨b,off,none⟩=some (.int .i64 d.rows)
 c1:w.cell? ⟨b,off+1,none⟩=some (.int .i64 d.cols)
 c2:w.cell? ⟨b,off+2,none⟩=some (.slice a1 d.nw k1)
 c3:w.cell? ⟨b,off+3,none⟩=some (.slice a2 d.nb k2)
 L:b9 w lo d a1 a2 k1 k2
theorem bp.lt(h:bp w lo b off d a1 a2 k1 k2):b<w.heap.size:=aG _ _ h.c0
theorem bp.aA(h:bp w lo b off d a1 a2 k1 k2)(s:w.S w'):bp w' lo b off d a1 a2 k1 k2:=
 ⟨(s.cell (a:=jj b off) h.lt).trans h.c0,(s.cell (a:=jj b (off+1)) h.lt).trans h.c1,(s.cell (a:=jj b (off+2)) h.lt).trans h.c2,(s.cell (a:=jj b (off+3)) h.lt).trans h.c3,h.L.aA s⟩
def sc(w:World)(lo:Nat)(a:Option Addr)(b off n:Nat)(A:Nat->ic):Prop:=
 ∀i,i<n->a=some ⟨b,off,none⟩/\∃a1 a2 k1 k2,bp w lo b (off+i*4) (A i) a1 a2 k1 k2
theorem sc.aA(h:sc w lo a b off n A)(s:w.S w'):sc w' lo a b off n A:=fun i g=>by
 obtain⟨e,c,d,j,k,f⟩:=h i g;exact⟨e,c,d,j,k,f.aA s⟩
end
def vK(A:Nat->ic):Nat->Nat
 | 0=>0
 | n+1=>vK A n+(A n).size
theorem dp(A:Nat->ic)(n:Nat):vK A (n+1)=vK A n+(A n).size:=rfl
theorem afc{A:Nat->ic}(h:n<=m):vK A n<=vK A m:=by
 induction m with
 | zero=>simp at h;subst h;exact aC _
 | succ m ih=>
   rcases jI m n with a | a
   . have:n=m+1:=om;subst this;exact aC _
   . have:=ih a;rw[dp];omega
theorem xu{A:Nat->ic}(h:n<m):(A n).size<=vK A m:=by
 have:=afc (A:=A) (show n+1<=m from h);rw[dp] at this;omega
theorem alN:(Tryz.prog.info? 70).map (fun i=>(i.zero,i.size,i.bytes))=some (some (.agg #[.bool false,.n,.n]),3,56):=by kernel_rfl
structure fO(w:World)(c:Nat)(x y z u v t:Value):Prop where
 c0:w.cell? ⟨c,0,none⟩=some x
 c1:w.cell? ⟨c,1,none⟩=some y
 c2:w.cell? ⟨c,2,none⟩=some z
 c3:w.cell? ⟨c,3,none⟩=some u
 c4:w.cell? ⟨c,4,none⟩=some v
 c5:w.cell? ⟨c,5,none⟩=some t
 f:∀k,w.frozen? ⟨c,k,none⟩=false
theorem fO.g{x b a t:Value}(h:fO w c x u U b a t):w.cell? (jj c 0)=some x/\w.cell? (jj c 1)=some u/\w.cell? (jj c 2)=some U/\w.cell? (jj c 3)=some b/\w.cell? (jj c 4)=some a/\w.cell? (jj c 5)=some t:=⟨h.c0,h.c1,h.c2,h.c3,h.c4,h.c5⟩
theorem fO.k{x z v a:Value}(h:fO w n x u z U v a):w.frozen? (jj n 0)=false/\w.frozen? (jj n 1)=false/\w.frozen? (jj n 2)=false/\w.frozen? (jj n 3)=false/\w.frozen? (jj n 4)=false/\w.frozen? (jj n 5)=false:=⟨h.f 0,h.f 1,h.f 2,h.f 3,h.f 4,h.f 5⟩
section
variable{w w':World}{c d B:Nat}{x y z u v t:Value}
theorem fO.lt(h:fO w c x y z u v t):c<w.heap.size:=aG _ _ h.c0
theorem fO.new(w:World)(u U z a v t:Value)(T:TypeId):fO (w.alloc (.cells #[u,U,z,a,v,t] T)) w.heap.size u U z a v t:=⟨by simp[go_sem],by simp[go_sem],by simp[go_sem],by simp[go_sem],by simp[go_sem],by simp[go_sem],fun k=>by simp[go_sem]⟩
theorem fO.since(h:fO w c x y z u v t)(s:w.Since B w')(b:c<B):fO w' c x y z u v t:=
 ⟨(s.cell (a:=jj c 0) b).trans h.c0,(s.cell (a:=jj c 1) b).trans h.c1,(s.cell (a:=jj c 2) b).trans h.c2,(s.cell (a:=jj c 3) b).trans h.c3,(s.cell (a:=jj c 4) b).trans h.c4,(s.cell (a:=jj c 5) b).trans h.c5,fun k=>(s.frozen (a:=jj c k) b).trans (h.f k)⟩
theorem fO.aA(h:fO w c x y z u v t)(s:w.S w'):fO w' c x y z u v t:=h.since s h.lt
theorem fO.marked(h:fO w c x y z u v t)(s:eM w w' d)(b:c≠d):fO w' c x y z u v t:=
 ⟨(s.cell (a:=jj c 0) b).trans h.c0,(s.cell (a:=jj c 1) b).trans h.c1,(s.cell (a:=jj c 2) b).trans h.c2,(s.cell (a:=jj c 3) b).trans h.c3,(s.cell (a:=jj c 4) b).trans h.c4,(s.cell (a:=jj c 5) b).trans h.c5,fun k=>(s.bU (a:=jj c k) b).trans (h.f k)⟩
theorem fO.bE(h:fO w c x y z u v t)(U:Value):fO (w.setCell ⟨c,0,none⟩ U) c U y z u v t:=
 ⟨aQ _ _ _ h.c0,(lM).trans h.c1,(lM).trans h.c2,(lM).trans h.c3,(lM).trans h.c4,(lM).trans h.c5,fun k=>by rw[((eM.refl w c).setCell 0 U).frozen];exact h.f k⟩
theorem fO.bH(h:fO w c x y z u v t)(U:Value):fO (w.setCell ⟨c,1,none⟩ U) c x U z u v t:=
 ⟨(lM).trans h.c0,aQ _ _ _ h.c1,(lM).trans h.c2,(lM).trans h.c3,(lM).trans h.c4,(lM).trans h.c5,fun k=>by rw[((eM.refl w c).setCell 1 U).frozen];exact h.f k⟩
theorem fO.bF(h:fO w c x y z u v t)(U:Value):fO (w.setCell ⟨c,2,none⟩ U) c x y U u v t:=
 ⟨(lM).trans h.c0,(lM).trans h.c1,aQ _ _ _ h.c2,(lM).trans h.c3,(lM).trans h.c4,(lM).trans h.c5,fun k=>by rw[((eM.refl w c).setCell 2 U).frozen];exact h.f k⟩
theorem fO.bX(h:fO w c x y z u v t)(U:Value):fO (w.setCell ⟨c,3,none⟩ U) c x y z U v t:=
 ⟨(lM).trans h.c0,(lM).trans h.c1,(lM).trans h.c2,aQ _ _ _ h.c3,(lM).trans h.c4,(lM).trans h.c5,fun k=>by rw[((eM.refl w c).setCell 3 U).frozen];exact h.f k⟩
theorem fO.dX(h:fO w c x y z u v t)(U:Value):fO (w.setCell ⟨c,4,none⟩ U) c x y z u U t:=
 ⟨(lM).trans h.c0,(lM).trans h.c1,(lM).trans h.c2,(lM).trans h.c3,aQ _ _ _ h.c4,(lM).trans h.c5,fun k=>by rw[((eM.refl w c).setCell 4 U).frozen];exact h.f k⟩
theorem fO.dC(h:fO w c x y z u v t)(U:Value):fO (w.setCell ⟨c,5,none⟩ U) c x y z u v U:=
 ⟨(lM).trans h.c0,(lM).trans h.c1,(lM).trans h.c2,(lM).trans h.c3,(lM).trans h.c4,aQ _ _ _ h.c5,fun k=>by rw[((eM.refl w c).setCell 5 U).frozen];exact h.f k⟩
end
theorem wK{e:Func}{p:Tmp}{T:TypeId}{d:TypeDesc}(h:e.results= #[.cell p T])(l:Tryz.prog.underlying T=some d)(f:d.isRow=true)(g:(Tryz.prog.info? T).map (·.size)=some 6)(b:Array Value)(w:World)(n:Nat)(u U z c v t:Value)
 (i:b.getD p undef=.p n 0)(B:fO w n u U z c v t):(results e b).run Tryz.prog w=.ok (.agg #[u,U,z,c,v,t]) w:=by
 have k:b[p]?.getD undef=.p n 0:=by simpa using i
 have hl:=run_loadVar_mid (P:=Tryz.prog) w n 0 T [u,U,z,c,v,t] d (fun j q a=>by
  rcases j with _ | _ | _ | _ | _ | _ | j
  . simp at a;subst a;exact B.c0
  . simp at a;subst a;exact B.c1
  . simp at a;subst a;exact B.c2
  . simp at a;subst a;exact B.c3
  . simp at a;subst a;exact B.c4
  . simp at a;subst a;exact B.c5
  . simp at a) l f g
 simp[results,h,k,asAddr,hl]
structure fQ where
 op:Int
 a:Int
 b:Int
 k:Int
 s:Int
 nv:Nat
 V:Nat->fZ
def fQ.size(d:fQ):Nat:=d.nv+nU d.V d.nv
def I64(z:Int):Prop:=-9223372036854775808<=z/\z<=9223372036854775807
structure b7(w:World)(lo:Nat)(d:fQ)(a:Option Addr)(ca:Nat):Prop where
 nc:d.nv<=ca
 LV:∃ba oa,(0<d.nv->lo<=ba)/\ph w lo a ba oa d.nv d.V
 iop:I64 d.op
 ia:I64 d.a
 ib:I64 d.b
 ik:I64 d.k
 is:I64 d.s
 n63:d.nv<=9223372036854775807
section
variable{w w':World}{lo lo' b off n c:Nat}{d:fQ}{a a1:Option Addr}{k1:Nat}{A:Nat->fQ}
theorem b7.aA(h:b7 w lo d a1 k1)(s:w.S w'):b7 w' lo d a1 k1:=by
 obtain⟨b,e,c,a⟩:=h.LV;exact⟨h.nc,⟨b,e,c,a.aA s⟩,h.iop,h.ia,h.ib,h.ik,h.is,h.n63⟩
structure an(w:World)(lo b off:Nat)(d:fQ)(a1:Option Addr)(k1:Nat):Prop where
 c0:w.cell? ⟨b,off,none⟩=some (.int .i64 d.op)
 c1:w.cell? ⟨b,off+1,none⟩=some (.int .i64 d.a)
 c2:w.cell? ⟨b,off+2,none⟩=some (.int .i64 d.b)
 c3:w.cell? ⟨b,off+3,none⟩=some (.int .i64 d.k)
 c4:w.cell? ⟨b,off+4,none⟩=some (.int .i64 d.s)
 c5:w.cell? ⟨b,off+5,none⟩=some (.slice a1 d.nv k1)
 L:b7 w lo d a1 k1
theorem an.g{d:fQ}(h:an w n b m d a c):w.cell? (jj b m)=some (.i d.op)/\w.cell? (jj b (m+1))=some (.i d.a)/\w.cell? (jj b (m+2))=some (.i d.b)/\w.cell? (jj b (m+3))=some (.i d.k)/\w.cell? (jj b (m+4))=some (.i d.s)/\w.cell? (jj b (m+5))=some (.slice a d.nv c):=⟨h.c0,h.c1,h.c2,h.c3,h.c4,h.c5⟩
theorem an.lt(h:an w lo b off d a1 k1):b<w.heap.size:=aG _ _ h.c0
theorem an.aA(h:an w lo b off d a1 k1)(s:w.S w'):an w' lo b off d a1 k1:=
 ⟨(s.cell (a:=jj b off) h.lt).trans h.c0,(s.cell (a:=jj b (off+1)) h.lt).trans h.c1,(s.cell (a:=jj b (off+2)) h.lt).trans h.c2,(s.cell (a:=jj b (off+3)) h.lt).trans h.c3,(s.cell (a:=jj b (off+4)) h.lt).trans h.c4,(s.cell (a:=jj b (off+5)) h.lt).trans h.c5,h.L.aA s⟩
def da(w:World)(lo:Nat)(a:Option Addr)(b off n:Nat)(A:Nat->fQ):Prop:=
 ∀i,i<n->a=some ⟨b,off,none⟩/\∃a1 k1,an w lo b (off+i*6) (A i) a1 k1
theorem da.aA(h:da w lo a b off n A)(s:w.S w'):da w' lo a b off n A:=fun i f=>by
 obtain⟨d,c,g,e⟩:=h i f;exact⟨d,c,g,e.aA s⟩
end
def szN(A:Nat->fQ):Nat->Nat
 | 0=>0
 | n+1=>szN A n+(A n).size
theorem yc(A:Nat->fQ)(n:Nat):szN A (n+1)=szN A n+(A n).size:=rfl
theorem sg{A:Nat->fQ}(h:n<=m):szN A n<=szN A m:=by
 induction m with
 | zero=>simp at h;subst h;exact aC _
 | succ m ih=>
   rcases jI m n with a | a
   . have:n=m+1:=om;subst this;exact aC _
   . have:=ih a;rw[yc];omega
theorem ey{A:Nat->fQ}(h:n<m):(A n).size<=szN A m:=by
 have:=sg (A:=A) (show n+1<=m from h);rw[yc] at this;omega
structure eQ where
 inn:Int
 rounds:Int
 nl:Nat
 Lo:Nat->fZ
 nh:Nat
 Hi:Nat->fZ
 nn:Nat
 N:Nat->fQ
 out:Int
abbrev gV(g:eQ)(aL aH aN:Option Addr)(kL kH kN:Nat):Array Value:= #[.i g.inn,.i g.rounds,.slice aL g.nl kL,.slice aH g.nh kH,.slice aN g.nn kN,.i g.out]
def eQ.size(g:eQ):Nat:=(g.nl+nU g.Lo g.nl)+(g.nh+nU g.Hi g.nh)+(g.nn+szN g.N g.nn)
structure aV(w:World)(lo:Nat)(g:eQ)(aL aH aN:Option Addr)(kL kH kN:Nat):Prop where
 lc:g.nl<=kL
 hc:g.nh<=kH
 nc:g.nn<=kN
 LL:∃b o,(0<g.nl->lo<=b)/\ph w lo aL b o g.nl g.Lo
 LH:∃b o,(0<g.nh->lo<=b)/\ph w lo aH b o g.nh g.Hi
 LN:∃b o,(0<g.nn->lo<=b)/\da w lo aN b o g.nn g.N
 ii:I64 g.inn
 ir:I64 g.rounds
 io:I64 g.out
 l63:g.nl<=9223372036854775807
 h63:g.nh<=9223372036854775807
 n63:g.nn<=9223372036854775807
section
variable{w w':World}{lo lo' c:Nat}{g:eQ}{aL aH aN:Option Addr}{kL kH kN:Nat}
theorem aV.aA(h:aV w lo g aL aH aN kL kH kN)(s:w.S w'):aV w' lo g aL aH aN kL kH kN:=by
 obtain⟨d,l,i,a⟩:=h.LL;obtain⟨e,m,j,b⟩:=h.LH;obtain⟨f,n,k,c⟩:=h.LN;exact⟨h.lc,h.hc,h.nc,⟨d,l,i,a.aA s⟩,⟨e,m,j,b.aA s⟩,⟨f,n,k,c.aA s⟩,h.ii,h.ir,h.io,h.l63,h.h63,h.n63⟩
end
def jn(f f':Bool)(x y:Nat):Bool:=if f=f' then f else if x<y then f' else f
def fJ(f f':Bool)(x y:Nat):Nat:=if f=f' then x+y else if x<y then y-x else x-y
theorem vl{k:Nat}{R:Nat->fZ}(N:d<=16777216)(y:∀j,j<d->(R j).n+(R j).m<=16777216)(H:ph w n a m c d R):
 Cl 70 #[.slice a d k] w fun e E=>∃r:Bool,e=.returned (.bool r)/\(r=true↔ke R d)/\w.S E:=by
 go_enter func70,ntmps70;go_wp2;go_loopw [3] (fun i wr=>∃b:Nat,b<=d/\i=.i b/\w.S wr/\ke R b) (fun i _=>d-(intOf i).toNat)
 case atStart=>exact⟨0,aJ _,rfl,aF _ _,fun i S=>absurd S om⟩
 case round=>
  obtain⟨b,L,rfl,s,O⟩:=hrel;by_cases g:b<d
  . obtain⟨rfl,q,t,z,A,M⟩:=H b g;have f:=M.aA s;obtain⟨G,I,K⟩:=f.g;have Q:(b:Int)<d:=om;have P:=y b g;obtain⟨u,B,-,o⟩:=f.L.LX;obtain⟨v,C,-,p⟩:=f.L.LY;have x:=@acI (R b).neg q t u B (R b).n z v C (R b).m A (R b).X (R b).Y wr om om o p M.L.lX M.L.lY;rw[show gu (R b).neg (R b).X (R b).n (R b).Y (R b).m=(R b).ok from rfl] at x;cases hok:(R b).ok
    . have D:=eI hok;rw[hok] at x;clear hok;go_wp2_with fail;refine mo x fun F l=> ?_;go_wp2;go_ret;refine⟨false,rfl,⟨(fun h=>by cases h),fun h=> ?_⟩,s.tr l⟩;have:=h b g;rw[D.out] at this;cases this
    . have D:=eI hok;rw[hok] at x;clear hok;go_wp2_with fail;refine mo x fun F l=> ?_;go_wp2;go_roundw
      case rel=>
       refine⟨b+1,om,by go_num,s.tr l,fun i S=> ?_⟩;by_cases e:i=b
       . subst e;exact D.out
       . exact O i om
      case measure=>exact yI
  . have e:b=d:=om;subst e;go_wp2;go_ret;exact⟨true,rfl,⟨fun _=>O,fun _=>rfl⟩,s⟩
theorem vm{a:Option Addr}{n m c d k:Nat}{R:Nat->fZ}{w:World}(f:d<=16777216)(i:nU R d<=16777216)(H:ph w n a m c d R):
 Cl 70 #[.slice a d k] w fun e h=>∃r:Bool,e=.returned (.bool r)/\(r=true↔ke R d)/\w.S h:=
 vl f (fun j b=>by have:=qo (R:=R) b;omega) H
structure ic.few(d:ic):Prop where
 nw:d.nw<=16777216
 nb:d.nb<=16777216
 W:∀j,j<d.nw->(d.W j).n+(d.W j).m<=16777216
 B:∀j,j<d.nb->(d.B j).n+(d.B j).m<=16777216
theorem ic.few_of{d:ic}(h:d.size<=16777216):d.few:=by
 unfold ic.size at h;exact⟨om,om,fun j a=>by have:=qo (R:=d.W) a;omega,fun j a=>by have:=qo (R:=d.B) a;omega⟩
theorem pF{b:Int}(d:y<=z)(f:z<=b):
 Cl 40 #[.i z,.i y,.i b] w fun e c=>e=.returned (.bool true)/\c=w:=by
 go_enter func40,ntmps40;go_wp2;go_ret;exact⟨rfl,rfl⟩
theorem ej{b:Int}(h:¬(y<=z/\z<=b)):
 Cl 40 #[.i z,.i y,.i b] w fun e f=>e=.returned (.bool false)/\f=w:=by
 by_cases d:y<=z
 . have c:¬z<=b:=fun c=>h ⟨d,c⟩;go_enter func40,ntmps40;go_wp2;go_ret;exact⟨rfl,rfl⟩
 . clear h;go_enter func40,ntmps40;go_wp2;go_ret;exact⟨rfl,rfl⟩
def ic.dY(d:ic):Prop:=0<=d.rows/\d.rows<=20000/\0<=d.cols/\d.cols<=20000
def ic.shape(d:ic):Prop:=d.dY/\(d.nw:Int)=d.rows*d.cols/\(d.nb:Int)=d.rows
def ic.cells(d:ic):Int:=d.rows*(d.cols+1)
def ic.dO(d:ic):Prop:=ke d.W d.nw/\ke d.B d.nb
theorem ic.dY.bounds{d:ic}(h:d.dY):0<=d.cells/\d.cells<=400020000/\0<=d.rows*d.cols/\d.rows*d.cols<=400000000:=by
 obtain⟨b,c,a,f⟩:=h;have g:=Int.mul_le_mul c f a om;have i:=tF b a;have e:d.cells=d.rows*d.cols+d.rows:=by unfold ic.cells;rw[Int.mul_add,Int.mul_one]
 omega
theorem vj{d:ic}(h:d.dY):
 Cl 42 #[.agg #[.i d.rows,.i d.cols,u,U]] w fun e c=>e=.returned (.i d.cells)/\w.S c:=by
 have b:=fA w (.o #[.i d.rows,.i d.cols,u,U] 52);have hb:=h.bounds;unfold ic.cells at hb⊢;obtain⟨f,g,i,j⟩:=h;go_enter func42,ntmps42;go_wp2;go_ret;exact⟨rfl,b⟩
theorem afR{d:ic}(l:d.few)(H:b9 w n d a A m c):
 Cl 41 #[.agg #[.i d.rows,.i d.cols,.slice a d.nw m,.slice A d.nb c]] w fun e O=>∃r:Bool,e=.returned (.bool r)/\(r=true↔d.shape/\d.cells<=20000/\d.dO)/\w.S O:=by
 have aa:=l.nw;have ab:=l.nb;have j:=fA w (.o #[.i d.rows,.i d.cols,.l a d.nw m,.l A d.nb c] 52);have p:=ie.new w (.i d.rows) (.i d.cols) (.l a d.nw m) (.l A d.nb c) 52;by_cases b:0<=d.rows/\d.rows<=20000;rotate_left
 . have V:=eI (show ¬d.shape from fun h=>b ⟨h.1.1,h.1.2.1⟩);go_enter func41,ntmps41;go_wp2_with fail;refine (ej b).mono ?_;rintro e W ⟨rfl,rfl⟩;clear b;go_wp2;go_ret;exact⟨false,rfl,⟨(fun h=>by cases h),fun h=>absurd h.1 V.out⟩,j⟩
 by_cases g:0<=d.cols/\d.cols<=20000;rotate_left
 . have V:=eI (show ¬d.shape from fun h=>g ⟨h.1.2.2.1,h.1.2.2.2⟩);go_enter func41,ntmps41;go_wp2_with fail;refine (pF b.1 b.2).mono ?_;rintro e W ⟨rfl,rfl⟩;go_wp2_with fail;refine (ej g).mono ?_;rintro e W ⟨rfl,rfl⟩;clear b g;go_wp2;go_ret;exact⟨false,rfl,⟨(fun h=>by cases h),fun h=>absurd h.1 V.out⟩,j⟩
 have q:d.dY:=⟨b.1,b.2,g.1,g.2⟩;have hb:=q.bounds;obtain⟨u,v⟩:=b;obtain⟨s,t⟩:=g;obtain⟨S,T,U,ac⟩:=hb;by_cases Y:(d.nw:Int)=d.rows*d.cols;rotate_left
 . have V:=eI (show ¬d.shape from fun h=>Y h.2.1);go_enter func41,ntmps41;go_wp2_with fail;refine (pF u v).mono ?_;rintro e W ⟨rfl,rfl⟩;go_wp2_with fail;refine (pF s t).mono ?_;rintro e W ⟨rfl,rfl⟩;go_wp2;go_ret;exact⟨false,rfl,⟨(fun h=>by cases h),fun h=>absurd h.1 V.out⟩,j⟩
 by_cases X:(d.nb:Int)=d.rows;rotate_left
 . have V:=eI (show ¬d.shape from fun h=>X h.2.2);go_enter func41,ntmps41;go_wp2_with fail;refine (pF u v).mono ?_;rintro e W ⟨rfl,rfl⟩;go_wp2_with fail;refine (pF s t).mono ?_;rintro e W ⟨rfl,rfl⟩;go_wp2;go_ret;exact⟨false,rfl,⟨(fun h=>by cases h),fun h=>absurd h.1 V.out⟩,j⟩
 have D:=eI (show d.shape from⟨q,Y,X⟩);have af:((d.nw:Int) != d.rows*d.cols)=false:=by simpa using Y
 have ag:((d.nb:Int) != d.rows)=false:=by simpa using X
 clear Y X;go_enter func41,ntmps41;go_wp2_with fail;refine (pF u v).mono ?_;rintro e W ⟨rfl,rfl⟩;go_wp2_with fail;refine (pF s t).mono ?_;rintro e W ⟨rfl,rfl⟩;go_wp2_with fail;refine mo (vj q) fun W B=> ?_;have o:=p.aA B;have G:=o.c2;have I:=o.c3;have f:=j.tr B;obtain⟨Q,ad,-,F⟩:=(H.aA f).LW;obtain⟨R,ae,-,E⟩:=(H.aA f).LB;by_cases k:d.cells<=20000;rotate_left
 . have K:20000<d.cells:=om;have V:=eI k;clear k p;go_wp2;go_ret;exact⟨false,rfl,⟨(fun h=>by cases h),fun h=>absurd h.2.1 (by have:=V.out;omega)⟩,f⟩
 have K:¬20000<d.cells:=om;have C:=eI k;clear k p;go_wp2_with fail;refine (vl om l.W F).mono ?_;rintro e w2 ⟨L,rfl,z,i⟩;have x:=eI z;clear z;cases L
 . go_wp2;go_ret;exact⟨false,rfl,⟨(fun h=>by cases h),fun h=>absurd (x.out.2 h.2.2.1) qz⟩,f.tr i⟩
 . have P:=(o.aA i).c3;clear G I;go_wp2_with fail;refine (vl om l.B (E.aA i)).mono ?_;rintro e w3 ⟨M,rfl,Z,N⟩;have y:=eI Z;clear Z;go_wp2;go_ret;exact⟨M,rfl,⟨fun h=>⟨D.out,C.out,x.out.1 qz,y.out.1 h⟩,fun h=>y.out.2 h.2.2.2⟩,(f.tr i).trans (sM N (aU f.size i.size))⟩
def yd(A:Nat->ic):Nat->Int
 | 0=>0
 | k+1=>yd A k+(A k).cells
theorem zU(A:Nat->ic)(n:Nat):yd A (n+1)=yd A n+(A n).cells:=rfl
structure pH(n:Nat)(A:Nat->ic):Prop where
 n0:1<=n
 n1:n<=10000
 shape:∀k,k<n->(A k).shape
 chain:∀k,k<n->0<k->(A k).cols=(A (k-1)).rows
 sum:yd A n<=20000
 dO:∀k,k<n->(A k).dO
theorem xC{A:Nat->ic}{k:Nat}(h:∀j,j<k->(A j).shape):0<=yd A k/\yd A k<=400020000*k:=by
 induction k with
 | zero=>simp[yd]
 | succ k ih=>
   obtain⟨a,b⟩:=ih (fun j e=>h j om);obtain⟨c,d,-,-⟩:=(h k om).1.bounds;rw[zU];omega
theorem ajg{A:Nat->ic}(h:∀j,j<m->(A j).shape)(b:n<=m):yd A n<=yd A m:=by
 induction m with
 | zero=>simp at b;subst b;exact Int.le_refl _
 | succ m ih=>
   rcases jI m n with a | a
   . have:n=m+1:=om;subst this;exact Int.le_refl _
   . have:=ih (fun j c=>h j om) a;have:=(h m om).1.bounds;rw[zU];omega
theorem pH.cells{A:Nat->ic}(h:pH n A)(b:m<n):(A m).cells<=20000:=by
 have a:=ajg h.shape (show m+1<=n from b);have c:=(xC (A:=A) (k:=m) (fun j e=>h.shape j om)).1;have d:=h.sum;rw[zU] at a;omega
def cK(N:Nat)(p:Nat×(Nat->Nat)):Prop:=(∀j,j<p.1->p.2 j<4294967296)/\(0<p.1->p.2 (p.1-1)≠0)/\lv p.2 p.1=N
def ad:Nat->Nat->Nat
 | 0,_=>0
 | f+1,N=>if N=0 then 0 else ad f (N/4294967296)+1
def nT(N:Nat):Nat×(Nat->Nat):=(ad N N,fun j=>N/2^(32*j) % 4294967296)
theorem aiN:∀f N,N<=f->N<2^(32*ad f N)/\(0<ad f N->2^(32*(ad f N-1))<=N)
 | 0,N,h=>by
   obtain rfl:N=0:=om
   exact⟨by simp[ad],fun h=>by simp[ad] at h⟩
 | f+1,N,h=>by
   unfold ad
   split
   . rename_i e;subst e;exact⟨qz,fun h=>absurd h om⟩
   . rename_i e
     obtain⟨d,g⟩:=aiN f (N/4294967296) om;generalize ad f (N/4294967296)=c at*;have a:∀c,2^(32*(c+1))=2^(32*c)*4294967296:=fun c=>by rw[fY,iB]
     refine⟨by rw[a];exact (gJ om).1 d,fun _=> ?_⟩;rw[cF]
     rcases cQ c with rfl | i
     . simp;omega
     . obtain⟨b,rfl⟩:∃b,c=b+1:=⟨c-1,om⟩
       have:=g i;rw[cF] at this;rw[a];exact (kR om).1 this
theorem aly(n:Nat):∀b,lv (fun j=>n/2^(32*j) % 4294967296) b=n % 2^(32*b)
 | 0=>by simp[lv,rX]
 | b+1=>by
   have a:2^(32*(b+1))=2^(32*b)*4294967296:=by rw[fY,iB]
   rw[lv,aly n b,a,Nat.mod_mul,cJ (2^(32*b))]
theorem j8(n:Nat):cK n (nT n):=by
 obtain⟨a,d⟩:=aiN n n zR;refine⟨fun j _=>iS _ om,fun h=> ?_,(aly n _).trans (iC a)⟩;have e:=d h;show n/2^(32*(ad n n-1)) % 4294967296≠0;have h:0<ad n n:=h;generalize ad n n=c at*;obtain⟨b,rfl⟩:∃b,c=b+1:=⟨c-1,om⟩;rw[cF] at*;rw[show 2^(32*(b+1))=2^(32*b)*4294967296 by rw[fY,iB]] at a;have f:n/2^(32*b)<4294967296:=(gJ (fX om)).2 (by rw[cJ];exact a);have g:=tS e (fX om);rw[iC f];omega
theorem ct{N:Nat}{p:Nat×(Nat->Nat)}(h:cK N p):(nT N).1=p.1/\(∀j,j<p.1->(nT N).2 j=p.2 j)/\cK N (nT N):=by
 have a:=j8 N;obtain⟨b,c⟩:=alx a.1 h.1 a.2.1 h.2.1 (a.2.2.trans h.2.2.symm);exact⟨b,fun j d=>c j om,a⟩
theorem gE.can(h:gE w u n m c):∃a b,u=.slice a (nT m).1 b/\(nT m).1<=b/\(nT m).1<=c/\(a=none->b=0)/\eO w a n 0 (nT m).1 (nT m).2/\(∀j,j<(nT m).1->(nT m).2 j<4294967296):=by
 obtain⟨a,s,b,Y,rfl,o,p,e,f,q,i,k,l⟩:=h;obtain⟨g,d,t⟩:=ct (N:=m) (p:=(s,Y)) ⟨i,k,l⟩;have g:=g;have d:=d;refine⟨a,b,by rw[g],om,om,e,fun j r=> ?_,t.1⟩;rw[d j om];exact f j om
def yk(neg:Bool)(N D:Nat):fZ:=⟨neg,(nT N).1,(nT N).2,(nT D).1,(nT D).2⟩
theorem jM.can(h:jM w u f n m c d)(B:d<=9223372036854775807):∃b a v e,u=.agg #[.bool (yk f n m).neg,.slice b (yk f n m).n v,.slice a (yk f n m).m e]/\ai w c (yk f n m) b a v e/\(yk f n m).n<=d/\(yk f n m).m<=d:=by
 obtain⟨z,A,g,C,rfl,D,o,k,l,-⟩:=h;obtain⟨b,v,rfl,p,i,q,r,s⟩:=D.can;obtain⟨a,e,rfl,t,j,E,x,y⟩:=o.can;exact⟨b,a,v,e,rfl,⟨p,t,q,E,⟨g,0,fun _=>k,r⟩,⟨C,0,fun _=>l,x⟩,s,y,aU i B,aU j B⟩,i,j⟩
def db(X V:Nat->Nat)(F E i c:Nat):Prop:=lv V i+c*2^(32*i)=lv X i*F+E/\c<4294967296/\(∀k,i<=k->V k=X k)/\∀k,k<i->V k<4294967296
theorem ajA{n m c d s c' k:Nat}(h:db X Y n m c d)(l:Y c=k)(j:s<4294967296)(f:c'<4294967296)(e:s+c'*4294967296=k*n+d):db X (mN Y c s) n m (c+1) c':=by
 obtain⟨r,o,b,p⟩:=h;have q:X c=k:=by rw[<-l];exact (b c zR).symm
 refine⟨?_,f,fun i g=>by rw[eT _ _ _ _ om];exact b i om,fun i g=> ?_⟩
 . simp only[lv,fR,cN Y c s c zR,q];rw[qt];generalize 2^(32*c)=P at*;have a:s*P+c'*(4294967296*P)=k*P*n+d*P:=by
    rw[<-cS,<-bI,e,bI,cS k n P,cJ n P,<-cS]
   rw[bI (lv X c)];omega
 . by_cases a:i=c
   . subst a;rw[fR];exact j
   . rw[eT _ _ _ _ a];exact p i om
theorem aaR{n m c d:Nat}{u:Value}{k:Nat}{X:Nat->Nat}{w:World}(hn:d<=67108864)(K:k<4294967296)(ad:w.cell? (jj n m)=some u)(ae:w.frozen? (jj n m)=false)
 (P:w.ownsRow c 133 1 u d (ll X d))(q:u.ownBlock≠some n)(N:n<w.heap.size)(au:c<=w.heap.size)(aa:∀j,j<d->X j<4294967296):
 Cl 209 #[.p n m,.int .u32 1000000000,.int .u32 k] w fun e B=>e=.returned (.tuple #[])/\∃v f V,B.cell? (jj n m)=some v/\B.ownsRow c 133 1 v f (ll V f)/\(v=.n->u=.n)/\v.ownBlock≠some n/\
  At1 n m u.ownBlock w B/\(∀j,j<f->V j<4294967296)/\lv V f=lv X d*1000000000+k/\f<=d+1/\(f=d∨V (f-1)≠0):=by
 obtain⟨i0,hi,ag,ah,ai⟩:=kT nF;have T:=eI aa;obtain⟨a,o,rfl,a2,ao,ab⟩:=sD P;go_enter func209,ntmps209;have S:Hid (db X X 1000000000 k 0 k):=eI ⟨by simp[lv],K,fun _ _=>rfl,fun j y=>absurd y om⟩;go_wp2;go_loopw [6,16] (fun aj t wr=>∃(i b:Nat) (V:Nat->Nat),i<=d/\t=.i i/\aj=.int .u64 b/\b<4294967296/\wr.cell? (jj n m)=some (.l a d o)/\wr.ownsRow c 133 1 (.l a d o) d (ll V d)/\At1 n m (Value.slice a d o).ownBlock w wr/\Hid (db X V 1000000000 k i b)) (fun _ t _=>d-(intOf t).toNat)
 case atStart=>exact⟨0,k,X,aJ _,rfl,rfl,K,ad,P,At1.refl _ _ _ _,S⟩
 case round=>
  obtain⟨i,b,V,az,rfl,rfl,aw,A,r,s,l⟩:=hrel;by_cases p:i<d
  . obtain⟨g,rfl⟩:=ab i p;obtain⟨g',am,e,-,av,ay,U,R⟩:=iu r qz;cases e;have Z:wr.cell? (jj g i)=some (.int .u32 (V i)):=(by simpa using (U i p).2);have g2:=R i;have af:V i<4294967296:=by
     rw[l.out.2.2.1 i zR];exact T.out i p
    have F:=eI (fun (ak W:Nat)=>ajA (s:=ak) (c':=W) l.out rfl);obtain⟨x,Y⟩:∃al,al=V i:=⟨_,rfl⟩;rw[<-Y] at Z af F;have a0:(i:Int)<d:=om;have M:g≠n:=fun e=>q (by rw[e];rfl);have q3:∀E,(wr.setCell (jj g i) E).cell? (jj n m)=some (.s g d o):=fun E=>by rw[((eM.refl wr g).setCell i E).cell (a:=jj n m) (fL M)];exact A
    go_wp2;go_roundw
    case rel=>go_light;exact⟨i+1,(x*1000000000+b)/4294967296,_,om,by go_num,congrArg (Value.int .u64) om,om,q3 _,akX r i ((x*1000000000+b) % 4294967296) p _ om,s.setRow g i _ (Or.inl rfl) M,F.out _ _ om om om⟩
    case measure=>exact yI
  . have e:i=d:=om;subst e;have C:=eI l.out.1;have D:=eI l.out.2.2.2;rcases cQ b with L | L
    . subst L;go_wp2;go_end0;exact⟨rfl,_,i,V,A,r,fun h=>h,q,s,D.out,by have:=C.out;omega,om,Or.inl rfl⟩
    . have H:some n≠(Value.slice a i o).ownBlock:=fun e=>q e.symm;have a5:=s.size;have ax:((b:Int)==0)=false:=(by simp;omega);go_wp2_with (at_builtin;refine wpList_append_own_at _ rfl _ _ 102 rfl c 133 i0 (.int .u32 0) 1 4 underlying102 hi ag ah ai rfl qd _ _ _ rfl (r.alloc _) (jj wr.heap.size 0) 1 1 [.int .u32 b] rfl rfl (iq _ _ _) (one_one _ rfl) (by unfold maxLen;omega) om (by simp;omega) ?_);intro v' w1 z O a4 ac;rw[show ll V i++[.int .u32 b]=ll (mN V i b) (i+1) from by rw[tV,fR,dy (fun j y=>eT _ _ _ _ (show j≠i by omega))]] at z;have sW:=fA wr (.o #[.int .u32 b] 133);have Q:=(s.alloc N _).grown O N (Or.inl rfl) H;have q1:=O.cell ((sW.cell (a:=jj n m) (show n<wr.heap.size by omega)).trans A) H;have f1:w1.frozen? (jj n m)=false:=by rw[Q.frozen];exact ae
      have I:v'.ownBlock≠some n:=fun e=>by
       rcases ac with h | h
       . exact q (h.symm.trans e)
       . rw[e] at h;simp at h;omega
      obtain⟨a1,an,rfl,a3,aq,ar⟩:=sD z;go_wp2;go_end0;refine⟨rfl,_,i+1,mN V i b,aQ _ _ _ q1,ownsRow_setCell_other z I _,fun h=>by simp at h,I,Q.setC _,fun j y=> ?_, ?_,om,Or.inr (by rw[show i+1-1=i by omega,fR];omega)⟩
      . by_cases G:j=i
        . subst G;rw[fR];omega
        . rw[eT _ _ _ _ G];exact D.out j om
      . have:=C.out;simp only[lv,fR,cN V i b i zR];exact this
theorem Tab.keepN(a:Tab w)(b:0<=w.heap.size)(c:w.S v):Tab v:=trivial
theorem zh{k:Nat}{R:Nat->fZ}(C:0<=w.heap.size)(B:Tab w)(N:d<=16777216)(P:nU R d<=16777216)(H:ph w n a m c d R):
 Cl 57 #[.slice a d k] w fun e U=>∃r:Bool,e=.returned (.bool r)/\(r=true↔ke R d)/\w.S U:=by
 go_enter func57,ntmps57;go_wp2;go_loopw [7] (fun i wr=>∃b:Nat,b<=d/\i=.i b/\w.S wr/\ke R b) (fun i _=>d-(intOf i).toNat)
 case atStart=>exact⟨0,aJ _,rfl,aF _ _,fun i o=>absurd o om⟩
 case round=>
  obtain⟨b,L,rfl,s,O⟩:=hrel;by_cases g:b<d
  . obtain⟨rfl,l,T,q,t,M⟩:=H b g;have x:=M.aA s;obtain⟨G,I,K⟩:=x.g;have S:(b:Int)<d:=om;have Q:=qo (R:=R) g;have A:w.S (wr.alloc (.o #[.bool (R b).neg,.l l (R b).n q,.l T (R b).m t] 70)):=s.alloc s.size _;obtain⟨y,D,-,u⟩:=(M.L.aA A).LX;obtain⟨z,E,-,v⟩:=(M.L.aA A).LY;have p:=@acX (R b).neg l T y D (R b).n q z E (R b).m t (R b).X (R b).Y _ (aJ _) om om M.L.nc M.L.mc M.L.ac M.L.bc u v M.L.lX M.L.lY (B.keepN C A);rw[show gu (R b).neg (R b).X (R b).n (R b).Y (R b).m=(R b).ok from rfl] at p;cases hok:(R b).ok
    . have f:=eI hok;rw[hok] at p;go_wp2_with fail;refine mo p fun F j=> ?_;go_wp2;go_ret;refine⟨false,rfl,⟨(fun h=>by cases h),fun h=> ?_⟩,A.tr j⟩;have:=h b g;rw[f.out] at this;cases this
    . have f:=eI hok;rw[hok] at p;go_wp2_with fail;refine mo p fun F j=> ?_;go_wp2;go_roundw
      case rel=>
       refine⟨b+1,om,by go_num,A.tr j,fun i o=> ?_⟩;by_cases e:i=b
       . subst e;exact f.out
       . exact O i om
      case measure=>exact yI
  . have e:b=d:=om;subst e;go_wp2;go_ret;exact⟨true,rfl,⟨fun _=>O,fun _=>rfl⟩,s⟩
theorem kP(b:0<=z)(c:z<=20000):
 Cl 127 #[.i z] w fun e a=>e=.returned (.bool true)/\a=w:=by
 go_enter func127,ntmps127;go_wp2;go_ret;exact⟨rfl,rfl⟩
theorem aaz(h:¬(0<=z/\z<=20000)):
 Cl 127 #[.i z] w fun e c=>e=.returned (.bool false)/\c=w:=by
 by_cases b:0<=z
 . have a:¬z<=20000:=fun a=>h ⟨b,a⟩;go_enter func127,ntmps127;go_wp2;go_ret;exact⟨rfl,rfl⟩
 . clear h;go_enter func127,ntmps127;go_wp2;go_ret;exact⟨rfl,rfl⟩
theorem aaG{d:ic}{w:World}(h:d.dY):
 Cl 89 #[.i d.rows,.i d.cols] w fun e a=>e=.returned (.i d.cells)/\a=w:=by
 have hb:=h.bounds;unfold ic.cells at hb⊢;obtain⟨b,c,f,g⟩:=h;go_enter func89,ntmps89;go_wp2;go_ret;exact⟨rfl,rfl⟩
theorem wI{d:ic}:
 Cl 88 #[.agg #[.i d.rows,.i d.cols,.slice a d.nw n,.slice A d.nb m]] w fun e t=>∃r:Bool,e=.returned (.bool r)/\(r=true↔d.shape)/\w.S t:=by
 have g:=fA w (.o #[.i d.rows,.i d.cols,.l a d.nw n,.l A d.nb m] 52);by_cases c:0<=d.rows/\d.rows<=20000;rotate_left
 . have b:=eI (show ¬d.shape from fun h=>c ⟨h.1.1,h.1.2.1⟩);go_enter func88,ntmps88;go_wp2_with fail;refine (aaz c).mono ?_;rintro e z ⟨rfl,rfl⟩;go_wp2;go_ret;exact⟨false,rfl,⟨(fun h=>by cases h),fun h=>absurd h b.out⟩,g⟩
 by_cases f:0<=d.cols/\d.cols<=20000;rotate_left
 . have b:=eI (show ¬d.shape from fun h=>f ⟨h.1.2.2.1,h.1.2.2.2⟩);go_enter func88,ntmps88;go_wp2_with fail;refine (kP c.1 c.2).mono ?_;rintro e z ⟨rfl,rfl⟩;go_wp2_with fail;refine (aaz f).mono ?_;rintro e z ⟨rfl,rfl⟩;go_wp2;go_ret;exact⟨false,rfl,⟨(fun h=>by cases h),fun h=>absurd h b.out⟩,g⟩
 have o:d.dY:=⟨c.1,c.2,f.1,f.2⟩;have hb:=o.bounds;obtain⟨B,C⟩:=c;obtain⟨k,l⟩:=f;obtain⟨u,v,x,y⟩:=hb;by_cases j:(d.nw:Int)=d.rows*d.cols;rotate_left
 . have b:=eI (show ¬d.shape from fun h=>j h.2.1);have q:((d.nw:Int)==d.rows*d.cols)=false:=(by simpa using j);go_enter func88,ntmps88;go_wp2_with fail;refine (kP B C).mono ?_;rintro e z ⟨rfl,rfl⟩;go_wp2_with fail;refine (kP k l).mono ?_;rintro e z ⟨rfl,rfl⟩;go_wp2;go_ret;exact⟨false,rfl,⟨(fun h=>by cases h),fun h=>absurd h b.out⟩,g⟩
 have q:((d.nw:Int)==d.rows*d.cols)=true:=by simpa using j
 by_cases i:(d.nb:Int)=d.rows;rotate_left
 . have b:=eI (show ¬d.shape from fun h=>i h.2.2);have s:((d.nb:Int)==d.rows)=false:=(by simpa using i);go_enter func88,ntmps88;go_wp2_with fail;refine (kP B C).mono ?_;rintro e z ⟨rfl,rfl⟩;go_wp2_with fail;refine (kP k l).mono ?_;rintro e z ⟨rfl,rfl⟩;go_wp2;go_ret;exact⟨false,rfl,⟨(fun h=>by cases h),fun h=>absurd h b.out⟩,g⟩
 have p:=eI (show d.shape from⟨o,j,i⟩);have s:((d.nb:Int)==d.rows)=true:=by simpa using i
 go_enter func88,ntmps88;go_wp2_with fail;refine (kP B C).mono ?_;rintro e z ⟨rfl,rfl⟩;go_wp2_with fail;refine mp (kP k l) ?_;go_wp2;go_ret;exact⟨true,rfl,⟨fun _=>p.out,fun _=>rfl⟩,g⟩
theorem acM{d:ic}{a A:Option Addr}{n m:Nat}{w:World}(h:d.shape):
 Cl 88 #[.agg #[.i d.rows,.i d.cols,.slice a d.nw n,.slice A d.nb m]] w fun e g=>e=.returned (.bool true)/\w.S g:=
 (wI).mono fun e g ⟨r,b,c,f⟩=>⟨by rw[b,c.2 h],f⟩
theorem aec{d:ic}{a A:Option Addr}{n m:Nat}{w:World}(h:¬d.shape):
 Cl 88 #[.agg #[.i d.rows,.i d.cols,.slice a d.nw n,.slice A d.nb m]] w fun e g=>e=.returned (.bool false)/\w.S g:=
 (wI).mono fun e g ⟨r,b,c,f⟩=>⟨by rw[b];cases r;rfl;exact absurd (c.1 rfl) h,f⟩
structure c4(n:Nat)(A:Nat->ic):Prop where
 n0:1<=n
 n1:n<=10000
 shape:∀k,k<n->(A k).shape
 chain:∀k,k<n->0<k->(A k).cols=(A (k-1)).rows
 sum:yd A n<=20000
theorem ade{k:Nat}{A:Nat->ic}(hn:d<=16777216)(ad:sc w n a m c d A):
 Cl 56 #[.agg #[.slice a d k]] w fun e q=>∃aj:Bool,e=.returned (.bool aj)/\(aj=true↔c4 d A)/\w.S q:=by
 have W:=fA w (.o #[.l a d k] 25);have bA:=ix.new w (.l a d k) 25;by_cases h0:(d:Int)<1
 . have Q:=eI (show ¬c4 d A from fun p=>by have:=p.n0;omega);go_enter func56,ntmps56;go_wp2;go_ret;exact⟨false,rfl,⟨(fun h=>by cases h),fun h=>absurd h Q.out⟩,W⟩
 by_cases h1:(10000:Int)<d
 . have Q:=eI (show ¬c4 d A from fun p=>by have:=p.n1;omega);go_enter func56,ntmps56;go_wp2;go_ret;exact Or.inl ⟨rfl,Q.out,W⟩
 go_enter func56,ntmps56;go_wp2_with fail;generalize w.alloc _=wA at*;go_loopw [3,19] (fun ac i wr=>∃b:Nat,b<=d/\i=.i b/\ac=.i (yd A b)/\wA.S wr/\(∀j,j<b->(A j).shape)/\(∀j,j<b->0<j->(A j).cols=(A (j-1)).rows)) (fun _ i _=>d-(intOf i).toNat)
 case atStart=>exact⟨0,aJ _,rfl,rfl,aF _ _,fun i hi=>absurd hi om,fun i hi=>absurd hi om⟩
 case round=>
  obtain⟨b,hk,rfl,rfl,s,O,C⟩:=hrel;by_cases ab:b<d
  . have ax:=bA.aA s;have b0:=ax.c0;have u:=W.tr s;obtain⟨rfl,g,l,X,o,al⟩:=ad b ab;have V:=al.aA u;have g0:=V.c0;have g1:=V.c1;have g2:=V.c2;have g3:=V.c3;have hz:(b:Int)<d:=om;have r:=fA wr (.o #[.i (A b).rows,.i (A b).cols,.l g (A b).nw X,.l l (A b).nb o] 52);have I:=ie.new wr (.i (A b).rows) (.i (A b).cols) (.l g (A b).nw X) (.l l (A b).nb o) 52;go_wp2_with fail;generalize wr.alloc _=M at*;have T:w.S M.drew:=⟨(u.tr r).os,(u.tr r).tape,(u.tr r).output,(u.tr r).size,(u.tr r).block⟩;have ay:ix M.drew w.heap.size (.l (jp m c) d k):=⟨(ax.aA r).c0,(ax.aA r).f⟩;have P:ie M.drew wr.heap.size (.i (A b).rows) (.i (A b).cols) (.l g (A b).nw X) (.l l (A b).nb o):=⟨I.c0,I.c1,I.c2,I.c3,I.f⟩;have p0:=ay.c0;obtain⟨d0,d1,d2,d3⟩:=I.g;obtain⟨ae,af,ag,ah⟩:=P.g;have ak:wA.S M.drew:=⟨(s.tr r).os,(s.tr r).tape,(s.tr r).output,(s.tr r).size,(s.tr r).block⟩;clear g0 g1 g2 g3 b0;by_cases D:(A b).shape;rotate_left
    . have Q:=eI D;have R:=@aec (A b) g l X o M.drew D;clear D;refine wp_region_held_drew (S:=(fun q=>q.cell? (jj wr.heap.size 0)=some (.i (A b).rows)/\q.cell? (jj wr.heap.size 1)=some (.i (A b).cols)/\q.cell? (jj wr.heap.size 2)=some (.l g (A b).nw X)/\q.cell? (jj wr.heap.size 3)=some (.l l (A b).nb o))) kr ?_ (fun B=> ?_)
      . go_keep
      refine kl 0 24 ?_;refine tu 1 fun K t=> ?_;go_simp;go_wp2_with (go_at_call 88;with_reducible refine mo R fun w3 f=> ?_);have z:=T.tr f;have y:=P.aA f;obtain⟨E,F,G,H⟩:=y.g;refine t.out _ _ ?_ (fun aa=> ?_)
      . exact⟨E,F,G,H⟩
      clear t K B;refine kl 2 26 ?_;refine kl 3 27 ?_;refine sk 4 28 ?_;simp only[ap,la,lz,ls];refine sk 5 29 ?_;simp only[ap,la,lz,ls];refine sk 6 30 ?_;simp only[ap,la,lz,ls];refine sk 7 31 ?_;simp only[ap,la,lz,ls];refine sk 8 32 ?_;simp only[ap,la,lz,ls];refine sk 9 33 ?_;simp only[ap,la,lz,ls];refine sk 10 34 ?_;simp only[ap,la,lz,ls];refine sk 11 35 ?_;simp only[ap,la,lz,ls];refine sk 12 36 ?_;simp only[ap,la,lz,ls];refine sk 13 37 ?_;simp only[ap,la,lz,ls];refine sk 14 38 ?_;simp only[ap,la,lz,ls];refine sk 15 39 ?_;simp only[ap,la,lz,ls];refine sk 16 40 ?_;simp only[ap,la,lz,ls];refine sk 17 41 ?_;simp only[ap,la,lz,ls];refine kl 18 42 ?_;refine wpAnyH_done kr ?_ _;all_goals go_wp2
      all_goals go_ret
      all_goals exact⟨false,rfl,⟨(fun h=>by cases h),fun p=>absurd (p.shape b ab) Q.out⟩,z⟩
    have U:=eI D;have hb:=D.1.bounds;have sb:=xC (A:=A) (k:=b) O;have R:=@acM (A b) g l X o M.drew D;clear D;rcases cQ b with ai | am
    . have hg:decide ((0:Int)<b)=false:=(by simp;omega);have S:∀j,j<b+1->(A j).shape:=fun j hj=>by obtain rfl:j=b:=om;exact U.out
      have N:∀j,j<b+1->0<j->(A j).cols=(A (j-1)).rows:=fun j hj h=>om;have v:=eI (And.intro S N);have H0:=eI ai;clear S N O C ai;refine wp_region_held_drew (S:=(fun q=>q.cell? (jj wr.heap.size 0)=some (.i (A b).rows)/\q.cell? (jj wr.heap.size 1)=some (.i (A b).cols)/\q.cell? (jj wr.heap.size 2)=some (.l g (A b).nw X)/\q.cell? (jj wr.heap.size 3)=some (.l l (A b).nb o))) kr ?_ (fun B=> ?_)
      . go_keep
      refine kl 0 24 ?_;refine tu 1 fun K t=> ?_;go_simp;go_wp2_with (go_at_call 88;with_reducible refine mo R fun w3 f=> ?_);have z:=T.tr f;have y:=P.aA f;obtain⟨E,F,G,H⟩:=y.g;refine t.out _ _ ?_ (fun aa=> ?_)
      . exact⟨E,F,G,H⟩
      clear t K B;refine kl 2 26 ?_;refine kl 3 27 ?_;refine kl 4 28 ?_;refine ta 5 29 (.bool false) ?_ ?_
      . intro q x;try dsimp only at x
        go_simp;exact H0.out
      simp only[ap,la,lz,ls];refine kl 6 30 ?_;refine sk 7 31 ?_;simp only[ap,la,lz,ls];refine sk 8 32 ?_;simp only[ap,la,lz,ls];refine sk 9 33 ?_;simp only[ap,la,lz,ls];refine sk 10 34 ?_;simp only[ap,la,lz,ls];refine sk 11 35 ?_;simp only[ap,la,lz,ls];refine sk 12 36 ?_;simp only[ap,la,lz,ls];refine sk 13 37 ?_;simp only[ap,la,lz,ls];refine sk 14 38 ?_;simp only[ap,la,lz,ls];refine sk 15 39 ?_;simp only[ap,la,lz,ls];refine sk 16 40 ?_;simp only[ap,la,lz,ls];refine kl 17 41 ?_;refine kl 18 42 ?_;refine wpAnyH_done kr ?_ _;go_wp2_with fail;refine (@aaG (A b) _ U.out.1).mono ?_;rintro e w4 ⟨rfl,rfl⟩;go_wp2;go_roundw
      case rel=>exact⟨b+1,om,by go_num,rfl,ak.tr f,v.out.1,v.out.2⟩
      case measure=>exact yI
    . obtain⟨p,hp⟩:∃p,p=b-1:=⟨_,rfl⟩;have HP:=eI hp;obtain⟨-,an,ao,av,aw,Z⟩:=ad p om;have e0:=(Z.aA T).c0;have hg:(0:Int)<b:=om;have aq:IntKind.i64.wrap ((b:Int)-1)=(p:Int):=(by rw[tR];omega);have ar:(p:Int)<d:=om;have au:(b:Int)-1=p:=om;clear hp;by_cases L:(A b).cols=(A p).rows
      . have az:=eI L;have ac:((A b).cols != (A p).rows)=false:=(by simpa using L);clear L;have S:∀j,j<b+1->(A j).shape:=fun j hj=>by
         by_cases e:j=b
         . subst e;exact U.out
         . exact O j om
        have N:∀j,j<b+1->0<j->(A j).cols=(A (j-1)).rows:=fun j hj h=>by
         by_cases e:j=b
         . subst e;rw[<-HP.out];exact az.out
         . exact C j om h
        have v:=eI (And.intro S N);clear S N O C;refine wp_region_held_drew (S:=(fun q=>q.cell? (jj wr.heap.size 0)=some (.i (A b).rows)/\q.cell? (jj wr.heap.size 1)=some (.i (A b).cols)/\q.cell? (jj wr.heap.size 2)=some (.l g (A b).nw X)/\q.cell? (jj wr.heap.size 3)=some (.l l (A b).nb o)/\q.cell? (jj w.heap.size 0)=some (.l (jp m c) d k)/\q.cell? (jj m (c+p*4))=some (.i (A p).rows))) kr ?_ (fun B=> ?_)
        . exact⟨ae,af,ag,ah,p0,e0⟩
        refine kl 0 24 ?_;refine tu 1 fun K t=> ?_;go_simp;go_wp2_with (go_at_call 88;with_reducible refine mo R fun w3 f=> ?_);have z:=T.tr f;have y:=P.aA f;obtain⟨E,F,G,H⟩:=y.g;have i4:=(ay.aA f).c0;have i5:=(Z.aA z).c0;refine t.out _ _ ?_ (fun aa=> ?_)
        . exact⟨E,F,G,H,i4,i5⟩
        clear t K B;refine kl 2 26 ?_;refine kl 3 27 ?_;refine kl 4 28 ?_;refine kl 5 29 ?_;refine kl 6 30 ?_;refine kl 7 31 ?_;refine kl 8 32 ?_;refine kl 9 33 ?_;refine kl 10 34 ?_;refine kl 11 35 ?_;refine ta 12 36 (.i p) ?_ ?_
        . intro q x;try dsimp only at x
          go_simp;rw[tR];omega
        simp only[ap,la,lz,ls];refine kl 13 37 ?_;refine kl 14 38 ?_;refine kl 15 39 ?_;refine kl 16 40 ?_;refine kl 17 41 ?_;refine kl 18 42 ?_;refine wpAnyH_done kr ?_ _;all_goals go_wp2_with fail
        all_goals refine (@aaG (A b) _ U.out.1).mono ?_
        all_goals rintro e w4 ⟨rfl,rfl⟩
        all_goals go_wp2
        all_goals go_roundw
        case rel=>exact⟨b+1,om,by go_num,rfl,ak.tr f,v.out.1,v.out.2⟩
        case measure=>exact yI
      . have az:=eI L;have ac:((A b).cols != (A p).rows)=true:=(by simpa using L);clear L;refine wp_region_held_drew (S:=(fun q=>q.cell? (jj wr.heap.size 0)=some (.i (A b).rows)/\q.cell? (jj wr.heap.size 1)=some (.i (A b).cols)/\q.cell? (jj wr.heap.size 2)=some (.l g (A b).nw X)/\q.cell? (jj wr.heap.size 3)=some (.l l (A b).nb o)/\q.cell? (jj w.heap.size 0)=some (.l (jp m c) d k)/\q.cell? (jj m (c+p*4))=some (.i (A p).rows))) kr ?_ (fun B=> ?_)
        . exact⟨ae,af,ag,ah,p0,e0⟩
        refine kl 0 24 ?_;refine tu 1 fun K t=> ?_;go_simp;go_wp2_with (go_at_call 88;with_reducible refine mo R fun w3 f=> ?_);have z:=T.tr f;have y:=P.aA f;obtain⟨E,F,G,H⟩:=y.g;have i4:=(ay.aA f).c0;have i5:=(Z.aA z).c0;refine t.out _ _ ?_ (fun aa=> ?_)
        . exact⟨E,F,G,H,i4,i5⟩
        clear t K B;refine kl 2 26 ?_;refine kl 3 27 ?_;refine kl 4 28 ?_;refine kl 5 29 ?_;refine kl 6 30 ?_;refine kl 7 31 ?_;refine kl 8 32 ?_;refine kl 9 33 ?_;refine kl 10 34 ?_;refine kl 11 35 ?_;refine ta 12 36 (.i p) ?_ ?_
        . intro q x;try dsimp only at x
          go_simp;rw[tR];omega
        simp only[ap,la,lz,ls];refine kl 13 37 ?_;refine kl 14 38 ?_;refine kl 15 39 ?_;refine kl 16 40 ?_;refine kl 17 41 ?_;refine kl 18 42 ?_;refine wpAnyH_done kr ?_ _;all_goals go_wp2
        all_goals go_ret
        all_goals exact⟨false,rfl,⟨(fun h=>by cases h),fun pc=>absurd (pc.chain b ab am) (by rw[<-HP.out];exact az.out)⟩,z⟩
  . have u:w.S wr:=W.tr s;have e:b=d:=om;subst e;have v:=eI (And.intro O C);clear O C;by_cases hq:yd A b<=20000
    . have Y:=eI hq;go_wp2;go_ret;exact⟨true,qz,⟨fun _=>⟨om,om,v.out.1,v.out.2,Y.out⟩,fun _=>rfl⟩,u⟩
    . have Y:=eI hq;go_wp2;go_ret;exact Or.inl ⟨qz,fun p=>absurd p.sum (by have:=Y.out;omega),u⟩
theorem ali(n:Nat)(A:Nat->ic):pH n A↔c4 n A/\∀k,k<n->(A k).dO:=
 ⟨fun h=>⟨⟨h.n0,h.n1,h.shape,h.chain,h.sum⟩,h.dO⟩,fun h=>⟨h.1.n0,h.1.n1,h.1.shape,h.1.chain,h.1.sum,h.2⟩⟩
theorem rZ{a:Option Addr}{n m c d k:Nat}{A:Nat->ic}{w:World}(C:0<=w.heap.size)(B:Tab w)(hn:d<=16777216)(hs:vK A d<=16777216)(H:sc w n a m c d A):
 Cl 21 #[.agg #[.slice a d k]] w fun e w'=>∃r:Bool,e=.returned (.bool r)/\(r=true↔pH d A)/\w.S w':=by
 have Q:=fA w (.o #[.l a d k] 25);have z:=ix.new w (.l a d k) 25;have E:=eI (ali d A);go_enter func21,ntmps21;go_wp2_with fail;refine (ade hn (H.aA Q)).mono ?_;rintro e w1 ⟨r1,rfl,D,L⟩;have Z:=eI D;have o:=Q.tr L;have S:=z.aA L;have b0:=S.c0;clear D z;cases r1
 . go_wp2;go_ret;exact⟨false,rfl,⟨(fun h=>by cases h),fun p=>absurd (Z.out.2 (E.out.1 p).1) qz⟩,o⟩
 have T:=eI (Z.out.1 qz);clear Z;go_wp2_with fail;go_loopw [11] (fun i wr=>∃b:Nat,b<=d/\i=.i b/\w1.S wr/\(∀j,j<b->(A j).dO)) (fun i _=>d-(intOf i).toNat)
 case atStart=>exact⟨0,aJ _,rfl,aF _ _,fun i hi=>absurd hi om⟩
 case round=>
  obtain⟨b,hk,rfl,s,O⟩:=hrel;by_cases l:b<d
  . have f:w.S wr:=o.tr s;obtain⟨rfl,x,y,I,K,M⟩:=H b l;have Y:=M.aA f;have ad:=Y.c0;have g1:=Y.c1;have g2:=Y.c2;have g3:=Y.c3;have hz:(b:Int)<d:=om;have aa:=xu (A:=A) l;unfold ic.size at aa;have R:=fA wr (.o #[.i (A b).rows,.i (A b).cols,.l x (A b).nw I,.l y (A b).nb K] 52);have ac:=ie.new wr (.i (A b).rows) (.i (A b).cols) (.l x (A b).nw I) (.l y (A b).nb K) 52;go_wp2_with fail;generalize wr.alloc _=w2 at*;have g:=f.tr R;have N:=s.tr R;obtain⟨ba,oa,-,W⟩:=(M.L.aA g).LW;obtain⟨bb,ob,-,V⟩:=(M.L.aA g).LB;refine (zh (aJ _) (B.keepN C g) om om W).mono ?_;rintro e w3 ⟨r2,rfl,F,t⟩;have u:=eI F;have q:=g.tr t;have d3:=(ac.aA t).c3;clear F ad g1 g2 g3;cases r2
    . go_wp2;go_ret;exact⟨false,rfl,⟨(fun h=>by cases h),fun p=>absurd (u.out.2 (p.dO b l).1) qz⟩,q⟩
    go_wp2_with fail;refine (zh (aJ _) (B.keepN C q) om om (V.aA t)).mono ?_;rintro e w4 ⟨r3,rfl,G,P⟩;have v:=eI G;have X:=q.tr P;clear G;cases r3
    . go_wp2;go_ret;exact⟨false,rfl,⟨(fun h=>by cases h),fun p=>absurd (v.out.2 (p.dO b l).2) qz⟩,X⟩
    go_wp2;go_roundw
    case rel=>
     refine⟨b+1,om,by go_num,(N.tr t).trans (sM P (aU N.size t.size)),fun j hj=> ?_⟩;by_cases e:j=b
     . subst e;exact⟨u.out.1 qz,v.out.1 qz⟩
     . exact O j om
    case measure=>exact yI
  . have f:w.S wr:=o.tr s;have e:b=d:=om;subst e;have U:=eI O;clear O;go_wp2;go_ret;exact⟨true,rfl,⟨fun _=>E.out.2 ⟨T.out,U.out⟩,fun _=>rfl⟩,f⟩
theorem rO{a:Option Addr}{n m c d k:Nat}{A:Nat->ic}{w:World}(hn:d<=16777216)(hs:∀b,b<d->(A b).few)(H:sc w n a m c d A):
 Cl 14 #[.agg #[.slice a d k]] w fun e l=>∃r:Bool,e=.returned (.bool r)/\(r=true↔pH d A)/\w.S l:=by
 have W:=fA w (.o #[.l a d k] 25);have bA:=ix.new w (.l a d k) 25;by_cases h:(1:Int)<=d/\(d:Int)<=10000;rotate_left
 . have X:=eI (show ¬pH d A from fun p=>by have:=p.n0;have:=p.n1;omega);go_enter func14,ntmps14;go_wp2_with fail;refine (ej h).mono ?_;rintro e w1 ⟨rfl,rfl⟩;clear h;go_wp2;go_ret;exact⟨false,rfl,⟨(fun h=>by cases h),fun h=>absurd h X.out⟩,W⟩
 obtain⟨h0,h1⟩:=h;go_enter func14,ntmps14;go_wp2_with fail;refine mp (pF h0 h1) ?_;generalize w.alloc _=S at*;go_wp2;go_loopw [3,4] (fun q i wr=>∃b:Nat,b<=d/\i=.i b/\q=.i (yd A b)/\S.S wr/\(∀j,j<b->(A j).shape/\(A j).dO)/\(∀j,j<b->0<j->(A j).cols=(A (j-1)).rows)) (fun _ i _=>d-(intOf i).toNat)
 case atStart=>exact⟨0,aJ _,rfl,rfl,aF _ _,fun i Q=>absurd Q om,fun i Q=>absurd Q om⟩
 case round=>
  obtain⟨b,hk,rfl,rfl,s,O,C⟩:=hrel;have T:=bA.aA s;have U:=T.c0;have B:=W.tr s;by_cases t:b<d
  . obtain⟨rfl,a1,a2,k1,k2,M⟩:=H b t;have x:=M.aA B;have K:=x.c0;have L:=x.c1;have N:=x.c2;have P:=x.c3;have hz:(b:Int)<d:=om;have ac:=hs b t;go_wp2_with fail;refine (afR ac x.L).mono ?_;rintro e Z ⟨r1,rfl,V,u⟩;have G:=eI V;clear V K L N P U;have D:=B.tr u;cases r1
    . go_wp2;go_ret;exact⟨false,rfl,⟨(fun h=>by cases h),fun p=>absurd (G.out.2 ⟨p.shape b t,p.cells t,p.dO b t⟩) qz⟩,D⟩
    have I:=eI (G.out.1 qz);have hb:=I.out.1.1.bounds;have sb:=xC (A:=A) (k:=b) (fun j f=>(O j f).1);have z:=M.aA D;have K:=z.c0;have L:=z.c1;have N:=z.c2;have P:=z.c3;have U:=(T.aA u).c0;clear G;rcases cQ b with aa | ab
    . subst aa;simp only[iT,fV] at K L N P;have y:∀j,j<0+1->(A j).shape/\(A j).dO:=fun j f=>by
       obtain rfl:j=0:=om;exact⟨I.out.1,I.out.2.2⟩
      have v:∀j,j<0+1->0<j->(A j).cols=(A (j-1)).rows:=fun j f h=>om;have Y:=eI (And.intro y v);clear y v O C;have sd:∀q l,(Z.drewN q).Since (Z.drewN q).heap.size l->S.S l:=fun q l g=>(s.tr u).trans (((Same.refl Z).drewN q |>.since _).trans (sM g (aU s.size u.size)));go_wp2_with fail;go_quiet (fail);go_wp2_with fail;refine mo (vj I.out.1.1) fun w3 g=> ?_;have R:=sd _ _ g;clear sd g;go_wp2;go_roundw
      case rel=>exact⟨0+1,om,rfl,rfl,R,Y.out.1,Y.out.2⟩
      case measure=>exact yI
    . obtain⟨-,ae,af,ah,ai,aj⟩:=H (b-1) om;have ak:=aj.aA D;have e0:=ak.c0;have hg:(0:Int)<b:=om;have ag:(b:Int)-1=((b-1:Nat):Int):=om;by_cases o:(A b).cols=(A (b-1)).rows
      . have E:=eI o;have q:((A b).cols != (A (b-1)).rows)=false:=(by simpa using o);clear o;have y:∀j,j<b+1->(A j).shape/\(A j).dO:=fun j f=>by
         by_cases e:j=b
         . subst e;exact⟨I.out.1,I.out.2.2⟩
         . exact O j om
        have v:∀j,j<b+1->0<j->(A j).cols=(A (j-1)).rows:=fun j f h=>by
         by_cases e:j=b
         . subst e;exact E.out
         . exact C j om h
        have Y:=eI (And.intro y v);clear y v O C;have sd:∀q l,(Z.drewN q).Since (Z.drewN q).heap.size l->S.S l:=fun q l g=>(s.tr u).trans (((Same.refl Z).drewN q |>.since _).trans (sM g (aU s.size u.size)));go_wp2_with fail;go_quiet (fail);go_wp2_with fail;refine mo (vj I.out.1.1) fun w3 g=> ?_;have R:=sd _ _ g;clear sd g;go_wp2;go_roundw
        case rel=>exact⟨b+1,om,by go_num,rfl,R,Y.out.1,Y.out.2⟩
        case measure=>exact yI
      . have E:=eI o;have q:((A b).cols != (A (b-1)).rows)=true:=(by simpa using o);clear o;have sd:∀q,w.S (Z.drewN q):=fun q=>D.trans ((Same.refl Z).drewN q |>.since _);go_wp2_with fail;go_quiet (fail);go_wp2;go_ret;exact⟨false,rfl,⟨(fun h=>by cases h),fun p=>absurd (p.chain b t ab) E.out⟩,sd _⟩
  . have e:b=d:=om;subst e;have Y:=eI (And.intro O C);clear O C;by_cases I:yd A b<=20000
    . have F:=eI I;go_wp2;go_ret;exact⟨true,qz,⟨fun _=>⟨om,om,fun j f=>(Y.out.1 j f).1,Y.out.2,F.out,fun j f=>(Y.out.1 j f).2⟩,fun _=>rfl⟩,B⟩
    . have F:=eI I;go_wp2;go_ret;exact Or.inl ⟨qz,fun p=>absurd p.sum (by have:=F.out;omega),B⟩
theorem acJ{k:Nat}{A:Nat->ic}(f:d<=16777216)(i:vK A d<=16777216)(H:sc w n a m c d A):
 Cl 14 #[.agg #[.slice a d k]] w fun e h=>∃r:Bool,e=.returned (.bool r)/\(r=true↔pH d A)/\w.S h:=
 rO f (fun g b=>ic.few_of (by have:=xu (A:=A) b;omega)) H
end Go.Proofs.YtinihjgnnlemmaaGreatDoor
