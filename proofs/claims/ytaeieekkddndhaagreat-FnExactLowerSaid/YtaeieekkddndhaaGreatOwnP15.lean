import Derived.Test.YtaeieekkddndhaaGreatOwnP13
import Derived.Test.YtaeieekkddndhaaGreatOwnP14
set_option maxHeartbeats 6400000
set_option maxRecDepth 100000
namespace Go.Proofs.YtaeieekkddndhaaGreat
open Go.RowKit
def ajg(base:Nat)(w0:World)(c d G B:Nat)(wr:World):Prop:=
 ∃(gn gm:Nat) (an am:Option Addr) (n m cn cm:Nat) (X Y:Nat->Nat),Gd base w0 wr c d gn gm an am n m cn cm X Y/\n<=B/\m<=n/\lv Y m<=lv X n/\G=Nat.gcd (lv X n) (lv Y m)
theorem Gd.mn{n:Nat}{w wr:World}{m c d k:Nat}{a A:Option Addr}{i j l o:Nat}{X Y:Nat->Nat}(h:Gd n w wr m c d k a A i j l o X Y)(b:lv Y j<=lv X i):j<=i:=lZ h.lX h.pY b
theorem ahM{n m c d k:Nat}{a A:Option Addr}{i j l o:Nat}{X Y:Nat->Nat}{b p q t:Nat}{f:Bool}{w v:World}(z:i<=33554432)(x:lv Y j<=lv X i)(g:0<j)(u:Gd n w v m c d k a A i j l o X Y)(L:c4 (lv X i) (lv Y j) b p q t f):
 Cl 196 #[.p m 0,.p c 0,.agg #[.int .u64 (b:Int),.int .u64 (p:Int),.int .u64 (q:Int),.int .u64 (t:Int),.bool f]] v fun e y=>e=.returned (.tuple #[])/\
  ∃N M,bY n w m c N M y/\M<=N/\N<=lv X i/\Nat.gcd N M=Nat.gcd (lv X i) (lv Y j)/\N+M<lv X i+lv Y j:=by
 have H:0<lv Y j:=by have:=zy Y j g (u.pY g);have:=fX (n:=32*(j-1)) (show 0<2 by omega);omega
 have I:=u.mn x;by_cases r:q=0
 . subst r;have h:=@adb n m c d k a A i j l o X Y b p t f w v z om g u;refine Calls.mono h ?_;rintro e y ⟨rfl,h⟩;have R:=iS (lv X i) H;refine⟨rfl,_,_,h,cZ R,x, ?_, ?_⟩
   . rw[jN,<-Nat.gcd_rec,jN]
   . have P:=iW (lv X i) (lv Y j);have K:=(Nat.one_le_div_iff H).2 x;have Q:lv Y j*1<=lv Y j*(lv X i/lv Y j):=dE _ K;omega
 . obtain⟨S,B,C,D,N,M,E,s,G,O,R⟩:=L r;have F:=dD (aU G x) (oe X i u.lX);have J:Cl 196 #[.p m 0,.p c 0,.agg #[.int .u64 b,.int .u64 p,.int .u64 q,.int .u64 t,.bool f]] v fun e y=>e=.returned (.tuple #[])/\bY n w m c N M y:=by
    cases f
    . exact agt z I g u r S B C D (by simpa using E) s F
    . exact ahL z I g u r S B C D (by simpa using E) s F
   refine J.mono ?_;rintro e y ⟨rfl,h⟩;exact⟨rfl,N,M,h,s,aU G x,O,R⟩
theorem aah{base c d gn gm:Nat}{an am:Option Addr}{n m cn cm:Nat}{X Y:Nat->Nat}{w0 w:World}(_hb:0<=base)(hn:n<=16777216)(hm:m<=16777216)(hG:Gd base w0 w c d gn gm an am n m cn cm X Y)(_hT:xe w0):
 Cl 183 #[.p c 0,.p d 0] w fun e w'=>e=.returned (.tuple #[])/\∃a g k cp Z,w'.cell? (jj c 0)=some (.slice a k cp)/\k<=cp/\k<=67108864/\(a=none->cp=0)/\bE w' a g 0 k Z/\(0<k->∀x,w'.frozen? (jj g x)=false)/\
  (∀j,j<k->Z j<4294967296)/\(0<k->Z (k-1)≠0)/\lv Z k=Nat.gcd (lv X n) (lv Y m)/\base<=g/\w0.Since base w':=by
 obtain⟨G,hGe⟩:∃G,G=Nat.gcd (lv X n) (lv Y m):=⟨_,rfl⟩;have HG:=aR hGe;rw[<-hGe];clear hGe;have b1:=hG.bC;have b2:=hG.bD;go_enter Tryz.func183,Tryz.ntmps183;go_wp2_with fail;refine (mq om om b1 hG.LX hG.LY hG.lX hG.lY hG.pX hG.pY).mono ?_;rintro e w2 ⟨rfl,s2⟩;have hG:=hG.same s2;clear s2 b1 b2;have b1:=hG.bC;have b2:=hG.bD;by_cases hlt:lv X n<lv Y m
 focus
  have hci:=ct hlt;have K0:ajg base w0 c d G 16777216 ((w2.setCell (jj c 0) (.l am m cm)).setCell (jj d 0) (.l an n cn)).drew:=⟨gm,gn,am,an,m,n,cm,cn,Y,X,hG.swap.same (Same.refl _).drew,hm,lZ hG.lY hG.pX (cZ hlt),cZ hlt,by rw[jN];exact HG.out⟩;have f1:=hG.fC;have f2:=hG.fD;have d1:=hG.d1;clear hlt HG;generalize li (lv X n) (lv Y m)=z at*;go_wp2;go_region;clear b1 b2 f1 f2 d1 hG hci;generalize ((w2.setCell (jj c 0) (.l am m cm)).setCell (jj d 0) (.l an n cn)).drew=w4 at*
 rotate_left
 focus
  have hci:0<=li (lv X n) (lv Y m):=by unfold li;split<;>(try split)<;>omega
  have K0:ajg base w0 c d G 16777216 w2:=⟨gn,gm,an,am,n,m,cn,cm,X,Y,hG,hn,hG.mn om,om,HG.out⟩;clear hlt HG hG;generalize li (lv X n) (lv Y m)=z at*
 all_goals
  obtain⟨gn,gm,an,am,n,m,cn,cm,X,Y,hGd,hn,hmn,hle,hg⟩:=K0;have HLE:=aR hle;have HG:=aR hg;clear hle hg;go_wp2;go_loopg [] (lv X n+lv Y m) (fun g wr=>∃(gn gm:Nat) (an am:Option Addr) (n m cn cm:Nat) (X Y:Nat->Nat),Hid (g=lv X n+lv Y m)/\Gd base w0 wr c d gn gm an am n m cn cm X Y/\n<=16777216/\Hid (lv Y m<=lv X n)/\Hid (G=Nat.gcd (lv X n) (lv Y m)))
  case atStart=>exact⟨gn,gm,an,am,n,m,cn,cm,X,Y,rfl,hGd,hn,HLE,HG⟩
  case round=>
   clear hGd hn hmn HLE HG;obtain⟨gn,gm,an,am,n,m,cn,cm,X,Y,Hg,hGd,hn,HLE,HG⟩:=hrel;have b1:=hGd.bC;have b2:=hGd.bD;by_cases hsh:m<=2
   . go_wp2_with fail;refine (ny hsh b2).mono ?_;rintro e w2 ⟨rfl,hw2⟩;rw[hw2];clear hw2 w2;by_cases hnn:n<=2
     . go_wp2_with fail;refine (ny hnn b1).mono ?_;rintro e w2 ⟨rfl,hw2⟩;rw[hw2];clear hw2 w2 b1 b2;have n1:=uK hnn hGd.lX;have n2:=uK hsh hGd.lY;have b1:=hGd.bC;have b2:=hGd.bD;go_wp2_with fail;refine (ny hnn b1).mono ?_;rintro e w2 ⟨rfl,hw2⟩;rw[hw2];clear hw2 w2;go_wp2_with fail;refine (sw hnn b1 hGd.LX hGd.lX).mono ?_;rintro e w2 ⟨rfl,hw2⟩;rw[hw2];clear hw2 w2;go_wp2_with fail;refine (sw hsh b2 hGd.LY hGd.lY).mono ?_;rintro e w2 ⟨rfl,hw2⟩;rw[hw2];clear hw2 w2;go_wp2_with fail;refine (vI n1 n2).mono ?_;rintro e w6 ⟨rfl,s6⟩;have hG:=hGd.same s6;have hgl:Nat.gcd (lv X n) (lv Y m)<18446744073709551616:=by
        by_cases h0:lv X n=0
        . rw[h0,oQ];exact n2
        . have:=rK (lv Y m) (show 0<lv X n by omega);omega
       clear s6 b1 b2;rw[<-HG.out] at hgl⊢;go_wp2_with fail;refine (tn hgl).mono ?_;rintro e w7 ⟨S,rfl,r7,hS7,v7,s7⟩;have HV7:=aR v7;have q1:w7.cell? (jj c 0)=some (.l an n cn):=(by rw[s7.cell (a:=jj c 0) (aG _ _ hG.bC)];exact hG.bC);have q2:w7.frozen? (jj c 0)=false:=(by rw[s7.frozen (a:=jj c 0) (aG _ _ hG.bC)];exact hG.fC);have zc:c<w6.heap.size:=aG _ _ hG.bC;have hbs:base<=w6.heap.size:=hG.sG;have S7:w0.Since base w7:=hG.S.trans (sM s7 hbs);have hcb:=hG.hc;clear v7 hG s7 HG;go_wp2;go_end0;have t1:=gh (nz S) 2;refine⟨rfl,_,w6.heap.size,_,_,S,aQ _ _ _ q1,t1,om,fun h=>(by cases h),((ip r7).take t1).setOther om _,fun _ x=>by simp[r7.frozen x],fun j _=>hS7 j,fun h=> ?_,(ji _ _).trans HV7.out,hbs,S7.setCell hcb _⟩;have:=h8 _ _ h;simpa [nz] using this
     . go_wp2_with fail;refine (ty om b1).mono ?_;rintro e w2 ⟨rfl,hw2⟩;rw[hw2];clear hw2 w2;go_wp2_with fail;refine (dp b2).mono ?_;rintro e w2 ⟨rfl,hw2⟩;rw[hw2];clear hw2 w2;by_cases hz:m=0
       . subst hz;have HGv:Hid (lv X n=G):=(by have h:=HG.out;rw[show lv Y 0=0 from rfl,rR] at h;exact h.symm);go_wp2_with fail;refine (ty om b1).mono ?_;rintro e w2 ⟨rfl,hw2⟩;rw[hw2];clear hw2 w2;go_wp2;go_end0;exact⟨rfl,an,gn,n,cn,X,hGd.bC,hGd.nX,om,hGd.oX,hGd.LX,hGd.FX,hGd.lX,hGd.pX,HGv.out,hGd.hn,hGd.S⟩
       . have hne:((m:Int)==0)=false:=(by simp;omega);have J:=@adb base c d gn gm an am n m cn cm X Y 0 0 0 false w0 wr om om om hGd;go_wp2_with fail;refine J.mono ?_;rintro e w5 ⟨rfl,gn',gm',an',am',n',m',cn',cm',X',Y',G6,eN,eM⟩;have hYp:0<lv Y m:=by
          have:=zy Y m om (hGd.pY om);have:=fX (n:=32*(m-1)) (show 0<2 by omega);omega
         have hn':n'<=2:=aU (lZ hGd.lY G6.pX (by rw[eN];exact aC _)) hsh;have hm':m'<=2:=aU (lZ hGd.lY G6.pY (by rw[eM];exact cZ (iS _ hYp))) hsh;have HG6:Hid (G=Nat.gcd (lv X' n') (lv Y' m')):=(by rw[eN,eM,jN,<-Nat.gcd_rec,jN];exact HG);clear eN eM hYp J hGd b1 b2;have n1:=uK hn' G6.lX;have n2:=uK hm' G6.lY;have b1:=G6.bC;have b2:=G6.bD;go_wp2_with fail;refine (ny hn' b1).mono ?_;rintro e w2 ⟨rfl,hw2⟩;rw[hw2];clear hw2 w2;go_wp2_with fail;refine (sw hn' b1 G6.LX G6.lX).mono ?_;rintro e w2 ⟨rfl,hw2⟩;rw[hw2];clear hw2 w2;go_wp2_with fail;refine (sw hm' b2 G6.LY G6.lY).mono ?_;rintro e w2 ⟨rfl,hw2⟩;rw[hw2];clear hw2 w2;go_wp2_with fail;refine (vI n1 n2).mono ?_;rintro e w6 ⟨rfl,s6⟩;have hG:=G6.same s6;have hgl:Nat.gcd (lv X' n') (lv Y' m')<18446744073709551616:=by
          by_cases h0:lv X' n'=0
          . rw[h0,oQ];exact n2
          . have:=rK (lv Y' m') (show 0<lv X' n' by omega);omega
         clear s6 b1 b2;rw[<-HG6.out] at hgl⊢;go_wp2_with fail;refine (tn hgl).mono ?_;rintro e w7 ⟨S,rfl,r7,hS7,v7,s7⟩;have HV7:=aR v7;have q1:w7.cell? (jj c 0)=some (.l an' n' cn'):=(by rw[s7.cell (a:=jj c 0) (aG _ _ hG.bC)];exact hG.bC);have q2:w7.frozen? (jj c 0)=false:=(by rw[s7.frozen (a:=jj c 0) (aG _ _ hG.bC)];exact hG.fC);have zc:c<w6.heap.size:=aG _ _ hG.bC;have hbs:base<=w6.heap.size:=hG.sG;have S7:w0.Since base w7:=hG.S.trans (sM s7 hbs);have hcb:=hG.hc;clear v7 hG s7 HG6;go_wp2;go_end0;have t1:=gh (nz S) 2;refine⟨rfl,_,w6.heap.size,_,_,S,aQ _ _ _ q1,t1,om,fun h=>(by cases h),((ip r7).take t1).setOther om _,fun _ x=>by simp[r7.frozen x],fun j _=>hS7 j,fun h=> ?_,(ji _ _).trans HV7.out,hbs,S7.setCell hcb _⟩;have:=h8 _ _ h;simpa [nz] using this
   . go_wp2_with fail;refine (ty om b2).mono ?_;rintro e w2 ⟨rfl,hw2⟩;rw[hw2];clear hw2 w2;have hmn:=hGd.mn HLE.out;go_wp2;have hGd:=hGd.same (Same.refl _).drew;clear b1 b2;have J1:=@ahN an am gn gm n m cn cm X Y wr.drew om om hmn hGd.LX hGd.LY hGd.lX hGd.lY (hGd.pX om) HLE.out;refine wp_region_held_drew (S:=fun _=>True) kr trivial (fun hHeld=> ?_);generalize wr.drew=wd at*;have b1:=hGd.bC;have b2:=hGd.bD;refine vC 0 23 ?_;refine vC 1 24 ?_;refine vC 2 25 ?_;refine vC 3 26 ?_;refine vC 5 28 ?_;refine vC 6 29 ?_;refine wpAnyH_ready (rs:=[4,7]) kr qz ?_;refine AllReadyH.cons rfl (fun K hK=> ?_) (AllReadyH.cons rfl (fun K hK=> ?_) AllReadyH.nil)
     focus
      go_simp;refine hK.out _ _ trivial (fun h1=> ?_);clear hK K h1 hHeld;refine wpAnyH_ready (rs:=[7]) kr qz ?_
     rotate_left
     focus
      go_simp;refine hK.out _ _ trivial (fun h1=> ?_);clear hK K h1 hHeld;refine wpAnyH_ready (rs:=[4]) kr qz ?_
     all_goals
      refine AllReadyH.cons rfl (fun K hK=> ?_) AllReadyH.nil;go_simp;refine hK.out _ _ trivial (fun h1=> ?_);clear hK K h1;refine rkH 8 fun K hK=> ?_;go_simp;go_wp2_with (go_at_call 197;(with_reducible refine J1.mono ?_);intro e w5 hL5;obtain⟨u,v,x,y,odd,rfl,hOk,s5⟩:=hL5);have G5:=hGd.grow s5;have J2:=ahM om HLE.out om G5 hOk;clear hOk;refine hK.out _ _ trivial (fun h1=> ?_);clear hK K h1;refine rkH 9 fun K hK=> ?_;go_simp;go_wp2_with (go_at_call 196;(with_reducible refine J2.mono ?_);rintro e w6 ⟨rfl,N,M,⟨gn',gm',an',am',n',m',cn',cm',X',Y',G6,eN,eM⟩,hMN,hNX,hgc,hlt⟩);subst eN eM;have hn':n'<=n:=lZ hGd.lX G6.pX hNX;have HG6:Hid (G=Nat.gcd (lv X' n') (lv Y' m')):=(by rw[hgc];exact HG);have HM6:Hid (lv X' n'+lv Y' m'<gk):=(by have:=Hg.out;show _<_;omega);have HL6:=aR hMN;clear hMN hNX hgc hlt G5 J1 J2;refine hK.out _ _ trivial (fun h1=> ?_);clear hK K h1;refine wpAnyH_done kr ?_ _;go_wp2;go_roundg (lv X' n'+lv Y' m')
      case measure=>exact HM6.out
      case rel=>exact⟨gn',gm',an',am',n',m',cn',cm',X',Y',rfl,G6,om,HL6,HG6⟩
end Go.Proofs.YtaeieekkddndhaaGreat
