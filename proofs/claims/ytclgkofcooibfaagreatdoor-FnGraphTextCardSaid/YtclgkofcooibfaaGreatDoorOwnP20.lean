import Derived.Test.YtclgkofcooibfaaGreatDoorOwnP18
import Derived.Test.YtclgkofcooibfaaGreatDoorOwnP19
set_option maxHeartbeats 6400000
set_option maxRecDepth 100000
namespace Go.Proofs.YtclgkofcooibfaaGreatDoor
open Go.RowKit
def acH(base:Nat)(w0:World)(c d G B:Nat)(wr:World):Prop:=
 ∃(gn gm:Nat) (an am:Option Addr) (n m cn cm:Nat) (X Y:Nat->Nat),Gd base w0 wr c d gn gm an am n m cn cm X Y/\n<=B/\m<=n/\lv Y m<=lv X n/\G=Nat.gcd (lv X n) (lv Y m)
theorem Gd.mn{base:Nat}{w wr:World}{c d gn gm:Nat}{an am:Option Addr}{n m cn cm:Nat}{X Y:Nat->Nat}(h:Gd base w wr c d gn gm an am n m cn cm X Y)(hle:lv Y m<=lv X n):m<=n:=ip h.lX h.pY hle
theorem abm{base c d gn gm:Nat}{an am:Option Addr}{n m cn cm:Nat}{X Y:Nat->Nat}{u v x y:Nat}{odd:Bool}{w0 w:World}(hn:n<=33554432)(hle:lv Y m<=lv X n)(hm1:0<m)(hG:Gd base w0 w c d gn gm an am n m cn cm X Y)(hL:yG (lv X n) (lv Y m) u v x y odd):
 Cl 215 #[.p c 0,.p d 0,.agg #[.int .u64 (u:Int),.int .u64 (v:Int),.int .u64 (x:Int),.int .u64 (y:Int),.bool odd]] w fun e w'=>e=.returned (.tuple #[])/\
  ∃N M,vp base w0 c d N M w'/\M<=N/\N<=lv X n/\Nat.gcd N M=Nat.gcd (lv X n) (lv Y m)/\N+M<lv X n+lv Y m:=by
 have hYp:0<lv Y m:=by
  have:=jU Y m hm1 (hG.pY hm1);have:=Nat.pow_pos (n:=32*(m-1)) (show 0<2 by omega);omega
 have hmn:=hG.mn hle
 by_cases hx:x=0
 . subst hx
   have h:=@uH base c d gn gm an am n m cn cm X Y u v y odd w0 w hn om hm1 hG;refine Calls.mono h ?_;rintro e w' ⟨rfl,h⟩;have hlt:=Nat.mod_lt (lv X n) hYp;refine⟨rfl,_,_,h,Nat.le_of_lt hlt,hle, ?_, ?_⟩
   . rw[Nat.gcd_comm,<-Nat.gcd_rec,Nat.gcd_comm]
   . have h1:=Nat.div_add_mod (lv X n) (lv Y m)
     have h2:=(Nat.one_le_div_iff hYp).2 hle;have h3:lv Y m*1<=lv Y m*(lv X n/lv Y m):=Nat.mul_le_mul_left _ h2;omega
 . obtain⟨a1,a2,a3,a4,N,M,hE,hMN,hNM,hgc,hlt⟩:=hL hx
   have hN:=Nat.lt_of_le_of_lt (Nat.le_trans hNM hle) (fy X n hG.lX)
   have J:Cl 215 #[.p c 0,.p d 0,.agg #[.int .u64 u,.int .u64 v,.int .u64 x,.int .u64 y,.bool odd]] w fun e w'=>e=.returned (.tuple #[])/\vp base w0 c d N M w':=by
    cases odd
    . exact @zZ base c d gn gm an am n m cn cm X Y u v x y w0 w hn hmn hm1 hG hx a1 a2 a3 a4 N M (by simpa using hE) hMN hN
    . exact @abl base c d gn gm an am n m cn cm X Y u v x y w0 w hn hmn hm1 hG hx a1 a2 a3 a4 N M (by simpa using hE) hMN hN
   refine J.mono ?_;rintro e w' ⟨rfl,h⟩;exact⟨rfl,N,M,h,hMN,Nat.le_trans hNM hle,hgc,hlt⟩
theorem oT{base c d gn gm:Nat}{an am:Option Addr}{n m cn cm:Nat}{X Y:Nat->Nat}{w0 w:World}(_hb:0<=base)(hn:n<=16777216)(hm:m<=16777216)(hG:Gd base w0 w c d gn gm an am n m cn cm X Y)(_hT:rI w0):
 Cl 209 #[.p c 0,.p d 0] w fun e w'=>e=.returned (.tuple #[])/\∃a g k cp Z,w'.cell? (jj c 0)=some (.slice a k cp)/\k<=cp/\k<=67108864/\(a=none->cp=0)/\ag w' a g 0 k Z/\(0<k->∀x,w'.frozen? (jj g x)=false)/\
  (∀j,j<k->Z j<4294967296)/\(0<k->Z (k-1)≠0)/\lv Z k=Nat.gcd (lv X n) (lv Y m)/\base<=g/\w0.Since base w':=by
 obtain⟨G,hGe⟩:∃G,G=Nat.gcd (lv X n) (lv Y m):=⟨_,rfl⟩;have HG:=ae hGe;rw[<-hGe];clear hGe;have b1:=hG.bC;have b2:=hG.bD;go_enter Tryz.func209,Tryz.ntmps209;go_wp2_with fail;refine (@iv c 0 an am gn 0 n cn gm 0 m cm X Y _ om om b1 hG.LX hG.LY hG.lX hG.lY hG.pX hG.pY).mono ?_;rintro e w2 ⟨rfl,s2⟩;have hG:=hG.same s2;clear s2 b1 b2;have b1:=hG.bC;have b2:=hG.bD
 by_cases hlt:lv X n<lv Y m
 focus
  have hci:=qu hlt;have K0:acH base w0 c d G 16777216 ((w2.setCell (jj c 0) (.slice am m cm)).setCell (jj d 0) (.slice an n cn)).drew:=⟨gm,gn,am,an,m,n,cm,cn,Y,X,hG.swap.same (Same.refl _).drew,hm,ip hG.lY hG.pX (Nat.le_of_lt hlt),Nat.le_of_lt hlt,by rw[Nat.gcd_comm];exact HG.out⟩;have f1:=hG.fC;have f2:=hG.fD;have d1:=hG.d1;clear hlt HG;generalize fd (lv X n) (lv Y m)=z at*;go_wp2
  go_region
  clear b1 b2 f1 f2 d1 hG hci;generalize ((w2.setCell (jj c 0) (.slice am m cm)).setCell (jj d 0) (.slice an n cn)).drew=w4 at*
 rotate_left
 focus
  have hci:0<=fd (lv X n) (lv Y m):=by unfold fd;split<;>(try split)<;>omega
  have K0:acH base w0 c d G 16777216 w2:=⟨gn,gm,an,am,n,m,cn,cm,X,Y,hG,hn,hG.mn om,om,HG.out⟩;clear hlt HG hG;generalize fd (lv X n) (lv Y m)=z at*
 all_goals
  obtain⟨gn,gm,an,am,n,m,cn,cm,X,Y,hGd,hn,hmn,hle,hg⟩:=K0;have HLE:=ae hle;have HG:=ae hg;clear hle hg;go_wp2
  go_loopg [] (lv X n+lv Y m) (fun g wr=>∃(gn gm:Nat) (an am:Option Addr) (n m cn cm:Nat) (X Y:Nat->Nat),Hid (g=lv X n+lv Y m)/\Gd base w0 wr c d gn gm an am n m cn cm X Y/\n<=16777216/\Hid (lv Y m<=lv X n)/\Hid (G=Nat.gcd (lv X n) (lv Y m)))
  case atStart=>exact⟨gn,gm,an,am,n,m,cn,cm,X,Y,rfl,hGd,hn,HLE,HG⟩
  case round=>
   clear hGd hn hmn HLE HG;obtain⟨gn,gm,an,am,n,m,cn,cm,X,Y,Hg,hGd,hn,HLE,HG⟩:=hrel;have b1:=hGd.bC;have b2:=hGd.bD
   by_cases hsh:m<=2
   . go_wp2_with fail
     refine (@fU d 0 am m cm _ hsh b2).mono ?_;rintro e w2 ⟨rfl,hw2⟩;rw[hw2];clear hw2 w2
     by_cases hnn:n<=2
     . go_wp2_with fail
       refine (@fU c 0 an n cn _ hnn b1).mono ?_;rintro e w2 ⟨rfl,hw2⟩;rw[hw2];clear hw2 w2 b1 b2;have n1:=kC hnn hGd.lX;have n2:=kC hsh hGd.lY;have b1:=hGd.bC;have b2:=hGd.bD;go_wp2_with fail;refine (@fU c 0 an n cn _ hnn b1).mono ?_;rintro e w2 ⟨rfl,hw2⟩;rw[hw2];clear hw2 w2;go_wp2_with fail;refine (@jw c 0 an gn 0 n cn X _ hnn b1 hGd.LX hGd.lX).mono ?_;rintro e w2 ⟨rfl,hw2⟩;rw[hw2];clear hw2 w2;go_wp2_with fail;refine (@jw d 0 am gm 0 m cm Y _ hsh b2 hGd.LY hGd.lY).mono ?_;rintro e w2 ⟨rfl,hw2⟩;rw[hw2];clear hw2 w2;go_wp2_with fail;refine (@kT (lv X n) (lv Y m) _ n1 n2).mono ?_;rintro e w6 ⟨rfl,s6⟩;have hG:=hGd.same s6
       have hgl:Nat.gcd (lv X n) (lv Y m)<18446744073709551616:=by
        by_cases h0:lv X n=0
        . rw[h0,Nat.gcd_zero_left];exact n2
        . have:=Nat.gcd_le_left (lv Y m) (show 0<lv X n by omega)
          omega
       clear s6 b1 b2;rw[<-HG.out] at hgl⊢;go_wp2_with fail;refine (@jB G _ hgl).mono ?_;rintro e w7 ⟨S,rfl,r7,hS7,v7,s7⟩;have HV7:=ae v7;have q1:w7.cell? (jj c 0)=some (.slice an n cn):=by rw[s7.cell (a:=jj c 0) (gz _ _ hG.bC)];exact hG.bC
       have q2:w7.frozen? (jj c 0)=false:=by rw[s7.frozen (a:=jj c 0) (gz _ _ hG.bC)];exact hG.fC
       have zc:c<w6.heap.size:=gz _ _ hG.bC;have hbs:base<=w6.heap.size:=hG.aZ;have S7:w0.Since base w7:=hG.S.trans (sM s7 hbs);have hcb:=hG.hc;clear v7 hG s7 HG;go_wp2
       go_end0
       have t1:=co (nz S) 2;refine⟨rfl,_,w6.heap.size,_,_,S,j6 _ _ _ q1,t1,om,fun h=>(by cases h),((dT r7).take t1).setOther om _,fun _ x=>by simp[r7.frozen x],fun j _=>hS7 j,fun h=> ?_,(dP _ _).trans HV7.out,hbs,S7.setCell hcb _⟩;have:=cI _ _ h;simpa [nz] using this
     . go_wp2_with fail
       refine (@jC c 0 an n cn _ om b1).mono ?_;rintro e w2 ⟨rfl,hw2⟩;rw[hw2];clear hw2 w2;go_wp2_with fail;refine (@ic d 0 am m cm _ b2).mono ?_;rintro e w2 ⟨rfl,hw2⟩;rw[hw2];clear hw2 w2
       by_cases hz:m=0
       . subst hz
         have HGv:Hid (lv X n=G):=by have h:=HG.out;rw[show lv Y 0=0 from rfl,Nat.gcd_zero_right] at h;exact h.symm
         go_wp2_with fail;refine (@jC c 0 an n cn _ om b1).mono ?_;rintro e w2 ⟨rfl,hw2⟩;rw[hw2];clear hw2 w2;go_wp2
         go_end0
         exact⟨rfl,an,gn,n,cn,X,hGd.bC,hGd.nX,om,hGd.oX,hGd.LX,hGd.FX,hGd.lX,hGd.pX,HGv.out,hGd.hn,hGd.S⟩
       . have hne:((m:Int)==0)=false:=by simp;omega
         have J:=@uH base c d gn gm an am n m cn cm X Y 0 0 0 false w0 wr om om om hGd;go_wp2_with fail;refine J.mono ?_;rintro e w5 ⟨rfl,gn',gm',an',am',n',m',cn',cm',X',Y',G6,eN,eM⟩
         have hYp:0<lv Y m:=by
          have:=jU Y m om (hGd.pY om);have:=Nat.pow_pos (n:=32*(m-1)) (show 0<2 by omega);omega
         have hn':n'<=2:=Nat.le_trans (ip hGd.lY G6.pX (by rw[eN];exact Nat.le_refl _)) hsh;have hm':m'<=2:=Nat.le_trans (ip hGd.lY G6.pY (by rw[eM];exact Nat.le_of_lt (Nat.mod_lt _ hYp))) hsh;have HG6:Hid (G=Nat.gcd (lv X' n') (lv Y' m')):=by rw[eN,eM,Nat.gcd_comm,<-Nat.gcd_rec,Nat.gcd_comm];exact HG
         clear eN eM hYp J hGd b1 b2;have n1:=kC hn' G6.lX;have n2:=kC hm' G6.lY;have b1:=G6.bC;have b2:=G6.bD;go_wp2_with fail;refine (@fU c 0 an' n' cn' _ hn' b1).mono ?_;rintro e w2 ⟨rfl,hw2⟩;rw[hw2];clear hw2 w2;go_wp2_with fail;refine (@jw c 0 an' gn' 0 n' cn' X' _ hn' b1 G6.LX G6.lX).mono ?_;rintro e w2 ⟨rfl,hw2⟩;rw[hw2];clear hw2 w2;go_wp2_with fail;refine (@jw d 0 am' gm' 0 m' cm' Y' _ hm' b2 G6.LY G6.lY).mono ?_;rintro e w2 ⟨rfl,hw2⟩;rw[hw2];clear hw2 w2;go_wp2_with fail;refine (@kT (lv X' n') (lv Y' m') _ n1 n2).mono ?_;rintro e w6 ⟨rfl,s6⟩;have hG:=G6.same s6
         have hgl:Nat.gcd (lv X' n') (lv Y' m')<18446744073709551616:=by
          by_cases h0:lv X' n'=0
          . rw[h0,Nat.gcd_zero_left];exact n2
          . have:=Nat.gcd_le_left (lv Y' m') (show 0<lv X' n' by omega)
            omega
         clear s6 b1 b2;rw[<-HG6.out] at hgl⊢;go_wp2_with fail;refine (@jB G _ hgl).mono ?_;rintro e w7 ⟨S,rfl,r7,hS7,v7,s7⟩;have HV7:=ae v7;have q1:w7.cell? (jj c 0)=some (.slice an' n' cn'):=by rw[s7.cell (a:=jj c 0) (gz _ _ hG.bC)];exact hG.bC
         have q2:w7.frozen? (jj c 0)=false:=by rw[s7.frozen (a:=jj c 0) (gz _ _ hG.bC)];exact hG.fC
         have zc:c<w6.heap.size:=gz _ _ hG.bC;have hbs:base<=w6.heap.size:=hG.aZ;have S7:w0.Since base w7:=hG.S.trans (sM s7 hbs);have hcb:=hG.hc;clear v7 hG s7 HG6;go_wp2
         go_end0
         have t1:=co (nz S) 2;refine⟨rfl,_,w6.heap.size,_,_,S,j6 _ _ _ q1,t1,om,fun h=>(by cases h),((dT r7).take t1).setOther om _,fun _ x=>by simp[r7.frozen x],fun j _=>hS7 j,fun h=> ?_,(dP _ _).trans HV7.out,hbs,S7.setCell hcb _⟩;have:=cI _ _ h;simpa [nz] using this
   . go_wp2_with fail
     refine (@jC d 0 am m cm _ om b2).mono ?_;rintro e w2 ⟨rfl,hw2⟩;rw[hw2];clear hw2 w2;have hmn:=hGd.mn HLE.out;go_wp2;have hGd:=hGd.same (Same.refl _).drew;clear b1 b2;have J1:=@abn an am gn gm n m cn cm X Y wr.drew om om hmn hGd.LX hGd.LY hGd.lX hGd.lY (hGd.pX om) HLE.out;refine wp_region_held_drew (S:=fun _=>True) kr trivial (fun hHeld=> ?_);generalize wr.drew=wd at*;have b1:=hGd.bC;have b2:=hGd.bD;refine tk 0 23 (.p c 0) ?_;simp only[ap,la,lz,ls];refine tk 1 24 (.p d 0) ?_;simp only[ap,la,lz,ls];refine tk 2 25 (.p c 0) ?_;simp only[ap,la,lz,ls];refine tk 3 26 (.p c 0) ?_;simp only[ap,la,lz,ls];refine tk 5 28 (.p d 0) ?_;simp only[ap,la,lz,ls];refine tk 6 29 (.p d 0) ?_;simp only[ap,la,lz,ls];refine wpAnyH_ready (rs:=[4,7]) kr qz ?_;refine AllReadyH.cons rfl (fun K hK=> ?_) (AllReadyH.cons rfl (fun K hK=> ?_) AllReadyH.nil)
     focus
      go_simp;refine hK.out _ _ trivial (fun h1=> ?_);clear hK K h1 hHeld;refine wpAnyH_ready (rs:=[7]) kr qz ?_
     rotate_left
     focus
      go_simp;refine hK.out _ _ trivial (fun h1=> ?_);clear hK K h1 hHeld;refine wpAnyH_ready (rs:=[4]) kr qz ?_
     all_goals
      refine AllReadyH.cons rfl (fun K hK=> ?_) AllReadyH.nil;go_simp;refine hK.out _ _ trivial (fun h1=> ?_);clear hK K h1;refine wpAnyH_ready (rs:=[8]) kr qz ?_;refine AllReadyH.cons rfl (fun K hK=> ?_) AllReadyH.nil;go_simp
      go_wp2_with (go_at_call 216;(with_reducible refine J1.mono ?_);intro e w5 hL5;obtain⟨u,v,x,y,odd,rfl,hOk,s5⟩:=hL5)
      have G5:=hGd.grow s5;have J2:=@abm base c d gn gm an am n m cn cm X Y u v x y odd w0 w5 om HLE.out om G5 hOk;clear hOk;refine hK.out _ _ trivial (fun h1=> ?_);clear hK K h1;refine wpAnyH_ready (rs:=[9]) kr qz ?_;refine AllReadyH.cons rfl (fun K hK=> ?_) AllReadyH.nil;go_simp
      go_wp2_with (go_at_call 215;(with_reducible refine J2.mono ?_);rintro e w6 ⟨rfl,N,M,⟨gn',gm',an',am',n',m',cn',cm',X',Y',G6,eN,eM⟩,hMN,hNX,hgc,hlt⟩)
      subst eN eM;have hn':n'<=n:=ip hGd.lX G6.pX hNX;have HG6:Hid (G=Nat.gcd (lv X' n') (lv Y' m')):=by rw[hgc];exact HG
      have HM6:Hid (lv X' n'+lv Y' m'<gk):=by have:=Hg.out;show _<_;omega
      have HL6:=ae hMN;clear hMN hNX hgc hlt G5 J1 J2;refine hK.out _ _ trivial (fun h1=> ?_);clear hK K h1;refine wpAnyH_done kr ?_ _;go_wp2
      go_roundg (lv X' n'+lv Y' m')
      case measure=>exact HM6.out
      case rel=>exact⟨gn',gm',an',am',n',m',cn',cm',X',Y',rfl,G6,om,HL6,HG6⟩
end Go.Proofs.YtclgkofcooibfaaGreatDoor
