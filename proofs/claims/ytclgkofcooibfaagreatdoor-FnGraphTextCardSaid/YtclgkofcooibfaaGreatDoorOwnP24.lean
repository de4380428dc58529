import Derived.Test.YtclgkofcooibfaaGreatDoorOwnP7
import Derived.Test.YtclgkofcooibfaaGreatDoorOwnP21
set_option maxHeartbeats 6400000
set_option maxRecDepth 100000
namespace Go.Proofs.YtclgkofcooibfaaGreatDoor
open Go.RowKit
def dv(s:ByteArray):Nat->Nat
 | 0=>0
 | k+1=>dv s k*10+(bt s k-48)
theorem aaF(x:Nat)(h1:48<=x)(h2:x<=57):IntKind.u8.wrap ((x:Int)-48)=((x-48:Nat):Int):=by
 have:IntKind.u8.wrap ((x:Int)-48)=((x:Int)-48) % 256:=by simp[IntKind.wrap,IntKind.bits,IntKind.signed]
 rw[this];omega
theorem yZ{w w':World}{B:Nat}(h:w.Since B w'):w.Since B w'.drew:=⟨h.os,h.tape,h.output,h.size,h.block⟩
theorem ki{s:ByteArray}{w:World}(hs:s.size<=400)(hd:∀k,k<s.size->48<=bt s k/\bt s k<=57):
 Cl 124 #[.string s] w fun e w'=>∃v t B,e=.returned v/\Tr w' v t B/\t<=26065/\bv B t=dv s s.size/\w.S w':=by
 have sA:=bJ w (.cells #[] 4);go_enter Tryz.func124,Tryz.ntmps124;go_wp2_with fail;refine (@eJ 10 _ om).mono ?_;rintro e w1 ⟨x,t10,B10,rfl,k10,T10,e10,s1⟩;have S1:=sA.tr s1;have E10:=ae e10;obtain⟨a10,b10,o10,c10,rfl,k11,L10,p10⟩:=T10;go_wp2
 go_loopw [3,5] (fun v t wr=>∃(k:Nat) (a:Option Addr) (g n c:Nat) (B:Nat->Bool),k<=s.size/\t=.i k/\v=.slice a n c/\n<=c/\n<=65*k+65/\dz wr a g 0 n B/\Hid (0<n->B (n-1)=true)/\Hid (bv B n=dv s k)/\dz wr a10 b10 o10 t10 B10/\w.S wr) (fun _ t _=>s.size-(intOf t).toNat)
 case atStart=>exact⟨0,_,0,0,_,fun _=>false,Nat.zero_le _,rfl,rfl,Nat.le_refl _,Nat.zero_le _,fun j hj=>absurd hj om,ae (fun h=>absurd h om),ae rfl,L10,S1⟩
 case round=>
  obtain⟨k,a,g,n,c,B,hk,rfl,rfl,hnc,hn5,LB,HT,HV,L10r,Sr⟩:=hrel
  by_cases hlt:k<s.size
  . have hlt':(k:Int)<(s.size:Int):=om
    have hx:=jI hlt;have hxd:=hd k hlt;obtain⟨y,hy⟩:∃y,bt s k=y+48:=⟨bt s k-48,om⟩;have HS:Hid (dv s (k+1)=dv s k*10+y):=ae (by rw[dv,hy,Nat.add_sub_cancel]);rw[hy] at hx hxd;have hyl:y<18446744073709551616:=om
    have hw4:=bT y hyl;have hw2:((y+48:Nat):Int)-48=(y:Int):=om
    have hw3:(y:Int)+48-48=(y:Int):=om
    have hw1:IntKind.u8.wrap (y:Int)=y:=by have:=aaF (y+48) om om;rw[hw2] at this;rw[this];omega
    have J1:=@fG a a10 g 0 n c b10 o10 t10 c10 B B10 wr.drew om om LB L10r;rw[HV.out,E10.out] at J1;go_wp2_with fail
    go_region_held3 (fun _=>True) (go_keep)
     (first
       | (go_at_call 141
          with_reducible refine J1.mono ?_
          rintro e w2 ⟨g2,t2,c2,B2,rfl,m1,m2,L2,m3,p2,e2,s2⟩;have S2:=(yZ Sr).trans (sM s2 Sr.size);have L102:=dz.aA (w:=wr.drew) L10r s2;have J2:=@eJ y w2 hyl)
       | (go_at_call 74
          with_reducible refine J2.mono ?_
          rintro e w3 ⟨x3,t3,B3,rfl,m4,⟨a3,b3,o3,c3,rfl,m5,L3,p3⟩,e3,s3⟩;have S3:=S2.tr s3;have L103:=L102.aA s3;have J3:=@oO (jp g2 0) a3 g2 0 t2 c2 b3 o3 t3 c3 B2 B3 w3 om om (L2.aA s3) L3;rw[e2,e3,<-HS.out] at J3)
       | (go_at_call 142
          with_reducible refine J3.mono ?_
          rintro e w4 ⟨g4,t4,c4,B4,rfl,m6,m7,L4,m8,p4,e4,s4⟩;have S4:=S3.tr s4;have L104:=L103.aA s4))
    all_goals
     have HT4:=ae p4;have HV4:=ae e4;go_wp2;go_roundw
     case rel=>exact⟨k+1,_,g4,t4,c4,B4,om,by go_num,rfl,m6,om,L4,HT4,HV4,L104,S4⟩
     case measure=>simp[intOf];omega
  . have e:k=s.size:=om
    subst e;go_wp2;go_ret;exact⟨_,n,B,rfl,⟨a,g,0,c,rfl,hnc,LB,HT.out⟩,om,HV.out,Sr⟩
end Go.Proofs.YtclgkofcooibfaaGreatDoor
