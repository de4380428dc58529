import Derived.Test.YtclgkofcooibfaaGreatDoorOwnP23
import Derived.Test.YtclgkofcooibfaaGreatDoorOwnP24
set_option maxHeartbeats 6400000
set_option maxRecDepth 100000
namespace Go.Proofs.YtclgkofcooibfaaGreatDoor
open Go.RowKit
theorem aaU{s:ByteArray}{w:World}(hs:s.size<=100000):
 Cl 38 #[.string s] w fun e w'=>∃c bl,e=.returned (.p c 0)/\iy w' c bl bl (fN 10 s) 0 []/\w.heap.size<=c/\w.S w':=by
 have J:=@acc 10 s w om;have hl:=jT 10 s;have HZ:Hid (∀x∈fN 10 s,x.size<=100000):=ae (fun x hx=>Nat.le_trans (qV hx) hs);obtain⟨P,hP⟩:∃P,fN 10 s=P:=⟨_,rfl⟩;rw[hP] at J hl HZ⊢;go_enter Tryz.func38,Tryz.ntmps38;go_wp2_with fail;refine J.mono ?_;rintro e w1 ⟨rfl,HC,l1,s1⟩;have sB:=bJ w1 (.cells #[.s w.heap.size P.length P.length,.i 0,.n] 136);have B:=bj.new w1 (.s w.heap.size P.length P.length) (.i 0) (.n) 136;go_wp2;go_ret;refine⟨w1.heap.size,w.heap.size,rfl,⟨B.c0,B.c1,⟨_,B.c2,none,0,0,rfl,Nat.le_refl _,fun j x h=>by simp at h⟩,B.f,fun j x hx=> ?_,om,om,by simp;omega,by simp;omega,Nat.zero_le _,HZ.out,fun x h=>by simp at h,qz,om⟩,s1.size,s1.tr sB⟩;exact (sB.cell (a:=jj w.heap.size j) l1).trans (HC.out j x hx)
def Need(w w':World)(c bl t:Nat)(L:List ByteArray)(e:Ending):Prop:=
 (cK t (L.drop t)=[]/\e=cg ((L.length:Int)+1))∨
 ∃n x rest wb,cK t (L.drop t)=(n,x)::rest/\e=.returned (.tuple #[])/\iy w' c bl wb L n x/\w.heap.size<=wb/\cK n (L.drop n)=rest/\0<x.length
theorem kZ{c bl wb t:Nat}{L ws:List ByteArray}{w:World}(h:iy w c bl wb L t ws):
 Cl 80 #[.p c 0] w fun e w'=>cF c w w'/\Need w w' c bl t L e:=by
 have hll:=h.ll;go_enter Tryz.func80,Tryz.ntmps80;go_wp2_with fail;refine (uB h).mono ?_;rintro e w1 ⟨B,⟨h1,rfl,wb',ws',R⟩ | ⟨n,x,rest,wb',h1,rfl,R,hw,h2,h3⟩⟩
 . have c0:=R.c0
   have H1:=ae h1;go_wp2;exact⟨rfl,B,Or.inl ⟨H1.out,rfl⟩⟩
 . have H1:=ae h1
   have H2:=ae h2;go_wp2
   go_end0
   exact⟨B,Or.inr ⟨n,x,rest,wb',H1.out,rfl,R,hw,H2.out,h3⟩⟩
theorem ad4{c bl wb t:Nat}{L ws:List ByteArray}{w:World}(h:iy w c bl wb L t ws):
 Cl 85 #[.p c 0] w fun e w'=>cF c w w'/\((cK t (L.drop t)=[]/\e=.returned (.tuple #[]))∨∃n x rest,cK t (L.drop t)=(n,x)::rest/\e=cg n):=by
 go_enter Tryz.func85,Tryz.ntmps85;go_wp2_with fail;refine (uB h).mono ?_;rintro e w1 ⟨B,⟨h1,rfl,wb',ws',R⟩ | ⟨n,x,rest,wb',h1,rfl,R,hw,h2,h3⟩⟩
 . have H1:=ae h1
   go_wp2
   go_end0
   exact⟨B,Or.inl ⟨H1.out,rfl⟩⟩
 . have H1:=ae h1
   have H2:=ae h2;go_wp2_with fail;refine (mt R).mono ?_;rintro e w2 ⟨rfl,rfl⟩;unfold cg;go_wp2;exact⟨rfl,B,Or.inr ⟨n,x,rest,H1.out,rfl⟩⟩
theorem oh{c bl wb t:Nat}{L ws:List ByteArray}{w:World}(h:iy w c bl wb L t ws):
 Cl 84 #[.p c 0] w fun e w'=>w'=w/\((ws=[]/\e=.returned (.tuple #[]))∨(ws≠[]/\e=cg t)):=by
 obtain⟨v,c2,a,off,cap,rfl,hcap,-⟩:=h.c2;go_enter Tryz.func84,Tryz.ntmps84
 rcases Nat.eq_zero_or_pos ws.length with h0 | h0
 . have hx0:¬((0:Int)<(ws.length:Int)):=om
   have H0:=ae (List.length_eq_zero_iff.1 h0);go_wp2
   go_end0
   exact⟨rfl,Or.inl ⟨H0.out,rfl⟩⟩
 . have hx0:(0:Int)<(ws.length:Int):=om
   go_wp2_with fail;refine (mt h).mono ?_;rintro e w2 ⟨rfl,rfl⟩;unfold cg;go_wp2;exact⟨rfl,rfl,Or.inr ⟨fun e=>by rw[e] at h0;simp at h0,rfl⟩⟩
theorem j7{c bl wb t:Nat}{L ws:List ByteArray}{w:World}(h:iy w c bl wb L t ws):
 Cl 129 #[.p c 0] w fun e w'=>cF c w w'/\((ws=[]/\e=cg t)∨∃x r,ws=x::r/\e=.returned (.string x)/\iy w' c bl wb L t r):=by
 have hwl:=h.wl;have HWZ:=ae h.wz;obtain⟨v,c2,a,off,cap,rfl,hcap,hc⟩:=h.c2
 rcases ws with _ | ⟨x,r⟩
 . have c2:=c2
   go_enter Tryz.func129,Tryz.ntmps129;go_wp2_with fail;refine (mt h).mono ?_;rintro e w2 ⟨rfl,rfl⟩;unfold cg;go_wp2;exact⟨rfl,cF.refl c w2,Or.inl ⟨qz,rfl⟩⟩
 . obtain⟨rfl,hx⟩:=hc 0 x rfl
   have c2:=c2;rw[List.length_cons] at hcap hwl;have hx:w.cell? (jj wb off)=some (.string x):=hx;have f2:=h.f 2;have h1:(1:Int)<=cap:=om
   have h2:(r.length:Int)+1<=(cap:Int):=om
   have h3:¬((r.length:Int)+1=0):=om
   have hz:∀y∈r,y.size<=100000:=fun y hy=>HWZ.out y (by simp[hy])
   have HC:Hid (∀(j:Nat) (y:ByteArray),r[j]?=some y->w.cell? (jj wb (off+1+j))=some (.string y)):=ae (fun j y hy=>by
    have:=(hc (j+1) y (by simpa using hy)).2;rw[show off+1+j=off+(j+1) by omega];exact this)
   have HZ:=ae hz;clear hc hz
   by_cases hk:cap=1
   . subst hk
     have hr0:r=[]:=List.length_eq_zero_iff.1 om;subst hr0;have R:=h.bF (v:=.slice (jp wb off) 0 0) (ws':=[]) ⟨_,off,0,rfl,Nat.le_refl _,fun j y hy=>by simp at hy⟩ h.nw h.lw HZ.out qz;have B:cF c w (w.setCell (jj c 2) (.slice (jp wb off) 0 0)):=(cF.refl c w).set 2 _;have c2:=c2;go_enter Tryz.func129,Tryz.ntmps129;go_wp2;go_ret;exact⟨B,Or.inr ⟨x,[],qz,rfl,R⟩⟩
   . have R:=h.bF (v:=.slice (jp wb (off+1)) r.length (cap-1)) (ws':=r) ⟨_,off+1,cap-1,rfl,om,fun j y hy=>⟨rfl,HC.out j y hy⟩⟩ h.nw h.lw HZ.out om
     have B:cF c w (w.setCell (jj c 2) (.slice (jp wb (off+1)) r.length (cap-1))):=(cF.refl c w).set 2 _;go_enter Tryz.func129,Tryz.ntmps129;go_wp2;go_ret;exact⟨B,Or.inr ⟨x,r,rfl,rfl,R⟩⟩
theorem mr{x y:ByteArray}:x.toList=y.toList↔x=y:=
 ⟨fun h=>iF (by rw[<-Lib.toList_data,<-Lib.toList_data,h]),fun h=>by rw[h]⟩
theorem qO{wd:ByteArray}{c bl wb t:Nat}{L ws:List ByteArray}{w:World}(h:iy w c bl wb L t ws):
 Cl 82 #[.p c 0,.string wd] w fun e w'=>cF c w w'/\(((∀r,ws≠wd::r)/\e=cg t)∨∃r,ws=wd::r/\e=.returned (.tuple #[])/\iy w' c bl wb L t r):=by
 go_enter Tryz.func82,Tryz.ntmps82;go_wp2_with fail;refine (j7 h).mono ?_;rintro e w1 ⟨B,⟨h1,rfl⟩ | ⟨x,r,h1,rfl,R⟩⟩
 . unfold cg
   go_wp2;exact⟨rfl,B,Or.inl ⟨fun r e=>by rw[h1] at e;simp at e,rfl⟩⟩
 . have H1:=ae h1
   by_cases hx:x.toList=wd.toList
   . have hbe:(x.toList==wd.toList)=true:=by simpa using hx
     have HX:=ae (mr.1 hx);go_wp2
     go_end0
     exact⟨B,Or.inr ⟨r,by rw[H1.out,HX.out],rfl,R⟩⟩
   . have hbe:(x.toList==wd.toList)=false:=by simpa using hx
     have HX:=ae (fun e:x=wd=>hx (mr.2 e));go_wp2_with fail;refine (mt R).mono ?_;rintro e w2 ⟨rfl,rfl⟩;unfold cg;go_wp2;exact⟨rfl,B,Or.inl ⟨fun r' e=>by rw[H1.out] at e;simp at e;exact HX.out e.1,rfl⟩⟩
def isInt(x:ByteArray):Prop:=ix x=true/\x.size<=6
theorem jH{s:ByteArray}(h:ix s=true):∀k,k<s.size->48<=bt s k/\bt s k<=57:=by
 unfold ix at h;simp only[Bool.and_eq_true,decide_eq_true_eq] at h;exact h.1
theorem uU{x:ByteArray}{k:Nat}(hd:∀j,j<k->48<=bt x j/\bt x j<=57):dv x k<10^k:=by
 induction k with
 | zero=>simp[dv]
 | succ k ih=>
   have h1:=ih (fun j hj=>hd j om);have h2:=hd k om;rw[dv,Nat.pow_succ];omega
theorem jz{x:ByteArray}(h:isInt x):dv x x.size<=999999:=by
 have h1:=uU (x:=x) (k:=x.size) (fun j hj=>jH h.1 j hj);have h2:10^x.size<=10^6:=Nat.pow_le_pow_right om h.2;omega
theorem nG{c bl wb t:Nat}{L ws:List ByteArray}{w:World}(h:iy w c bl wb L t ws):
 Cl 83 #[.p c 0] w fun e w'=>cF c w w'/\(((∀x r,ws=x::r->¬isInt x)/\e=cg t)∨∃x r,ws=x::r/\isInt x/\e=.returned (.i (dv x x.size:Nat))/\iy w' c bl wb L t r):=by
 have HWZ:=ae h.wz;go_enter Tryz.func83,Tryz.ntmps83;go_wp2_with fail;refine (j7 h).mono ?_;rintro e w1 ⟨B,⟨h1,rfl⟩ | ⟨x,r,h1,rfl,R⟩⟩
 . unfold cg
   go_wp2;exact⟨rfl,B,Or.inl ⟨fun x r e=>by rw[h1] at e;simp at e,rfl⟩⟩
 . have hxz:=HWZ.out x (by rw[h1];simp)
   have H1:=ae h1;clear h1
   by_cases h6:x.size<=6
   . have h6':¬((6:Int)<(x.size:Int)):=om
     go_wp2_with fail;refine (lq om).mono ?_;rintro e w2 ⟨rfl,sm⟩;have s2:w1.S w2:=sm.since _;have R2:=R.aA s2;have B2:=B.trans (cF.of (c:=c) s2);cases hd:ix x
     . have HD:=ae hd
       go_wp2_with fail;refine (mt R2).mono ?_;rintro e w3 ⟨rfl,rfl⟩;unfold cg;go_wp2
       have hno:∀x' r',ws=x'::r'->¬isInt x':=fun x' r' e hi=>by
        rw[H1.out] at e
        simp at e
        rw[<-e.1] at hi;have h9:=hi.1;rw[HD.out] at h9;cases h9
       exact⟨rfl,B2,Or.inl ⟨hno,rfl⟩⟩
     . have HI:Hid (isInt x):=ae ⟨hd,h6⟩
       have hdg:=jH hd;have HDG:=ae hdg;go_wp2_with fail
       go_loopw [4,20] (fun v i wr=>∃k:Nat,k<=x.size/\i=.i k/\v=.i ((dv x k:Nat):Int)/\wr=w2) (fun _ i _=>x.size-(intOf i).toNat)
       case atStart=>exact⟨0,Nat.zero_le _,rfl,rfl,rfl⟩
       case round=>
        obtain⟨k,hk,rfl,rfl,rfl⟩:=hrel
        by_cases hlt:k<x.size
        . have hlt':(k:Int)<(x.size:Int):=om
          have hx:=jI hlt;have hxd:=HDG.out k hlt;obtain⟨y,hy⟩:∃y,bt x k=y+48:=⟨bt x k-48,om⟩;have HS:Hid (dv x (k+1)=dv x k*10+y):=ae (by rw[dv,hy,Nat.add_sub_cancel]);rw[hy] at hx hxd
          have hdl:dv x k<=1000000:=by
           have h1:=uU (x:=x) (k:=k) (fun j hj=>HDG.out j om);have h2:10^k<=10^6:=Nat.pow_le_pow_right om om;omega
          obtain⟨V,hV⟩:∃V,dv x k=V:=⟨_,rfl⟩;rw[hV] at hdl HS⊢;have hw2:((y+48:Nat):Int)-48=(y:Int):=om
          have hw3:(y:Int)+48-48=(y:Int):=om
          have hw1:IntKind.u8.wrap (y:Int)=y:=by have:=aaF (y+48) om om;rw[hw2] at this;rw[this];omega
          have hw4:IntKind.i64.wrap ((V:Int)*10)=(V:Int)*10:=by rw[IntKind.wrap_i64];omega
          have hw5:IntKind.i64.wrap (y:Int)=y:=by rw[IntKind.wrap_i64];omega
          have hw6:IntKind.i64.wrap ((V:Int)*10+(y:Int))=(V:Int)*10+(y:Int):=by rw[IntKind.wrap_i64];omega
          go_wp2;go_roundw
          case rel=>exact⟨k+1,om,by go_num,by rw[HS.out];simp,qz⟩
          case measure=>simp[intOf];omega
        . have e:k=x.size:=om
          subst e;have hz1:¬((x.size:Int)<(x.size:Int)):=om
          go_wp2;go_ret;exact⟨B2,Or.inr ⟨x,r,H1.out,HI.out,rfl,R2⟩⟩
   . have h6':(6:Int)<(x.size:Int):=om
     go_wp2_with fail;refine (mt R).mono ?_;rintro e w3 ⟨rfl,rfl⟩;unfold cg;go_wp2;exact⟨rfl,B,Or.inl ⟨fun x' r' e hi=>by rw[H1.out] at e;simp at e;rw[<-e.1] at hi;exact h6 hi.2,rfl⟩⟩
end Go.Proofs.YtclgkofcooibfaaGreatDoor
