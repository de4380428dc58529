import Derived.Test.YtclgkofcooibfaaGreatDoorOwnP9
import Derived.Test.YtclgkofcooibfaaGreatDoorOwnP5
set_option maxHeartbeats 6400000
set_option maxRecDepth 100000
namespace Go.Proofs.YtclgkofcooibfaaGreatDoor
open Go.RowKit
theorem uG{c o:Nat}{a:Option Addr}{b off n cap i:Nat}{X:Nat->Nat}{w:World}(hc0:w.cell? (jj c o)=some (.slice a n cap))(hX:ag w a b off n X):
 Cl 226 #[.p c o,.i (i:Int)] w fun e w'=>e=.returned (.int .u32 ((cZ X n i:Nat):Int))/\w'=w:=by
 by_cases h:i<n
 . obtain⟨rfl,hc⟩:=hX i h
   have he:cZ X n i=X i:=by simp[cZ,h]
   rw[he];obtain⟨x,ex⟩:∃x,x=X i:=⟨_,rfl⟩;rw[<-ex] at hc⊢;have hlt:¬((n:Int)<=i):=om
   go_enter Tryz.func226,Tryz.ntmps226;go_wp2;go_ret
   trivial
 . have he:cZ X n i=0:=by simp[cZ,h]
   rw[he];have hge:(n:Int)<=i:=om
   go_enter Tryz.func226,Tryz.ntmps226;go_wp2;go_ret
   trivial
theorem agc(h l s:Nat)(hs:s<=32)(hh:h*2^s<18446744073709551616)(hl:l<2^s):bits .or .u64 ((h*2^s:Nat):Int) (l:Int)=((h*2^s+l:Nat):Int):=by
 have h2:=my s hs;rw[u64_or_nat _ _ hh om]
 congr 1
 have:=Nat.two_pow_add_eq_or_of_lt hl h;rw[Nat.mul_comm];exact this.symm
theorem sq{c o:Nat}{a:Option Addr}{b off n cap size s:Nat}{X:Nat->Nat}{w:World}(hz:3<=size)(hz2:size<=1099511627776)(hs:s<32)(hc0:w.cell? (jj c o)=some (.slice a n cap))(hX:ag w a b off n X)
 (hXl:∀j,j<size->cZ X n j<4294967296)(ht:cZ X n (size-1)*2^s<4294967296):
 Cl 224 #[.p c o,.i (size:Int),.i (s:Int)] w fun e w'=>
  e=.returned (.int .u64 (((cZ X n (size-1)*4294967296+cZ X n (size-2))*2^s+cZ X n (size-3)*2^s/4294967296:Nat):Int))/\w'=w:=by
 have J1:=@uG c o a b off n cap (size-1) X w hc0 hX;have J2:=@uG c o a b off n cap (size-2) X w hc0 hX;have J3:=@uG c o a b off n cap (size-3) X w hc0 hX;obtain⟨A,-,-,L2,L3,-⟩:=uI (cZ X n) size s hz hXl hs ht;have b1:=hXl (size-1) om;have b2:=hXl (size-2) om;have b3:=hXl (size-3) om;rw[show ((size-1:Nat):Int)=size-1 by omega] at J1;rw[show ((size-2:Nat):Int)=size-2 by omega] at J2;rw[show ((size-3:Nat):Int)=size-3 by omega] at J3;generalize cZ X n (size-1)=z1 at*;generalize cZ X n (size-2)=z2 at*;generalize cZ X n (size-3)=z3 at*;have hor:=agd z1 z2 b1 b2;have hp:=my s om
 have h3:z3*2^s<18446744073709551616:=by
  have:z3*2^s<=4294967295*2^s:=Nat.mul_le_mul_right _ om;omega
 have e1:=pG z3 s h3;have e2:=pG (z1*4294967296+z2) s L2;have e3:=agc (z1*4294967296+z2) (z3*2^s/4294967296) s om L2 L3;have E1:=ae e1;have E2:=ae e2;have E3:=ae e3;clear e1 e2 e3 L2 L3 hp h3 ht hXl hX;go_enter Tryz.func224,Tryz.ntmps224;go_wp2_with fail;refine J1.mono ?_;rintro e w1 ⟨rfl,rfl⟩;go_wp2_with fail;refine J2.mono ?_;rintro e w1 ⟨rfl,rfl⟩;go_wp2_with fail;refine J3.mono ?_;rintro e w1 ⟨rfl,rfl⟩;go_wp2;go_ret;go_light;have e1:=E1.out;have e2:=E2.out;have e3:=E3.out;rw[e1,show ((z1:Int)*4294967296+(z2:Int))=((z1*4294967296+z2:Nat):Int) by omega,e2,show ((z3*2^s:Nat):Int)/4294967296=((z3*2^s/4294967296:Nat):Int) by omega,e3];exact⟨rfl,rfl⟩
theorem ku{b p q P Q o:Nat}{w:World}(B:bj w b (.int .u64 (P:Int)) (.int .u64 (Q:Int)) (.int .u64 (o:Int)))(hp:p+P<18446744073709551616)(hq:q+Q<18446744073709551616)(ho:o<=1):
 Cl 223 #[.p b 0,.int .u64 (p:Int),.int .u64 (q:Int)] w fun e w'=>∃d o':Nat,e=.returned (.int .u32 (d:Int))/\af w w' b/\
  bj w' b (.int .u64 (((p+P)/4294967296:Nat):Int)) (.int .u64 (((q+Q)/4294967296:Nat):Int)) (.int .u64 (o':Int))/\d<4294967296/\o'<=1/\(p+P) % 4294967296+o'*4294967296=(q+Q) % 4294967296+o+d:=by
 obtain⟨d,o',hd,ho',he,hw1,hw2⟩:=owe (r:=(p+P) % 4294967296) (t:=(q+Q) % 4294967296) (o:=o) (Nat.mod_lt _ om) (Nat.mod_lt _ om) ho;have HE:=ae he;have H1:=ae hw1;have H2:=ae hw2;have a1:=y7 (p+P) hp;have a2:=y7 (q+Q) hq;have A1:=ae a1;have A2:=ae a2;obtain⟨c0,c1,c2⟩:=B.g;have f:=B.f;have f0:=f 0;have f1:=f 1;have f2:=f 2;go_enter Tryz.func223,Tryz.ntmps223;go_wp2;go_ret;go_light
 have e0:IntKind.u64.wrap (IntKind.u64.wrap (bits .and .u64 ((p:Int)+P) 4294967295-bits .and .u64 ((q:Int)+Q) 4294967295)-o)=(((((p+P) % 4294967296:Nat):Int)-(((q+Q) % 4294967296:Nat):Int)-o) % 18446744073709551616):=by
  have h1:=A1.out;have h2:=A2.out;rw[show ((p:Int)+P)=((p+P:Nat):Int) by omega,show ((q:Int)+Q)=((q+Q:Nat):Int) by omega,h1,h2,IntKind.wrap_u64,IntKind.wrap_u64];omega
 have e1:=H1.out;have e2:=H2.out;rw[<-e0] at e1 e2;rw[e1,e2,show ((p:Int)+P)/4294967296=(((p+P)/4294967296:Nat):Int) by omega,show ((q:Int)+Q)/4294967296=(((q+Q)/4294967296:Nat):Int) by omega];exact⟨d,o',rfl,(((af.refl _ _).setCell _ _).setCell _ _).setCell _ _,((B.aE _).aG _).aF _,hd,ho',HE.out⟩
theorem aaa:(Tryz.prog.info? 242).map (·.size)=some 5:=by kernel_rfl
theorem oe{X:Nat->Nat}{n:Nat}(h:∀j,j<n->X j<4294967296)(j:Nat):cZ X n j<4294967296:=by
 unfold cZ;split
 . exact h j (by assumption)
 . omega
theorem acM{X Y:Nat->Nat}{n m s:Nat}(h3:3<=n)(hmn:m<=n)(hX:∀j,j<n->X j<4294967296)(hle:lv Y m<=lv X n)(ht:X (n-1)*2^s<4294967296):cZ Y m (n-1)*2^s<4294967296:=by
 have h1:lv (cZ Y m) n<=lv X n:=by rw[lf Y m n hmn];exact hle
 obtain⟨k,rfl⟩:∃k,n=k+1:=⟨n-1,om⟩;have h2:=fy X k (fun j hj=>hX j om);simp only[lv] at h1;rw[show k+1-1=k by omega] at*
 have h3:cZ Y m k<=X k:=by
  apply Nat.le_of_not_lt
  intro hlt;have:(X k+1)*2^(32*k)<=cZ Y m k*2^(32*k):=Nat.mul_le_mul_right _ hlt;rw[Nat.add_mul] at this;omega
 have:=Nat.mul_le_mul_right (2^s) h3;omega
theorem wrap_mul(a b F:Nat)(h:a*b=F)(hF:F<18446744073709551616):IntKind.u64.wrap ((a:Int)*(b:Int))=(F:Int):=by
 have e:(a:Int)*(b:Int)=((a*b:Nat):Int):=by rw[Int.natCast_mul]
 rw[e,h];exact bT _ hF
def agL(N M:Nat)(w:World)(e:Ending)(w':World):Prop:=
 ∃(u v x y:Nat) (odd:Bool),e=.returned (.agg #[.int .u64 (u:Int),.int .u64 (v:Int),.int .u64 (x:Int),.int .u64 (y:Int),.bool odd])/\yG N M u v x y odd/\w.Since w.heap.size w'
theorem abn{an am:Option Addr}{gn gm n m cn cm:Nat}{X Y:Nat->Nat}{w:World}(hn:n<=268435456)(hm:3<=m)(hmn:m<=n)(hX:ag w an gn 0 n X)(hY:ag w am gm 0 m Y)(hXl:∀j,j<n->X j<4294967296)(hYl:∀j,j<m->Y j<4294967296)
 (tX:X (n-1)≠0)(hle:lv Y m<=lv X n):
 Cl 216 #[.slice an n cn,.slice am m cm] w (agL (lv X n) (lv Y m) w):=by
 have kd:w.cell? (jj gn (n-1))=some (.int .u32 (X (n-1))):=by simpa using (hX (n-1) om).2
 have hbl:=hX.lt om;have hbl1:gn<w.heap.size+1:=om
 have hbl2:gn<w.heap.size+1+1:=om
 obtain⟨rfl,-⟩:=hX 0 om;have hx0:0<X (n-1):=om
 have hxl:=hXl (n-1) om;have hd1:(1:Int)<=n:=om
 have HLE:=ae hle;have HXl:=ae hXl;have HYl:=ae hYl;go_enter Tryz.func216,Tryz.ntmps216;go_wp2_with fail;refine (zQ hx0 hxl).mono ?_;rintro e w1 ⟨s,rfl,rfl,hs,-,hsh⟩
 have sA:w.S (((w.alloc (.cells #[.s gn n cn] 98)).alloc (.cells #[.slice am m cm] 98)).alloc (.cells #[.int .u64 0,.int .u64 0,.int .u64 0,.int .u64 0,.bool false] 242)):=
  ((bJ _ _).alloc qz _).alloc (by simp;omega) _
 have bx1:(((w.alloc (.cells #[.s gn n cn] 98)).alloc (.cells #[.slice am m cm] 98)).alloc (.cells #[.int .u64 0,.int .u64 0,.int .u64 0,.int .u64 0,.bool false] 242)).cell? (jh w 0)=some (.s gn n cn):=by simp[go_sem]
 have bx2:(((w.alloc (.cells #[.s gn n cn] 98)).alloc (.cells #[.slice am m cm] 98)).alloc (.cells #[.int .u64 0,.int .u64 0,.int .u64 0,.int .u64 0,.bool false] 242)).cell? (jj (w.heap.size+1) 0)=some (.slice am m cm):=by simp[go_sem]
 have bx3:dc (((w.alloc (.cells #[.s gn n cn] 98)).alloc (.cells #[.slice am m cm] 98)).alloc (.cells #[.int .u64 0,.int .u64 0,.int .u64 0,.int .u64 0,.bool false] 242)) (w.heap.size+1+1) (.int .u64 0) (.int .u64 0) (.int .u64 0) (.int .u64 0) (.bool false):=by
  have:=dc.new ((w.alloc (.cells #[.s gn n cn] 98)).alloc (.cells #[.slice am m cm] 98)) (.int .u64 0) (.int .u64 0) (.int .u64 0) (.int .u64 0) (.bool false) 242
  simpa using this
 have hwz:(((w.alloc (.cells #[.s gn n cn] 98)).alloc (.cells #[.slice am m cm] 98)).alloc (.cells #[.int .u64 0,.int .u64 0,.int .u64 0,.int .u64 0,.bool false] 242)).heap.size=w.heap.size+3:=by simp
 generalize (((w.alloc _).alloc _).alloc _)=wA at*;have hsm:=acM (s:=s) om hmn HXl.out HLE.out hsh;have hsx:cZ X n (n-1)*2^s<4294967296:=by rw[show cZ X n (n-1)=X (n-1) by simp[cZ];omega];exact hsh
 have J1:=sq om om hs bx1 (hX.aA sA) (fun j _=>oe HXl.out j) hsx;have J2:=sq om om hs bx2 (hY.aA sA) (fun j _=>oe HYl.out j) hsm;obtain⟨A,eA,lA,-,-,a1,a2,a3⟩:=uI (cZ X n) n s om (fun j _=>oe HXl.out j) hs hsx;obtain⟨B,eB,lB,-,-,b1,b2,b3⟩:=uI (cZ Y m) n s om (fun j _=>oe HYl.out j) hs hsm;rw[<-eA] at J1;rw[<-eB] at J2;rw[lf X n n (Nat.le_refl _)] at a1 a2 a3;rw[lf Y m n hmn] at b1 b2 b3;have hBA:B<=A:=by rw[a3,b3];exact Nat.div_le_div_right HLE.out
 have hNp:0<lv X n:=by
  have:=jU X n om om;have:=Nat.pow_pos (n:=32*(n-1)) (show 0<2 by omega);omega
 have OUT:=ae (fun (r s u v x y:Nat) (e:Bool) (h:Lp A B r s u v x y e)=>h.out (N:=lv X n) (M:=lv Y m) lA a1 a2 b1 b2 hNp);have LP0:=ae (Lp.start hBA);clear eA eB a1 a2 a3 b1 b2 b3 hNp hsm hsx hsh kd hbl1 hbl2 HLE HXl HYl hx0 hxl;go_wp2_with fail;refine J1.mono ?_;rintro e w1 ⟨rfl,rfl⟩;go_wp2_with fail;refine J2.mono ?_;rintro e w1 ⟨rfl,rfl⟩;go_wp2
 go_loopw [7,8,10,11] (fun t7 t8 t10 t11 wr=>∃(r s u0 u v x0 x y:Nat) (e:Bool),t7=.int .u64 r/\t8=.int .u64 s/\t10=.int .u64 v/\t11=.int .u64 y/\w.S wr/\
  dc wr (w.heap.size+1+1) (.int .u64 0) (.int .u64 0) (.int .u64 0) (.int .u64 0) (.bool false)/\dc wr (w.heap.size+3) (.int .u64 u0) (.int .u64 u) (.int .u64 x0) (.int .u64 x) (.bool e)/\
  Hid (Lp A B r s u v x y e)/\Hid (yG (lv X n) (lv Y m) u0 u x0 x e)/\r<18446744073709551616/\s<=r/\x<18446744073709551616/\y<18446744073709551616/\u<18446744073709551616/\v<18446744073709551616) (fun _ t8 _ _ _=>(intOf t8).toNat)
 case atStart=>
  refine⟨A,B,0,1,0,0,0,1,true,rfl,rfl,rfl,rfl,sA.alloc om _,bx3.aA (bJ _ _),(by rw[<-hwz];exact dc.new w1 _ _ _ _ _ _),LP0, ?_,lA,hBA,om,om,om,om⟩;intro h;exact absurd rfl h
 case round=>
  obtain⟨r,s,u0,u,v,x0,x,y,e,rfl,rfl,rfl,rfl,S,B1,B2,HLP,HOK,hr,hsr,hx,hy,hu,hv⟩:=hrel;have hy1:=HLP.out.y1;obtain⟨g0,g1,g2,g3,g4⟩:=B2.g;obtain⟨f0,f1,f2,f3,f4⟩:=B2.k
  by_cases c1:y<=s
  . have hsum:x+y<18446744073709551616:=by
     have h1:=HLP.out.hA;have h2:y*1<=y*r:=Nat.mul_le_mul_left _ om;have h3:x*1<=x*s:=Nat.mul_le_mul_left _ om;omega
    by_cases c2:x+y<=r-s
    . have HN:=HLP.out.step c1
      have HO:=OUT.out r s u v x y e HLP.out c1 c2;obtain⟨q,hq⟩:∃q,q=r/s:=⟨_,rfl⟩;obtain⟨t,ht⟩:∃t,t=r % s:=⟨_,rfl⟩;have hts:t<s:=by rw[ht];exact Nat.mod_lt _ om
      have q1:(r:Int)/(s:Int)=q:=by rw[hq];simp
      have q2:(r:Int) % (s:Int)=t:=by rw[ht];simp
      have q3:q<18446744073709551616:=by rw[hq];exact Nat.lt_of_le_of_lt (Nat.div_le_self _ _) hr
      rw[<-hq,<-ht] at HN;obtain⟨F1,e1⟩:∃F,F=q*v:=⟨_,rfl⟩;obtain⟨F2,e2⟩:∃F,F=q*y:=⟨_,rfl⟩;rw[<-e1,<-e2] at HN
      have hy':x+F2<18446744073709551616:=by
       have h1:=HN.hA;have h2:(x+F2)*1<=(x+F2)*s:=Nat.mul_le_mul_left _ om;omega
      have hu':u+F1<18446744073709551616:=by have:=HN.vy;omega
      have k1:=wrap_mul q v F1 e1.symm om;have k2:=wrap_mul q y F2 e2.symm om;have HLN:=ae HN;have HON:=ae HO;have hs0:((s:Int)==0)=false:=by simp;omega
      have hs1:(s:Int)≠0:=om
      have i1:(y:Int)<=s:=om
      have i2:(x:Int)+(y:Int)<=r-(s:Int):=om
      clear HN HO hq ht e1 e2 HLP HOK OUT LP0;go_wp2
      go_region
      go_wp2;go_roundw
      case rel=>
       go_light;have S1:=((((S.setCell (a:=jj (w.heap.size+3) 0) (by show w.heap.size<=w.heap.size+3;omega) (.int .u64 u)).setCell (a:=jj (w.heap.size+3) 1) (by show w.heap.size<=w.heap.size+3;omega) (.int .u64 v)).setCell (a:=jj (w.heap.size+3) 2) (by show w.heap.size<=w.heap.size+3;omega) (.int .u64 x)).setCell (a:=jj (w.heap.size+3) 3) (by show w.heap.size<=w.heap.size+3;omega) (.int .u64 y)).setCell (a:=jj (w.heap.size+3) 4) (by show w.heap.size<=w.heap.size+3;omega) (.bool !e);have M1:=(((((af.refl wr (w.heap.size+3)).setCell 0 (.int .u64 u)).setCell 1 (.int .u64 v)).setCell 2 (.int .u64 x)).setCell 3 (.int .u64 y)).setCell 4 (.bool !e);exact⟨s,t,u,v,u+F1,x,y,x+F2, !e,rfl,by rw[q2],rfl,rfl,⟨S1.os,S1.tape,S1.output,S1.size,S1.block⟩,(B1.marked M1 om).drew,(((((B2.aE _).aG _).aF _).aK _).aS _).drew,HLN,HON,om,om,om,om,om,om⟩
      case measure=>simp[intOf];omega
    . have i1:(y:Int)<=s:=om
      have i2:¬((x:Int)+(y:Int)<=r-(s:Int)):=om
      obtain⟨r0,r1,r2,r3,r4⟩:=B1.g;obtain⟨p0,p1,p2,p3,p4⟩:=B1.k;go_wp2;exact bodyPost_ret (kh rfl Tryz.underlying242 rfl aaa _ _ _ _ _ _ _ _ rfl (((((B1.aE _).aG _).aF _).aK _).aS _)) rfl ⟨_,_,_,_,_,rfl,HOK.out,((((S.setCell (by show w.heap.size<=w.heap.size+1+1;omega) _).setCell (by show w.heap.size<=w.heap.size+1+1;omega) _).setCell (by show w.heap.size<=w.heap.size+1+1;omega) _).setCell (by show w.heap.size<=w.heap.size+1+1;omega) _).setCell (by show w.heap.size<=w.heap.size+1+1;omega) _⟩
  . have i1:¬((y:Int)<=s):=om
    obtain⟨r0,r1,r2,r3,r4⟩:=B1.g;obtain⟨p0,p1,p2,p3,p4⟩:=B1.k;go_wp2;exact bodyPost_ret (kh rfl Tryz.underlying242 rfl aaa _ _ _ _ _ _ _ _ rfl (((((B1.aE _).aG _).aF _).aK _).aS _)) rfl ⟨_,_,_,_,_,rfl,HOK.out,((((S.setCell (by show w.heap.size<=w.heap.size+1+1;omega) _).setCell (by show w.heap.size<=w.heap.size+1+1;omega) _).setCell (by show w.heap.size<=w.heap.size+1+1;omega) _).setCell (by show w.heap.size<=w.heap.size+1+1;omega) _).setCell (by show w.heap.size<=w.heap.size+1+1;omega) _⟩
end Go.Proofs.YtclgkofcooibfaaGreatDoor
