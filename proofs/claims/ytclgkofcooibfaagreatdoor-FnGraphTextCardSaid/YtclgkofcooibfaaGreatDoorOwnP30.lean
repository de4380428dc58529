import Derived.Test.YtclgkofcooibfaaGreatDoorOwnP22
import Derived.Test.YtclgkofcooibfaaGreatDoorOwnP26
import Derived.Test.YtclgkofcooibfaaGreatDoorOwnP12
set_option maxHeartbeats 6400000
set_option maxRecDepth 100000
namespace Go.Proofs.YtclgkofcooibfaaGreatDoor
open Go.RowKit
theorem ga{fn:Func}{p u:Tmp}(h:fn.results= #[.cell p 44,.tmp u])(tmps:Array Value)(w:World)(c:Nat)(x y z:Value)(hp:tmps.getD p undef=.p c 0)(B:bj w c x y z):
 (results fn tmps).run Tryz.prog w=.ok (.tuple #[.agg #[x,y,z],tmps.getD u undef]) w:=by
 have hl:=run_loadVar_mid (P:=Tryz.prog) w c 0 44 [x,y,z] _ (fun j v hv=>by
  rcases j with _ | _ | _ | j
  . simp at hv;subst hv;exact B.c0
  . simp at hv;subst hv;exact B.c1
  . simp at hv;subst hv;exact B.c2
  . simp at hv) Tryz.underlying44 rfl tF
 rw[results_cell_tmp h,hp]
 simp[asAddr,hl,Result.andThen]
end Go.Proofs.YtclgkofcooibfaaGreatDoor
namespace Go.Proofs.YtclgkofcooibfaaGreatDoor
open Go.RowKit
def runs(s:ByteArray):ByteArray:=if nJ s then s.extract 1 s.size else s
def d9(u:ByteArray):ByteArray:=if firstIdx u 47=-1 then u else u.extract 0 (firstIdx u 47).toNat
def dj(u:ByteArray):ByteArray:=if firstIdx u 47=-1 then ⟨#[49]⟩ else u.extract ((firstIdx u 47).toNat+1) u.size
def ak(s:ByteArray):Bool×Nat×Nat×Int:=
 let t:=d9 (runs s)
 let b:=dj (runs s)
 if !(ix t&&ix b) then (false,0,1,1)
 else if 400<t.size∨400<b.size then (false,0,1,2)
 else if dv b b.size=0 then (false,0,1,3)
 else (nJ s&&dv t t.size != 0,dv t t.size/Nat.gcd (dv t t.size) (dv b b.size),dv b b.size/Nat.gcd (dv t t.size) (dv b b.size),0)
theorem wC(s:ByteArray):(runs s).size<=s.size:=by
 unfold runs
 split
 . rcases Nat.eq_zero_or_pos s.size with h | h
   . rw[Lib.size_eq,Lib.extract_data,List.length_take,List.length_drop,<-Lib.size_eq];omega
   . rw[iQ s om (Nat.le_refl _)];omega
 . exact Nat.le_refl _
theorem ut(u:ByteArray):(d9 u).size<=u.size+1/\(dj u).size<=u.size+1:=by
 unfold d9 dj
 rcases jc u with ⟨h,-⟩ | ⟨i,hi,h,-,-⟩
 . rw[if_pos h,if_pos h];exact⟨om,by show 1<=_;omega⟩
 . have hn:¬firstIdx u 47=-1:=by rw[h];omega
   rw[if_neg hn,if_neg hn,h,Int.toNat_natCast,iQ u om om,iQ u om (Nat.le_refl _)];omega
theorem kJ{s:ByteArray}(h:ix s=true):∀k,k<s.size->48<=bt s k/\bt s k<=57:=by
 unfold ix at h;simp only[Bool.and_eq_true,decide_eq_true_iff] at h;exact h.1
theorem ri{s:ByteArray}{w:World}(hs:s.size<=16777216)(hw:0<=w.heap.size)(hT:rI w):
 Cl 164 #[.string s] w fun e w'=>∃v,e=.returned (.tuple #[v,.i (ak s).2.2.2])/\dM w' v (ak s).1 (ak s).2.1 (ak s).2.2.1 w.heap.size 67108864/\w.S w':=by
 have hrs:=wC s;have hps:=ut (runs s);have sA:=bJ w (.cells #[.bool false,.n,.n] 44);have rA:=bj.new w (.bool false) (.n) (.n) 44;go_enter Tryz.func164,Tryz.ntmps164;go_wp2_with fail;generalize w.alloc _=wA at*;refine (@vZ s _ _ om qd qd).mono ?_;rintro e w1 ⟨s1,rfl⟩;rw[show (if nJ s then s.extract 1 s.size else s)=runs s from rfl];go_wp2_with fail;refine (@agD (runs s) _ _ om qd qd).mono ?_;rintro e w2 ⟨s2,h⟩;have sm:Same wA w2:=⟨s2.os.trans s1.os,s2.tape.trans s1.tape,s2.output.trans s1.output,s2.heap.trans s1.heap⟩;have S2:=sA.tr (sm.since wA.heap.size);have r2:=rA.aA (sm.since _);clear sA rA s1 s2 sm
 rcases h with ⟨hi,rfl⟩ | ⟨i,hil,hi,rfl⟩
 focus
  obtain⟨t,ht0⟩:∃t,t=runs s:=⟨_,rfl⟩;obtain⟨b,hb0⟩:∃b,b=(⟨#[49]⟩:ByteArray):=⟨_,rfl⟩;have te:d9 (runs s)=runs s:=by unfold d9;rw[if_pos hi]
  have be:dj (runs s)=⟨#[49]⟩:=by unfold dj;rw[if_pos hi]
  clear hi;rw[<-ht0];have hbL:(⟨#[49]⟩:ByteArray)=b:=hb0.symm
 rotate_left
 focus
  obtain⟨t,ht0⟩:∃t,t=(runs s).extract 0 i:=⟨_,rfl⟩;obtain⟨b,hb0⟩:∃b,b=(runs s).extract (i+1) (runs s).size:=⟨_,rfl⟩;have hin:¬firstIdx (runs s) 47=-1:=by rw[hi];omega
  have te:d9 (runs s)=(runs s).extract 0 i:=by unfold d9;rw[if_neg hin,hi,Int.toNat_natCast]
  have be:dj (runs s)=(runs s).extract (i+1) (runs s).size:=by unfold dj;rw[if_neg hin,hi,Int.toNat_natCast]
  clear hi hin hil;rw[<-ht0,<-hb0]
 all_goals
  have htp:d9 (runs s)=t:=te.trans ht0.symm;have hbp:dj (runs s)=b:=be.trans hb0.symm;have hts:t.size<=16777217:=by rw[<-htp];omega
  have hbs:b.size<=16777217:=by rw[<-hbp];omega
  have HTP:=ae htp;have HBP:=ae hbp;clear ht0 hb0 htp hbp hps hrs;have JD1:=@lq t w2 hts
  by_cases d1:ix t=true
  . rw[d1] at JD1
    go_wp2_with fail;refine JD1.mono ?_;rintro e w3 ⟨rfl,s3⟩;have r3:=r2.aA (s3.since _);have S3:=S2.trans (s3.since _);have JD2:=@lq b w3 hbs
    by_cases d2:ix b=true
    . rw[d2] at JD2
      go_wp2_with fail;refine JD2.mono ?_;rintro e w4 ⟨rfl,s4⟩;have r4:=r3.aA (s4.since _);have S4:=S3.trans (s4.since _);clear JD1 JD2 r2 r3 S2 S3 s3 s4
      by_cases l1:400<t.size
      . have l1':(400:Int)<(t.size:Int):=om
        have hpo:ak s=(false,0,1,2):=by unfold ak;simp only[HTP.out,HBP.out,d1,d2];simp[l1]
        have HPO:=ae hpo;clear hpo;go_wp2_with fail;refine (@je w4).mono ?_;rintro e w6 ⟨v,rfl,⟨x1,x2,g6,h6,rfl,N6,D6,y1,y2,y3⟩,s6⟩;have rB:=r4.aA s6;have N6':=N6;have D6':=D6;obtain⟨a1,q1,c1,Y1,rfl,-⟩:=N6;obtain⟨a2,q2,c2,Y2,rfl,-⟩:=D6;have S6:=S4.tr s6;have z0:=S4.size;have rl:=r4.lt;obtain⟨u0,u1,u2⟩:=rB.g;obtain⟨uf0,uf1,uf2⟩:=rB.k;go_wp2;have rC:=((rB.aE (.bool false)).aG (.slice a1 q1 c1)).aF (.slice a2 q2 c2);refine bodyPost_ret (ga rfl _ _ _ _ _ _ rfl rC) rfl ?_;have M:af w6 _ w.heap.size:=(((af.refl w6 _).setCell 0 (.bool false)).setCell 1 (.slice a1 q1 c1)).setCell 2 (.slice a2 q2 c2);rw[HPO.out];exact⟨_,rfl,⟨_,_,g6,h6,rfl,N6'.marked M om,D6'.marked M om,om,om,y3⟩,S6.trans (M.since (Nat.le_refl _))⟩
      . by_cases l2:400<b.size
        . have l1':¬(400:Int)<(t.size:Int):=om
          have l2':(400:Int)<(b.size:Int):=om
          have hpo:ak s=(false,0,1,2):=by unfold ak;simp only[HTP.out,HBP.out,d1,d2];simp[l2]
          have HPO:=ae hpo;clear hpo;go_wp2_with fail;refine (@je w4).mono ?_;rintro e w6 ⟨v,rfl,⟨x1,x2,g6,h6,rfl,N6,D6,y1,y2,y3⟩,s6⟩;have rB:=r4.aA s6;have N6':=N6;have D6':=D6;obtain⟨a1,q1,c1,Y1,rfl,-⟩:=N6;obtain⟨a2,q2,c2,Y2,rfl,-⟩:=D6;have S6:=S4.tr s6;have z0:=S4.size;have rl:=r4.lt;obtain⟨u0,u1,u2⟩:=rB.g;obtain⟨uf0,uf1,uf2⟩:=rB.k;go_wp2;have rC:=((rB.aE (.bool false)).aG (.slice a1 q1 c1)).aF (.slice a2 q2 c2);refine bodyPost_ret (ga rfl _ _ _ _ _ _ rfl rC) rfl ?_;have M:af w6 _ w.heap.size:=(((af.refl w6 _).setCell 0 (.bool false)).setCell 1 (.slice a1 q1 c1)).setCell 2 (.slice a2 q2 c2);rw[HPO.out];exact⟨_,rfl,⟨_,_,g6,h6,rfl,N6'.marked M om,D6'.marked M om,om,om,y3⟩,S6.trans (M.since (Nat.le_refl _))⟩
        . have l1':¬(400:Int)<(t.size:Int):=om
          have l2':¬(400:Int)<(b.size:Int):=om
          have dg1:=kJ d1;have dg2:=kJ d2;go_wp2_with fail;refine (@lQ t w4 om dg1).mono ?_;rintro e w5 ⟨v1,g,rfl,N5,k51,k52,s5⟩;have S5:=S4.tr s5;have r5:=r4.aA s5;go_wp2_with fail;refine (@lQ b w5 om dg2).mono ?_;rintro e w6 ⟨v2,h,rfl,D6,k61,k62,s6⟩;have S6:=S5.tr s6;have r6:=r5.aA s6;have N6:=N5.aA s6;have z4:=S4.size;have z5:=s5.size;have z6:=s6.size;have rl4:=r4.lt;have N6':=N6;have D6':=D6;obtain⟨a1,q1,c1,Y1,rfl,-⟩:=N6;obtain⟨a2,q2,c2,Y2,rfl,-,-,-,-,-,-,tD,eD⟩:=D6;have t7:=bJ w6 (.cells #[.bool (nJ s),.slice a1 q1 c1,.slice a2 q2 c2,.n] 182);have F7:=dG.new w6 (.bool (nJ s)) (.slice a1 q1 c1) (.slice a2 q2 c2) (.n) 182;have S7:=S6.tr t7;have r7:=r6.aA t7;have N7:=(N6'.aA t7).more (show 402<=16777216 by omega);have D7:=(D6'.aA t7).more (show 402<=16777216 by omega);have z7:w6.heap.size<(w6.alloc (.cells #[.bool (nJ s),.slice a1 q1 c1,.slice a2 q2 c2,.n] 182)).heap.size:=F7.lt;have hz7:=gU tD;rw[eD] at hz7;clear tD eD;go_wp2_with fail;generalize (w6.alloc _)=w7 at*;generalize hc7:w6.heap.size=c7 at*;refine (@ic c7 2 a2 q2 c2 w7 F7.c2).mono ?_;rintro e w8 ⟨rfl,rfl⟩
          by_cases hD:dv b b.size=0
          . have hq2:q2=0:=hz7.2 hD
            subst hq2
            have hpo:ak s=(false,0,1,3):=by
             unfold ak;simp only[HTP.out,HBP.out,d1,d2];simp[l1,l2,hD]
            have HPO:=ae hpo;clear hpo hz7 hD N7 D7 N5 N6' D6' F7 t7 r6 r5 r4 dg1 dg2;go_wp2_with fail;refine (@je w8).mono ?_;rintro e wZ ⟨v,rfl,⟨x1,x2,gZ,hZ,rfl,NZ,DZ,y1,y2,y3⟩,sZ⟩;have rB:=r7.aA sZ;have NZ':=NZ;have DZ':=DZ;obtain⟨b1,p1,d1',Y1',rfl,-⟩:=NZ;obtain⟨b2,p2,d2',Y2',rfl,-⟩:=DZ;have S9:=S7.tr sZ;have z0:=S7.size;have rl:=r7.lt;obtain⟨u0,u1,u2⟩:=rB.g;obtain⟨uf0,uf1,uf2⟩:=rB.k;go_wp2;have rC:=((rB.aE (.bool false)).aG (.slice b1 p1 d1')).aF (.slice b2 p2 d2');refine bodyPost_ret (ga rfl _ _ _ _ _ _ rfl rC) rfl ?_;have M:af wZ _ w.heap.size:=(((af.refl wZ _).setCell 0 (.bool false)).setCell 1 (.slice b1 p1 d1')).setCell 2 (.slice b2 p2 d2');rw[HPO.out];exact⟨_,rfl,⟨_,_,gZ,hZ,rfl,NZ'.marked M om,DZ'.marked M om,om,om,y3⟩,S9.trans (M.since (Nat.le_refl _))⟩
          . have hq2:((q2:Int)==0)=false:=by simp;omega
            have hpo:ak s=(nJ s&&dv t t.size != 0,dv t t.size/Nat.gcd (dv t t.size) (dv b b.size),dv b b.size/Nat.gcd (dv t t.size) (dv b b.size),0):=by
             unfold ak;simp only[HTP.out,HBP.out,d1,d2];simp[l1,l2,hD]
            have HPO:=ae hpo;clear hpo;have JN:=@vK c7 (nJ s) (.slice a1 q1 c1) (.slice a2 q2 c2) (.n) g h 0 (dv t t.size) (dv b b.size) 0 (w.heap.size+1) w8 (Nat.zero_le _) (hT.stay hw S7) F7 N7 D7 (wN _ _ _) (Nat.dvd_zero _) om om om om om om om om om om;obtain⟨neg,hneg⟩:∃neg,neg=(nJ s&&dv t t.size != 0):=⟨_,rfl⟩;rw[<-hneg] at JN;have HNE:=ae hneg;clear hneg;go_wp2_with fail;refine JN.mono ?_;rintro e wB ⟨v,rfl,⟨x1,x2,gB,hB,rfl,NB,DB,y1,y2,y3⟩,sB⟩;have rB:=r7.since sB om;have NB':=NB;have DB':=DB;obtain⟨b1,p1,d1',Y1',rfl,-⟩:=NB;obtain⟨b2,p2,d2',Y2',rfl,-⟩:=DB;have SB:=S7.trans (sM sB om);obtain⟨u0,u1,u2⟩:=rB.g;obtain⟨uf0,uf1,uf2⟩:=rB.k;clear JN;go_wp2;have rC:=((rB.aE (.bool neg)).aG (.slice b1 p1 d1')).aF (.slice b2 p2 d2');refine bodyPost_ret (ga rfl _ _ _ _ _ _ rfl rC) rfl ?_;have M:af wB _ w.heap.size:=(((af.refl wB _).setCell 0 (.bool neg)).setCell 1 (.slice b1 p1 d1')).setCell 2 (.slice b2 p2 d2');rw[HPO.out];exact⟨_,rfl,⟨_,_,gB,hB,by rw[HNE.out],(NB'.more om).marked M om,(DB'.more om).marked M om,om,om,y3⟩,SB.trans (M.since (Nat.le_refl _))⟩
    . have d2':ix b=false:=by simpa using d2
      rw[d2'] at JD2;have hpo:ak s=(false,0,1,1):=by unfold ak;simp only[HTP.out,HBP.out,d1,d2'];simp
      have HPO:=ae hpo;clear hpo;go_wp2_with fail;refine JD2.mono ?_;rintro e w4 ⟨rfl,s4⟩;have r4:=r3.aA (s4.since _);have S4:=S3.trans (s4.since _);clear JD1 JD2 r2 r3 S2 S3 s3 s4;go_wp2_with fail;refine (@je w4).mono ?_;rintro e w6 ⟨v,rfl,⟨x1,x2,g6,h6,rfl,N6,D6,y1,y2,y3⟩,s6⟩;have rB:=r4.aA s6;have N6':=N6;have D6':=D6;obtain⟨a1,q1,c1,Y1,rfl,-⟩:=N6;obtain⟨a2,q2,c2,Y2,rfl,-⟩:=D6;have S6:=S4.tr s6;have z0:=S4.size;have rl:=r4.lt;obtain⟨u0,u1,u2⟩:=rB.g;obtain⟨uf0,uf1,uf2⟩:=rB.k;go_wp2;have rC:=((rB.aE (.bool false)).aG (.slice a1 q1 c1)).aF (.slice a2 q2 c2);refine bodyPost_ret (ga rfl _ _ _ _ _ _ rfl rC) rfl ?_;have M:af w6 _ w.heap.size:=(((af.refl w6 _).setCell 0 (.bool false)).setCell 1 (.slice a1 q1 c1)).setCell 2 (.slice a2 q2 c2);rw[HPO.out];exact⟨_,rfl,⟨_,_,g6,h6,rfl,N6'.marked M om,D6'.marked M om,om,om,y3⟩,S6.trans (M.since (Nat.le_refl _))⟩
  . have d1':ix t=false:=by simpa using d1
    rw[d1'] at JD1;have hpo:ak s=(false,0,1,1):=by unfold ak;simp only[HTP.out,HBP.out,d1'];simp
    have HPO:=ae hpo;clear hpo;go_wp2_with fail;refine JD1.mono ?_;rintro e w4 ⟨rfl,s4⟩;have r4:=r2.aA (s4.since _);have S4:=S2.trans (s4.since _);clear JD1 r2 S2 s4;go_wp2_with fail;refine (@je w4).mono ?_;rintro e w6 ⟨v,rfl,⟨x1,x2,g6,h6,rfl,N6,D6,y1,y2,y3⟩,s6⟩;have rB:=r4.aA s6;have N6':=N6;have D6':=D6;obtain⟨a1,q1,c1,Y1,rfl,-⟩:=N6;obtain⟨a2,q2,c2,Y2,rfl,-⟩:=D6;have S6:=S4.tr s6;have z0:=S4.size;have rl:=r4.lt;obtain⟨u0,u1,u2⟩:=rB.g;obtain⟨uf0,uf1,uf2⟩:=rB.k;go_wp2;have rC:=((rB.aE (.bool false)).aG (.slice a1 q1 c1)).aF (.slice a2 q2 c2);refine bodyPost_ret (ga rfl _ _ _ _ _ _ rfl rC) rfl ?_;have M:af w6 _ w.heap.size:=(((af.refl w6 _).setCell 0 (.bool false)).setCell 1 (.slice a1 q1 c1)).setCell 2 (.slice a2 q2 c2);rw[HPO.out];exact⟨_,rfl,⟨_,_,g6,h6,rfl,N6'.marked M om,D6'.marked M om,om,om,y3⟩,S6.trans (M.since (Nat.le_refl _))⟩
theorem ad6{u:ByteArray}{qs:List ByteArray}(h:aif u qs):(3<=qs.length/\ix (dj u)=false)∨(qs=[d9 u]/\dj u=⟨#[49]⟩)∨qs=[d9 u,dj u]:=by
 rcases jc u with ⟨hi,hn⟩ | ⟨i,hil,hi,hb,hf⟩
 . have ht:d9 u=u:=by unfold d9;rw[if_pos hi]
   have hbt:dj u=⟨#[49]⟩:=by unfold dj;rw[if_pos hi]
   rcases h with ⟨h1,-⟩ | ⟨j,h1,h2,-⟩ | ⟨-,j,j',h2,h3,h4,h5⟩
   . exact Or.inr (Or.inl ⟨by rw[h1,ht],hbt⟩)
   . exact absurd h2 (hn j h1)
   . exact absurd h4 (hn j om)
 . have hin:¬firstIdx u 47=-1:=by rw[hi];omega
   have ht:d9 u=u.extract 0 i:=by unfold d9;rw[if_neg hin,hi,Int.toNat_natCast]
   have hbt:dj u=u.extract (i+1) u.size:=by unfold dj;rw[if_neg hin,hi,Int.toNat_natCast]
   rcases h with ⟨-,h1⟩ | ⟨j,h1,h2,h3,h4⟩ | ⟨h1,j,j',h2,h3,h4,h5⟩
   . exact absurd hb (h1 i hil)
   . have e:i=j:=by
      rcases Nat.lt_trichotomy i j with e | e | e
      . exact absurd hb (h3 i hil om)
      . exact e
      . exact absurd h2 (hf j e)
     subst e;exact Or.inr (Or.inr (by rw[h4,ht,hbt]))
   . refine Or.inl ⟨h1, ?_⟩
     have hij:i<=j:=by
      rcases Nat.lt_or_ge j i with e | e
      . exact absurd h4 (hf j e)
      . exact e
     have hsz:(dj u).size=u.size-(i+1):=by rw[hbt];exact iQ u om (Nat.le_refl _)
     have hbb:bt (dj u) (j'-(i+1))=bt u j':=by rw[hbt,jn u om,show i+1+(j'-(i+1))=j' by omega]
     exact qq (k:=j'-(i+1)) om (Or.inl om)
theorem afv:ix ⟨#[49]⟩=true:=by
 have h:∀k,k<(⟨#[49]⟩:ByteArray).size->48<=bt ⟨#[49]⟩ k/\bt ⟨#[49]⟩ k<=57:=fun k hk=>by
  have:k=0:=by have:(⟨#[49]⟩:ByteArray).size=1:=rfl;omega
  subst this;exact⟨by decide,by decide⟩
 rw[uV h]
 decide
theorem ahO:dv ⟨#[49]⟩ (⟨#[49]⟩:ByteArray).size=1:=by decide
theorem uu{w:World}{base:Nat}{v:Value}{qs:List ByteArray}(h:w.ownsRow base 9 1 v qs.length (qs.map Value.string))(h0:0<qs.length):
 ∃g cap,v=.s g qs.length cap/\qs.length<=cap/\base<=g/\∀j x,qs[j]?=some x->w.cell? (jj g j)=some (.string x):=by
 have hc:= @World.ownsRow.cells _ _ _ _ _ _ _ h
 rcases h.2 with ⟨rfl,hn⟩ | ⟨g,cap,cur,rfl,hb,hg,hm,_⟩
 . omega
 . refine⟨g,cap,rfl,hm,hb,fun j x hj=> ?_⟩
   have:=hc (g:=g) rfl j (.string x) (by simp[hj]);rw[Addr.add_lit] at this
   simpa using this
theorem agC{w:World}{base:Nat}{v:Value}{qs:List ByteArray}{u:ByteArray}(h:w.ownsRow base 9 1 v qs.length (qs.map Value.string))
 (hq:(qs=[d9 u]/\dj u=⟨#[49]⟩)∨qs=[d9 u,dj u]):
 ∃g n cap,∃q:Nat->ByteArray,v=.s g n cap/\n<=cap/\base<=g/\(∀j,j<n->w.cell? (jj g j)=some (.string (q j)))/\q 0=d9 u/\((n=1/\dj u=⟨#[49]⟩)∨(n=2/\q 1=dj u))/\(∀j,j<n->(q j).size<=u.size+1):=by
 have ps:=ut u
 rcases hq with ⟨rfl,hb⟩ | rfl
 . obtain⟨g,cap,h1,h2,h3,h4⟩:=uu h qz
   refine⟨g,1,cap,fun _=>d9 u,h1,h2,h3,fun j hj=> ?_,rfl,Or.inl ⟨rfl,hb⟩,fun j hj=>ps.1⟩;obtain rfl:j=0:=om
   exact h4 0 _ rfl
 . obtain⟨g,cap,h1,h2,h3,h4⟩:=uu h qz
   refine⟨g,2,cap,fun j=>if j=0 then d9 u else dj u,h1,h2,h3,fun j hj=> ?_,rfl,Or.inr ⟨rfl,rfl⟩,fun j hj=> ?_⟩
   . rcases j with _ | _ | j
     . exact h4 0 _ rfl
     . exact h4 1 _ rfl
     . omega
   . by_cases e:j=0
     . simp only[e,if_true];exact ps.1
     . simp only[e,if_false]
       exact ps.2
theorem kz{s:ByteArray}{w:World}(hs:s.size<=16777216):
 Cl 71 #[.string s] w fun e w'=>∃v,e=.returned (.tuple #[v,.i (ak s).2.2.2])/\dM w' v (ak s).1 (ak s).2.1 (ak s).2.2.1 w.heap.size 67108864/\w.S w':=by
 have hrs:=wC s;have sA:=bJ w (.cells #[.bool false,.n,.n] 44);have rA:=bj.new w (.bool false) (.n) (.n) 44
 have three:(0<s.size/\bt s 0=45)∨(0<s.size/\¬bt s 0=45)∨¬0<s.size:=by
  by_cases h0:0<s.size
  . by_cases c:bt s 0=45
    . exact Or.inl ⟨h0,c⟩
    . exact Or.inr (Or.inl ⟨h0,c⟩)
  . exact Or.inr (Or.inr h0)
 rcases three with ⟨h0,c⟩ | ⟨h0,c⟩ | h0
 focus
  have h0':(0:Int)<(s.size:Int):=om
  have hx:=jI h0;have hg:nJ s=true:=by simp[nJ,h0,c]
  have hu:s.extract 1 s.size=runs s:=by simp[runs,hg]
  rw[c] at hx;go_enter Tryz.func71,Tryz.ntmps71;go_wp2_with fail;generalize w.alloc _=wA at*;refine (@rh (runs s) _ om).mono ?_;have HG:=ae hg;clear hu hx h0' c hg;rintro e w1 ⟨v,qs,rfl,hown,hcut,hql,s1⟩;have S1:=sA.tr s1;have r1:=rA.aA s1;have HW1:=ae hown
 rotate_left
 focus
  have h0':(0:Int)<(s.size:Int):=om
  have hx:=jI h0;have hg:nJ s=false:=by simp[nJ,h0,c]
  have hu:s=runs s:=by simp[runs,hg]
  have hx2:=aa5 s 0;have c1':¬((bt s 0:Int)=45):=om
  obtain⟨x,ex⟩:∃x,x=bt s 0:=⟨_,rfl⟩;rw[<-ex] at hx hx2 c1';have hxb:((x:Int)==45)=false:=by simpa using c1'
  have HU:=ae hu;have HG:=ae hg;clear ex c hu hg c1';go_enter Tryz.func71,Tryz.ntmps71;go_wp2_with fail;generalize w.alloc _=wA at*;refine (@rh s _ om).mono ?_;clear hx hx2 hxb h0';rintro e w1 ⟨v,qs,rfl,hown,hcut,hql,s1⟩;have S1:=sA.tr s1;have r1:=rA.aA s1;have HW1:=ae hown;rw[HU.out] at hcut
 rotate_left
 focus
  have h0':¬(0:Int)<(s.size:Int):=om
  have hg:nJ s=false:=by simp[nJ,h0]
  have hu:s=runs s:=by simp[runs,hg]
  have HU:=ae hu;have HG:=ae hg;clear hu hg;go_enter Tryz.func71,Tryz.ntmps71;go_wp2_with fail;generalize w.alloc _=wA at*;refine (@rh s _ om).mono ?_;clear h0';rintro e w1 ⟨v,qs,rfl,hown,hcut,hql,s1⟩;have S1:=sA.tr s1;have r1:=rA.aA s1;have HW1:=ae hown;rw[HU.out] at hcut
 rotate_left
 all_goals
  rcases ad6 hcut with ⟨h3,hb3⟩ | hq
  . first
    | exact absurd hql om
    | (obtain⟨g,cap,rfl,hnc,-,-⟩:=uu HW1.out om
       have hpo:ak s=(false,0,1,1):=by unfold ak;simp only[hb3];simp
       have HPO:=ae hpo;generalize qs.length=n at*;have h3':(2:Int)<n:=om
       clear hpo hb3 hown HW1 hcut;go_wp2_with fail;refine (@dY w1).mono ?_;rintro e wZ ⟨v,rfl,⟨x1,x2,gZ,hZ,rfl,NZ,DZ,y1,y2,y3⟩,sZ⟩;have rB:=r1.aA sZ;have NZ':=NZ;have DZ':=DZ;obtain⟨b1,p1,e1,Y1',rfl,-⟩:=NZ;obtain⟨b2,p2,e2,Y2',rfl,-⟩:=DZ;have S9:=S1.tr sZ;have z0:=S1.size;have rl:=r1.lt;obtain⟨u0,u1,u2⟩:=rB.g;obtain⟨uf0,uf1,uf2⟩:=rB.k;go_wp2;have rC:=((rB.aE (.bool false)).aG (.slice b1 p1 e1)).aF (.slice b2 p2 e2);refine bodyPost_ret (ga rfl _ _ _ _ _ _ rfl rC) rfl ?_;have M:af wZ _ w.heap.size:=(((af.refl wZ _).setCell 0 (.bool false)).setCell 1 (.slice b1 p1 e1)).setCell 2 (.slice b2 p2 e2);rw[HPO.out];exact⟨_,rfl,⟨_,_,gZ,hZ,rfl,NZ'.marked M om,DZ'.marked M om,om,om,y3⟩,S9.trans (M.since (Nat.le_refl _))⟩)
  . obtain⟨g,n,cap,q,rfl,hnc,-,hcell,hq0,hq1,hqs⟩:=agC HW1.out hq
    have hn2:n=1∨n=2:=by rcases hq1 with h | h<;>omega
    have HQ1:=ae hq1;have HQ0:=ae hq0;have HQS:=ae hqs;have h3':¬(2:Int)<n:=om
    clear hown HW1 hcut hq hq1 hq0 hqs hn2 hql s1 sA rA;go_wp2_with fail
    go_loopw [7] (fun t wr=>∃i:Nat,i<=n/\t=.i i/\Hid (∀j,j<i->ix (q j)=true)/\Same w1 wr) (fun t _=>n-(intOf t).toNat)
    case atStart=>exact⟨0,Nat.zero_le _,rfl,ae (fun j hj=>absurd hj om),Same.refl _⟩
    case round=>
     obtain⟨i,hik,rfl,HD,sm⟩:=hrel;have S2:=S1.trans (sm.since _);have r2:=r1.aA (sm.since _)
     by_cases hlt:i<n
     . have hlt':(i:Int)<n:=om
       have hc:=hcell i hlt;rw[<-sm.cell] at hc;have JD:=@pS (q i) wr (by have:=HQS.out i hlt;omega)
       by_cases d:ix (q i)=true
       . have HD1:=ae d
         rw[d] at JD;clear d;go_wp2_with fail;refine JD.mono ?_;rintro e w2 ⟨rfl,s2⟩;go_wp2;go_roundw
         case rel=>
          refine⟨i+1,om,by go_num,ae (fun j hj=> ?_),⟨s2.os.trans sm.os,s2.tape.trans sm.tape,s2.output.trans sm.output,s2.heap.trans sm.heap⟩⟩
          by_cases e:j=i
          . subst e;exact HD1.out
          . exact HD.out j om
         case measure=>simp[intOf];omega
       . have d':ix (q i)=false:=by simpa using d
         rw[d'] at JD
         have hpo:ak s=(false,0,1,1):=by
          have:ix (d9 (runs s))=false∨ix (dj (runs s))=false:=by
           by_cases e:i=0
           . subst e;rw[HQ0.out] at d';exact Or.inl d'
           . rcases HQ1.out with ⟨h1,-⟩ | ⟨h1,h2⟩
             . omega
             . obtain rfl:i=1:=om
               rw[h2] at d';exact Or.inr d'
          unfold ak
          rcases this with h | h<;>simp[h]
         have HPO:=ae hpo;clear hpo d d';go_wp2_with fail;refine JD.mono ?_;rintro e w2 ⟨rfl,s2⟩;have S3:=S2.trans (s2.since _);have r3:=r2.aA (s2.since _);clear JD hc S2 r2 r1 S1;go_wp2_with fail;refine (@dY w2).mono ?_;rintro e wZ ⟨v,rfl,⟨x1,x2,gZ,hZ,rfl,NZ,DZ,y1,y2,y3⟩,sZ⟩;have rB:=r3.aA sZ;have NZ':=NZ;have DZ':=DZ;obtain⟨b1,p1,e1,Y1',rfl,-⟩:=NZ;obtain⟨b2,p2,e2,Y2',rfl,-⟩:=DZ;have S9:=S3.tr sZ;have z0:=S3.size;have rl:=r3.lt;obtain⟨u0,u1,u2⟩:=rB.g;obtain⟨uf0,uf1,uf2⟩:=rB.k;go_wp2;have rC:=((rB.aE (.bool false)).aG (.slice b1 p1 e1)).aF (.slice b2 p2 e2);refine bodyPost_ret (ga rfl _ _ _ _ _ _ rfl rC) rfl ?_;have M:af wZ _ w.heap.size:=(((af.refl wZ _).setCell 0 (.bool false)).setCell 1 (.slice b1 p1 e1)).setCell 2 (.slice b2 p2 e2);rw[HPO.out];exact⟨_,rfl,⟨_,_,gZ,hZ,rfl,NZ'.marked M om,DZ'.marked M om,om,om,y3⟩,S9.trans (M.since (Nat.le_refl _))⟩
     . have e:i=n:=om
       subst e;have hlt':¬(i:Int)<i:=om
       have HDD:=ae (show ix (d9 (runs s))=true/\ix (dj (runs s))=true by
        rcases HQ1.out with ⟨h1,h2⟩ | ⟨h1,h2⟩
        . exact⟨by rw[<-HQ0.out];exact HD.out 0 om,by rw[h2];exact afv⟩
        . exact⟨by rw[<-HQ0.out];exact HD.out 0 om,by rw[<-h2];exact HD.out 1 om⟩)
       go_wp2_with fail
       go_loopw [8] (fun t wr=>∃j:Nat,j<=i/\t=.i j/\Hid (∀k,k<j->¬400<(q k).size)/\Same w1 wr) (fun t _=>i-(intOf t).toNat)
       case atStart=>exact⟨0,Nat.zero_le _,rfl,ae (fun j hj=>absurd hj om),sm⟩
       case round=>
        clear S2 r2 sm;obtain⟨j,hjk,rfl,HL,sm⟩:=hrel;have S2:=S1.trans (sm.since _);have r2:=r1.aA (sm.since _)
        by_cases hlt:j<i
        . have hlt':(j:Int)<i:=om
          have hc:=hcell j hlt;rw[<-sm.cell] at hc
          by_cases d:400<(q j).size
          . have d':(400:Int)<((q j).size:Int):=om
            have hpo:ak s=(false,0,1,2):=by
             have:400<(d9 (runs s)).size∨400<(dj (runs s)).size:=by
              by_cases e:j=0
              . subst e;rw[HQ0.out] at d;exact Or.inl d
              . rcases HQ1.out with ⟨h1,-⟩ | ⟨h1,h2⟩
                . omega
                . obtain rfl:j=1:=om
                  rw[h2] at d;exact Or.inr d
             unfold ak;simp only[HDD.out.1,HDD.out.2]
             rcases this with h | h<;>simp[h]
            have HPO:=ae hpo;clear hpo d;go_wp2_with fail;refine (@dY wr).mono ?_;rintro e wZ ⟨v,rfl,⟨x1,x2,gZ,hZ,rfl,NZ,DZ,y1,y2,y3⟩,sZ⟩;have rB:=r2.aA sZ;have NZ':=NZ;have DZ':=DZ;obtain⟨b1,p1,e1,Y1',rfl,-⟩:=NZ;obtain⟨b2,p2,e2,Y2',rfl,-⟩:=DZ;have S9:=S2.tr sZ;have z0:=S2.size;have rl:=r2.lt;obtain⟨u0,u1,u2⟩:=rB.g;obtain⟨uf0,uf1,uf2⟩:=rB.k;go_wp2;have rC:=((rB.aE (.bool false)).aG (.slice b1 p1 e1)).aF (.slice b2 p2 e2);refine bodyPost_ret (ga rfl _ _ _ _ _ _ rfl rC) rfl ?_;have M:af wZ _ w.heap.size:=(((af.refl wZ _).setCell 0 (.bool false)).setCell 1 (.slice b1 p1 e1)).setCell 2 (.slice b2 p2 e2);rw[HPO.out];exact⟨_,rfl,⟨_,_,gZ,hZ,rfl,NZ'.marked M om,DZ'.marked M om,om,om,y3⟩,S9.trans (M.since (Nat.le_refl _))⟩
          . have d':¬(400:Int)<((q j).size:Int):=om
            have HL1:=ae d;clear d;go_wp2;go_roundw
            case rel=>
             refine⟨j+1,om,by go_num,ae (fun k hk=> ?_),sm⟩
             by_cases e:k=j
             . subst e;exact HL1.out
             . exact HL.out k om
            case measure=>simp[intOf];omega
        . have e:j=i:=om
          subst e;have hlt':¬(j:Int)<j:=om
          have HLL:=ae (show ¬400<(d9 (runs s)).size/\¬400<(dj (runs s)).size by
           rcases HQ1.out with ⟨h1,h2⟩ | ⟨h1,h2⟩
           . exact⟨by rw[<-HQ0.out];exact HL.out 0 om,by rw[h2];exact qd⟩
           . exact⟨by rw[<-HQ0.out];exact HL.out 0 om,by rw[<-h2];exact HL.out 1 om⟩)
          go_wp2_with fail;refine (@eJ 1 _ qd).mono ?_;rintro e w5 ⟨vd,td,Bd,rfl,k2,T5,e2,s2⟩;have S5:=S2.tr s2;have r5:=r2.aA s2;have hc0:=hcell 0 (by rcases HQ1.out with ⟨hj,-⟩ | ⟨hj,-⟩<;>omega);rw[<-sm.cell] at hc0;have hc0:=(s2.cell (a:=jj g 0) (gz _ _ hc0)).trans hc0;have hj0:(0:Int)<j:=by rcases HQ1.out with ⟨hj,-⟩ | ⟨hj,-⟩<;>omega
          rcases HQ1.out with ⟨hj,hb⟩ | ⟨hj,hb⟩
          . have hj2:((j:Int)==2)=false:=by simp;omega
            have HE5:Hid (bv Bd td=dv (dj (runs s)) (dj (runs s)).size):=ae (by rw[e2,hb,ahO]);have T5':=T5;have k5:td<=26065:=om
            clear hj hb r2 S2 e2 s2 r1 S1;obtain⟨a5,b5,o5,c5,rfl,hc5,LB,tB⟩:=T5
            by_cases h5:td=0
            . subst h5
              have hpo:ak s=(false,0,1,3):=by
               have hd:dv (dj (runs s)) (dj (runs s)).size=0:=by rw[<-HE5.out];rfl
               unfold ak;simp only[HDD.out.1,HDD.out.2];simp[HLL.out.1,HLL.out.2,hd]
              have HPO:=ae hpo;clear hpo T5' LB tB;go_wp2_with fail;refine (@dY w5).mono ?_;rintro e wZ ⟨v,rfl,⟨x1,x2,gZ,hZ,rfl,NZ,DZ,y1,y2,y3⟩,sZ⟩;have rB:=r5.aA sZ;have NZ':=NZ;have DZ':=DZ;obtain⟨b1,p1,e1,Y1',rfl,-⟩:=NZ;obtain⟨b2,p2,e2,Y2',rfl,-⟩:=DZ;have S9:=S5.tr sZ;have z0:=S5.size;have rl:=r5.lt;obtain⟨u0,u1,u2⟩:=rB.g;obtain⟨uf0,uf1,uf2⟩:=rB.k;go_wp2;have rC:=((rB.aE (.bool false)).aG (.slice b1 p1 e1)).aF (.slice b2 p2 e2);refine bodyPost_ret (ga rfl _ _ _ _ _ _ rfl rC) rfl ?_;have M:af wZ _ w.heap.size:=(((af.refl wZ _).setCell 0 (.bool false)).setCell 1 (.slice b1 p1 e1)).setCell 2 (.slice b2 p2 e2);rw[HPO.out];exact⟨_,rfl,⟨_,_,gZ,hZ,rfl,NZ'.marked M om,DZ'.marked M om,om,om,y3⟩,S9.trans (M.since (Nat.le_refl _))⟩
            . have h5':((td:Int)==0)=false:=by simp;omega
              have hpos:=mU (Nat.pos_of_ne_zero h5) (tB (Nat.pos_of_ne_zero h5))
              have hpo:ak s=(nJ s&&dv (d9 (runs s)) (d9 (runs s)).size != 0,dv (d9 (runs s)) (d9 (runs s)).size/Nat.gcd (dv (d9 (runs s)) (d9 (runs s)).size) (dv (dj (runs s)) (dj (runs s)).size),dv (dj (runs s)) (dj (runs s)).size/Nat.gcd (dv (d9 (runs s)) (d9 (runs s)).size) (dv (dj (runs s)) (dj (runs s)).size),0):=by
               have hd:¬dv (dj (runs s)) (dj (runs s)).size=0:=by rw[<-HE5.out];omega
               unfold ak;simp only[HDD.out.1,HDD.out.2];simp[HLL.out.1,HLL.out.2,hd]
              have HPO:=ae hpo;have HPP:=ae hpos;clear hpo hpos LB tB;go_wp2_with fail;refine (@ki (q 0) _ (by rw[HQ0.out];have:=HLL.out.1;omega) (by rw[HQ0.out];exact kJ HDD.out.1)).mono ?_;rintro e w7 ⟨v7,t7,B7,rfl,T7,k7,e7,s7⟩;have S7:=S5.tr s7;have r7:=r5.aA s7;rw[HQ0.out] at e7;have JM:=fun b:Bool=>@fT b _ _ t7 td B7 Bd w7 om om T7 (T5'.aA s7) HPP.out
              rw[e7,HE5.out] at JM;go_wp2_with fail;refine (JM _).mono ?_;clear JM;rintro e wZ ⟨v,rfl,⟨x1,x2,gZ,hZ,rfl,NZ,DZ,y1,y2,y3⟩,sZ⟩;have rB:=r7.aA sZ;have NZ':=NZ;have DZ':=DZ;obtain⟨b1,p1,e1,Y1',rfl,-⟩:=NZ;obtain⟨b2,p2,e2,Y2',rfl,-⟩:=DZ;have S9:=S7.tr sZ;have z0:=S7.size;have rl:=r7.lt;obtain⟨u0,u1,u2⟩:=rB.g;obtain⟨uf0,uf1,uf2⟩:=rB.k;obtain⟨neg,hneg⟩:∃neg,neg=(nJ s&&dv (d9 (runs s)) (d9 (runs s)).size != 0):=⟨_,rfl⟩;rw[HG.out] at hneg;rw[<-hneg];have HNE:=ae hneg;clear hneg;go_wp2;have rC:=((rB.aE (.bool neg)).aG (.slice b1 p1 e1)).aF (.slice b2 p2 e2);refine bodyPost_ret (ga rfl _ _ _ _ _ _ rfl rC) rfl ?_;have M:af wZ _ w.heap.size:=(((af.refl wZ _).setCell 0 (.bool neg)).setCell 1 (.slice b1 p1 e1)).setCell 2 (.slice b2 p2 e2);rw[HPO.out];exact⟨_,rfl,⟨_,_,gZ,hZ,by rw[HNE.out,HG.out],NZ'.marked M om,DZ'.marked M om,om,om,y3⟩,S9.trans (M.since (Nat.le_refl _))⟩
          . have hj2:((j:Int)==2)=true:=by simp;omega
            have hj1:(1:Int)<j:=om
            have hc1:=hcell 1 om;rw[<-sm.cell] at hc1;have hc1:=(s2.cell (a:=jj g 1) (gz _ _ hc1)).trans hc1;have HB:=ae hb;clear hj hb r2 S2 e2 s2 r1 S1 T5;go_wp2_with fail;refine (@ki (q 1) _ (by rw[HB.out];have:=HLL.out.2;omega) (by rw[HB.out];exact kJ HDD.out.2)).mono ?_;rintro e w6 ⟨vf,tf,Bf,rfl,T6,k6,e6,s6⟩;have S6:=S5.tr s6;have r6:=r5.aA s6;have hc0:=(s6.cell (a:=jj g 0) (gz _ _ hc0)).trans hc0;have HE6:Hid (bv Bf tf=dv (dj (runs s)) (dj (runs s)).size):=ae (by rw[e6,HB.out]);have T6':=T6;clear r5 S5 s6 e6 hc1;obtain⟨a5,b5,o5,c5,rfl,hc5,LB,tB⟩:=T6
            by_cases h5:tf=0
            . subst h5
              have hpo:ak s=(false,0,1,3):=by
               have hd:dv (dj (runs s)) (dj (runs s)).size=0:=by rw[<-HE6.out];rfl
               unfold ak;simp only[HDD.out.1,HDD.out.2];simp[HLL.out.1,HLL.out.2,hd]
              have HPO:=ae hpo;clear hpo T6' LB tB;go_wp2_with fail;refine (@dY w6).mono ?_;rintro e wZ ⟨v,rfl,⟨x1,x2,gZ,hZ,rfl,NZ,DZ,y1,y2,y3⟩,sZ⟩;have rB:=r6.aA sZ;have NZ':=NZ;have DZ':=DZ;obtain⟨b1,p1,e1,Y1',rfl,-⟩:=NZ;obtain⟨b2,p2,e2,Y2',rfl,-⟩:=DZ;have S9:=S6.tr sZ;have z0:=S6.size;have rl:=r6.lt;obtain⟨u0,u1,u2⟩:=rB.g;obtain⟨uf0,uf1,uf2⟩:=rB.k;go_wp2;have rC:=((rB.aE (.bool false)).aG (.slice b1 p1 e1)).aF (.slice b2 p2 e2);refine bodyPost_ret (ga rfl _ _ _ _ _ _ rfl rC) rfl ?_;have M:af wZ _ w.heap.size:=(((af.refl wZ _).setCell 0 (.bool false)).setCell 1 (.slice b1 p1 e1)).setCell 2 (.slice b2 p2 e2);rw[HPO.out];exact⟨_,rfl,⟨_,_,gZ,hZ,rfl,NZ'.marked M om,DZ'.marked M om,om,om,y3⟩,S9.trans (M.since (Nat.le_refl _))⟩
            . have h5':((tf:Int)==0)=false:=by simp;omega
              have hpos:=mU (Nat.pos_of_ne_zero h5) (tB (Nat.pos_of_ne_zero h5))
              have hpo:ak s=(nJ s&&dv (d9 (runs s)) (d9 (runs s)).size != 0,dv (d9 (runs s)) (d9 (runs s)).size/Nat.gcd (dv (d9 (runs s)) (d9 (runs s)).size) (dv (dj (runs s)) (dj (runs s)).size),dv (dj (runs s)) (dj (runs s)).size/Nat.gcd (dv (d9 (runs s)) (d9 (runs s)).size) (dv (dj (runs s)) (dj (runs s)).size),0):=by
               have hd:¬dv (dj (runs s)) (dj (runs s)).size=0:=by rw[<-HE6.out];omega
               unfold ak;simp only[HDD.out.1,HDD.out.2];simp[HLL.out.1,HLL.out.2,hd]
              have HPO:=ae hpo;have HPP:=ae hpos;clear hpo hpos LB tB;go_wp2_with fail;refine (@ki (q 0) _ (by rw[HQ0.out];have:=HLL.out.1;omega) (by rw[HQ0.out];exact kJ HDD.out.1)).mono ?_;rintro e w7 ⟨v7,t7,B7,rfl,T7,k7,e7,s7⟩;have S7:=S6.tr s7;have r7:=r6.aA s7;rw[HQ0.out] at e7;have JM:=fun b:Bool=>@fT b _ _ t7 tf B7 Bf w7 om om T7 (T6'.aA s7) HPP.out
              rw[e7,HE6.out] at JM;go_wp2_with fail;refine (JM _).mono ?_;clear JM;rintro e wZ ⟨v,rfl,⟨x1,x2,gZ,hZ,rfl,NZ,DZ,y1,y2,y3⟩,sZ⟩;have rB:=r7.aA sZ;have NZ':=NZ;have DZ':=DZ;obtain⟨b1,p1,e1,Y1',rfl,-⟩:=NZ;obtain⟨b2,p2,e2,Y2',rfl,-⟩:=DZ;have S9:=S7.tr sZ;have z0:=S7.size;have rl:=r7.lt;obtain⟨u0,u1,u2⟩:=rB.g;obtain⟨uf0,uf1,uf2⟩:=rB.k;obtain⟨neg,hneg⟩:∃neg,neg=(nJ s&&dv (d9 (runs s)) (d9 (runs s)).size != 0):=⟨_,rfl⟩;rw[HG.out] at hneg;rw[<-hneg];have HNE:=ae hneg;clear hneg;go_wp2;have rC:=((rB.aE (.bool neg)).aG (.slice b1 p1 e1)).aF (.slice b2 p2 e2);refine bodyPost_ret (ga rfl _ _ _ _ _ _ rfl rC) rfl ?_;have M:af wZ _ w.heap.size:=(((af.refl wZ _).setCell 0 (.bool neg)).setCell 1 (.slice b1 p1 e1)).setCell 2 (.slice b2 p2 e2);rw[HPO.out];exact⟨_,rfl,⟨_,_,gZ,hZ,by rw[HNE.out,HG.out],NZ'.marked M om,DZ'.marked M om,om,om,y3⟩,S9.trans (M.since (Nat.le_refl _))⟩
end Go.Proofs.YtclgkofcooibfaaGreatDoor
