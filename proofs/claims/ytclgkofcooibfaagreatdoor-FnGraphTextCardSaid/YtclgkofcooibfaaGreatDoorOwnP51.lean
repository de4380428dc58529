import Derived.Test.YtclgkofcooibfaaGreatDoorOwnP50
import Derived.Test.YtclgkofcooibfaaGreatDoorOwnP27
set_option maxHeartbeats 6400000
set_option maxRecDepth 100000
namespace Go.Proofs.YtclgkofcooibfaaGreatDoor
open Go.Shelf Go.RowKit Go.Sort Go.Lib
def lenOf:Value->Nat
 | .slice _ n _=>n
 | _=>0
theorem aiu(c:Nat):Lib.repeatL [48] c=List.replicate c 48:=by
 have:=Lib.repeatL_replicate 48 1 c
 simpa using this
theorem jL(l m:List UInt8):Lib.byteCells (l++m)=Lib.byteCells l++Lib.byteCells m:=List.map_append
theorem pr{c base cap:Nat}{a:Option Addr}{sv:Value}{n:Nat}{l:List UInt8}{w:World}(hc0:w.cell? (jj c 0)=some (.slice a 0 cap))
 (hown:w.ownsRow base 5 1 sv n (Lib.byteCells l))(hbase:base<=w.heap.size)(hn:n<=1000000000):
 Cl 55 #[.p c 0,sv] w fun e w'=>∃v',e=.returned v'/\Hid (v'≠ .n)/\w'.ownsRow base 5 1 v' (n+1) (Lib.byteCells (l++Lib.decDigits 0))/\w.Since base w'/\Lib.OthersKept 5 none w w':=by
 obtain⟨i0,hi,hz0,hz1,hz2⟩:=info_parts Tryz.info5
 obtain⟨a1,cap1,rfl⟩:∃a cap,sv=.slice a n cap:=by
  rcases hown.2 with ⟨rfl,rfl⟩ | ⟨g,cap,cur,rfl,-⟩
  . exact⟨none,0,rfl⟩
  . exact⟨_,cap,rfl⟩
 go_enter Tryz.func55,Tryz.ntmps55;go_wp2_with fail;refine (ic hc0).mono ?_;rintro e w1 ⟨rfl,rfl⟩
 go_wp2_with (at_builtin;refine wpList_append_own _ rfl _ _ 22 rfl base 5 i0 (.int .u8 0) 1 1 Tryz.underlying22 hi hz0 hz1 hz2 rfl qd _ _ _ rfl (hown.alloc _) (jj w1.heap.size 0) 1 1 [.int .u8 48] rfl rfl (bO _ _ _) (bZ _ rfl) (by unfold maxLen;omega) om (by simp;omega) ?_)
 intro v' w2 hown' hgrow hnn;have hs:=bJ w1 (.cells #[.int .u8 48] 5);have hs1:=(sM hs hbase).grown hgrow (by simp;omega) (fun k hk=>(hown.lt k hk).1);have hk:=(lk hs).grown hgrow (Lib.ownsRow_kind (hown.alloc _));have HN:=ae hnn;go_wp2;go_ret;refine⟨v',rfl,HN, ?_,hs1,hk⟩;rw[jL,Lib.decDigits_one om];exact hown'
theorem uw{w w':World}{base:Nat}{e:TypeId}{size:Nat}{v:Value}{n:Nat}{xs:List Value}(h:w.ownsRow base e size v n xs)(hk:∀g,v.ownBlock=some g->w'.heap[g]?=w.heap[g]?):w'.ownsRow base e size v n xs:=by
 obtain⟨hl,h | ⟨g,cap,cur,rfl,hb,hh,hr⟩⟩:=h
 . exact⟨hl,Or.inl h⟩
 . exact⟨hl,Or.inr ⟨g,cap,cur,rfl,hb,(hk g (by simp[Value.ownBlock])).trans hh,hr⟩⟩
theorem aeC{X:Nat->Nat}{n:Nat}(p:0<n->X (n-1)≠0)(h:lv X n=0):n=0:=by
 rcases Nat.eq_zero_or_pos n with e | e
 . exact e
 . have:=jU X n e (p e);have:=Nat.pow_pos (n:=32*(n-1)) (show 0<2 by omega);omega
theorem ah8{Q:Nat->Nat}{k:Nat}(h:0<ce (nz Q) k):Q (ce (nz Q) k-1)≠0:=by
 have:=cI _ _ h
 simpa [nz] using this
theorem zX{w w':World}{g m:Nat}{C:Nat->Nat}(h:ag w (jp g 0) g 0 m C)(e:w'.heap[g]?=w.heap[g]?):ag w' (jp g 0) g 0 m C:=
 fun j hj=>⟨rfl,(fa (w:=w) (a:=jj g (0+j)) e).trans (h j hj).2⟩
theorem nS{w w':World}{base:Nat}{e:TypeId}{size:Nat}{v:Value}{n:Nat}{xs:List Value}(h:w.ownsRow base e size v n xs)(s:w.S w'):w'.ownsRow base e size v n xs:=uw h (fun g hg=>s.block g (h.lt g hg).2)
theorem aes{w:World}{base:Nat}{e:TypeId}{size:Nat}{v:Value}{n:Nat}{xs:List Value}(h:w.ownsRow base e size v n xs)(h0:0<n):v≠ .n:=by
 rcases h.2 with ⟨-,e⟩ | ⟨g,cap,cur,rfl,-⟩
 . omega
 . simp
theorem yT(l:List UInt8):(⟨l.toArray⟩:ByteArray).size=l.length:=by simp[ByteArray.size]
theorem qC{c b base t cap:Nat}{a:Option Addr}{X:Nat->Nat}{sv:Value}{n:Nat}{l:List UInt8}{w:World}(ht:t<=1048576)(h0:0<t)(htc:t<=cap)(D0:ti a c b t cap w w t X)(hXl:∀j,j<t->X j<4294967296)(pX:X (t-1)≠0)
 (hown:w.ownsRow base 5 1 sv n (Lib.byteCells l))(hnc:sv.ownBlock≠some c)(hnb:sv.ownBlock≠some b)(hbase:base<=w.heap.size)(h1:base<=c)(h2:base<=b)(hn:n<=1000000000)(hP:vm base w):
 Cl 55 #[.p c 0,sv] w fun e w'=>∃v',e=.returned v'/\Hid (v'≠ .n)/\w'.ownsRow base 5 1 v' (n+(Lib.decDigits (lv X t)).length) (Lib.byteCells (l++Lib.decDigits (lv X t)))/\Kp base c b w w':=by
 obtain⟨i0,hi,hz0,hz1,hz2⟩:=info_parts Tryz.info5;obtain⟨j0,hj,hy0,hy1,hy2⟩:=info_parts Tryz.info129;obtain⟨N,hN⟩:∃N,N=lv X t:=⟨_,rfl⟩;have HL:=ae (fy X t hXl);rw[<-hN] at HL⊢;have HQ0:Hid ((∀j,j<t->X j<4294967296)/\(0<t->X (t-1)≠0)):=ae ⟨hXl,fun _=>pX⟩;have HN0:Hid (lv X t=qv N 0):=ae (by rw[xv,hN])
 have HP0:Hid (0<N):=ae (by
  rcases Nat.eq_zero_or_pos N with e | e
  . have:=aeC (X:=X) (n:=t) (fun _=>pX) (by rw[<-hN];exact e);omega
  . exact e)
 have HCB:=ae (And.intro h1 h2);have HNB:=ae (And.intro hnc hnb);clear hXl pX hN h1 h2 hnc hnb
 obtain⟨a1,cap1,rfl⟩:∃a cap,sv=.slice a n cap:=by
  rcases hown.2 with ⟨rfl,rfl⟩ | ⟨g,cap,cur,rfl,-⟩
  . exact⟨none,0,rfl⟩
  . exact⟨_,cap,rfl⟩
 have ht0:((t:Int)==0)=false:=by simp;omega
 go_enter Tryz.func55,Tryz.ntmps55;go_wp2_with fail;refine (@ic c 0 a t cap w D0.cell).mono ?_;rintro e w1 ⟨rfl,rfl⟩;have sA:=bJ w1 (.cells #[] 129);have hA1:(w1.alloc (.cells #[] 129)).ownsRow w1.heap.size 129 1 (.s w1.heap.size 0 0) 0 (ll (fun _=>0) 0):=pv w1 #[] 0 (Nat.le_refl _) qd rfl;have DA:=D0.since sA;clear D0 sA;go_wp2
 go_loopw [5] (fun v wr=>∃(m k:Nat) (Q C:Nat->Nat),k<=t/\ti a c b t cap w1 wr k Q/\Hid ((∀j,j<k->Q j<4294967296)/\(0<k->Q (k-1)≠0))/\wr.ownsRow w1.heap.size 129 1 v m (ll C m)/\Hid (v≠ .n)/\Hid (lv Q k=qv N m)/\Hid (ChI N m C)) (fun v _=>33554440-lenOf v)
 case atStart=>exact⟨0,t,X,fun _=>0,Nat.le_refl _,DA,HQ0,hA1,ae qz,HN0,ae ⟨fun j hj=>absurd hj om,Or.inl rfl⟩⟩
 case round=>
  clear DA HQ0 hA1 HN0;obtain⟨m,k,Q,C,hk,D,HQ,hch,HN,HV,HC⟩:=hrel
  have hm:m<=33554433:=by
   rcases HC.out.2 with h | h
   . omega
   . have:=afR HL.out h;omega
  have hcell:=D.cell;go_wp2_with fail;refine (@ic c 0 a k cap wr hcell).mono ?_;rintro e w2 ⟨rfl,rfl⟩
  by_cases hk0:0<k
  . have hkf:((k:Int)==0)=false:=by simp;omega
    obtain⟨g3,cap3,rfl,hmc3,hg3,hgl3,-,-⟩:=bX hch HN.out;go_wp2_with fail;refine (@kI c 0 a b k cap 1000000000 Q w2 om om D.cell D.fz D.limbs HQ.out.1 (fun _=>D.fb) D.ne om om).mono ?_;rintro e w4 ⟨rfl,w3,Q2,M,L2,l2,e2,rfl⟩;have D2:=D.divide (k':=ce (nz Q2) k) M L2 (co _ _)
    have hpos:0<qv N m:=by
     rw[<-HV.out]
     rcases Nat.eq_zero_or_pos (lv Q k) with e | e
     . have:=aeC HQ.out.2 e;omega
     . exact e
    have HX:Hid (ChI N (m+1) (fX C m (lv Q k % 1000000000))):=ae (af5 HC.out hpos (by rw[HV.out]));have HV2:Hid (lv Q2 (ce (nz Q2) k)=qv N (m+1)):=ae (by rw[dP,e2,tH,HV.out]);have HQ2:Hid ((∀j,j<ce (nz Q2) k->Q2 j<4294967296)/\(0<ce (nz Q2) k->Q2 (ce (nz Q2) k-1)≠0)):=ae ⟨fun j hj=>l2 j (Nat.lt_of_lt_of_le hj (co _ _)),ah8⟩;have hk2:ce (nz Q2) k<=t:=Nat.le_trans (co _ _) hk;have hgc:g3≠c:=by have:=D.lc;omega
    have hgb:g3≠b:=by have:=D.lb;omega
    have hch2:(w3.setCell (jj c 0) (.slice a (ce (nz Q2) k) cap)).ownsRow w1.heap.size 129 1 (.s g3 m cap3) m (ll C m):=uw hch (fun g hg=>by
     simp[Value.ownBlock] at hg
     subst hg;exact (((af.refl w3 c).setCell 0 (.slice a (ce (nz Q2) k) cap)).other _ hgc).trans (M.other _ hgb))
    obtain⟨x,hx⟩:∃x,x=lv Q k % 1000000000:=⟨_,rfl⟩;have hxl:x<1000000000:=by rw[hx];exact Nat.mod_lt _ om
    rw[<-hx] at HX⊢;generalize w3.setCell (jj c 0) (.slice a (ce (nz Q2) k) cap)=w5 at*;generalize ce (nz Q2) k=k2 at*;clear M L2 l2 e2 hx hch HN HV HC HQ D hcell;have hz5:=D2.size
    go_wp2_with (at_builtin;refine wpList_append_own _ rfl _ _ 42 rfl w1.heap.size 129 j0 (.int .u32 0) 1 4 Tryz.underlying42 hj hy0 hy1 hy2 rfl qd _ _ _ rfl (hch2.alloc _) (jj w5.heap.size 0) 1 1 [.int .u32 x] rfl rfl (bO _ _ _) (bZ _ rfl) (by unfold maxLen;omega) om (by simp;omega) ?_)
    intro v' w6 hch' hgrow hnn;have D6:=(D2.since ((eg _ _).alloc (Nat.le_refl _) (.cells #[.int .u32 x] 129))).grown hgrow (fun q hq=>(hch2.lt q hq).1);rw[show ll C m++[.int .u32 x]=ll (fX C m x) (m+1) from by rw[jV,bK,pN (fun j hj=>az _ _ _ _ (show j≠m by omega))]] at hch';have HN':=ae hnn;obtain⟨g7,cap7,rfl,-,-,-,-,-⟩:=bX hch' hnn;clear hgrow hnn D2 hch2;go_wp2;go_roundw
    case rel=>exact⟨m+1,k2,Q2,_,hk2,D6,HQ2,hch',HN',HV2,HX⟩
    case measure=>simp[lenOf]<;>omega
  . have e:k=0:=om
    subst e
    have hm0:0<m:=by
     rcases Nat.eq_zero_or_pos m with e | e
     . subst e
       have h3:=HV.out;rw[xv] at h3;have h4:lv Q 0=0:=rfl;have:=HP0.out;omega
     . exact e
    have HTop:Hid (0<qv N (m-1)):=by
     rcases HC.out.2 with h | h
     . omega
     . exact ae h
    have HZ:Hid (qv N m=0):=ae (by rw[<-HV.out];rfl);obtain⟨g,capg,rfl,hmc,hg,hgl,LC,-⟩:=bX hch HN.out
    obtain⟨cur,hcur⟩:∃cur,w2.heap[g]?=some (.cells cur 129 (0,0)):=by
     rcases hch.2 with ⟨e,-⟩ | ⟨g',cap',cur,e,-,hh,-⟩
     . cases e
     . cases e;exact⟨cur,hh⟩
    have K2:Kp base c b w1 w2:=Kp.of D hbase HCB.out.1 HCB.out.2;have hown2:w2.ownsRow base 5 1 (.slice a1 n cap1) n (Lib.byteCells l):=uw hown (fun q hq=>D.block q (hown.lt q hq).2 (fun e=>HNB.out.1 (by rw[hq,e])) (fun e=>HNB.out.2 (by rw[hq,e])));have P2:=hP.on K2.since;have HCc:=ae HC.out.1;have hbz:base<=w2.heap.size:=Nat.le_trans hbase K2.size;obtain⟨x,hx⟩:∃x,x=C (m-1):=⟨_,rfl⟩
    have HX:Hid (x=qv N (m-1)):=ae (by
     rw[hx,HCc.out (m-1) om];have h5:=tH N (m-1);rw[show m-1+1=m by omega,HZ.out] at h5;omega)
    have hxl:x<1000000000:=by rw[hx,HCc.out (m-1) om];exact Nat.mod_lt _ om
    have g0:w2.cell? (jj g (m-1))=some (.int .u32 x):=by rw[hx];simpa using (LC (m-1) om).2
    clear hch HN HC HV D hown hP hcell HQ hx;have hq1:(0:Int)<=((m-1:Nat):Int):=om
    have hq2:((m:Int)-1)=((m-1:Nat):Int):=om
    have hq3:((m-1:Nat):Int)<m:=om
    go_wp2_with fail;refine (@vj base n x om _ l w2 hown2 hbz om P2.here).mono ?_;rintro e w3 ⟨v3,rfl,ho3,s3,k3⟩;have K3:=K2.on s3 k3;have P3:=P2.on s3;have hc3:w3.heap[g]?=some (.cells cur 129 (0,0)):=k3 g _ hcur qz (fun x fz h=>by cases h);rw[HX.out] at ho3
    have hlen:∀i,(Lib.decDigits (qv N i)).length<=33554433:=fun i=>by
     rw[Lib.decDigits_length];have:=uC (Nat.lt_of_le_of_lt (aiy N i) HL.out);omega
    have hl3:=hlen (m-1);obtain⟨y3,hy3⟩:∃y,y=n+(Lib.decDigits (qv N (m-1))).length:=⟨_,rfl⟩;rw[<-hy3] at ho3;have hyl:y3<=1100000000:=om
    have HY3:=ae hy3;have HLen:=ae hlen;clear hy3 hl3 hlen s3 k3 hown2 K2 P2 hbz g0 hxl HX;go_wp2
    go_loopw [1,7] (fun v t wr=>∃(i:Nat) (z:Int) (y:Nat),i<=m-1/\t=.i z/\Hid (z=(i:Int)-1)/\y<=1100000000/\wr.ownsRow base 5 1 v y (Lib.byteCells (l++Lib.decDigits (qv N i)))/\Hid (y=n+(Lib.decDigits (qv N i)).length)/\wr.heap[g]?=some (.cells cur 129 (0,0))/\Kp base c b w1 wr/\vm base wr) (fun _ t _=>(RowKit.intOf t+1).toNat)
    case atStart=>exact⟨m-1,_,y3,Nat.le_refl _,rfl,ae rfl,hyl,ho3,HY3,hc3,K3,P3⟩
    case round=>
     clear ho3 K3 P3 hyl HY3 hc3;obtain⟨i,z,y,hi1,rfl,HZi,hyl,ho,HY,hc,K,PB⟩:=hrel;have hbz:=Nat.le_trans hbase K.size;have LCw:=zX LC (hc.trans hcur.symm)
     by_cases hi0:0<i
     . have hzk:z=((i-1:Nat):Int):=by have:=HZi.out;omega
       clear HZi;subst hzk;have hzp:(0:Int)<=((i-1:Nat):Int):=om
       have hzm:((i-1:Nat):Int)<m:=om
       obtain⟨x,hx⟩:∃x,x=C (i-1):=⟨_,rfl⟩;have HX:Hid (x=qv N (i-1) % 1000000000):=ae (by rw[hx];exact HCc.out (i-1) om);have hxl:x<1000000000:=by rw[HX.out];exact Nat.mod_lt _ om
       have g0:wr.cell? (jj g (i-1))=some (.int .u32 x):=by rw[hx];simpa using (LCw (i-1) om).2
       clear hx LCw;go_wp2_with fail;refine (@uT x om wr PB.here).mono ?_;rintro e w4 ⟨rfl,s4⟩;have hd9:Lib.nDigits x<=9:=aiB om om;have hdl:=Lib.decDigits_length x;go_wp2_with fail;rw[show (9:Int)-(Lib.nDigits x:Int)=((9-Lib.nDigits x:Nat):Int) by omega];have hdp:=Lib.nDigits_pos x;refine (Tryz.strings_Repeat ⟨#[48]⟩ (9-Lib.nDigits x) w4 om (by show 1*_<=_;omega)).mono ?_;rintro e w5 ⟨rfl,b5⟩;rw[show Lib.repeatL (⟨#[48]⟩:ByteArray).data.toList (9-Lib.nDigits x)=List.replicate (9-Lib.nDigits x) 48 from aiu _];have s5:=fh b5;have ho5:=nS (nS ho s4) s5;have s45:=s4.tr s5;have k5:Lib.OthersKept 5 none wr w5:=lk s45;have z5:wr.heap.size<=w5.heap.size:=s45.size;obtain⟨rp,hrp⟩:∃rp,rp=List.replicate (9-Lib.nDigits x) (48:UInt8):=⟨_,rfl⟩;have hrl:rp.length=9-Lib.nDigits x:=by rw[hrp];simp
       rw[<-hrp];have HRP:=ae hrp;clear hrp b5 s4 s5;have hsz1:=yT rp;have hsz2:=yT (Lib.decDigits x)
       go_wp2_with (at_builtin;refine Lib.wpList_append_own_string _ rfl _ _ 22 9 rfl base 5 i0 Tryz.underlying22 Tryz.underlying9 hi hz0 hz1 hz2 _ _ _ rfl ho5 ⟨rp.toArray⟩ rfl (by rw[hsz1];unfold maxLen;omega) (by rw[hsz1];omega) om ?_)
       intro v6 w6 ho6 hg6 _;have s6:wr.Since base w6:=(sM s45 hbz).grown hg6 om (fun q hq=>(ho5.lt q hq).1);have k6:=k5.grown hg6 (Lib.ownsRow_kind ho5);have z6:=hg6.size
       have hoA:w6.ownsRow base 5 1 v6 (y+rp.length) (Lib.byteCells (l++Lib.decDigits (qv N i)++rp)):=by
        rw[jL,hrl];exact ho6
       clear ho5 hg6 s45 k5 ho6;have ho6:=hoA;clear hoA
       go_wp2_with (at_builtin;refine Lib.wpList_append_own_string _ rfl _ _ 22 9 rfl base 5 i0 Tryz.underlying22 Tryz.underlying9 hi hz0 hz1 hz2 _ _ _ rfl ho6 ⟨(Lib.decDigits x).toArray⟩ rfl (by rw[hsz2];unfold maxLen;omega) (by rw[hsz2];omega) om ?_)
       intro v7 w7 ho7 hg7 _;have s7:wr.Since base w7:=s6.grown hg7 om (fun q hq=>(ho6.lt q hq).1);have k7:=k6.grown hg7 (Lib.ownsRow_kind ho6)
       have hoB:w7.ownsRow base 5 1 v7 (y+rp.length+(Lib.decDigits x).length) (Lib.byteCells (l++Lib.decDigits (qv N i)++rp++Lib.decDigits x)):=by
        rw[jL _ (Lib.decDigits x),hdl];rw[hrl,List.append_assoc l];exact ho7
       clear ho7;have ho7:=hoB;clear hoB
       have HDD:Hid (Lib.decDigits (qv N (i-1))=Lib.decDigits (qv N i)++(rp++Lib.decDigits x)):=ae (by
        have h7:=aiH (N:=N) (m:=i-1) (by rw[show i-1+1=i by omega];exact aix HTop.out hi1);rw[show i-1+1=i by omega,<-HX.out,<-HRP.out] at h7;exact h7)
       have ho8:w7.ownsRow base 5 1 v7 (y+rp.length+(Lib.decDigits x).length) (Lib.byteCells (l++Lib.decDigits (qv N (i-1)))):=by
        rw[HDD.out,<-List.append_assoc,<-List.append_assoc];exact ho7
       have HY8:Hid (y+rp.length+(Lib.decDigits x).length=n+(Lib.decDigits (qv N (i-1))).length):=ae (by
        rw[HDD.out,HY.out]
        simp
        omega)
       have hyl8:y+rp.length+(Lib.decDigits x).length<=1100000000:=by
        have h8:=HLen.out (i-1);have h9:=HY8.out;omega
       have hc8:=k7 g _ hc qz (fun x fz h=>by cases h);have K8:=K.on s7 k7;have PB8:=PB.on s7;clear ho7 ho6 hg7 s6 k6 s7 k7;go_wp2;go_roundw
       case rel=>exact⟨i-1,((i-1:Nat):Int)-1,_,om,by go_num,ae rfl,hyl8,ho8,HY8,hc8,K8,PB8⟩
       case measure=>simp[RowKit.intOf]<;>omega
     . have hzk:z=-1:=by have:=HZi.out;omega
       clear HZi;subst hzk;have e:i=0:=om
       subst e;have HNN:=ae (aes ho (by have:=HY.out;have:=Lib.nDigits_pos (qv N 0);rw[<-Lib.decDigits_length] at this;omega));have e0:=HY.out;rw[xv] at ho e0;subst e0;go_wp2;go_ret;exact⟨_,rfl,HNN,ho,K⟩
def ua(w:World)(v:Value):Prop:=∀g,bk v=some g->∃cur T fz,w.heap[g]?=some (.cells cur T fz)/\T≠5
theorem ua.undef(w:World):ua w undef:=fun g h=>by cases h
theorem ua.since{w w':World}{v:Value}(h:ua w v)(s:w.S w'):ua w' v:=fun g e=>by
 obtain⟨cur,T,fz,h1,h2⟩:=h g e;exact⟨cur,T,fz,(s.block g (Array.getElem?_eq_some_iff.1 h1).1).trans h1,h2⟩
theorem ua.set{w:World}{v:Value}(h:ua w v)(c:Nat)(u:Value):ua (w.setCell ⟨c,0,none⟩ u) v:=fun g e=>by
 obtain⟨cur,T,fz,h1,h2⟩:=h g e
 by_cases hg:g=c
 . subst hg
   refine⟨cur.setIfInBounds 0 u,T,fz, ?_,h2⟩
   simp[World.setCell,Array.getElem?_modify,h1]
 . exact⟨cur,T,fz,(Below.heap_setCell _ _ _ _ hg).trans h1,h2⟩
theorem ua.own{w:World}{base:Nat}{v:Value}{n:Nat}{xs:List Value}(h:w.ownsRow base 129 1 v n xs):ua w v:=fun g e=>by
 rcases h.2 with ⟨rfl,-⟩ | ⟨g',cap,cur,rfl,-,hh,-⟩
 . cases e
 . cases e
   exact⟨cur,_,_,hh,by decide⟩
theorem ua.box(w:World)(u:Value):ua (w.alloc (.cells #[u] 98)) (.p w.heap.size 0):=fun g e=>by
 cases e;exact⟨#[u],_,(0,0),heap_alloc_new w _,by decide⟩
def kQ(w:World)(a b c d:Value):Prop:=ua w a/\ua w b/\ua w c/\ua w d
theorem kQ.since{w w':World}{a b c d:Value}(h:kQ w a b c d)(s:w.S w'):kQ w' a b c d:=⟨h.1.since s,h.2.1.since s,h.2.2.1.since s,h.2.2.2.since s⟩
theorem kQ.set{w:World}{a b c d:Value}(h:kQ w a b c d)(k:Nat)(u:Value):kQ (w.setCell ⟨k,0,none⟩ u) a b c d:=⟨h.1.set k u,h.2.1.set k u,h.2.2.1.set k u,h.2.2.2.set k u⟩
theorem kQ.start(w:World):kQ w undef undef undef undef:=⟨.undef _,.undef _,.undef _,.undef _⟩
structure Bt(w:World)(c b t cap:Nat)(a:Option Addr)(X:Nat->Nat):Prop where
 c0:w.cell? ⟨c,0,none⟩=some (.slice a t cap)
 f0:w.frozen? ⟨c,0,none⟩=false
 L:ag w a b 0 t X
 fb:0<t->∀o,w.frozen? ⟨b,o,none⟩=false
 kc:∃cur T fz,w.heap[c]?=some (.cells cur T fz)/\T≠5
 kb:0<t->∃cur T fz,w.heap[b]?=some (.cells cur T fz)/\T≠5
section
variable{w w':World}{c b t cap base d g:Nat}{a:Option Addr}{X:Nat->Nat}
theorem Bt.lc(h:Bt w c b t cap a X):c<w.heap.size:=by
 obtain⟨cur,T,fz,h1,-⟩:=h.kc;exact (Array.getElem?_eq_some_iff.1 h1).1
theorem Bt.lb(h:Bt w c b t cap a X)(h0:0<t):b<w.heap.size:=by
 obtain⟨cur,T,fz,h1,-⟩:=h.kb h0;exact (Array.getElem?_eq_some_iff.1 h1).1
theorem Bt.kept(h:Bt w c b t cap a X)(e1:w'.heap[c]?=w.heap[c]?)(e2:0<t->w'.heap[b]?=w.heap[b]?):Bt w' c b t cap a X:=
 ⟨(fa (w:=w) (a:=jj c 0) e1).trans h.c0,(wW (w:=w) (a:=jj c 0) e1).trans h.f0,fun j hj=>⟨(h.L j hj).1,(fa (w:=w) (a:=jj b (0+j)) (e2 om)).trans (h.L j hj).2⟩,
   fun h0 o=>(wW (w:=w) (a:=jj b o) (e2 h0)).trans (h.fb h0 o),by rw[e1];exact h.kc,fun h0=>by rw[e2 h0];exact h.kb h0⟩
theorem tK{o:Option Obj}{cur:Array Value}{T:TypeId}{fz:Nat×Nat}(h1:o=some (.cells cur T fz))(h2:T≠5):∃ob,o=some ob/\∀x fz,ob≠ .cells x 5 fz:=
 ⟨_,h1,fun x fz e=>by cases e;exact h2 rfl⟩
theorem Bt.others(h:Bt w c b t cap a X)(k:Lib.OthersKept 5 none w w'):Bt w' c b t cap a X:=by
 refine h.kept ?_ (fun h0=> ?_)
 . obtain⟨cur,T,fz,h1,h2⟩:=h.kc
   obtain⟨ob,e,hne⟩:=tK h1 h2;exact (k c ob e qz hne).trans e.symm
 . obtain⟨cur,T,fz,h1,h2⟩:=h.kb h0
   obtain⟨ob,e,hne⟩:=tK h1 h2;exact (k b ob e qz hne).trans e.symm
theorem Bt.kp(h:Bt w c b t cap a X)(k:Kp base d g w w')(h1:c≠d)(h2:c≠g)(h3:b≠d)(h4:b≠g):Bt w' c b t cap a X:=by
 refine h.kept ?_ (fun h0=> ?_)
 . obtain⟨cur,T,fz,q1,q2⟩:=h.kc
   obtain⟨ob,e,hne⟩:=tK q1 q2;exact (k.aA c ob e h1 h2 hne).trans e.symm
 . obtain⟨cur,T,fz,q1,q2⟩:=h.kb h0
   obtain⟨ob,e,hne⟩:=tK q1 q2;exact (k.aA b ob e h3 h4 hne).trans e.symm
end
theorem fL{c b base t cap:Nat}{a:Option Addr}{X:Nat->Nat}{sv:Value}{n:Nat}{l:List UInt8}{w:World}(ht:t<=1048576)(htc:t<=cap)(B:Bt w c b t cap a X)(hXl:∀j,j<t->X j<4294967296)(pX:0<t->X (t-1)≠0)(hcb:c≠b)
 (hown:w.ownsRow base 5 1 sv n (Lib.byteCells l))(hbase:base<=w.heap.size)(h1:base<=c)(h2:base<=b)(hn:n<=1000000000)(hP:vm base w):
 Cl 55 #[.p c 0,sv] w fun e w'=>∃v',e=.returned v'/\Hid (v'≠ .n)/\w'.ownsRow base 5 1 v' (n+(Lib.decDigits (lv X t)).length) (Lib.byteCells (l++Lib.decDigits (lv X t)))/\Kp base c b w w':=by
 have nk:∀q,(∃cur T fz,w.heap[q]?=some (.cells cur T fz)/\T≠5)->sv.ownBlock≠some q:=fun q ⟨cur,T,fz,e1,e2⟩ e=>by
  obtain⟨c2,f2,e3⟩:=Lib.ownsRow_kind hown q e;rw[e1] at e3;cases e3;exact e2 rfl
 rcases Nat.eq_zero_or_pos t with e | e
 . subst e
   refine (pr B.c0 hown hbase hn).mono ?_;rintro e w' ⟨v',rfl,HN,ho,s,k⟩;refine⟨v',rfl,HN, ?_,(Kp.refl base c b w).on s k⟩;have e0:lv X 0=0:=rfl;rw[e0,Lib.decDigits_length,Lib.nDigits_small om];exact ho
 . exact qC ht e htc ⟨B.c0,B.f0,B.L,B.fb e,rfl,rfl,rfl,Nat.le_refl _,fun _ _ _ _=>rfl,B.lc,B.lb e,hcb⟩ hXl (pX e) hown (nk c B.kc) (nk b (B.kb e)) hbase h1 h2 hn hP
theorem J.gd2{wA:World}{sa sb:Value}{n m:Nat}{X Y:Nat->Nat}{t5 t6 t20 t21 t22 t23:Value}{w:World}(h:J wA sa sb n m X Y true true true true true true true true t5 t6 t20 t21 t22 t23 w)(k:kQ w t5 t6 t21 t23)(lX:∀j,j<n->X j<4294967296)(lY:∀j,j<m->Y j<4294967296)(pX:0<n->X (n-1)≠0)(pY:0<m->Y (m-1)≠0):
 ∃c d gn gm an am cn cm,t5=.p c 0/\t6=.p d 0/\Gd wA.heap.size wA w c d gn gm an am n m cn cm X Y/\Bt w c gn n cn an X/\Bt w d gm m cm am Y:=by
 obtain⟨c,d,gn,gm,an,am,cn,cm,e5,e6,G⟩:=h.gd lX lY pX pY;obtain⟨c',q5,c1,-,-⟩:=h.h4 rfl;obtain⟨d',q6,d1,-,-⟩:=h.h5 rfl;rw[e5] at q5;rw[e6] at q6;cases q5;cases q6;rw[if_pos rfl] at c1 d1;have e21:=Option.some.inj (c1.symm.trans G.bC);have e23:=Option.some.inj (d1.symm.trans G.bD);obtain⟨k1,k2,k3,k4⟩:=k;refine⟨c,d,gn,gm,an,am,cn,cm,e5,e6,G,⟨G.bC,G.fC,G.LX,G.FX,k1 c (by rw[e5];rfl),fun h0=>k3 gn (by rw[e21,(G.LX 0 h0).1];rfl)⟩,⟨G.bD,G.fD,G.LY,G.FY,k2 d (by rw[e6];rfl),fun h0=>k4 gm (by rw[e23,(G.LY 0 h0).1];rfl)⟩⟩
def jQ(p0 l0 l1 p2 l2 l3 l4 l5 l6 l7:Bool):Nat->Bool
 | 0=> !p0
 | 1=>p0&& !l0
 | 2=>l0&& !l1&& !l6&& !l3
 | 3=> !p2
 | 4=>p2&& !l2
 | 5=>l1&&l2&& !l3&& !l7
 | 6=> !l4&& !l6
 | 7=> !l5&& !l7
 | 8=>l4&&l1&&l3&&l5&& !l6
 | 9=>l6&&l5&&l3&& !l7
 | _=>false
def gu(p0 l0 l1 p2 l2 l3 l4 l5 l6 l7:Bool):Nat:=(!p0).toNat+(!l0).toNat+(!l1).toNat+(!p2).toNat+(!l2).toNat+(!l3).toNat+(!l4).toNat+(!l5).toNat+(!l6).toNat+(!l7).toNat
theorem aaG{neg:Bool}{a b:Option Addr}{ba oa n ca bb ob m cb:Nat}{X Y:Nat->Nat}{w:World}(_hw:0<=w.heap.size)(hn:n<=1048576)(hm:m<=1048576)(hnc:n<=ca)(hmc:m<=cb)(hac:a=none->ca=0)(hbc:b=none->cb=0)
 (hX:ag w a ba oa n X)(hY:ag w b bb ob m Y)(hXl:∀j,j<n->X j<4294967296)(hYl:∀j,j<m->Y j<4294967296)(_hT:rI w)(hP:Pow w)(ok:bM neg X n Y m=true):
 Cl 22 #[.agg #[.bool neg,.slice a n ca,.slice b m cb]] w fun e w'=>e=.returned (.string ⟨(dV neg (lv X n) (lv Y m)).toArray⟩)/\w.S w':=by
 obtain⟨i0,hi,hz0,hz1,hz2⟩:=info_parts Tryz.info5;have sA:=bJ w (.cells #[.bool neg,.slice a n ca,.slice b m cb] 44);have bA:=bj.new w (.bool neg) (.slice a n ca) (.slice b m cb) 44
 have pX:0<n->X (n-1)≠0:=by
  unfold bM at ok;simp only[Bool.and_eq_true,bne_iff_ne] at ok;exact dX.1 ok.1.1.1.1
 have pY:0<m->Y (m-1)≠0:=by
  unfold bM at ok;simp only[Bool.and_eq_true,bne_iff_ne] at ok;exact dX.1 ok.1.1.1.2
 have S2:=sA;have K2:=bA;have PW:vm (w.alloc (.cells #[.bool neg,.slice a n ca,.slice b m cb] 44)).heap.size (w.alloc (.cells #[.bool neg,.slice a n ca,.slice b m cb] 44)):=tabBelow_of_tabIs (hP.stay S2);go_enter Tryz.func22,Tryz.ntmps22;generalize hW:w.alloc _=w2 at*;clear sA bA hP ok;have t3:=bJ w2 (.cells #[] 5);have o3:(w2.alloc (.cells #[] 5)).ownsRow w2.heap.size 5 1 (.s w2.heap.size 0 0) 0 (Lib.byteCells []):=pv w2 #[] 0 (Nat.le_refl _) qd rfl;have K3:=K2.aA t3;have S3:=S2.tr t3;obtain⟨k0,k1,k2⟩:=K3.g;cases neg
 . go_wp2
   have KB:=K3;have XB:=hX.aA S3;have YB:=hY.aA S3;have SB:=S3;have oB:=o3;have TB:=t3;have HLO:Hid ((([]:List UInt8)).length=0):=ae rfl;clear K2 K3 S3 o3 t3 hX hY;generalize w2.alloc _=wB at*;refine wp_region_any kr ?_
   change wpAny _ _ _ _ _ _ _ (World.drew _)
   have b1:wB.drew.cell? (jj w.heap.size 1)=some (.slice a n ca):=KB.c1;have b2:wB.drew.cell? (jj w.heap.size 2)=some (.slice b m cb):=KB.c2;have XD:ag wB.drew a ba oa n X:=XB;have YD:ag wB.drew b bb ob m Y:=YB;have zD:w.heap.size<wB.drew.heap.size:=KB.lt;have SD:w.S wB.drew:=⟨SB.os,SB.tape,SB.output,SB.size,SB.block⟩;have OD:wB.drew.ownsRow w2.heap.size 5 1 (.s w2.heap.size 0 0) 0 (Lib.byteCells []):=oB.drew;have TD:w2.S wB.drew:=⟨TB.os,TB.tape,TB.output,TB.size,TB.block⟩;clear KB XB YB SB oB TB k0 k1 k2;generalize wB.drew=wD at*
   refine ko (fun fuel l ac wx=>∃p0 l0 l1 p2 l2 l3 l4 l5 l6 l7 t5 t6 t15 t20 t21 t18 t22 t23,l= #[p0,l0,l1,p2,l2,l3,l4,l5,l6,l7]/\fuel=gu p0 l0 l1 p2 l2 l3 l4 l5 l6 l7/\wI l1 l3 l4 l5 l6 l7=true/\
    ac={ tmps:= #[Value.agg #[Value.bool false,Value.slice a n ca,Value.slice b m cb],Value.pointer (some { block:=w.heap.size,off:=0 }),Value.string { data:= #[] },Value.slice (some { block:=w2.heap.size,off:=0 }) 0 0,t5,t6,Value.slice (some { block:=w2.heap.size,off:=0 }) 0 0,Value.pointer (some { block:=w.heap.size,off:=0 }),Value.bool false,undef,undef,undef,t15,t20,t21,t18,t22,t23,undef,undef,undef,undef,undef,undef,undef,undef,undef,undef,undef],defers:=[] }/\(p0=true->t15=.p w.heap.size 1)/\(p2=true->t18=.p w.heap.size 2)/\
    J wD (.slice a n ca) (.slice b m cb) (ce (nz X) n) (ce (nz Y) m) X Y l0 l1 l2 l3 l4 l5 l6 l7 t5 t6 t20 t21 t22 t23 wx/\kQ wx t5 t6 t21 t23) ?_ ?_ ?_ _ _ _ _ ⟨_,_,_,_,_,_,_,_,_,_,_,_,_,_,_,_,_,_,rfl,rfl,rfl,rfl,(fun h=>by cases h),(fun h=>by cases h),J.start _ _ _ _ _ _ _ _ _,kQ.start _⟩
   . rintro fuel l ac wx ⟨p0,l0,l1,p2,l2,l3,l4,l5,l6,l7,t5,t6,t15,t20,t21,t18,t22,t23,rfl,hf,hk,rfl,hp0,hp2,j,kd⟩ i hi
     have hr:jQ p0 l0 l1 p2 l2 l3 l4 l5 l6 l7 i=true:=by
      revert i
      refine List.all_eq_true.1 ?_
      revert hk
      clear hf j hp0 hp2 kd
      revert p0 l0 l1 p2 l2 l3 l4 l5 l6 l7
      exact of_decide_eq_true kr
     have k1:wx.cell? (jj w.heap.size 1)=some (.slice a n ca):=by rw[j.S.cell (a:=jj w.heap.size 1) zD];exact b1
     have k2:wx.cell? (jj w.heap.size 2)=some (.slice b m cb):=by rw[j.S.cell (a:=jj w.heap.size 2) zD];exact b2
     have kX:=XD.aA j.S;have kY:=YD.aA j.S;clear hi
     rcases i with _ | _ | _ | _ | _ | _ | _ | _ | _ | _ | i
     . simp[jQ] at hr
       subst hr;refine⟨_,rfl,fun K hK=> ?_⟩;go_simp;refine hK _ _ ⟨true,l0,l1,p2,l2,l3,l4,l5,l6,l7,t5,t6,_,t20,t21,t18,t22,t23,rfl, ?_,hk,rfl,fun _=>rfl,hp2,j,kd⟩
       simp[gu] at hf⊢;omega
     . simp[jQ] at hr
       obtain⟨rfl,rfl⟩:=hr;have e:=hp0 rfl;subst e;refine⟨_,rfl,fun K hK=> ?_⟩;go_simp;refine hK _ _ ⟨true,true,l1,p2,l2,l3,l4,l5,l6,l7,t5,t6,_,_,t21,t18,t22,t23,rfl, ?_,hk,rfl,fun _=>rfl,hp2,j.op0,kd⟩
       simp[gu] at hf⊢;omega
     . simp[jQ] at hr
       obtain⟨⟨⟨rfl,rfl⟩,rfl⟩,rfl⟩:=hr;have e:=j.h0 rfl;subst e;refine⟨_,rfl,fun K hK=> ?_⟩;go_simp;refine (fi om hnc hac kX).mono ?_;rintro e w' ⟨v,rfl,o,s⟩;have k4:=kd.since s;refine hK _ _ ⟨p0,true,true,p2,l2,false,l4,l5,false,l7,t5,t6,t15,_,v,t18,t22,t23,rfl, ?_, ?_,rfl,hp0,hp2,j.op1 s (gv o).1 (gv o).2,⟨k4.1,k4.2.1,ua.own o,k4.2.2.2⟩⟩
       . simp[gu] at hf⊢;omega
       . simpa [wI] using hk
     . simp[jQ] at hr
       subst hr;refine⟨_,rfl,fun K hK=> ?_⟩;go_simp;refine hK _ _ ⟨p0,l0,l1,true,l2,l3,l4,l5,l6,l7,t5,t6,t15,t20,t21,_,t22,t23,rfl, ?_,hk,rfl,hp0,fun _=>rfl,j,kd⟩
       simp[gu] at hf⊢;omega
     . simp[jQ] at hr
       obtain⟨rfl,rfl⟩:=hr;have e:=hp2 rfl;subst e;refine⟨_,rfl,fun K hK=> ?_⟩;go_simp;refine hK _ _ ⟨p0,l0,l1,true,true,l3,l4,l5,l6,l7,t5,t6,t15,t20,t21,_,_,t23,rfl, ?_,hk,rfl,hp0,fun _=>rfl,j.op2,kd⟩
       simp[gu] at hf⊢;omega
     . simp[jQ] at hr
       obtain⟨⟨⟨rfl,rfl⟩,rfl⟩,rfl⟩:=hr;have e:=j.h2 rfl;subst e;refine⟨_,rfl,fun K hK=> ?_⟩;go_simp;refine (fi om hmc hbc kY).mono ?_;rintro e w' ⟨v,rfl,o,s⟩;have k4:=kd.since s;refine hK _ _ ⟨p0,l0,true,p2,true,true,l4,l5,l6,false,t5,t6,t15,t20,t21,t18,_,v,rfl, ?_, ?_,rfl,hp0,hp2,j.op3 s (gv o).1 (gv o).2,⟨k4.1,k4.2.1,k4.2.2.1,ua.own o⟩⟩
       . simp[gu] at hf⊢;omega
       . revert hk;cases l6<;>cases l4<;>cases l5<;>decide
     . simp[jQ] at hr
       obtain⟨rfl,rfl⟩:=hr;refine⟨_,rfl,fun K hK=> ?_⟩;go_simp;have k4:=kd.since ((eg wx.heap.size wx).alloc (Nat.le_refl _) (.cells #[.n] 98));refine hK _ _ ⟨p0,l0,l1,p2,l2,l3,true,l5,false,l7,_,t6,t15,t20,t21,t18,t22,t23,rfl, ?_, ?_,rfl,hp0,hp2,j.op4 98,⟨ua.box _ _,k4.2.1,k4.2.2.1,k4.2.2.2⟩⟩
       . simp[gu] at hf⊢;omega
       . simpa [wI] using hk
     . simp[jQ] at hr
       obtain⟨rfl,rfl⟩:=hr;refine⟨_,rfl,fun K hK=> ?_⟩;go_simp;have k4:=kd.since ((eg wx.heap.size wx).alloc (Nat.le_refl _) (.cells #[.n] 98));refine hK _ _ ⟨p0,l0,l1,p2,l2,l3,l4,true,l6,false,t5,_,t15,t20,t21,t18,t22,t23,rfl, ?_, ?_,rfl,hp0,hp2,j.op5 98,⟨k4.1,ua.box _ _,k4.2.2.1,k4.2.2.2⟩⟩
       . simp[gu] at hf⊢;omega
       . revert hk;cases l6<;>cases l4<;>cases l1<;>cases l3<;>decide
     . simp[jQ] at hr
       obtain⟨⟨⟨⟨rfl,rfl⟩,rfl⟩,rfl⟩,rfl⟩:=hr;obtain⟨c,e5,c1,c2,c3⟩:=j.h4 rfl;obtain⟨xa,xg,xc,e21,-⟩:=gJ (j.h1 rfl) j.B21 wx.heap.size j.S.size (Nat.le_refl _);subst e5 e21;rw[if_neg qz] at c1;refine⟨_,rfl,fun K hK=> ?_⟩;go_simp;refine hK _ _ ⟨p0,l0,true,p2,l2,true,true,true,true,l7,_,t6,t15,t20,_,t18,t22,t23,rfl, ?_, ?_,rfl,hp0,hp2,j.op6 rfl,kd.set _ _⟩
       . simp[gu] at hf⊢;omega
       . simp[wI]
     . simp[jQ] at hr
       obtain⟨⟨⟨rfl,rfl⟩,rfl⟩,rfl⟩:=hr;obtain⟨c,e5,c1,c2,c3⟩:=j.h5 rfl;obtain⟨xa,xg,xc,e21,-⟩:=gJ (j.h3 rfl) j.B23 wx.heap.size j.S.size (Nat.le_refl _);subst e5 e21;rw[if_neg qz] at c1;refine⟨_,rfl,fun K hK=> ?_⟩;go_simp;refine hK _ _ ⟨p0,l0,l1,p2,l2,true,l4,true,true,true,t5,_,t15,t20,t21,t18,t22,_,rfl, ?_, ?_,rfl,hp0,hp2,j.op7 rfl,kd.set _ _⟩
       . simp[gu] at hf⊢;omega
       . simpa [wI] using hk
     . cases hr
   . rintro l ac wx ⟨p0,l0,l1,p2,l2,l3,l4,l5,l6,l7,t5,t6,t15,t20,t21,t18,t22,t23,rfl,hf,hk,rfl,hp0,hp2,j,kd⟩
     revert hf
     clear hk j hp0 hp2 kd
     revert p0 l0 l1 p2 l2 l3 l4 l5 l6 l7
     exact of_decide_eq_true kr
   . rintro fuel l ac wx ⟨p0,l0,l1,p2,l2,l3,l4,l5,l6,l7,t5,t6,t15,t20,t21,t18,t22,t23,rfl,hf,hk,rfl,hp0,hp2,j,kd⟩ he
     have hall:(p0&&(l0&&(l1&&(p2&&(l2&&(l3&&(l4&&(l5&&(l6&&l7)))))))))=true:=by
      revert he
      clear hf j hp0 hp2 kd
      revert hk
      revert p0 l0 l1 p2 l2 l3 l4 l5 l6 l7
      exact of_decide_eq_true kr
     simp only[Bool.and_eq_true] at hall;obtain⟨rfl,rfl,rfl,rfl,rfl,rfl,rfl,rfl,rfl,rfl⟩:=hall;rw[iP pX,iP pY] at j;have e15:=hp0 rfl;have e18:=hp2 rfl;subst e15 e18;obtain⟨c,d,gn,gm,an,am,cn,cm,rfl,rfl,G,BT,BB⟩:=j.gd2 kd hXl hYl pX pY;clear hp0 hp2 kd he hf hk;have sx:=j.S;have ox:wx.ownsRow w2.heap.size 5 1 (.s w2.heap.size 0 0) 0 (Lib.byteCells []):=nS OD sx;have Sx:=SD.tr sx;have Tx:=TD.tr sx;have Px:vm w2.heap.size wx:=PW.on Tx;have hTx:=Tx.size;have hx1:w2.heap.size<=c:=Nat.le_trans TD.size G.hc;have hx2:w2.heap.size<=d:=Nat.le_trans TD.size G.hd;have hx3:w2.heap.size<=gn:=Nat.le_trans TD.size G.hn;have hx4:w2.heap.size<=gm:=Nat.le_trans TD.size G.hm;clear j b1 b2 XD YD zD OD sx TD SD;go_wp2_with fail;refine (fL om G.nX BT G.lX G.pX (Ne.symm G.d3) ox hTx hx1 hx3 om Px).mono ?_;rintro e w5 ⟨v5,rfl,HN5,o5,Kp5⟩;have S5:=Sx.trans (sM Kp5.since (Nat.le_trans S2.size (Nat.le_refl _)));have P5:=Px.on Kp5.since;have B5:=BB.kp Kp5 (Ne.symm G.d1) (Ne.symm G.d4) G.d5 (Ne.symm G.d2);have z5:w2.heap.size<=w5.heap.size:=Nat.le_trans hTx Kp5.size;have hdl:=yf hn hXl;clear ox Kp5 BT BB Px Sx Tx;obtain⟨n5,hn5⟩:∃n5,n5=0+(Lib.decDigits (lv X n)).length:=⟨_,rfl⟩;rw[<-hn5] at o5;have HN:=ae hn5;have hl5:n5<=33554434:=om
     clear hn5 hdl;have hb5:=B5.c0;go_wp2_with fail;refine (dx hb5 B5.L G.lY G.pY).mono ?_;rintro e w6 ⟨rfl,rfl⟩
     by_cases h1:lv Y m=1
     . have hd1:decide (lv Y m=1)=true:=by simp[h1]
       have HD:=ae h1;rw[hd1];obtain⟨g7,c7,rfl,hcv⟩:=ij o5 HN5.out (by rw[HN.out];simp);clear h1 hd1;go_wp2;go_ret;refine⟨?_,S5⟩;have hD:=HD.out
       simp[dV,hD]
     . have hd1:decide (lv Y m=1)=false:=by simp[h1]
       have HD:=ae h1;rw[hd1];clear h1 hd1
       go_wp2_with (at_builtin;refine wpList_append_own _ rfl _ _ 22 rfl w2.heap.size 5 i0 (.int .u8 0) 1 1 Tryz.underlying22 hi hz0 hz1 hz2 rfl qd _ _ _ rfl (o5.alloc _) (jj w6.heap.size 0) 1 1 [.int .u8 47] rfl rfl (bO _ _ _) (bZ _ rfl) (by unfold maxLen;omega) om (by simp;omega) ?_)
       intro v7 w7 o7 g7 hnn;have t7:=bJ w6 (.cells #[.int .u8 47] 5);have s7:w6.Since w2.heap.size w7:=(sM t7 z5).grown g7 (by simp;omega) (fun k hk=>(o5.lt k hk).1);have k7:Lib.OthersKept 5 none w6 w7:=(lk t7).grown g7 (Lib.ownsRow_kind (o5.alloc _));have S7:=S5.trans (sM s7 S2.size);have P7:=P5.on s7;have B7:=B5.others k7;have z7:=Nat.le_trans z5 s7.size
       have o8:w7.ownsRow w2.heap.size 5 1 v7 (n5+1) (Lib.byteCells ([]++Lib.decDigits (lv X n)++[47])):=by
        rw[jL _ [47]];exact o7
       clear o5 o7 g7 hnn t7 s7 k7 S5 P5 B5 hb5;go_wp2_with fail;refine (fL om G.nY B7 G.lY G.pY (Ne.symm G.d6) o8 z7 hx2 hx4 om P7).mono ?_;rintro e w9 ⟨v9,rfl,HN9,o9,Kp9⟩;have S9:=S7.trans (sM Kp9.since S2.size);obtain⟨g9,c9,rfl,hcv⟩:=ij o9 HN9.out (by rw[HN.out];simp;omega);clear o9 Kp9 B7 P7;go_wp2;go_ret;refine⟨?_,S9⟩;have hD:=HD.out
       simp[dV,hD]
 . have z3:w2.heap.size+1=(w2.alloc (.cells #[] 5)).heap.size:=by simp
   have nc:∀j u,[Value.int .u8 45][j]?=some u->((w2.alloc (.cells #[] 5)).alloc (.cells #[.int .u8 45] 5)).cell? (((jj (w2.heap.size+1) 0):Addr).add j)=some u:=by
    rw[z3];exact bO _ _ _
   have o4:((w2.alloc (.cells #[] 5)).alloc (.cells #[.int .u8 45] 5)).ownsRow w2.heap.size 5 1 (.s w2.heap.size 0 0) 0 (Lib.byteCells []):=o3.alloc _;clear z3
   go_wp2_with (at_builtin;refine wpList_append_own _ rfl _ _ 22 rfl w2.heap.size 5 i0 (.int .u8 0) 1 1 Tryz.underlying22 hi hz0 hz1 hz2 rfl qd _ _ _ rfl o4 (jj (w2.heap.size+1) 0) 1 1 [.int .u8 45] rfl rfl nc (bZ _ rfl) (by unfold maxLen;omega) om (by simp;omega) ?_)
   intro vo wB oB gB hnn;have t4:w2.S ((w2.alloc (.cells #[] 5)).alloc (.cells #[.int .u8 45] 5)):=t3.alloc t3.size _;have TB:w2.S wB:=t4.grown gB (by simp;omega) (fun k hk=>(o4.lt k hk).1);have SB:=S2.tr TB;have KB:=K2.aA TB;have XB:=hX.aA SB;have YB:=hY.aA SB;have HLO:Hid (([45]:List UInt8).length=1):=ae rfl;clear K3 S3 o3 t3 hX hY t4 gB hnn o4 nc K2;go_wp2;refine wp_region_any kr ?_
   change wpAny _ _ _ _ _ _ _ (World.drew _)
   have b1:wB.drew.cell? (jj w.heap.size 1)=some (.slice a n ca):=KB.c1;have b2:wB.drew.cell? (jj w.heap.size 2)=some (.slice b m cb):=KB.c2;have XD:ag wB.drew a ba oa n X:=XB;have YD:ag wB.drew b bb ob m Y:=YB;have zD:w.heap.size<wB.drew.heap.size:=KB.lt;have SD:w.S wB.drew:=⟨SB.os,SB.tape,SB.output,SB.size,SB.block⟩;have OD:wB.drew.ownsRow w2.heap.size 5 1 vo 1 (Lib.byteCells [45]):=World.ownsRow.drew oB;have TD:w2.S wB.drew:=⟨TB.os,TB.tape,TB.output,TB.size,TB.block⟩;clear KB XB YB SB oB TB k0 k1 k2;generalize wB.drew=wD at*
   refine ko (fun fuel l ac wx=>∃p0 l0 l1 p2 l2 l3 l4 l5 l6 l7 t5 t6 t15 t20 t21 t18 t22 t23,l= #[p0,l0,l1,p2,l2,l3,l4,l5,l6,l7]/\fuel=gu p0 l0 l1 p2 l2 l3 l4 l5 l6 l7/\wI l1 l3 l4 l5 l6 l7=true/\
    ac={ tmps:= #[Value.agg #[Value.bool true,Value.slice a n ca,Value.slice b m cb],Value.pointer (some { block:=w.heap.size,off:=0 }),Value.string { data:= #[] },vo,t5,t6,Value.slice (some { block:=w2.heap.size,off:=0 }) 0 0,Value.pointer (some { block:=w.heap.size,off:=0 }),Value.bool true,Value.slice (some { block:=w2.heap.size,off:=0 }) 0 0,Value.slice (some { block:=w2.heap.size+1,off:=0 }) 1 1,vo,t15,t20,t21,t18,t22,t23,undef,undef,undef,undef,undef,undef,undef,undef,undef,undef,undef],defers:=[] }/\(p0=true->t15=.p w.heap.size 1)/\(p2=true->t18=.p w.heap.size 2)/\
    J wD (.slice a n ca) (.slice b m cb) (ce (nz X) n) (ce (nz Y) m) X Y l0 l1 l2 l3 l4 l5 l6 l7 t5 t6 t20 t21 t22 t23 wx/\kQ wx t5 t6 t21 t23) ?_ ?_ ?_ _ _ _ _ ⟨_,_,_,_,_,_,_,_,_,_,_,_,_,_,_,_,_,_,rfl,rfl,rfl,rfl,(fun h=>by cases h),(fun h=>by cases h),J.start _ _ _ _ _ _ _ _ _,kQ.start _⟩
   . rintro fuel l ac wx ⟨p0,l0,l1,p2,l2,l3,l4,l5,l6,l7,t5,t6,t15,t20,t21,t18,t22,t23,rfl,hf,hk,rfl,hp0,hp2,j,kd⟩ i hi
     have hr:jQ p0 l0 l1 p2 l2 l3 l4 l5 l6 l7 i=true:=by
      revert i
      refine List.all_eq_true.1 ?_
      revert hk
      clear hf j hp0 hp2 kd
      revert p0 l0 l1 p2 l2 l3 l4 l5 l6 l7
      exact of_decide_eq_true kr
     have k1:wx.cell? (jj w.heap.size 1)=some (.slice a n ca):=by rw[j.S.cell (a:=jj w.heap.size 1) zD];exact b1
     have k2:wx.cell? (jj w.heap.size 2)=some (.slice b m cb):=by rw[j.S.cell (a:=jj w.heap.size 2) zD];exact b2
     have kX:=XD.aA j.S;have kY:=YD.aA j.S;clear hi
     rcases i with _ | _ | _ | _ | _ | _ | _ | _ | _ | _ | i
     . simp[jQ] at hr
       subst hr;refine⟨_,rfl,fun K hK=> ?_⟩;go_simp;refine hK _ _ ⟨true,l0,l1,p2,l2,l3,l4,l5,l6,l7,t5,t6,_,t20,t21,t18,t22,t23,rfl, ?_,hk,rfl,fun _=>rfl,hp2,j,kd⟩
       simp[gu] at hf⊢;omega
     . simp[jQ] at hr
       obtain⟨rfl,rfl⟩:=hr;have e:=hp0 rfl;subst e;refine⟨_,rfl,fun K hK=> ?_⟩;go_simp;refine hK _ _ ⟨true,true,l1,p2,l2,l3,l4,l5,l6,l7,t5,t6,_,_,t21,t18,t22,t23,rfl, ?_,hk,rfl,fun _=>rfl,hp2,j.op0,kd⟩
       simp[gu] at hf⊢;omega
     . simp[jQ] at hr
       obtain⟨⟨⟨rfl,rfl⟩,rfl⟩,rfl⟩:=hr;have e:=j.h0 rfl;subst e;refine⟨_,rfl,fun K hK=> ?_⟩;go_simp;refine (fi om hnc hac kX).mono ?_;rintro e w' ⟨v,rfl,o,s⟩;have k4:=kd.since s;refine hK _ _ ⟨p0,true,true,p2,l2,false,l4,l5,false,l7,t5,t6,t15,_,v,t18,t22,t23,rfl, ?_, ?_,rfl,hp0,hp2,j.op1 s (gv o).1 (gv o).2,⟨k4.1,k4.2.1,ua.own o,k4.2.2.2⟩⟩
       . simp[gu] at hf⊢;omega
       . simpa [wI] using hk
     . simp[jQ] at hr
       subst hr;refine⟨_,rfl,fun K hK=> ?_⟩;go_simp;refine hK _ _ ⟨p0,l0,l1,true,l2,l3,l4,l5,l6,l7,t5,t6,t15,t20,t21,_,t22,t23,rfl, ?_,hk,rfl,hp0,fun _=>rfl,j,kd⟩
       simp[gu] at hf⊢;omega
     . simp[jQ] at hr
       obtain⟨rfl,rfl⟩:=hr;have e:=hp2 rfl;subst e;refine⟨_,rfl,fun K hK=> ?_⟩;go_simp;refine hK _ _ ⟨p0,l0,l1,true,true,l3,l4,l5,l6,l7,t5,t6,t15,t20,t21,_,_,t23,rfl, ?_,hk,rfl,hp0,fun _=>rfl,j.op2,kd⟩
       simp[gu] at hf⊢;omega
     . simp[jQ] at hr
       obtain⟨⟨⟨rfl,rfl⟩,rfl⟩,rfl⟩:=hr;have e:=j.h2 rfl;subst e;refine⟨_,rfl,fun K hK=> ?_⟩;go_simp;refine (fi om hmc hbc kY).mono ?_;rintro e w' ⟨v,rfl,o,s⟩;have k4:=kd.since s;refine hK _ _ ⟨p0,l0,true,p2,true,true,l4,l5,l6,false,t5,t6,t15,t20,t21,t18,_,v,rfl, ?_, ?_,rfl,hp0,hp2,j.op3 s (gv o).1 (gv o).2,⟨k4.1,k4.2.1,k4.2.2.1,ua.own o⟩⟩
       . simp[gu] at hf⊢;omega
       . revert hk;cases l6<;>cases l4<;>cases l5<;>decide
     . simp[jQ] at hr
       obtain⟨rfl,rfl⟩:=hr;refine⟨_,rfl,fun K hK=> ?_⟩;go_simp;have k4:=kd.since ((eg wx.heap.size wx).alloc (Nat.le_refl _) (.cells #[.n] 98));refine hK _ _ ⟨p0,l0,l1,p2,l2,l3,true,l5,false,l7,_,t6,t15,t20,t21,t18,t22,t23,rfl, ?_, ?_,rfl,hp0,hp2,j.op4 98,⟨ua.box _ _,k4.2.1,k4.2.2.1,k4.2.2.2⟩⟩
       . simp[gu] at hf⊢;omega
       . simpa [wI] using hk
     . simp[jQ] at hr
       obtain⟨rfl,rfl⟩:=hr;refine⟨_,rfl,fun K hK=> ?_⟩;go_simp;have k4:=kd.since ((eg wx.heap.size wx).alloc (Nat.le_refl _) (.cells #[.n] 98));refine hK _ _ ⟨p0,l0,l1,p2,l2,l3,l4,true,l6,false,t5,_,t15,t20,t21,t18,t22,t23,rfl, ?_, ?_,rfl,hp0,hp2,j.op5 98,⟨k4.1,ua.box _ _,k4.2.2.1,k4.2.2.2⟩⟩
       . simp[gu] at hf⊢;omega
       . revert hk;cases l6<;>cases l4<;>cases l1<;>cases l3<;>decide
     . simp[jQ] at hr
       obtain⟨⟨⟨⟨rfl,rfl⟩,rfl⟩,rfl⟩,rfl⟩:=hr;obtain⟨c,e5,c1,c2,c3⟩:=j.h4 rfl;obtain⟨xa,xg,xc,e21,-⟩:=gJ (j.h1 rfl) j.B21 wx.heap.size j.S.size (Nat.le_refl _);subst e5 e21;rw[if_neg qz] at c1;refine⟨_,rfl,fun K hK=> ?_⟩;go_simp;refine hK _ _ ⟨p0,l0,true,p2,l2,true,true,true,true,l7,_,t6,t15,t20,_,t18,t22,t23,rfl, ?_, ?_,rfl,hp0,hp2,j.op6 rfl,kd.set _ _⟩
       . simp[gu] at hf⊢;omega
       . simp[wI]
     . simp[jQ] at hr
       obtain⟨⟨⟨rfl,rfl⟩,rfl⟩,rfl⟩:=hr;obtain⟨c,e5,c1,c2,c3⟩:=j.h5 rfl;obtain⟨xa,xg,xc,e21,-⟩:=gJ (j.h3 rfl) j.B23 wx.heap.size j.S.size (Nat.le_refl _);subst e5 e21;rw[if_neg qz] at c1;refine⟨_,rfl,fun K hK=> ?_⟩;go_simp;refine hK _ _ ⟨p0,l0,l1,p2,l2,true,l4,true,true,true,t5,_,t15,t20,t21,t18,t22,_,rfl, ?_, ?_,rfl,hp0,hp2,j.op7 rfl,kd.set _ _⟩
       . simp[gu] at hf⊢;omega
       . simpa [wI] using hk
     . cases hr
   . rintro l ac wx ⟨p0,l0,l1,p2,l2,l3,l4,l5,l6,l7,t5,t6,t15,t20,t21,t18,t22,t23,rfl,hf,hk,rfl,hp0,hp2,j,kd⟩
     revert hf
     clear hk j hp0 hp2 kd
     revert p0 l0 l1 p2 l2 l3 l4 l5 l6 l7
     exact of_decide_eq_true kr
   . rintro fuel l ac wx ⟨p0,l0,l1,p2,l2,l3,l4,l5,l6,l7,t5,t6,t15,t20,t21,t18,t22,t23,rfl,hf,hk,rfl,hp0,hp2,j,kd⟩ he
     have hall:(p0&&(l0&&(l1&&(p2&&(l2&&(l3&&(l4&&(l5&&(l6&&l7)))))))))=true:=by
      revert he
      clear hf j hp0 hp2 kd
      revert hk
      revert p0 l0 l1 p2 l2 l3 l4 l5 l6 l7
      exact of_decide_eq_true kr
     simp only[Bool.and_eq_true] at hall;obtain⟨rfl,rfl,rfl,rfl,rfl,rfl,rfl,rfl,rfl,rfl⟩:=hall;rw[iP pX,iP pY] at j;have e15:=hp0 rfl;have e18:=hp2 rfl;subst e15 e18;obtain⟨c,d,gn,gm,an,am,cn,cm,rfl,rfl,G,BT,BB⟩:=j.gd2 kd hXl hYl pX pY;clear hp0 hp2 kd he hf hk;have sx:=j.S;have ox:wx.ownsRow w2.heap.size 5 1 vo 1 (Lib.byteCells [45]):=nS OD sx;have Sx:=SD.tr sx;have Tx:=TD.tr sx;have Px:vm w2.heap.size wx:=PW.on Tx;have hTx:=Tx.size;have hx1:w2.heap.size<=c:=Nat.le_trans TD.size G.hc;have hx2:w2.heap.size<=d:=Nat.le_trans TD.size G.hd;have hx3:w2.heap.size<=gn:=Nat.le_trans TD.size G.hn;have hx4:w2.heap.size<=gm:=Nat.le_trans TD.size G.hm;clear j b1 b2 XD YD zD OD sx TD SD;go_wp2_with fail;refine (fL om G.nX BT G.lX G.pX (Ne.symm G.d3) ox hTx hx1 hx3 om Px).mono ?_;rintro e w5 ⟨v5,rfl,HN5,o5,Kp5⟩;have S5:=Sx.trans (sM Kp5.since (Nat.le_trans S2.size (Nat.le_refl _)));have P5:=Px.on Kp5.since;have B5:=BB.kp Kp5 (Ne.symm G.d1) (Ne.symm G.d4) G.d5 (Ne.symm G.d2);have z5:w2.heap.size<=w5.heap.size:=Nat.le_trans hTx Kp5.size;have hdl:=yf hn hXl;clear ox Kp5 BT BB Px Sx Tx;obtain⟨n5,hn5⟩:∃n5,n5=1+(Lib.decDigits (lv X n)).length:=⟨_,rfl⟩;rw[<-hn5] at o5;have HN:=ae hn5;have hl5:n5<=33554434:=om
     clear hn5 hdl;have hb5:=B5.c0;go_wp2_with fail;refine (dx hb5 B5.L G.lY G.pY).mono ?_;rintro e w6 ⟨rfl,rfl⟩
     by_cases h1:lv Y m=1
     . have hd1:decide (lv Y m=1)=true:=by simp[h1]
       have HD:=ae h1;rw[hd1];obtain⟨g7,c7,rfl,hcv⟩:=ij o5 HN5.out (by rw[HN.out];simp;omega);clear h1 hd1;go_wp2;go_ret;refine⟨?_,S5⟩;have hD:=HD.out
       simp[dV,hD]
     . have hd1:decide (lv Y m=1)=false:=by simp[h1]
       have HD:=ae h1;rw[hd1];clear h1 hd1
       go_wp2_with (at_builtin;refine wpList_append_own _ rfl _ _ 22 rfl w2.heap.size 5 i0 (.int .u8 0) 1 1 Tryz.underlying22 hi hz0 hz1 hz2 rfl qd _ _ _ rfl (o5.alloc _) (jj w6.heap.size 0) 1 1 [.int .u8 47] rfl rfl (bO _ _ _) (bZ _ rfl) (by unfold maxLen;omega) om (by simp;omega) ?_)
       intro v7 w7 o7 g7 hnn;have t7:=bJ w6 (.cells #[.int .u8 47] 5);have s7:w6.Since w2.heap.size w7:=(sM t7 z5).grown g7 (by simp;omega) (fun k hk=>(o5.lt k hk).1);have k7:Lib.OthersKept 5 none w6 w7:=(lk t7).grown g7 (Lib.ownsRow_kind (o5.alloc _));have S7:=S5.trans (sM s7 S2.size);have P7:=P5.on s7;have B7:=B5.others k7;have z7:=Nat.le_trans z5 s7.size
       have o8:w7.ownsRow w2.heap.size 5 1 v7 (n5+1) (Lib.byteCells ([45]++Lib.decDigits (lv X n)++[47])):=by
        rw[jL _ [47]];exact o7
       clear o5 o7 g7 hnn t7 s7 k7 S5 P5 B5 hb5;go_wp2_with fail;refine (fL om G.nY B7 G.lY G.pY (Ne.symm G.d6) o8 z7 hx2 hx4 om P7).mono ?_;rintro e w9 ⟨v9,rfl,HN9,o9,Kp9⟩;have S9:=S7.trans (sM Kp9.since S2.size);obtain⟨g9,c9,rfl,hcv⟩:=ij o9 HN9.out (by rw[HN.out];simp;omega);clear o9 Kp9 B7 P7;go_wp2;go_ret;refine⟨?_,S9⟩;have hD:=HD.out
       simp[dV,hD]
end Go.Proofs.YtclgkofcooibfaaGreatDoor
