import Derived.Test.YtclgkofcooibfaaGreatDoorOwnP21
import Derived.Test.YtclgkofcooibfaaGreatDoorOwnP2
import Derived.Lib.AppendIntMem
set_option maxHeartbeats 6400000
set_option maxRecDepth 100000
namespace Go.Proofs.YtclgkofcooibfaaGreatDoor
open Go.RowKit
theorem Tryz.info5:(Tryz.prog.info? 5).map (fun i=>(i.zero,i.size,i.bytes))=some (some (.int .u8 0),1,1):=by kernel_rfl
def yl(X:Nat->Nat)(m:Nat):List Value:=(List.range m).map fun j=>.int .u8 (X j)
theorem abP(X:Nat->Nat)(m:Nat):yl X (m+1)=yl X m++[.int .u8 (X m)]:=by simp[yl,List.range_succ]
theorem ahp(X:Nat->Nat)(m j:Nat)(h:j<m):(yl X m)[j]?=some (.int .u8 (X j)):=by simp[yl,h]
theorem adR{B C:Nat->Nat}{m:Nat}(h:∀j,j<m->B j=C j):yl B m=yl C m:=by
 unfold yl;exact List.map_congr_left (fun j hj=>by rw[h j (List.mem_range.1 hj)])
theorem qX{w:World}{base:Nat}{v:Value}{m:Nat}{X:Nat->Nat}(h:w.ownsRow base 5 1 v m (yl X m))(hv:v≠ .n):
 ∃g cap,v=.s g m cap/\m<=cap/\base<=g/\g<w.heap.size/\(∀j,j<m->w.cell? (jj g j)=some (.int .u8 (X j)))/\(∀o,w.frozen? (jj g o)=false):=by
 have hc:= @World.ownsRow.cells _ _ _ _ _ _ _ h
 rcases h.2 with ⟨rfl,rfl⟩ | ⟨g,cap,cur,rfl,hb,hg,hm,_⟩
 . exact absurd rfl hv
 . refine⟨g,cap,rfl,hm,hb,(Array.getElem?_eq_some_iff.1 hg).1,fun j hj=> ?_,fun o=>by simp[World.frozen?,hg]⟩
   have:=hc (g:=g) rfl j _ (ahp X m j hj);rw[Addr.add_lit] at this
   simpa using this
theorem aeu{w:World}{base g n cap:Nat}{V:Nat->Nat}(h:w.ownsRow base 5 1 (.s g n cap) n (yl V n))(i x:Nat)(E:Int)(hE:E=(x:Int)):
 (w.setCell ⟨g,i,none⟩ (.int .u8 E)).ownsRow base 5 1 (.s g n cap) n (yl (fX V i x) n):=by
 subst hE;obtain⟨hl,h | ⟨g',cap',cur,e,hb,hh,hn,hm,hs,ht⟩⟩:=h
 . cases h.1
 . cases e
   have r:w.rowIs g 5 cap (fun j=>cur[j]?.getD (.bool false)):=⟨cur,hh,by simpa using hs,fun j hj=>by
    show cur[j]?=some (cur[j]?.getD (.bool false));rw[Array.getElem?_eq_getElem om];rfl⟩
   obtain⟨c2,k1,k2,k3⟩:=r.set i (.int .u8 x);refine⟨by simp[yl],Or.inr ⟨g,cap,c2,rfl,hb,k1,hn,hm,by simpa using k2, ?_⟩⟩
   apply List.ext_getElem?
   intro j;rw[Nat.mul_one] at ht⊢
   by_cases hj:j<n
   . rw[List.getElem?_take_of_lt hj,Array.getElem?_toList,k3 j om]
     have h2:(yl V n)[j]?=cur[j]?:=by rw[<-ht,List.getElem?_take_of_lt hj,Array.getElem?_toList]
     simp only[yl,List.getElem?_map,List.getElem?_range hj,Option.map_some] at h2⊢
     by_cases e:j=i
     . subst e;simp[bK]
     . rw[if_neg e,az _ _ _ _ e,<-h2];rfl
   . rw[List.getElem?_eq_none (by simp;omega),List.getElem?_eq_none (by simp[yl];omega)]
def tv(B:Nat->Bool)(n k:Nat):Nat:=bv (fun j=>B (k+j)) (n-k)
theorem ahq(B:Nat->Bool)(n:Nat):tv B n 0=bv B n:=fW (fun j _=>by rw[Nat.zero_add])
theorem afL(B:Nat->Bool)(n:Nat):tv B n n=0:=by simp[tv,bv]
theorem afK(B:Nat->Bool){n k:Nat}(h:k<n):tv B n k=2*tv B n (k+1)+(B k).toNat:=by
 unfold tv;rw[show n-k=(n-(k+1))+1 by omega,mV]
 congr 1
 congr 1
 exact fW (fun j _=>by rw[show k+(j+1)=k+1+j by omega])
theorem aim(B:Nat->Bool)(n k:Nat):tv B n k<2^n:=Nat.lt_of_lt_of_le (sJ _ _) (Nat.pow_le_pow_right om om)
def adL(V c:Nat)(D:Nat->Nat)(j:Nat):Prop:=∀q,D q=if q<j then sI (2*V+c) q else sI V q
theorem abD(V c:Nat):adL V c (sI V) 0:=fun q=>by simp
theorem ad5{V c j x y:Nat}{D:Nat->Nat}(h:adL V c D j)(hx:D j=x)(hy:y=(2*x+fM V c j) % 10):adL V c (fX D j y) (j+1):=by
 intro q
 by_cases e:q=j
 . subst e
   rw[bK,if_pos om,agB,hy,<-hx,h q,if_neg om]
 . rw[az _ _ _ _ e,h q]
   by_cases h1:q<j
   . rw[if_pos h1,if_pos om]
   . rw[if_neg h1,if_neg om]
theorem ac5{V c j:Nat}{D:Nat->Nat}(h:adL V c D j):D j=sI V j:=by rw[h j,if_neg om]
theorem afy{V c m:Nat}{D:Nat->Nat}(h:adL V c D m):∀q,q<m->D q=sI (2*V+c) q:=fun q hq=>by rw[h q,if_pos hq]
theorem ahU(V:Nat):yl (fun t=>48+sI V (Lib.nDigits V-1-t)) (Lib.nDigits V)=Lib.byteCells (Lib.decDigits V):=by
 rw[ahW];unfold yl Lib.byteCells;rw[List.map_map];refine List.map_congr_left fun t _=> ?_
 have hd:=abB V (Lib.nDigits V-1-t);simp only[Function.comp,UInt8.toNat_ofNat'];rw[Nat.mod_eq_of_lt om]
theorem ij{w:World}{base:Nat}{v:Value}{m:Nat}{l:List UInt8}(h:w.ownsRow base 5 1 v m (Lib.byteCells l))(hv:v≠ .n)(hl:m=l.length):
 ∃g cap,v=.s g m cap/\(convert 22 9 (.s g m cap)).run Tryz.prog w=.ok (.string ⟨l.toArray⟩) w:=by
 subst hl;have hc:= @World.ownsRow.cells _ _ _ _ _ _ _ h
 rcases h.2 with ⟨rfl,-⟩ | ⟨g,cap,cur,rfl,hb,hg,hm,_⟩
 . exact absurd rfl hv
 . refine⟨g,cap,rfl,run_convert_bytes_back w 22 9 5 (jj g 0) cap l Tryz.underlying22 Tryz.underlying5 Tryz.underlying9 (fun j hj=> ?_)⟩
   exact hc (g:=g) rfl j _ (by simp[Lib.byteCells,hj])
theorem fI{a:Option Addr}{b off n cap:Nat}{B:Nat->Bool}{w:World}(hn:n<=134217728)(hB:dz w a b off n B):
 Cl 73 #[.slice a n cap] w fun e w'=>e=.returned (.string ⟨(Lib.decDigits (bv B n)).toArray⟩)/\w.S w':=by
 obtain⟨i0,hi,hz0,hz1,hz2⟩:=info_parts Tryz.info5;go_enter Tryz.func73,Tryz.ntmps73;have hA0:(w.alloc (.cells #[.int .u8 0] 5)).ownsRow w.heap.size 5 1 (.s w.heap.size 1 1) 1 (yl (sI 0) 1):=ach w w.heap.size (.int .u8 0) 5 (Nat.le_refl _);have HE0:=ae (afL B n);go_wp2
 go_loopw [3,4] (fun v t wr=>∃(k m V:Nat) (z:Int),k<=n/\t=.i z/\Hid (z=(k:Int)-1)/\Hid (v≠ .n)/\wr.ownsRow w.heap.size 5 1 v m (yl (sI V) m)/\w.S wr/\Hid (V=tv B n k/\m=Lib.nDigits V)) (fun _ t _=>(intOf t+1).toNat)
 case atStart=>exact⟨n,1,0,(n:Int)-1,Nat.le_refl _,rfl,ae rfl,ae qz,hA0,bJ _ _,ae ⟨HE0.out.symm,(Lib.nDigits_small om).symm⟩⟩
 case round=>
  clear hA0;obtain⟨k,m,V,z,hk,rfl,HZ,HN,hown,hs,HV⟩:=hrel
  have hm:m<=134217729:=by
   have h1:=uC (aim B n k);have h2:=HV.out.1;have h3:=HV.out.2;rw[<-h2,<-h3] at h1;omega
  by_cases h0:0<k
  . have hzk:z=((k-1:Nat):Int):=by have:=HZ.out;omega
    clear HZ;subst hzk;have hzp:(0:Int)<=((k-1:Nat):Int):=om
    obtain⟨rfl,hc⟩:=hB (k-1) om;have g0:wr.cell? (jj b (off+(k-1)))=some (.bool (B (k-1))):=by rw[hs.cell (a:=jj b (off+(k-1))) (hB.lt om)];exact hc
    clear hc;have HS:=ae (afK B (show k-1<n by omega));obtain⟨x,hx⟩:∃x,x=B (k-1):=⟨_,rfl⟩;rw[<-hx] at g0 HS;clear hx;obtain⟨g,cap1,rfl,hmc,hg,hgl,-,-⟩:=qX hown HN.out;obtain⟨c,hc⟩:∃c,c=x.toNat:=⟨_,rfl⟩;have hc1:c<=1:=by rw[hc];cases x<;>decide
    have HS2:=HS.out;rw[<-hc,show k-1+1=k by omega,<-HV.out.1] at HS2;have HC:=ae hc;clear HS hc;have HS:=ae HS2;clear HS2;cases x
    focus
     go_wp2
    rotate_left
    focus
     go_wp2
    all_goals
     go_loopw [5,6] (fun q t wr2=>∃(j cb:Nat) (D:Nat->Nat),j<=m/\t=.i j/\q=.int .u8 cb/\cb<=1/\Hid (cb=fM V c j)/\wr2.ownsRow w.heap.size 5 1 (.s g m cap1) m (yl D m)/\w.S wr2/\Hid (adL V c D j)) (fun _ t _=>m-(intOf t).toNat)
     case atStart=>exact⟨0,c,sI V,Nat.zero_le _,rfl,by rw[HC.out];rfl,hc1,ae (af2 V c).symm,hown,hs,ae (abD V c)⟩
     case round=>
      clear hown hs g0;obtain⟨j,cb,D,hj,rfl,rfl,hcb,HCB,hown,hs,HD⟩:=hrel
      by_cases hjm:j<m
      . obtain⟨g',cap2,e,-,-,-,hc,hf⟩:=qX hown qz
        cases e;have g1:=hc j hjm;have f1:=hf j;have hx9:D j<=9:=by rw[ac5 HD.out];have:=abB V j;omega
        have HSt:=ae (fun (y:Nat)=>ad5 (y:=y) HD.out rfl);rw[<-HCB.out] at HSt;have HCs:=ae (af3 V c j);rw[<-HCB.out,<-ac5 HD.out] at HCs;obtain⟨d,hd⟩:∃d,d=D j:=⟨_,rfl⟩;rw[<-hd] at g1 hx9 HSt HCs;clear hd hc hf HCB;have hji:(j:Int)<m:=om
        go_wp2;go_roundw
        case rel=>go_light;exact⟨j+1,(2*d+cb)/10,_,om,by go_num,congrArg (Value.int .u8) om,om,ae HCs.out.symm,aeu hown j ((2*d+cb) % 10) _ om,hs.setCell hg _,ae (HSt.out _ rfl)⟩
        case measure=>simp[intOf]<;>omega
      . have e:j=m:=om
        subst e;have HD2:=ae (afy HD.out);clear HD;have hrow:=hown;rw[adR HD2.out] at hrow;have hHV:=HV.out
        rcases Nat.eq_zero_or_pos cb with h2 | h2
        . subst h2
          have HM:=ae (agr hc1 (by rw[<-hHV.2];exact HCB.out.symm));clear hHV;go_wp2;go_roundw
          case rel=>exact⟨k-1,j,2*V+c,((k-1:Nat):Int)-1,om,by go_num,ae rfl,ae qz,hrow,hs,ae ⟨HS.out.symm,by rw[HM.out];exact HV.out.2⟩⟩
          case measure=>simp[intOf]<;>omega
        . have hcp:((0:Int)<cb):=om
          have HM:=ae (ags hc1 (by rw[<-hHV.2,<-HCB.out];exact h2));clear hHV;have hsz:=hs.size
          go_wp2_with (at_builtin;refine wpList_append_own _ rfl _ _ 22 rfl w.heap.size 5 i0 (.int .u8 0) 1 1 Tryz.underlying22 hi hz0 hz1 hz2 rfl qd _ _ _ rfl (hrow.alloc _) (jj wr.heap.size 0) 1 1 [.int .u8 cb] rfl rfl (bO _ _ _) (bZ _ rfl) (by unfold maxLen;omega) om (by simp;omega) ?_)
          intro v' w1 hown' hgrow hnn;have hs1:w.S w1:=(hs.alloc hs.size _).grown hgrow (by simp;omega) (fun k hk=>(hrow.lt k hk).1);have HN':=ae hnn
          have hown2:w1.ownsRow w.heap.size 5 1 v' (j+1) (yl (sI (2*V+c)) (j+1)):=by
           rw[abP,show sI (2*V+c) j=cb from by rw[HCB.out,HV.out.2];exact HM.out.2];exact hown'
          clear hown' hgrow hnn hown hrow hs HN;go_wp2;go_roundw
          case rel=>exact⟨k-1,j+1,2*V+c,((k-1:Nat):Int)-1,om,by go_num,ae rfl,HN',hown2,hs1,ae ⟨HS.out.symm,by rw[HM.out.1,<-HV.out.2]⟩⟩
          case measure=>simp[intOf]<;>omega
  . have hzk:z=-1:=by have:=HZ.out;omega
    clear HZ;subst hzk;have k0:k=0:=om
    subst k0;have HVV:=ae (HV.out.1.trans (ahq B n));have HMM:=ae HV.out.2;clear HV;obtain⟨g,cap1,rfl,hmc,hg,hgl,hcl,-⟩:=qX hown HN.out;clear HN hown hB;have hm1:1<=m:=by have:=Lib.nDigits_pos V;rw[HMM.out];exact this
    generalize wr=w3 at*;have sA:=bJ w3 (.cells #[] 5);have hA1:(w3.alloc (.cells #[] 5)).ownsRow w3.heap.size 5 1 (.s w3.heap.size 0 0) 0 []:=pv w3 #[] 0 (Nat.le_refl _) qd rfl;go_wp2
    go_loopw [8,9] (fun v t wr2=>∃(k:Nat) (z:Int),k<=m/\t=.i z/\Hid (z=(k:Int)-1)/\Hid (v≠ .n)/\wr2.ownsRow w3.heap.size 5 1 v (m-k) (yl (fun q=>48+sI V (m-1-q)) (m-k))/\w3.S wr2) (fun _ t _=>(intOf t+1).toNat)
    case atStart=>exact⟨m,(m:Int)-1,Nat.le_refl _,rfl,ae rfl,ae qz,by rw[Nat.sub_self];exact hA1,sA⟩
    case round=>
     clear sA hA1;obtain⟨k,z,hk,rfl,HZ,HN,hown,hs2⟩:=hrel
     by_cases h1:0<k
     . have hzk:z=((k-1:Nat):Int):=by have:=HZ.out;omega
       clear HZ;subst hzk;have hzp:(0:Int)<=((k-1:Nat):Int):=om
       have g1:wr.cell? (jj g (k-1))=some (.int .u8 (sI V (k-1))):=by rw[hs2.cell (a:=jj g (k-1)) hgl];exact hcl (k-1) om
       have HDG:Hid (sI V (m-1-(m-k))=sI V (k-1)):=by rw[show m-1-(m-k)=k-1 by omega];rfl
       have hd9:=abB V (k-1);obtain⟨d,hd⟩:∃d,d=sI V (k-1):=⟨_,rfl⟩;rw[<-hd] at g1 hd9 HDG;clear hd;have hsz:=hs2.size;have hkm:((k-1:Nat):Int)<m:=om
       have hwr:IntKind.u8.wrap (48+(d:Int))=((48+d:Nat):Int):=by rw[IntKind.wrap_u8];omega
       go_wp2_with (at_builtin;refine wpList_append_own _ rfl _ _ 22 rfl w3.heap.size 5 i0 (.int .u8 0) 1 1 Tryz.underlying22 hi hz0 hz1 hz2 rfl qd _ _ _ rfl (hown.alloc _) (jj wr.heap.size 0) 1 1 [.int .u8 _] rfl rfl (bO _ _ _) (bZ _ rfl) (by unfold maxLen;omega) om (by simp;omega) ?_)
       intro v' w1 hown' hgrow hnn;have hs1:w3.S w1:=(hs2.alloc hs2.size _).grown hgrow (by simp;omega) (fun k hk=>(hown.lt k hk).1);have HN':=ae hnn
       have hown2:w1.ownsRow w3.heap.size 5 1 v' (m-(k-1)) (yl (fun q=>48+sI V (m-1-q)) (m-(k-1))):=by
        rw[show m-(k-1)=(m-k)+1 by omega,abP,HDG.out];exact hown'
       clear hown' hgrow hnn hown hs2 HN;go_wp2;go_roundw
       case rel=>exact⟨k-1,((k-1:Nat):Int)-1,om,by go_num,ae rfl,HN',hown2,hs1⟩
       case measure=>simp[intOf]<;>omega
     . have hzk:z=-1:=by have:=HZ.out;omega
       clear HZ;subst hzk;have k0:k=0:=om
       subst k0;rw[Nat.sub_zero] at hown;have HR:=ae (ahU V);rw[<-HMM.out] at HR;rw[HR.out] at hown;have hcv:=ij hown HN.out (by rw[Lib.decDigits_length];exact HMM.out);rw[HVV.out] at hcv;obtain⟨g2,cap2,rfl,hcv⟩:=hcv;have hs3:=hs.tr hs2;clear hown hs2 HN;go_wp2;go_ret;exact⟨rfl,hs3⟩
def dV(neg:Bool)(N D:Nat):List UInt8:=(if neg then [45] else [])++(Lib.decDigits N++(if D=1 then [] else 47::Lib.decDigits D))
theorem eE(l m:List UInt8):(⟨l.toArray⟩:ByteArray)++⟨m.toArray⟩=⟨(l++m).toArray⟩:=by
 have h:((⟨l.toArray⟩:ByteArray)++⟨m.toArray⟩).data=(l++m).toArray:=by simp
 cases hx:((⟨l.toArray⟩:ByteArray)++⟨m.toArray⟩);rw[hx] at h;rw[<-h]
theorem yf{X:Nat->Nat}{n:Nat}(hn:n<=1048576)(h:∀j,j<n->X j<4294967296):(Lib.decDigits (lv X n)).length<=33554433:=by
 rw[Lib.decDigits_length];have:=uC (fy X n h);omega
theorem adh{Y:Nat->Nat}{m:Nat}(lY:∀j,j<m->Y j<4294967296)(pY:0<m->Y (m-1)≠0)(h:lv Y m=1):m=1/\Y 0=1:=by
 obtain⟨e,h2⟩:=aeF (Y:=fun _=>1) (m:=1) lY (fun _ _=>by decide) pY (fun _=>by decide) (by rw[h];simp[lv]);exact⟨e,h2 0 om⟩
theorem abw{neg:Bool}{a b:Option Addr}{ba oa n ca bb ob m cb:Nat}{X Y:Nat->Nat}{w:World}(hn:n<=1048576)(hm:m<=1048576)(hX:ag w a ba oa n X)(hY:ag w b bb ob m Y)
 (hXl:∀j,j<n->X j<4294967296)(hYl:∀j,j<m->Y j<4294967296)(pY:0<m->Y (m-1)≠0):
 Cl 34 #[.agg #[.bool neg,.slice a n ca,.slice b m cb]] w fun e w'=>e=.returned (.string ⟨(dV neg (lv X n) (lv Y m)).toArray⟩)/\w.S w':=by
 have sA:=bJ w (.cells #[.bool neg,.slice a n ca,.slice b m cb] 44);have bA:=bj.new w (.bool neg) (.slice a n ca) (.slice b m cb) 44;have HXl:=ae hXl;have HYl:=ae hYl;have HP:=ae pY;go_enter Tryz.func34,Tryz.ntmps34;go_wp2_with fail;generalize w.alloc _=w1 at*;refine (cO om (hX.aA sA) HXl.out).mono ?_;rintro e w2 ⟨a2,g2,m2,c2,B2,rfl,h21,h22,L2,-,-,v2,s2⟩;have HV2:=ae v2;have S2:=sA.tr s2;have K2:=bA.aA s2;go_wp2_with fail;refine (fI om L2).mono ?_;rintro e w3 ⟨rfl,s3⟩;rw[HV2.out];have S3:=S2.tr s3;have K3:=K2.aA s3;have hY3:=hY.aA S3;have hlN:=yf hn HXl.out;have hlD:=yf hm HYl.out;obtain⟨k0,k1,k2⟩:=K3.g
 by_cases h1:m=1
 . subst h1
   obtain⟨rfl,hc⟩:=hY3 0 om;rw[Nat.add_zero] at hc
   by_cases h2:Y 0=1
   . have HD:Hid (lv Y 1=1):=by show lv Y 1=1;simp[lv,h2]
     rw[h2] at hc;cases neg
     . go_wp2
       go_ret;refine⟨?_,S3⟩;rw[HD.out]
       simp[dV]
     . go_wp2
       go_ret;refine⟨?_,S3⟩;rw[HD.out]
       simp[dV,eE]
   . have HD:Hid (¬lv Y 1=1):=fun h=>h2 (by simpa [lv] using h)
     have hne:((Y 0:Int)==1)=false:=by simp;omega
     cases neg
     . go_wp2_with fail
       refine (cO om hY3 HYl.out).mono ?_;rintro e w4 ⟨a4,g4,m4,c4,B4,rfl,h41,h42,L4,-,-,v4,s4⟩;have HV4:=ae v4;have S4:=S3.tr s4;go_wp2_with fail;refine (fI om L4).mono ?_;rintro e w5 ⟨rfl,s5⟩;rw[HV4.out];go_wp2;go_ret;refine⟨?_,S4.tr s5⟩;have hD:=HD.out
       simp[dV,eE,hD]
     . go_wp2_with fail
       refine (cO om hY3 HYl.out).mono ?_;rintro e w4 ⟨a4,g4,m4,c4,B4,rfl,h41,h42,L4,-,-,v4,s4⟩;have HV4:=ae v4;have S4:=S3.tr s4;go_wp2_with fail;refine (fI om L4).mono ?_;rintro e w5 ⟨rfl,s5⟩;rw[HV4.out];go_wp2;go_ret;refine⟨?_,S4.tr s5⟩;have hD:=HD.out
       simp[dV,eE,hD]
 . have HD:Hid (¬lv Y m=1):=fun h=>h1 (adh HYl.out HP.out h).1
   have hne:((m:Int)==1)=false:=by simp;omega
   cases neg
   . go_wp2_with fail
     refine (cO om hY3 HYl.out).mono ?_;rintro e w4 ⟨a4,g4,m4,c4,B4,rfl,h41,h42,L4,-,-,v4,s4⟩;have HV4:=ae v4;have S4:=S3.tr s4;go_wp2_with fail;refine (fI om L4).mono ?_;rintro e w5 ⟨rfl,s5⟩;rw[HV4.out];go_wp2;go_ret;refine⟨?_,S4.tr s5⟩;have hD:=HD.out
     simp[dV,eE,hD]
   . go_wp2_with fail
     refine (cO om hY3 HYl.out).mono ?_;rintro e w4 ⟨a4,g4,m4,c4,B4,rfl,h41,h42,L4,-,-,v4,s4⟩;have HV4:=ae v4;have S4:=S3.tr s4;go_wp2_with fail;refine (fI om L4).mono ?_;rintro e w5 ⟨rfl,s5⟩;rw[HV4.out];go_wp2;go_ret;refine⟨?_,S4.tr s5⟩;have hD:=HD.out
     simp[dV,eE,hD]
end Go.Proofs.YtclgkofcooibfaaGreatDoor
