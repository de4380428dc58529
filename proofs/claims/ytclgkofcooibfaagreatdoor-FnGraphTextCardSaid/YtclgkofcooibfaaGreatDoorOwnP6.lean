import Derived.Test.YtclgkofcooibfaaGreatDoorOwnP4
import Derived.Laws.AppendOwnNone
set_option maxHeartbeats 6400000
set_option maxRecDepth 100000
namespace Go.Proofs.YtclgkofcooibfaaGreatDoor
open Go.RowKit
theorem zF(a b:Nat)(hb:b<4294967296):a*4294967296 ||| b=a*4294967296+b:=by
 have:=Nat.two_pow_add_eq_or_of_lt (i:=32) (b:=b) om a;rw[Nat.mul_comm] at this;exact this.symm
theorem agd(a b:Nat)(ha:a<4294967296)(hb:b<4294967296):bits .or .u64 ((a:Int)*4294967296) (b:Int)=(a:Int)*4294967296+(b:Int):=by
 have h:=u64_or_nat (a*4294967296) b om om;rw[zF a b hb] at h;rw[show ((a*4294967296:Nat):Int)=a*4294967296 by omega] at h;rw[h];omega
theorem bT(d:Nat)(h:d<18446744073709551616):IntKind.u64.wrap (d:Int)=(d:Int):=by rw[IntKind.wrap_u64];omega
theorem yK(d:Nat)(h:d<4294967296):IntKind.u32.wrap (d:Int)=(d:Int):=by rw[IntKind.wrap_u32'];omega
theorem abj(R:Nat->Nat)(t:Nat):∀u∈ll R t,u.oneCell'=true:=by
 intro u hu;obtain⟨_,_,rfl⟩:=List.mem_map.1 hu
 rfl
theorem uF{w:World}{x:Addr}{g off t:Nat}{R:Nat->Nat}(h:ag w (some x) g off t R):∀j u,(ll R t)[j]?=some u->w.cell? (x.add j)=some u:=by
 intro j u hu;have hj:j<t:=by have:=(List.getElem?_eq_some_iff.1 hu).1;rwa[mC] at this
 rw[mD R t j hj] at hu;have hx:=Option.some.inj (h j hj).1;rw[hx,Addr.add_lit,(h j hj).2];exact hu
theorem fi{a:Option Addr}{b off n cap:Nat}{X:Nat->Nat}{w:World}(hn:n<=67108864)(hnc:n<=cap)(hac:a=none->cap=0)(hX:ag w a b off n X):
 Cl 54 #[.slice a n cap] w fun e w'=>∃v,e=.returned v/\w'.ownsRow w.heap.size 129 1 v (ce (nz X) n) (ll X (ce (nz X) n))/\w.S w':=by
 obtain⟨i0,hi,hz0,hz1,hz2⟩:=info_parts Tryz.info129;have htl:=co (nz X) n;cases a with
 | none=>
   have hc:=hac rfl;have hn0:n=0:=om
   subst hc hn0;go_enter Tryz.func54,Tryz.ntmps54;go_wp2_with fail;refine (jt om (Nat.le_refl _) hX).mono ?_;rintro e w1 ⟨rfl,hs⟩;have e0:ce (nz X) 0=0:=rfl;rw[e0]
   go_wp2_with (at_builtin;refine wpList_append_own_none rfl _ _ 98 rfl w.heap.size 129 i0 1 Tryz.underlying98 hi _ 0 [] rfl (World.ownsRow_nil _ _ _ _) rfl ?_)
   go_ret;exact⟨_,rfl,World.ownsRow_nil _ _ _ _,hs⟩
 | some x=>
   go_enter Tryz.func54,Tryz.ntmps54;go_wp2_with fail;refine (jt om hnc hX).mono ?_;rintro e w1 ⟨rfl,hs⟩;have hX1:=(hX.aA hs).take htl;obtain⟨t,ht⟩:∃t,t=ce (nz X) n:=⟨_,rfl⟩;have HT:=ae ht;rw[<-ht] at hX1 htl⊢;clear ht
   go_wp2_with (at_builtin;refine wpList_append_own _ rfl _ _ 98 rfl w.heap.size 129 i0 (.int .u32 0) 1 4 Tryz.underlying98 hi hz0 hz1 hz2 rfl qd _ 0 [] rfl (World.ownsRow_nil _ _ _ _) x t cap (ll X t) rfl (by rw[mC];omega) (uF hX1) (abj X t) (by unfold maxLen;omega) om hs.size ?_)
   intro v' w2 hown hgrow hnil;have hown:w2.ownsRow w.heap.size 129 1 v' (ce (nz X) n) (ll X (ce (nz X) n)):=by rw[<-HT.out];exact hown
   have hs2:=hs.grown hgrow hs.size (fun k hk=>by simp[Value.ownBlock] at hk);go_wp2;go_ret;exact⟨_,rfl,hown,hs2⟩
theorem af.drew{w w':World}{b:Nat}(h:af w w' b):af w w'.drew b:=⟨h.os,h.tape,h.output,h.size,h.other,h.frozen,h.shape⟩
theorem ag.put{w:World}{a:Option Addr}{b n i:Nat}{Q:Nat->Nat}(h:ag w a b 0 n Q)(v:Nat):ag (w.setCell ⟨b,i,none⟩ (.int .u32 v)) a b 0 n (fX Q i v):=by
 intro j hj;have hj':=h j hj;refine⟨hj'.1, ?_⟩
 by_cases e:j=i
 . subst e
   rw[bK,Nat.zero_add];have:=hj'.2;rw[Nat.zero_add] at this;exact j6 _ _ _ this
 . rw[az _ _ _ _ e,World.cell?_setCell_other _ _ _ _ (fun h=>by have:=congrArg Addr.off h;simp at this;omega)]
   exact hj'.2
theorem kI{c o:Nat}{a:Option Addr}{b n cap d:Nat}{X:Nat->Nat}{w:World}(hn:n<=281474976710656)(hnc:n<=cap)(hc0:w.cell? (jj c o)=some (.slice a n cap))(hf0:w.frozen? (jj c o)=false)
 (hX:ag w a b 0 n X)(hXl:∀j,j<n->X j<4294967296)(hf:0<n->∀o,w.frozen? (jj b o)=false)(hcb:c≠b)(hd:0<d)(hdl:d<4294967296):
 Cl 117 #[.p c o,.int .u32 d] w fun e w'=>e=.returned (.int .u32 ((lv X n % d:Nat):Int))/\∃w2 Q,af w w2 b/\ag w2 a b 0 n Q/\(∀j,j<n->Q j<4294967296)/\
  lv Q n=lv X n/d/\w'=w2.setCell ⟨c,o,none⟩ (.slice a (ce (nz Q) n) cap):=by
 have HXl:=ae hXl;go_enter Tryz.func117,Tryz.ntmps117;go_wp2
 go_loopw [5,6] (fun r t wr=>∃(k rr:Nat) (z:Int) (Q:Nat->Nat),k<=n/\t=.i z/\r=.int .u64 rr/\rr<d/\Hid (z=k-1)/\af w wr b/\ag wr a b 0 n Q/\Hid (qH X Q n k d rr)) (fun _ t _=>(intOf t+1).toNat)
 case atStart=>exact⟨n,0,(n:Int)-1,X,Nat.le_refl _,rfl,rfl,hd,rfl,af.refl _ _,hX,vM hd HXl.out⟩
 case round=>
  obtain⟨k,rr,z,Q,hk,rfl,rfl,hrr,HZ,hs,hQ,HR⟩:=hrel
  by_cases hz:0<=z
  . obtain⟨i,rfl⟩:=Int.eq_ofNat_of_zero_le hz
    have hki:k=i+1:=by have:=HZ.out;omega
    subst hki;obtain⟨rfl,hc⟩:=hQ i om;have hxi:=HR.out.2.2.2 i om;have HS:=ae (xO HR.out om (HXl.out i om));rw[<-HR.out.2.2.1 i om] at HS;have g0:wr.cell? (jj b i)=some (.int .u32 (Q i)):=by simpa using hc
    have g1:wr.frozen? (jj b i)=false:=by rw[hs.frozen];exact hf om i
    have g2:wr.cell? (jj c o)=some (.s b n cap):=by rw[hs.cell (a:=jj c o) hcb];exact hc0
    have hni:(i:Int)<n:=om
    have hor:=agd rr (Q i) om hxi;obtain⟨x,hx⟩:∃x,x=Q i:=⟨_,rfl⟩;rw[<-hx] at HS hxi g0 hor;clear hc hx;go_wp2;obtain⟨p,hp⟩:∃p,p=rr*4294967296+x:=⟨_,rfl⟩;have hpi:(rr:Int)*4294967296+(x:Int)=p:=om
    have hpl:p<18446744073709551615:=om
    rw[<-hp] at HS;rw[hpi];clear hp hpi;obtain⟨q,hq⟩:∃q,q=p/d:=⟨_,rfl⟩;have HQ:=ae hq;have hql:q<4294967296:=by rw[hq];exact HS.out.2
    have w1:=bT d om;have w2:IntKind.u64.wrap ((p:Int)/(d:Int))=(q:Int):=by rw[<-Int.natCast_ediv,<-hq];exact bT q om
    have w3:=yK q hql;have hd0:¬(d:Int)=0:=om
    clear hq
    go_region
    go_wp2;go_roundw
    case rel=>
     go_light;have HS2:=HS.out.1;rw[<-HQ.out] at HS2;refine⟨i,p % d,(i:Int)-1,fX Q i q,om,rfl,congrArg (Value.int .u64) (by rw[Int.natCast_emod]),Nat.mod_lt _ hd,rfl, ?_, ?_,HS2⟩
     . first | exact (hs.setCell _ _).drew | exact hs.drew.setCell _ _
     . exact hQ.put q
    case measure=>simp[intOf]
  . have hk0:k=0:=by have:=HZ.out;omega
    subst hk0;have g2:wr.cell? (jj c o)=some (.slice a n cap):=by rw[hs.cell (a:=jj c o) hcb];exact hc0
    have g3:wr.frozen? (jj c o)=false:=by rw[hs.aQ (a:=jj c o) hcb];exact hf0
    obtain⟨v1,v2⟩:=zY HR.out;have HV1:=ae v1;have HV2:=ae v2;clear v1 v2;go_wp2_with fail;refine (eK hn hnc g2 g3 hQ).mono ?_;rintro e w1 ⟨rfl,rfl⟩;have hrl:rr<4294967296:=om
    go_wp2;go_ret;exact⟨di (a:=(rr:Int)) (congrArg (fun x:Nat=>(x:Int)) HV2.out),wr,Q,hs,hQ,HR.out.2.2.2,HV1.out,rfl⟩
theorem y7(m:Nat)(h:m<18446744073709551616):bits .and .u64 (m:Int) 4294967295=((m % 4294967296:Nat):Int):=by
 have:=u64_and_nat m 4294967295 h om;rw[show (4294967295:Nat)=2^32-1 by rfl,Nat.and_two_pow_sub_one_eq_mod] at this;exact this
theorem yS(x lo:Nat)(hx:x<4294967296)(hl:lo<4294967296)(h:x<lo):IntKind.u64.wrap ((x:Int)-(lo:Int))=((18446744073709551616+x-lo:Nat):Int):=by
 rw[IntKind.wrap_u64];omega
theorem dw{a b:Bool}(h:a=b):Ending.returned (.bool a)=.returned (.bool b):=by rw[h]
theorem vx{c o b nn cap b' dl cap' g p:Nat}{W Y:Nat->Nat}{w:World}(hnn:nn<=268435456)(hg:g<=4294967295)(hat:p+dl<nn)
 (hc0:w.cell? (jj c o)=some (.s b nn cap))(hf:∀o,w.frozen? (jj b o)=false)(hcb:c≠b)(hbb:b'≠b)
 (hW:ag w (jp b 0) b 0 nn W)(hY:ag w (jp b' 0) b' 0 dl Y)(hWl:∀k,W k<4294967296)(hYl:∀j,j<dl->Y j<4294967296):
 Cl 220 #[.p c o,.s b' dl cap',.int .u32 g,.i p] w fun e w'=>∃(W':Nat->Nat) (bo:Bool),e=.returned (.bool bo)/\af w w' b/\ag w' (jp b 0) b 0 nn W'/\
  lv (fun t=>W' (p+t)) (dl+1)+g*lv Y dl=lv (fun t=>W (p+t)) (dl+1)+bo.toNat*2^(32*(dl+1))/\(∀k,k<p∨p+dl+1<=k->W' k=W k)/\∀k,W' k<4294967296:=by
 have HY:=ae hYl;have HW:=ae hWl;go_enter Tryz.func220,Tryz.ntmps220;go_wp2
 go_loopw [9,17] (fun q t wr=>∃(i ow:Nat) (V:Nat->Nat),i<=dl/\t=.i i/\q=.int .u64 ow/\ow<=4294967295/\af w wr b/\ag wr (jp b 0) b 0 nn V/\Hid (qE W V Y g p i ow)) (fun _ t _=>dl-(intOf t).toNat)
 case atStart=>exact⟨0,0,W,Nat.zero_le _,rfl,rfl,om,af.refl _ _,hW,aaI HW.out Y g p⟩
 case round=>
  obtain⟨i,ow,V,hi,rfl,rfl,how,hs,hV,HR⟩:=hrel;have q0:wr.cell? (jj c o)=some (.s b nn cap):=by rw[hs.cell (a:=jj c o) hcb];exact hc0
  by_cases hlt:i<dl
  . have g0:wr.cell? (jj b' i)=some (.int .u32 (Y i)):=by rw[hs.cell (a:=jj b' i) hbb];simpa using (hY i hlt).2
    have g1:wr.cell? (jj b (p+i))=some (.int .u32 (V (p+i))):=by simpa using (hV (p+i) om).2
    have g2:wr.frozen? (jj b (p+i))=false:=by rw[hs.frozen];exact hf _
    have hy:=HY.out i hlt;have hx:=HR.out.2.2.2 (p+i);obtain⟨hml,hst⟩:=acO HR.out hg hy rfl rfl;have HS:=ae hst;obtain⟨y,ey⟩:∃y,y=Y i:=⟨_,rfl⟩;obtain⟨x,ex⟩:∃y,y=V (p+i):=⟨_,rfl⟩;rw[<-ey] at g0 hy hml HS;rw[<-ex] at g1 hx HS;clear ey ex;obtain⟨m,em⟩:∃m,m=g*y+ow:=⟨_,rfl⟩;rw[<-em] at hml HS;have mi:(g:Int)*(y:Int)+(ow:Int)=m:=by rw[em];simp
    have mi0:(0:Int)<=g*(y:Int):=by rw[<-Int.natCast_mul];omega
    have hml2:(m:Int)<=18446744073709551615:=om
    have han:=y7 m hml;obtain⟨lo,elo⟩:∃lo,lo=m % 4294967296:=⟨_,rfl⟩;rw[<-elo] at han HS;have hlo:lo<4294967296:=om
    clear em elo
    by_cases hb:x<lo
    . have hsw:=yS x lo hx hlo hb
      obtain⟨dd,edd⟩:∃dd,dd=18446744073709551616+x-lo:=⟨_,rfl⟩;rw[<-edd] at hsw;have hdd:dd<=18446744073709551615:=om
      have HE:=ae edd;clear edd;go_wp2;go_roundw
      case rel=>
       go_light;have HS:=HS.out;rw[if_pos hb] at HS;rw[show (dd:Int) % 4294967296=(((x+4294967296-lo) % 4294967296:Nat):Int) from by have:=HE.out;omega];exact⟨i+1,m/4294967296+1,_,om,by go_num,congrArg (Value.int .u64) (by have:=HE.out;omega),HS.2.1,hs.setCell _ _,hV.put _,HS⟩
      case measure=>simp[intOf];omega
    . go_wp2
      go_roundw
      case rel=>
       go_light;have HS:=HS.out;rw[if_neg hb] at HS;rw[show (x:Int)-(lo:Int)=(((x+4294967296-lo) % 4294967296:Nat):Int) from by omega];exact⟨i+1,m/4294967296+0,_,om,by go_num,congrArg (Value.int .u64) om,HS.2.1,hs.setCell _ _,hV.put _,HS⟩
      case measure=>simp[intOf];omega
  . have e:i=dl:=om
    subst e;have g1:wr.cell? (jj b (p+i))=some (.int .u32 (V (p+i))):=by simpa using (hV (p+i) om).2
    have g2:wr.frozen? (jj b (p+i))=false:=by rw[hs.frozen];exact hf _
    have hx:=HR.out.2.2.2 (p+i);have HS:=ae (adU HR.out rfl);obtain⟨x,ex⟩:∃y,y=V (p+i):=⟨_,rfl⟩;rw[<-ex] at g1 hx HS;clear ex
    by_cases hb:x<ow
    . have hsw:=yS x ow hx om hb
      obtain⟨dd,edd⟩:∃dd,dd=18446744073709551616+x-ow:=⟨_,rfl⟩;rw[<-edd] at hsw;have hdd:dd<=18446744073709551615:=om
      have hdg:9223372036854775808<=dd:=om
      have HE:=ae edd;clear edd;go_wp2;go_ret;go_light;have HS:=HS.out;rw[if_pos hb] at HS;rw[show (dd:Int) % 4294967296=(((x+4294967296-ow) % 4294967296:Nat):Int) from by have:=HE.out;omega];refine⟨_,true, ?_,hs.setCell _ _,hV.put _,HS.1,HS.2.1,HS.2.2⟩;exact dw (by simp only[bne_iff_ne];omega)
    . go_wp2
      go_ret;go_light;have HS:=HS.out;rw[if_neg hb] at HS;rw[show (x:Int)-(ow:Int)=(((x+4294967296-ow) % 4294967296:Nat):Int) from by omega];refine⟨_,false, ?_,hs.setCell _ _,hV.put _,HS.1,HS.2.1,HS.2.2⟩;exact dw (by simp only[bne_eq_false_iff_eq];omega)
theorem ya{c o b nn cap b' dl cap' p:Nat}{W Y:Nat->Nat}{w:World}(hnn:nn<=268435456)(hat:p+dl<nn)
 (hc0:w.cell? (jj c o)=some (.s b nn cap))(hf:∀o,w.frozen? (jj b o)=false)(hcb:c≠b)(hbb:b'≠b)
 (hW:ag w (jp b 0) b 0 nn W)(hY:ag w (jp b' 0) b' 0 dl Y)(hWl:∀k,W k<4294967296)(hYl:∀j,j<dl->Y j<4294967296):
 Cl 221 #[.p c o,.s b' dl cap',.i p] w fun e w'=>∃(W':Nat->Nat) (cy:Nat),e=.returned (.tuple #[])/\af w w' b/\ag w' (jp b 0) b 0 nn W'/\
  lv (fun t=>W' (p+t)) (dl+1)+cy*2^(32*(dl+1))=lv (fun t=>W (p+t)) (dl+1)+lv Y dl/\(∀k,k<p∨p+dl+1<=k->W' k=W k)/\(∀k,W' k<4294967296)/\cy<=1:=by
 have HY:=ae hYl;have HW:=ae hWl;go_enter Tryz.func221,Tryz.ntmps221;go_wp2
 go_loopw [6,12] (fun q t wr=>∃(i cy:Nat) (V:Nat->Nat),i<=dl/\t=.i i/\q=.int .u64 cy/\cy<=1/\af w wr b/\ag wr (jp b 0) b 0 nn V/\Hid (qI W V Y p i cy)) (fun _ t _=>dl-(intOf t).toNat)
 case atStart=>exact⟨0,0,W,Nat.zero_le _,rfl,rfl,om,af.refl _ _,hW,ab4 HW.out Y p⟩
 case round=>
  obtain⟨i,cy,V,hi,rfl,rfl,how,hs,hV,HR⟩:=hrel;have q0:wr.cell? (jj c o)=some (.s b nn cap):=by rw[hs.cell (a:=jj c o) hcb];exact hc0
  by_cases hlt:i<dl
  . have g0:wr.cell? (jj b' i)=some (.int .u32 (Y i)):=by rw[hs.cell (a:=jj b' i) hbb];simpa using (hY i hlt).2
    have g1:wr.cell? (jj b (p+i))=some (.int .u32 (V (p+i))):=by simpa using (hV (p+i) om).2
    have g2:wr.frozen? (jj b (p+i))=false:=by rw[hs.frozen];exact hf _
    have hy:=HY.out i hlt;have hx:=HR.out.2.2.2 (p+i);have HS:=ae (ad1 HR.out hy rfl rfl);obtain⟨y,ey⟩:∃y,y=Y i:=⟨_,rfl⟩;obtain⟨x,ex⟩:∃y,y=V (p+i):=⟨_,rfl⟩;rw[<-ey] at g0 hy HS;rw[<-ex] at g1 hx HS;clear ey ex;go_wp2;go_roundw
    case rel=>
     go_light;have HS:=HS.out;rw[show ((x:Int)+(y:Int)+(cy:Int)) % 4294967296=(((x+y+cy) % 4294967296:Nat):Int) from by omega];exact⟨i+1,(x+y+cy)/4294967296,_,om,by go_num,congrArg (Value.int .u64) om,HS.2.1,hs.setCell _ _,hV.put _,HS⟩
    case measure=>simp[intOf];omega
  . have e:i=dl:=om
    subst e;have g1:wr.cell? (jj b (p+i))=some (.int .u32 (V (p+i))):=by simpa using (hV (p+i) om).2
    have g2:wr.frozen? (jj b (p+i))=false:=by rw[hs.frozen];exact hf _
    have hx:=HR.out.2.2.2 (p+i);have HS:=ae (afa HR.out rfl);obtain⟨x,ex⟩:∃y,y=V (p+i):=⟨_,rfl⟩;rw[<-ex] at g1 hx HS;clear ex;go_wp2
    go_end0
    go_light;have HS:=HS.out;rw[show ((x:Int)+(cy:Int)) % 4294967296=(((x+cy) % 4294967296:Nat):Int) from by omega];exact⟨_,(x+cy)/4294967296,rfl,hs.setCell _ _,hV.put _,HS.1,HS.2.1,HS.2.2.1,HS.2.2.2⟩
theorem pG(x p:Nat)(h:x*2^p<18446744073709551616):IntKind.u64.wrap ((x:Int)*2^p)=((x*2^p:Nat):Int):=by
 have e:(x:Int)*2^p=((x*2^p:Nat):Int):=by rw[Int.natCast_mul,Int.natCast_pow];rfl
 rw[e];exact bT _ h
theorem afN(x p s0:Nat)(h:x*2^p<18446744073709551616)(hp:p<32)(hs:s0<2^p):
 bits .or .u32 (s0:Int) (IntKind.u64.wrap ((x:Int)*2^p) % 4294967296)=((x*2^p % 4294967296+s0:Nat):Int):=by
 have h2:=my p om;rw[pG x p h,show ((x*2^p:Nat):Int) % 4294967296=((x*2^p % 4294967296:Nat):Int) by omega,u32_or_nat _ _ om (Nat.mod_lt _ om),ah6 p _ _ (acn x p om) hs]
theorem aef(x p:Nat)(h:x*2^p<18446744073709551616):IntKind.u64.wrap ((x:Int)*2^p)/4294967296 % 4294967296=((x*2^p/4294967296:Nat):Int):=by
 rw[pG x p h];omega
theorem vC{c o:Nat}{a:Option Addr}{b off n cap whole p:Nat}{X:Nat->Nat}{w:World}(hn:n<=67108864)(hw:whole<=268435456)(hp:p<32)(hX:ag w a b off n X)
 (hXl:∀j,j<n->X j<4294967296)(hc0:w.cell? (jj c o)=some (.slice a n cap))(hf0:w.frozen? (jj c o)=false):
 Cl 218 #[.p c o,.i ((32*whole+p:Nat):Int)] w fun e w'=>e=.returned (.tuple #[])/\∃w2 S,w.S w2/\w2.rowIs w.heap.size 129 (n+whole+1) (fun j=>.int .u32 (S j:Nat))/\
  (∀k,S k<4294967296)/\lv S (n+whole+1)=lv X n*2^(32*whole+p)/\w'=w2.setCell ⟨c,o,none⟩ (.s w.heap.size (ce (nz S) (n+whole+1)) (n+whole+1)):=by
 have hmk:=run_make_row' (P:=Tryz.prog) 98 129 (.int .u32 0) 4 Tryz.underlying98 Tryz.info129 rfl .i64 .i64 (n+whole+1) om om;have hmkc:((n+whole+1:Nat):Int)=n+(whole:Int)+1:=om
 rw[hmkc] at hmk;have hcl:c<w.heap.size:=gz _ _ hc0;have hq1:((32*whole+p:Nat):Int)/32=(whole:Int):=om
 have hq2:((32*whole+p:Nat):Int) % 32=(p:Int):=om
 obtain⟨cnt,hcnt⟩:∃q,q=32*whole+p:=⟨_,rfl⟩;have HC:=ae hcnt;rw[<-hcnt] at hq1 hq2⊢;have hcb:cnt<=8589934623:=om
 clear hcnt;go_enter Tryz.func218,Tryz.ntmps218;go_wp2;rw[hq2]
 go_loopw [26] (fun q wr=>∃(i:Nat) (S:Nat->Nat),i<=n/\q=.i i/\w.S wr/\wr.rowIs w.heap.size 129 (n+whole+1) (fun k=>.int .u32 (S k))/\wr.rowIs (w.heap.size+1) 98 1 (fun _=>.s w.heap.size (n+whole+1) (n+whole+1))/\
  Hid (yB X S whole p i)) (fun q _=>n-(intOf q).toNat)
 case atStart=>
  refine⟨0,fun _=>0,Nat.zero_le _,rfl,(bJ _ _).alloc qz _,((World.rowIs_made w _ _ _).alloc _), ?_,xp X whole p⟩;have:=World.rowIs_alloc (w.alloc (Obj.cells (madeCells #[Value.int IntKind.u32 0] (n+whole+1)) 129)) #[Value.s w.heap.size (n+whole+1) (n+whole+1)] 98 (fun _=>.s w.heap.size (n+whole+1) (n+whole+1)) (fun i hi=>by simp at hi;subst hi;rfl)
  simpa using this
 case round=>
  obtain⟨i,S,hin,rfl,hs,hr,hbox,HR⟩:=hrel;have b0:=hbox.cell (i:=0) om
  by_cases hlt:i<n
  . obtain⟨rfl,hc⟩:=hX i hlt
    have g0:wr.cell? (jj b (off+i))=some (.int .u32 (X i)):=by rw[hs.cell (a:=jj b (off+i)) (hX.lt om)];exact hc
    have hxi:=hXl i hlt;have g1:=hr.cell (i:=i+whole) om;have g2:=hr.frozen (i+whole);have g3:=hr.cell (i:=i+whole+1) om;have g4:=hr.frozen (i+whole+1);have HST:=ae (zf HR.out hp hxi);have hs0:=HR.out.2.1;obtain⟨x,hx⟩:∃x,x=X i:=⟨_,rfl⟩;obtain⟨s0,hs1⟩:∃s0,s0=S (i+whole):=⟨_,rfl⟩
    have hxp:x*2^p<18446744073709551616:=by
     have h1:x*2^p<=4294967295*2^p:=Nat.mul_le_mul_right _ om;have h2:=my p om;omega
    rw[<-hx] at g0 hxi HST;rw[<-hs1] at g1 HST hs0;clear hx hs1 HR;go_wp2;go_roundw
    case rel=>
     go_light;rw[afN x p s0 hxp hp hs0,aef x p hxp];refine⟨i+1,_,om,by go_num,(hs.setCell (Nat.le_refl _) _).setCell (Nat.le_refl _) _,((hr.set (i+whole) _).set (i+whole+1) _).congr (fun k _=> ?_),(hbox.setOther qz _).setOther qz _,HST⟩
     by_cases e1:k=i+whole+1
     . simp[fX,e1]
     . by_cases e2:k=i+whole
       . simp[fX,e2]
       . simp[fX,e1,e2]
    case measure=>simp[intOf];omega
  . have e:i=n:=om
    subst e;have b1:=hbox.frozen 0;have HSv:=HR.out.1;have HSl:=ae HR.out.2.2;rw[<-HC.out] at HSv;have HSv:=ae HSv;go_wp2_with fail;refine (eK om (Nat.le_refl _) b0 b1 (dT hr)).mono ?_;rintro e w1 ⟨rfl,rfl⟩;have q0:wr.frozen? (jj c o)=false:=by rw[hs.frozen (a:=jj c o) hcl];exact hf0
    have q1:wr.cell? (jj c o)=some (.slice a i cap):=by rw[hs.cell (a:=jj c o) hcl];exact hc0
    have q2:c≠w.heap.size+1:=om
    go_wp2
    go_end0
    exact⟨rfl,_,S,hs.setCell (Nat.le_succ _) _,hr.setOther qz _,HSl.out,HSv.out,rfl⟩
def mix(F X:Nat->Nat)(i:Nat):Nat->Nat:=fun j=>if j<i then F j else X j
theorem xJ(F X:Nat->Nat)(i j:Nat)(h:j<i):mix F X i j=F j:=by simp[mix,h]
theorem re(F X:Nat->Nat)(i j:Nat)(h:i<=j):mix F X i j=X j:=by simp[mix];omega
theorem ack(F X:Nat->Nat)(i v:Nat)(h:v=F i)(j:Nat):fX (mix F X i) i v j=mix F X (i+1) j:=by
 by_cases e:j=i
 . subst e;rw[bK,xJ _ _ _ _ om,h]
 . rw[az _ _ _ _ e]
   by_cases e2:j<i
   . rw[xJ _ _ _ _ e2,xJ _ _ _ _ om]
   . rw[re _ _ _ _ om,re _ _ _ _ om]
theorem ace(v p:Nat):(v:Int)/2^p % 4294967296=((v/2^p % 4294967296:Nat):Int):=by
 rw[Int.natCast_emod,Int.natCast_ediv,Int.natCast_pow];rfl
theorem ag.setOther{w:World}{a:Option Addr}{b off n:Nat}{X:Nat->Nat}(h:ag w a b off n X){c o:Nat}(hne:c≠b)(v:Value):ag (w.setCell ⟨c,o,none⟩ v) a b off n X:=
 fun j hj=>⟨(h j hj).1,by rw[World.cell?_setCell_other _ _ _ _ (fun h=>by have:=congrArg Addr.block h;simp at this;omega)];exact (h j hj).2⟩
theorem oD(w:World)(b o:Nat)(u v:Value):(w.setCell ⟨b,o,none⟩ u).setCell ⟨b,o,none⟩ v=w.setCell ⟨b,o,none⟩ v:=by
 unfold World.setCell
 congr 1
 apply Array.ext_getElem?
 intro i;simp only[Array.getElem?_modify]
 split
 . cases w.heap[i]? with
   | none=>rfl
   | some x=>cases x<;>simp
 . rfl
theorem agY(a b:Nat)(ha:a<4294967296)(hb:b<4294967296):bits .or .u64 (a:Int) ((b:Int)*4294967296)=(a:Int)+(b:Int)*4294967296:=by
 have h:=u64_or_nat a (b*4294967296) om om;rw[Nat.or_comm,zF b a ha] at h;rw[show ((b*4294967296:Nat):Int)=b*4294967296 by omega] at h;rw[h];omega
theorem um{c o:Nat}{b n cap whole p:Nat}{X:Nat->Nat}{w:World}(hn:n<=268435456)(hnc:n<=cap)(hw:whole<n)(hp:p<32)(hX:ag w (jp b 0) b 0 n X)
 (hXl:∀j,j<n->X j<4294967296)(hc0:w.cell? (jj c o)=some (.s b n cap))(hf0:w.frozen? (jj c o)=false)(hf:∀o,w.frozen? (jj b o)=false)(hcb:c≠b):
 Cl 222 #[.p c o,.i ((32*whole+p:Nat):Int)] w fun e w'=>e=.returned (.tuple #[])/\∃w2 S k,af w w2 b/\ag w2 (jp b 0) b 0 k S/\
  k<=n/\(∀j,j<k->S j<4294967296)/\lv S k=lv X n/2^(32*whole+p)/\w'=w2.setCell ⟨c,o,none⟩ (.s b (ce (nz S) k) cap):=by
 have hq1:((32*whole+p:Nat):Int)/32=(whole:Int):=om
 have hq2:((32*whole+p:Nat):Int) % 32=(p:Int):=om
 obtain⟨cnt,hcnt⟩:∃q,q=32*whole+p:=⟨_,rfl⟩;have HC:=ae hcnt;rw[<-hcnt] at hq1 hq2⊢;have hcb2:cnt<=8589934623:=om
 clear hcnt;go_enter Tryz.func222,Tryz.ntmps222;go_wp2;rw[hq2];have hmin:¬(n:Int)<whole:=om
 go_region
 go_wp2;obtain⟨K,hK⟩:∃K,K=n-whole:=⟨_,rfl⟩;have HK:Hid (K=n-whole):=hK;have hKn:K+whole=n:=om
 rw[<-hK];clear hK hmin
 go_loopw [26] (fun q wr=>∃(i:Nat),i<=K/\q=.i i/\af w wr b/\ag wr (jp b 0) b 0 n (mix (iZ (fun t=>X (whole+t)) K p) X i)) (fun q _=>K-(intOf q).toNat)
 case atStart=>exact⟨0,Nat.zero_le _,rfl,(af.refl _ _).drew,hX.congr (fun j _=>(re _ _ _ _ om).symm)⟩
 case round=>
  obtain⟨i,hi,rfl,hs,hL⟩:=hrel;have g2:wr.cell? (jj c o)=some (.s b n cap):=by rw[hs.cell (a:=jj c o) hcb];exact hc0
  by_cases hlt:i<K
  . have g0:wr.cell? (jj b (whole+i))=some (.int .u32 (X (whole+i))):=by
     have:=(hL (whole+i) om).2;rw[re _ _ _ _ om,Nat.zero_add] at this;exact this
    have g1:wr.cell? (jj b i)=some (.int .u32 (X i)):=by
     have:=(hL i om).2;rw[re _ _ _ _ om,Nat.zero_add] at this;exact this
    have g3:wr.frozen? (jj b i)=false:=by rw[hs.frozen];exact hf i
    have hxi:=hXl (whole+i) om;have hin:(i:Int)<n:=om
    by_cases hlt2:i+1<K
    . have g4:wr.cell? (jj b (whole+(i+1)))=some (.int .u32 (X (whole+(i+1)))):=by
       have:=(hL (whole+(i+1)) om).2;rw[re _ _ _ _ om,Nat.zero_add] at this;exact this
      have hyi:=hXl (whole+(i+1)) om;have hor:=agY (X (whole+i)) (X (whole+(i+1))) hxi hyi;have HV:Hid (iZ (fun t=>X (whole+t)) K p i=(X (whole+i)+X (whole+(i+1))*4294967296)/2^p % 4294967296):=by simp[Hid,iZ,hlt2]
      obtain⟨x,hx⟩:∃x,x=X (whole+i):=⟨_,rfl⟩;obtain⟨y,hy⟩:∃y,y=X (whole+(i+1)):=⟨_,rfl⟩;rw[<-hx] at g0 hxi hor HV;rw[<-hy] at g4 hyi hor HV;clear hx hy;go_wp2;obtain⟨v,hv⟩:∃v,v=x+y*4294967296:=⟨_,rfl⟩;have hvi:(x:Int)+(y:Int)*4294967296=(v:Int):=om
      have hvl:v<18446744073709551616:=om
      rw[<-hv] at HV;rw[hvi];clear hv hvi;have t1:¬(p:Int)<0:=om
      have t2:=bT v hvl
      go_region
      go_wp2;go_roundw
      case rel=>
       go_light;rw[ace v p];exact⟨i+1,om,by go_num,(hs.setCell _ _).drew,(hL.put _).congr (fun j _=>ack _ _ _ _ HV.out.symm j)⟩
      case measure=>simp[intOf];omega
    . have HV:Hid (iZ (fun t=>X (whole+t)) K p i=X (whole+i)/2^p % 4294967296):=by simp[Hid,iZ,hlt2]
      obtain⟨v,hv⟩:∃x,x=X (whole+i):=⟨_,rfl⟩;rw[<-hv] at g0 hxi HV;have hvl:v<18446744073709551616:=om
      clear hv;go_wp2;have t1:¬(p:Int)<0:=om
      have t2:=bT v hvl
      go_region
      go_wp2;go_roundw
      case rel=>
       go_light;rw[ace v p];exact⟨i+1,om,by go_num,(hs.setCell _ _).drew,(hL.put _).congr (fun j _=>ack _ _ _ _ HV.out.symm j)⟩
      case measure=>simp[intOf];omega
  . have e:i=K:=om
    subst e;have g3:wr.frozen? (jj c o)=false:=by rw[hs.aQ (a:=jj c o) hcb];exact hf0
    have hL2:=(hL.take om).congr (fun j hj=>xJ _ _ _ _ hj);go_wp2_with fail;refine (eK om om (j6 _ _ _ g2) (by simp[g3]) (hL2.setOther hcb _)).mono ?_;rintro e w1 ⟨rfl,rfl⟩;go_wp2
    go_end0
    have HLv:lv (iZ (fun t=>X (whole+t)) i p) i=lv X n/2^cnt:=by
     rw[abd _ i p hp (fun j hj=>hXl (whole+j) om),HK.out,ahC X n whole om hXl,Nat.div_div_eq_div_mul,<-Nat.pow_add,HC.out]
    exact⟨rfl,wr,_,i,hs,hL2,om,fun j _=>aaR _ _ _ _,HLv,oD _ _ _ _ _⟩
theorem dx{c o:Nat}{a:Option Addr}{b off n cap:Nat}{X:Nat->Nat}{w:World}(hc0:w.cell? (jj c o)=some (.slice a n cap))(hX:ag w a b off n X)(hXl:∀j,j<n->X j<4294967296)(tX:0<n->X (n-1)≠0):
 Cl 56 #[.p c o] w fun e w'=>e=.returned (.bool (decide (lv X n=1)))/\w'=w:=by
 by_cases h1:n=1
 . subst h1
   obtain⟨rfl,k⟩:=hX 0 om;rw[Nat.add_zero] at k;have e:lv X 1=X 0:=by simp[lv]
   rw[e]
   by_cases h2:X 0=1
   . rw[h2] at k⊢
     go_enter Tryz.func56,Tryz.ntmps56;go_wp2;go_ret;exact⟨rfl,rfl⟩
   . have hne:((X 0:Int)==1)=false:=by simp;omega
     have e2:decide (X 0=1)=false:=by simp[h2]
     rw[e2];go_enter Tryz.func56,Tryz.ntmps56;go_wp2;go_ret;exact⟨rfl,rfl⟩
 . have e2:decide (lv X n=1)=false:=by
    simp only[decide_eq_false_iff_not];intro h
    by_cases h0:n=0
    . subst h0;simp[lv] at h
    . have:=jU X n om (tX om)
      have h3:2^(32*1)<=2^(32*(n-1)):=Nat.pow_le_pow_right om om;omega
   have hne:((n:Int)==1)=false:=by simp;omega
   rw[e2];go_enter Tryz.func56,Tryz.ntmps56;go_wp2;go_ret;exact⟨rfl,rfl⟩
theorem sw{c o:Nat}{a:Option Addr}{n cap:Nat}{w:World}(hc0:w.cell? (jj c o)=some (.slice a n cap)):
 Cl 205 #[.p c o] w fun e w'=>e=.returned (.bool (decide ((n:Int)<=2)))/\w'=w:=by
 go_enter Tryz.func205,Tryz.ntmps205;go_wp2;go_ret;exact⟨rfl,rfl⟩
theorem jw{c o:Nat}{a:Option Addr}{b off n cap:Nat}{X:Nat->Nat}{w:World}(hn:n<=2)(hc0:w.cell? (jj c o)=some (.slice a n cap))(hX:ag w a b off n X)(hXl:∀j,j<n->X j<4294967296):
 Cl 208 #[.p c o] w fun e w'=>e=.returned (.int .u64 (lv X n))/\w'=w:=by
 go_enter Tryz.func208,Tryz.ntmps208;go_wp2
 go_loop [3,10] (fun x t=>∃i v:Nat,i<=n/\t=.i i/\x=.int .u64 v/\Hid (v=lv X i)) (fun _ t=>n-(intOf t).toNat)
 case atStart=>exact⟨0,0,Nat.zero_le _,rfl,rfl,rfl⟩
 case round=>
  obtain⟨i,v,hi,rfl,rfl,HV⟩:=hrel
  by_cases hlt:i<n
  . obtain⟨rfl,k⟩:=hX i hlt
    have hx:=hXl i hlt;have hi2:i=0∨i=1:=om
    rcases hi2 with rfl | rfl
    . rw[Nat.add_zero] at k
      have v0:v=0:=HV.out;subst v0;have hor:=u64_or_nat 0 (X 0) om om;rw[Nat.zero_or] at hor;go_wp2
      go_round
      case rel=>
       go_light;refine⟨1,X 0,om,rfl, ?_,by simp[Hid,lv]⟩;exact congrArg (Value.int .u64) (by simpa using hor)
      case measure=>simp[intOf];omega
    . have v0:v=X 0:=by have:=HV.out;simpa [lv] using this
      have hv:=hXl 0 om;rw[<-v0] at hv;have hor:=agY v (X 1) hv hx;go_wp2
      go_round
      case rel=>
       go_light;refine⟨2,v+X 1*4294967296,om,rfl, ?_,by rw[v0];simp[Hid,lv]⟩;exact congrArg (Value.int .u64) (by rw[<-v0,hor];omega)
      case measure=>simp[intOf];omega
  . have e:i=n:=om
    subst e;go_wp2;go_ret;exact⟨di (congrArg (fun x:Nat=>(x:Int)) HV.out),rfl⟩
theorem kT{x y:Nat}{w:World}(hx:x<18446744073709551616)(hy:y<18446744073709551616):
 Cl 207 #[.int .u64 x,.int .u64 y] w fun e w'=>e=.returned (.int .u64 (Nat.gcd x y))/\Same w w':=by
 go_enter Tryz.func207,Tryz.ntmps207;go_wp2
 go_loopw [0,1] (fun p q wr=>∃s t:Nat,p=.int .u64 s/\q=.int .u64 t/\s<18446744073709551616/\t<18446744073709551616/\Hid (Nat.gcd s t=Nat.gcd x y)/\Same w wr) (fun _ q _=>(intOf q).toNat)
 case atStart=>exact⟨x,y,rfl,rfl,hx,hy,rfl,Same.refl _⟩
 case round=>
  obtain⟨s,t,rfl,rfl,hs,ht,HG,sm⟩:=hrel
  by_cases h0:t=0
  . subst h0
    go_wp2;go_ret;exact⟨di (congrArg (fun x:Nat=>(x:Int)) (by have:=HG.out;rwa[Nat.gcd_zero_right] at this)),sm⟩
  . have hne:((t:Int)==0)=false:=by simp;omega
    have hne2:¬(t:Int)=0:=om
    obtain⟨r,hr⟩:∃r,r=s % t:=⟨_,rfl⟩;have hrl:r<t:=by rw[hr];exact Nat.mod_lt _ om
    have w1:IntKind.u64.wrap ((s:Int) % (t:Int))=(r:Int):=by rw[<-Int.natCast_emod,<-hr];exact bT r om
    have HR:=ae hr;go_wp2
    go_quiet (fail)
    go_wp2;go_roundw
    case rel=>
     refine⟨t,r,rfl, ?_,ht,om, ?_,sm.drewN _⟩
     . first | rfl | exact congrArg (Value.int .u64) (by rw[HR.out,Int.natCast_emod])
     . have h:=HG.out
       rw[Nat.gcd_comm,Nat.gcd_rec,<-HR.out,Nat.gcd_comm] at h;exact h
    case measure=>simp[intOf];have:=Int.emod_lt_of_pos (s:Int) (show (0:Int)<t by omega);omega
theorem jB{v:Nat}{w:World}(hv:v<18446744073709551616):
 Cl 206 #[.int .u64 v] w fun e w'=>∃S,e=.returned (.s w.heap.size (ce (nz S) 2) 2)/\w'.rowIs w.heap.size 129 2 (fun j=>.int .u32 (S j:Nat))/\(∀k,S k<4294967296)/\lv S 2=v/\w.S w':=by
 go_enter Tryz.func206,Tryz.ntmps206;go_wp2_with fail;obtain⟨S,hS⟩:∃S:Nat->Nat,S=fun j=>if j=0 then v % 4294967296 else if j=1 then v/4294967296 else 0:=⟨_,rfl⟩
 have s0:S 0=v % 4294967296:=by rw[hS];rfl
 have s1:S 1=v/4294967296:=by rw[hS];rfl
 have hSl:∀k,S k<4294967296:=fun k=>by rw[hS];show (if k=0 then _ else if k=1 then _ else 0)<_;split;omega;split<;>omega
 have r0:=World.rowIs_alloc w #[.int .u32 ((v:Int) % 4294967296),.int .u32 ((v:Int)/4294967296)] 129 (fun j=>.int .u32 (S j:Nat)) (fun i hi=>by
  have h2:i=0∨i=1:=by simp at hi;omega
  rcases h2 with rfl | rfl
  . simp[s0]
  . simp[s1])
 have r1:=r0;have r2:=r1.alloc (.cells #[.s w.heap.size 2 2] 98);have S2:w.S ((w.alloc (.cells #[.int .u32 ((v:Int) % 4294967296),.int .u32 ((v:Int)/4294967296)] 129)).alloc (.cells #[.s w.heap.size 2 2] 98)):=(bJ _ _).alloc qz _
 have bx:((w.alloc (.cells #[.int .u32 ((v:Int) % 4294967296),.int .u32 ((v:Int)/4294967296)] 129)).alloc (.cells #[.s w.heap.size 2 2] 98)).rowIs (w.heap.size+1) 98 1 (fun _=>.s w.heap.size 2 2):=by
  have:=World.rowIs_alloc (w.alloc (.cells #[.int .u32 ((v:Int) % 4294967296),.int .u32 ((v:Int)/4294967296)] 129)) #[.s w.heap.size 2 2] 98 (fun _=>.s w.heap.size 2 2) (fun i hi=>by simp at hi;subst hi;rfl)
  simpa using this
 generalize (w.alloc _).alloc _=w1 at*;clear r0 r1 hS;have q0:=bx.cell (i:=0) om;have q1:=bx.frozen 0;refine (eK om (Nat.le_refl _) q0 q1 (dT r2)).mono ?_;rintro e w2 ⟨rfl,hw2⟩;have c2:w2.cell? (jj (w.heap.size+1) 0)=some (.s w.heap.size (ce (nz S) 2) 2):=by rw[hw2];exact j6 _ _ _ q0
 have r3:w2.rowIs w.heap.size 129 2 (fun j=>.int .u32 (S j:Nat)):=by rw[hw2];exact r2.setOther qz _
 have S3:w.S w2:=by rw[hw2];exact S2.setCell (Nat.le_succ _) _
 have HV:Hid (lv S 2=v):=by show lv S 2=v;simp only[lv,s0,s1];simp;omega
 clear hw2 q0 q1 r2 bx S2 s0 s1;go_wp2;go_ret;exact⟨S,rfl,r3,hSl,HV.out,S3⟩
def rI(_:World):Prop:=True
theorem ad0{c o b nn cap b' dl cap' p:Nat}{W Y:Nat->Nat}{w:World}(hnn:nn<=268435456)(hdl:2<=dl)(hat:p+dl<nn)
 (hc0:w.cell? (jj c o)=some (.s b nn cap))(hW:ag w (jp b 0) b 0 nn W)(hY:ag w (jp b' 0) b' 0 dl Y)
 (hWl:∀k,W k<4294967296)(hYl:∀j,j<dl->Y j<4294967296)(hv:2147483648<=Y (dl-1))(hu:W (p+dl)<=Y (dl-1)):
 Cl 219 #[.p c o,.s b' dl cap',.i p] w fun e w'=>
  e=.returned (.int .u32 ((jm (W (p+dl)) (W (p+dl-1)) (W (p+dl-2)) (Y (dl-1)) (Y (dl-2)):Nat):Int))/\Same w w':=by
 have k0:w.cell? (jj b (p+dl))=some (.int .u32 (W (p+dl))):=by simpa using (hW (p+dl) om).2
 have k1:w.cell? (jj b (p+dl-1))=some (.int .u32 (W (p+dl-1))):=by simpa using (hW (p+dl-1) om).2
 have k2:w.cell? (jj b (p+dl-2))=some (.int .u32 (W (p+dl-2))):=by simpa using (hW (p+dl-2) om).2
 have k3:w.cell? (jj b' (dl-1))=some (.int .u32 (Y (dl-1))):=by simpa using (hY (dl-1) om).2
 have k4:w.cell? (jj b' (dl-2))=some (.int .u32 (Y (dl-2))):=by simpa using (hY (dl-2) om).2
 have l0:=hWl (p+dl);have l1:=hWl (p+dl-1);have l2:=hWl (p+dl-2);have l3:=hYl (dl-1) om;have l4:=hYl (dl-2) om;obtain⟨u0,e0⟩:∃x,x=W (p+dl):=⟨_,rfl⟩;obtain⟨u1,e1⟩:∃x,x=W (p+dl-1):=⟨_,rfl⟩;obtain⟨u2,e2⟩:∃x,x=W (p+dl-2):=⟨_,rfl⟩;obtain⟨v1,e3⟩:∃x,x=Y (dl-1):=⟨_,rfl⟩;obtain⟨v2,e4⟩:∃x,x=Y (dl-2):=⟨_,rfl⟩;rw[<-e0] at k0 l0 hu⊢;rw[<-e1] at k1 l1⊢;rw[<-e2] at k2 l2⊢;rw[<-e3] at k3 l3 hu hv⊢;rw[<-e4] at k4 l4⊢;clear e0 e1 e2 e3 e4;have t1:=bT v1 om;have t2:=bT v2 om;have t3:=bT u0 om;have t4:=bT u1 om;have t5:=agd u0 u1 l0 l1;have t6:IntKind.u64.wrap ((u0:Int)*4294967296)=(u0:Int)*4294967296:=by rw[IntKind.wrap_u64];omega
 have d1:(1:Int)<=dl:=om
 go_enter Tryz.func219,Tryz.ntmps219;go_wp2
 go_quiet (fail)
 go_wp2
 go_quiet (fail)
 go_wp2;obtain⟨l,hl⟩:∃l,l=u0*4294967296+u1:=⟨_,rfl⟩;have hli:(u0:Int)*4294967296+(u1:Int)=l:=om
 have hll:l<18446744073709551616:=om
 rw[hli];have HG0:=ae (aar (u0:=u0) (u1:=u1) (v2:=v2) (show 0<v1 by omega) l2);rw[<-hl] at HG0;obtain⟨g0,hg0⟩:∃g,g=l/v1:=⟨_,rfl⟩;obtain⟨r0,hr0⟩:∃g,g=l % v1:=⟨_,rfl⟩;rw[<-hg0,<-hr0] at HG0;have hr0l:r0<=4294967295:=by have:=Nat.mod_lt l (show 0<v1 by omega);omega
 have hg0l:g0<18446744073709551616:=by rw[hg0];exact Nat.lt_of_le_of_lt (Nat.div_le_self _ _) hll
 have s1:IntKind.u64.wrap ((l:Int)/(v1:Int))=(g0:Int):=by rw[<-Int.natCast_ediv,<-hg0];exact bT g0 hg0l
 have s2:IntKind.u64.wrap ((l:Int) % (v1:Int))=(r0:Int):=by rw[<-Int.natCast_emod,<-hr0];exact bT r0 om
 have s3:¬(v1:Int)=0:=om
 have HR0:=ae hr0;have HL:=ae hg0;clear hg0 hr0 hl
 go_quiet (fail)
 go_wp2
 go_loop [11,12] (fun x y=>∃g r:Nat,x=.int .u64 g/\y=.int .u64 r/\r<=4294967295/\Hid (jN u0 u1 u2 v1 v2 g r)) (fun x _=>(intOf x).toNat)
 case atStart=>exact⟨g0,r0,by first | rfl | exact congrArg (Value.int .u64) (by rw[HL.out,Int.natCast_ediv]),congrArg (Value.int .u64) (by rw[HR0.out,Int.natCast_emod]),hr0l,HG0⟩
 case round=>
  obtain⟨g,r,rfl,rfl,hr,HG⟩:=hrel;have hgl:=aas HG.out hv hu l1
  by_cases hA:4294967295<g
  . obtain⟨hg1,hd⟩:=uP HG.out (Or.inl hA)
    have HD:=ae hd;have HB:=ae (fun h=>sD hd (show 0<v1 by omega) l4 hu l1 h)
    by_cases hB:4294967295<r+v1
    . have HB:=ae (HB.out hB)
      go_wp2;go_ret;exact⟨di (by have:=HB.out;omega),(Same.refl _).drewN _⟩
    . clear HB
      go_wp2;go_light;exact⟨⟨g-1,om,r+v1,om,om,HD⟩,by simp[intOf];omega⟩
  . have hor:=agd r u2 om l2
    have hp1:g*v2<=4294967295*4294967295:=Nat.mul_le_mul om om;have hm0:(0:Int)<=g*(v2:Int):=by rw[<-Int.natCast_mul];omega
    have hm1:(g:Int)*(v2:Int)<=18446744065119617025:=by rw[<-Int.natCast_mul];omega
    by_cases hC:r*4294967296+u2<g*v2
    . obtain⟨hg1,hd⟩:=uP HG.out (Or.inr hC)
      have HD:=ae hd;have HB:=ae (fun h=>sD hd (show 0<v1 by omega) l4 hu l1 h);have hCi:(r:Int)*4294967296+(u2:Int)<g*(v2:Int):=by rw[<-Int.natCast_mul];omega
      by_cases hB:4294967295<r+v1
      . have HB:=ae (HB.out hB)
        go_wp2;go_ret;exact⟨di (by have:=HB.out;omega),(Same.refl _).drewN _⟩
      . clear HB
        go_wp2;go_light;exact⟨⟨g-1,om,r+v1,om,om,HD⟩,by simp[intOf];omega⟩
    . have HS:=ae (uO HG.out (show 0<v1 by omega) om om)
      have hCi:(g:Int)*(v2:Int)<=r*4294967296+(u2:Int):=by rw[<-Int.natCast_mul];omega
      go_wp2;go_ret;exact⟨di (by have:=HS.out;omega),(Same.refl _).drewN _⟩
end Go.Proofs.YtclgkofcooibfaaGreatDoor
