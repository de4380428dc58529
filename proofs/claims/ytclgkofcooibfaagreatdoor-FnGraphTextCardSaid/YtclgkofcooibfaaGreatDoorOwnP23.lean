import Derived.Test.YtclgkofcooibfaaGreatDoorOwnP14
import Derived.Test.YtclgkofcooibfaaGreatDoorOwnP15
import Derived.WalkLawsBesides
import Derived.Deep.RegionHeldLaw
set_option maxHeartbeats 6400000
set_option maxRecDepth 100000
namespace Go.Proofs.YtclgkofcooibfaaGreatDoor
open Go.RowKit
theorem mt{c bl wb t:Nat}{L ws:List ByteArray}{w:World}(h:iy w c bl wb L t ws):
 Cl 130 #[.p c 0] w fun e w'=>e=cg t/\w'=w:=by
 have c1:=h.c1;go_enter Tryz.func130,Tryz.ntmps130;go_wp2;exact⟨rfl,rfl,rfl⟩
theorem sO.of{w:World}{base g cap:Nat}{ws:List ByteArray}(h:y9 w base g cap ws):sO w g (.s g ws.length cap) ws:=by
 obtain⟨h1,h2,h3,h4⟩:=h.cells;exact⟨_,0,cap,rfl,h4,fun j x hx=>⟨rfl,by rw[Nat.zero_add];exact h1 j x hx⟩⟩
theorem nE(l:ByteArray):(cS l).length<=l.size+1:=Nat.le_trans (List.length_filter_le _ _) (jT 32 l)
def Nxt(w w':World)(c bl t:Nat)(L:List ByteArray)(e:Ending):Prop:=
 (cK t (L.drop t)=[]/\e=.returned (.bool false)/\∃wb ws',iy w' c bl wb L L.length ws')∨
 ∃n x rest wb,cK t (L.drop t)=(n,x)::rest/\e=.returned (.bool true)/\iy w' c bl wb L n x/\w.heap.size<=wb/\cK n (L.drop n)=rest/\0<x.length
theorem uB{c bl wb t:Nat}{L ws:List ByteArray}{w:World}(h:iy w c bl wb L t ws):
 Cl 128 #[.p c 0] w fun e w'=>cF c w w'/\Nxt w w' c bl t L e:=by
 have hll:=h.ll;have HSZ:=ae h.sz;go_enter Tryz.func128,Tryz.ntmps128;go_wp2_with fail
 go_loopw [] (fun wr=>∃(k wb':Nat) (ws':List ByteArray),k<=L.length/\iy wr c bl wb' L k ws'/\cF c w wr/\Hid (cK t (L.drop t)=cK k (L.drop k))) (fun wr=>L.length-(intOf ((wr.cell? (jj c 1)).getD undef)).toNat)
 case atStart=>exact⟨t,wb,ws,h.tl,h,cF.refl c w,ae rfl⟩
 case round=>
  obtain⟨k,wb',ws',hk,R,B,HE⟩:=hrel;have c0:=R.c0;have c1:=R.c1
  by_cases hlt:k<L.length
  . have hlt':(k:Int)<(L.length:Int):=om
    obtain⟨l,hl⟩:∃l,L[k]?=some l:=⟨_,List.getElem?_eq_getElem hlt⟩;have hlz:=HSZ.out l (List.mem_of_getElem? hl);have d0:=R.ln k l hl;go_wp2_with fail
    go_quiet (fail)
    go_wp2_with fail;have sd:wr.S (wr.drewN nq):=((Same.refl wr).drewN nq).since _;have R1:=R.aA sd;have B1:=B.trans (cF.of sd);generalize wr.drewN nq=wq at*;have c0:=R1.c0;have c1:=R1.c1;have d0:=R1.ln k l hl;have lc:=R1.lt;have hzw:=fun x (hx:x∈cS l)=>Nat.le_trans (yM hx).1 hlz
    have hlw:(cS l).length<=100001:=Nat.le_trans (nE l) om;have dr:=sT wq;have J1:=@acJ l wq.drew om;obtain⟨xs,hxs⟩:∃xs,cS l=xs:=⟨_,rfl⟩;rw[hxs] at J1 hlw hzw;have HZW:=ae hzw;have HX:=ae hxs;have HL:=ae hl
    go_region_held_law (fun w'=>w'.cell? (jj c 0)=some (.s bl L.length L.length)/\w'.cell? (jj c 1)=some (.i k)/\w'.cell? (jj bl k)=some (.string l)) (go_keep)
     (first
       | (go_at_call 165
          with_reducible refine J1.mono ?_
          rintro e w2 ⟨g,cap,rfl,O,s2⟩;have v2:=dr.tr s2;have R2:=R1.aA v2;have p0:=R2.c0;have p1:=R2.c1;have p2:=R2.ln k l HL.out;obtain⟨u,hu,-⟩:=R2.c2;have f2:=R2.f 2;have lg:=O.lt g rfl;have lg1:wq.heap.size<=g:=lg.1;have R3:=R2.bF (sO.of O) om lg.2 HZW.out hlw;have k0:=R3.c0;have k1:=R3.c1;have k2:=R3.ln k l HL.out;have k3:(w2.setCell (jj c 2) (.s g xs.length cap)).cell? (jj c 2)=some (.s g xs.length cap):=j6 _ _ _ hu))
    all_goals clear c0 c1 d0 p0 p1 p2 hu f2 k0 k1 k2 J1
    have B3:cF c w (w2.setCell (jj c 2) (.s g xs.length cap)):=(B1.trans (cF.of v2)).set 2 _;generalize w2.setCell (jj c 2) (.s g xs.length cap)=w3 at*;have c1:=R3.c1;have f1:=R3.f 1;have R4:=R3.setTaken (t':=k+1) om;have B4:cF c w (w3.setCell (jj c 1) (.i ((k+1:Nat):Int))):=B3.set 1 _;have en:((k+1:Nat):Int)=k+1:=om
    rw[en] at R4 B4
    have c2:(w3.setCell (jj c 1) (.i ((k:Int)+1))).cell? (jj c 2)=some (.s g xs.length cap):=by
     rw[fJ];exact k3
    have c1':(w3.setCell (jj c 1) (.i ((k:Int)+1))).cell? (jj c 1)=some (.i ((k:Int)+1)):=j6 _ _ _ c1
    rcases Nat.eq_zero_or_pos xs.length with h0 | h0
    . have hx0:¬((0:Int)<(xs.length:Int)):=om
      have HB:=ae (abh HL.out (by rw[HX.out];exact List.length_eq_zero_iff.1 h0));go_wp2;go_roundw
      case rel=>exact⟨k+1,g,xs,om,R4,B4,ae (HE.out.trans HB.out)⟩
      case measure=>rw[c1',R.c1];simp[intOf];omega
    . have hx0:(0:Int)<(xs.length:Int):=om
      have HB:=ae (adk HL.out (by rw[HX.out];intro e;rw[e] at h0;simp at h0));go_wp2;go_ret;exact⟨B4,Or.inr ⟨k+1,xs,_,g,by rw[HE.out,HB.out,HX.out],rfl,R4,Nat.le_trans B1.size lg1,rfl,h0⟩⟩
  . have e:k=L.length:=om
    subst e;have hz1:¬((L.length:Int)<(L.length:Int)):=om
    go_wp2_with fail
    go_quiet (fail)
    go_wp2;go_ret;have sd:wr.S (wr.drewN nq):=((Same.refl wr).drewN nq).since _;exact⟨B.trans (cF.of sd),Or.inl ⟨by rw[HE.out];exact aeN (Nat.le_refl _),rfl,wb',ws',R.aA sd⟩⟩
end Go.Proofs.YtclgkofcooibfaaGreatDoor
